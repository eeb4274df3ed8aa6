/- Books: a session counted or closed. -/
import Derived.Test.YtjecieidmgkbaaaBE
namespace Go.Proofs.Ytjecieidmgkbaaa
open Go.RowKit
set_option linter.unusedVariables false
set_option linter.unusedSimpArgs false
namespace Bk
theorem first_range {α : Type} (p : α → Bool) : ∀ (l : List α) (n : Nat), first p n l = -1 ∨ (n : Int) ≤ first p n l ∧ first p n l < n + l.length
  | [], n => .inl rfl
  | a :: l, n => by
    have ih := first_range p l (n + 1)
    simp only [first, List.length_cons]
    split
    · right; omega
    · rcases ih with h | h
      · exact .inl h
      · right; omega
@[go_sem] theorem sesss_take (l : List Sess) (n : Nat) : List.take n (sesss l) = sesss (l.take n) := by simp [sesss]
@[go_sem] theorem sesss_drop (l : List Sess) (n : Nat) : List.drop n (sesss l) = sesss (l.drop n) := by simp [sesss]
theorem sess_cut (l : List Sess) (n : Nat) (h : n < l.length) : List.take 6 (List.drop (n * 6) ((flat (sesss l)).map D.data)) = [.data (.int .i64 l[n].id), .data (.int .i64 l[n].link), .data (.int .u32 l[n].addr), .data (.str l[n].user), .data (.int .u64 l[n].inn), .data (.int .u64 l[n].out)] := by
  rw [← List.map_drop, ← flat_drop (sesss_cells l) n (by rw [sesss_length]; omega), sesss_drop, List.drop_eq_getElem_cons h]
  rfl
theorem sess_set (l : List Sess) (n : Nat) (h : n < l.length) (x : Sess) : List.take (n * 6) ((flat (sesss l)).map D.data) ++ .data (.int .i64 x.id) :: .data (.int .i64 x.link) :: .data (.int .u32 x.addr) :: .data (.str x.user) :: .data (.int .u64 x.inn) :: .data (.int .u64 x.out) :: List.drop (n * 6 + 6) ((flat (sesss l)).map D.data) = (flat (sesss (l.set n x))).map D.data := by
  have e : n * 6 + 6 = (n + 1) * 6 := by omega
  rw [e, ← List.map_take, ← List.map_drop, ← flat_take (sesss_cells l) n (by rw [sesss_length]; omega), ← flat_drop (sesss_cells l) (n + 1) (by rw [sesss_length]; omega), sesss_take, sesss_drop, List.set_eq_take_append_cons_drop, if_pos h, ← sesss_append, List.map_append]
  rfl
def countedAt (b : Book) (o : Op) (k : Int) : Book × Int :=
  if k < 0 then (b, 5)
  else if (b.opn.getD k.toNat default).inn > o.inn ∨ (b.opn.getD k.toNat default).out > o.out then (b, 7)
  else if o.kind = 3 then ({ b with items := b.items ++ [⟨3, o.id, o.inn, o.out, o.cause⟩], opn := b.opn.take k.toNat ++ b.opn.drop (k.toNat + 1) }, 0)
  else if (b.items.length : Int) + b.opn.length + 1 > 60 then (b, 4)
  else ({ b with items := b.items ++ [⟨2, o.id, o.inn, o.out, 0⟩], opn := b.opn.set k.toNat { b.opn.getD k.toNat default with inn := o.inn, out := o.out } }, 0)
def countedOp (b : Book) (o : Op) : Book × Int := countedAt b o (ofId b o.id)
set_option maxHeartbeats 4000000 in
set_option maxRecDepth 100000 in
theorem counted_pc (Γ : Nat → Option (List Data)) (b : Book) (o : Op) (hb : Fits b) (hi : b.items.length ≤ 1000000) (ho : b.opn.length ≤ 1000000) : PC Try.prog Γ 30 [book b, op o] (out (countedOp b o)) := by
  refine pc_by mixed Try.func30 rfl (fun args w => Try.call30 args w) ?_
  have hk := of_pc Γ b hb o.id
  have hrg := first_range (fun s : Sess => decide (s.id = o.id)) b.opn 0
  obtain ⟨bo, bi, bl, -, -⟩ := hb
  have hr0 : countedOp b o = countedAt b o (ofId b o.id) := rfl
  rw [hr0]; clear hr0
  change ofId b o.id = -1 ∨ _ ≤ ofId b o.id ∧ ofId b o.id < _ at hrg
  generalize ofId b o.id = k at *
  simp -implicitDefEqProofs (disch := omega) [go_sem, book, op]
  refine .inl (call_data hk (by simp [go_sem, book]) ?_)
  by_cases g1 : k < 0
  · have hr : countedAt b o k = (b, 5) := by unfold countedAt; rw [if_pos g1]
    simp -implicitDefEqProofs (disch := omega) [go_sem, hr, out, book, Try.results30]
  obtain ⟨n, rfl⟩ : ∃ n : Nat, k = n := ⟨k.toNat, by omega⟩
  have hn : n < b.opn.length := by omega
  have hgd : b.opn.getD ((n : Int)).toNat default = b.opn[n] := by rw [Int.toNat_natCast, List.getD_eq_getElem?_getD, List.getElem?_eq_getElem hn]; rfl
  by_cases g2 : b.opn[n].inn > o.inn
  · have hr : countedAt b o n = (b, 7) := by unfold countedAt; rw [if_neg g1, hgd, if_pos (.inl g2)]
    simp -implicitDefEqProofs (disch := omega) [go_sem]
    refine side (by kernel_rfl) ?_
    simp -implicitDefEqProofs (disch := omega) [go_sem, hr, out, book, Try.results30]
  by_cases g3 : b.opn[n].out > o.out
  · have hr : countedAt b o n = (b, 7) := by unfold countedAt; rw [if_neg g1, hgd, if_pos (.inr g3)]
    simp -implicitDefEqProofs (disch := omega) [go_sem]
    refine side (by kernel_rfl) ?_
    simp -implicitDefEqProofs (disch := omega) [go_sem, hr, out, book, Try.results30]
  have g23 : ¬ (b.opn[n].inn > o.inn ∨ b.opn[n].out > o.out) := by omega
  simp -implicitDefEqProofs (disch := omega) [go_sem]
  refine side (by kernel_rfl) ?_
  by_cases g4 : o.kind = 3
  · have hr : countedAt b o n = ({ b with items := b.items ++ [⟨3, o.id, o.inn, o.out, o.cause⟩], opn := b.opn.take n ++ b.opn.drop (n + 1) }, 0) := by unfold countedAt; rw [if_neg g1, hgd, if_neg g23, if_pos g4, Int.toNat_natCast]
    have hw := with_pc Γ b hi ⟨3, o.id, o.inn, o.out, o.cause⟩
    simp -implicitDefEqProofs (disch := omega) [go_sem, g4]
    refine .inl (call_data hw (by simp [go_sem, book, item]) ?_)
    simp -implicitDefEqProofs (disch := omega) [go_sem, book, withLine]
    refine side (by kernel_rfl) ?_
    simp -implicitDefEqProofs (disch := omega) [go_sem, hr, out, book, Try.results30]
    refine ⟨_, ⟨_, rfl, frz_aggL (frzL_c ((frz_data _ _ _ _).2 rfl) (frzL_c (fz_sesss (rw := true) (l := b.opn.take n ++ b.opn.drop (n + 1)) (by simp [go_sem, ← sesss_append]) (.inl rfl) (by simp; omega)) (frzL_c ((frz_data _ _ _ _).2 rfl) (frzL_c ((frz_data _ _ _ _).2 rfl) frzL_n))))⟩, ?_⟩
    rfl
  by_cases g5 : (b.items.length : Int) + b.opn.length + 1 > 60
  · have hr : countedAt b o n = (b, 4) := by unfold countedAt; rw [if_neg g1, hgd, if_neg g23, if_neg g4, if_pos g5]
    simp -implicitDefEqProofs (disch := omega) [go_sem, g4, hr, out, book, Try.results30]
  have hr : countedAt b o n = ({ b with items := b.items ++ [⟨2, o.id, o.inn, o.out, 0⟩], opn := b.opn.set n { b.opn[n] with inn := o.inn, out := o.out } }, 0) := by unfold countedAt; rw [if_neg g1, hgd, if_neg g23, if_neg g4, if_neg g5, Int.toNat_natCast]
  have hw := with_pc Γ b hi ⟨2, o.id, o.inn, o.out, 0⟩
  simp -implicitDefEqProofs (disch := omega) [go_sem, g4]
  refine .inl (call_data hw (by simp [go_sem, book, item]) ?_)
  simp -implicitDefEqProofs (disch := omega) [go_sem, book, withLine, sess_cut b.opn n hn]
  simp only [hr, out, book]
  refine ⟨_, ⟨_, rfl, frz_aggL (frzL_c ((frz_data _ _ _ _).2 rfl) (frzL_c (fz_sesss (rw := true) (l := b.opn.set n { b.opn[n] with inn := o.inn, out := o.out }) (by have := sess_set b.opn n hn { b.opn[n] with inn := o.inn, out := o.out }; simp [go_sem, ← this]) (.inl rfl) (by simp)) (frzL_c ((frz_data _ _ _ _).2 rfl) (frzL_c ((frz_data _ _ _ _).2 rfl) frzL_n))))⟩, ?_⟩
  rfl
end Bk
end Go.Proofs.Ytjecieidmgkbaaa
