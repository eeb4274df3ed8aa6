/- Books: a session opened. -/
import Derived.Test.YtjecieidmgkbaaaBC
namespace Go.Proofs.Ytjecieidmgkbaaa
open Go.RowKit
set_option linter.unusedVariables false
set_option linter.unusedSimpArgs false
namespace Bk
theorem flat_sess1 (x : Sess) : flat (sesss [x]) = [.int .i64 x.id, .int .i64 x.link, .int .u32 x.addr, .str x.user, .int .u64 x.inn, .int .u64 x.out] := rfl
def Busy (b : Book) (o : Op) : Prop := ∃ (i : Nat) (h : i < b.opn.length), b.opn[i].link = o.link ∨ b.opn[i].addr = o.addr
open Classical in
noncomputable def openedOp (b : Book) (o : Op) : Book × Int :=
  if ¬ poolOk o.addr then (b, 1)
  else if Busy b o then (b, 6)
  else if (b.items.length : Int) + b.opn.length + 2 > 60 ∨ b.next = 1000000000 then (b, 4)
  else ({ next := b.next + 1, opn := b.opn ++ [⟨b.next, o.link, o.addr, o.user, 0, 0⟩], items := b.items ++ [⟨1, b.next, 0, 0, 0⟩], locks := b.locks }, 0)
def out (r : Book × Int) : Data := .tup [book r.1, .int .i64 r.2]
set_option maxHeartbeats 4000000 in
set_option maxRecDepth 100000 in
theorem opened_pc (Γ : Nat → Option (List Data)) (b : Book) (o : Op) (hb : Fits b) (h0 : 0 ≤ b.next ∧ b.next ≤ 1000000000) : PC Try.prog Γ 29 [book b, op o] (out (openedOp b o)) := by
  refine pc_by mixed Try.func29 rfl (fun args w => Try.call29 args w) ?_
  obtain ⟨bo, bi, bl, -, -⟩ := hb
  have hp := pool_pc Γ o.addr
  simp -implicitDefEqProofs (disch := omega) [go_sem, book, op]
  refine .inl (call_data hp (by simp [go_sem]) ?_)
  by_cases g1 : poolOk o.addr
  rotate_left
  · have hr : openedOp b o = (b, 1) := by unfold openedOp; rw [if_pos g1]
    simp -implicitDefEqProofs (disch := omega) [go_sem, g1, hr, out, book, Try.results29]
  simp -implicitDefEqProofs (disch := omega) [go_sem, g1]
  refine loop_ren (σ := { i : Nat // i ≤ b.opn.length ∧ ∀ (j : Nat) (h : j < b.opn.length), j < i → b.opn[j].link ≠ o.link ∧ b.opn[j].addr ≠ o.addr }) (fun i => ⟨envL [(2, .ptr 0 0), (3, .ptr 1 0), (4, .ptr 2 0), (5, .data (.int .i64 0)), (7, .data (.int .i64 i.1))], hpL [(0, .blk true [.data (.int .i64 b.next), .data (.sl 6 (sesss b.opn)), .data (.sl 5 (items b.items)), .data (.sl 3 (locks b.locks))]), (1, .blk true [.data (.int .i64 o.kind), .data (.int .i64 o.id), .data (.int .i64 o.link), .data (.int .u32 o.addr), .data (.str o.user), .data (.int .u64 o.inn), .data (.int .u64 o.out), .data (.int .i64 o.cause), .data (.int .i64 o.at_)]), (2, .blk true [.data (.int .i64 0), .emp 0, .emp 0, .emp 0])], 3, 0, 84⟩) (fun i => b.opn.length - i.1) ⟨0, by omega, by omega⟩ [] (rhoL [(0, some 0), (1, some 1), (2, some 2)]) ?_ ?_
  · apply ren_lists <;> simp -implicitDefEqProofs [go_sem]
  rintro ⟨i, hi, hall⟩
  by_cases h : i < b.opn.length
  · by_cases he : b.opn[i].link = o.link
    · have hr : openedOp b o = (b, 6) := by unfold openedOp; rw [if_neg (by simpa using g1), if_pos ⟨i, h, .inl he⟩]
      simp -implicitDefEqProofs (disch := omega) [go_sem, he]
      refine side (by kernel_rfl) ?_
      simp -implicitDefEqProofs (disch := omega) [go_sem, hr, out, book, Try.results29]
    · by_cases ha : b.opn[i].addr = o.addr
      · have hr : openedOp b o = (b, 6) := by unfold openedOp; rw [if_neg (by simpa using g1), if_pos ⟨i, h, .inr ha⟩]
        simp -implicitDefEqProofs (disch := omega) [go_sem, he, ha]
        refine side (by kernel_rfl) ?_
        simp -implicitDefEqProofs (disch := omega) [go_sem, hr, out, book, Try.results29]
      · simp -implicitDefEqProofs (disch := omega) [go_sem, he, ha]
        refine side (by kernel_rfl) ?_
        simp -implicitDefEqProofs (disch := omega) [go_sem]
        refine next_ren ⟨i + 1, by omega, fun j hj hl => if e : j = i then by subst e; exact ⟨he, ha⟩ else hall j hj (by omega)⟩ (by simp only; omega) [] (rhoL [(0, some 0), (1, some 1), (2, some 2)]) ?_
        apply ren_lists <;> simp -implicitDefEqProofs [go_sem]
  have hfree : ¬ Busy b o := by
    rintro ⟨j, hj, hk⟩
    have := hall j hj (by omega)
    rcases hk with hk | hk
    · exact this.1 hk
    · exact this.2 hk
  by_cases g2 : (b.items.length : Int) + b.opn.length + 2 > 60
  · have hr : openedOp b o = (b, 4) := by unfold openedOp; rw [if_neg (by simpa using g1), if_neg hfree, if_pos (.inl g2)]
    simp -implicitDefEqProofs (disch := omega) [go_sem, hr, out, book, Try.results29]
  by_cases g3 : b.next = 1000000000
  · have hr : openedOp b o = (b, 4) := by unfold openedOp; rw [if_neg (by simpa using g1), if_neg hfree, if_pos (.inr g3)]
    simp -implicitDefEqProofs (disch := omega) [go_sem, hr, out, book, Try.results29]
  have hr : openedOp b o = ({ next := b.next + 1, opn := b.opn ++ [⟨b.next, o.link, o.addr, o.user, 0, 0⟩], items := b.items ++ [⟨1, b.next, 0, 0, 0⟩], locks := b.locks }, 0) := by unfold openedOp; rw [if_neg (by simpa using g1), if_neg hfree, if_neg (by simp [g3]; omega)]
  have hw := with_pc Γ b (by omega) ⟨1, b.next, 0, 0, 0⟩
  simp -implicitDefEqProofs (disch := omega) [go_sem]
  refine .inl (call_data hw (by simp [go_sem, book, item]) ?_)
  simp -implicitDefEqProofs (disch := omega) [go_sem, book, withLine]
  refine side (by kernel_rfl) ?_
  simp -implicitDefEqProofs (disch := omega) [go_sem, hr, out, book, Try.results29]
  refine ⟨_, ⟨_, rfl, frz_aggL (frzL_c ((frz_data _ _ _ _).2 rfl) (frzL_c (fz_sesss (rw := true) (l := b.opn ++ [⟨b.next, o.link, o.addr, o.user, 0, 0⟩]) (by simp [go_sem, ← sesss_append, flat_sess1]) (.inl rfl) (by simp)) (frzL_c ((frz_data _ _ _ _).2 rfl) (frzL_c ((frz_data _ _ _ _).2 rfl) frzL_n))))⟩, ?_⟩
  rfl
end Bk
end Go.Proofs.Ytjecieidmgkbaaa
