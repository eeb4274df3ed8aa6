/- Books: failed tries and locks. -/
import Derived.Test.YtjecieidmgkbaaaBF
namespace Go.Proofs.Ytjecieidmgkbaaa
open Go.RowKit
set_option linter.unusedVariables false
set_option linter.unusedSimpArgs false
namespace Bk
@[go_sem] theorem locks_take (l : List Lock) (n : Nat) : List.take n (locks l) = locks (l.take n) := by simp [locks]
@[go_sem] theorem locks_drop (l : List Lock) (n : Nat) : List.drop n (locks l) = locks (l.drop n) := by simp [locks]
theorem flat_lock1 (x : Lock) : flat (locks [x]) = [.str x.user, .int .i64 x.n, .int .i64 x.at_] := rfl
theorem lock_set (l : List Lock) (n : Nat) (h : n < l.length) (x : Lock) : List.take (n * 3) ((flat (locks l)).map D.data) ++ .data (.str x.user) :: .data (.int .i64 x.n) :: .data (.int .i64 x.at_) :: List.drop (n * 3 + 3) ((flat (locks l)).map D.data) = (flat (locks (l.set n x))).map D.data := by
  have e : n * 3 + 3 = (n + 1) * 3 := by omega
  rw [e, ← List.map_take, ← List.map_drop, ← flat_take (locks_cells l) n (by rw [locks_length]; omega), ← flat_drop (locks_cells l) (n + 1) (by rw [locks_length]; omega), locks_take, locks_drop, List.set_eq_take_append_cons_drop, if_pos h, ← locks_append, List.map_append]
  rfl
def failedAt (b : Book) (o : Op) (k : Int) : Book × Int :=
  if o.kind = 5 then (if k < 0 then (b, 5) else ({ b with locks := b.locks.take k.toNat ++ b.locks.drop (k.toNat + 1) }, 0))
  else if k < 0 then (if (b.locks.length : Int) = 8 then (b, 4) else ({ b with locks := b.locks ++ [⟨o.user, 1, o.at_⟩] }, 0))
  else if (b.locks.getD k.toNat default).at_ > o.at_ then (b, 7)
  else ({ b with locks := b.locks.set k.toNat ⟨o.user, min 255 ((b.locks.getD k.toNat default).n + 1), o.at_⟩ }, 0)
def failedOp (b : Book) (o : Op) : Book × Int := failedAt b o (failed b o.user)
set_option maxHeartbeats 4000000 in
set_option maxRecDepth 100000 in
theorem failedOp_pc (Γ : Nat → Option (List Data)) (b : Book) (o : Op) (hb : Fits b) (hl : b.locks.length ≤ 1000000) (hn0 : ∀ l ∈ b.locks, -1000000 ≤ l.n ∧ l.n ≤ 1000000) : PC Try.prog Γ 31 [book b, op o] (out (failedOp b o)) := by
  refine pc_by mixed Try.func31 rfl (fun args w => Try.call31 args w) ?_
  have hk := failed_pc Γ b hb o.user
  have hrg := first_range (fun l : Lock => decide (l.user = o.user)) b.locks 0
  obtain ⟨bo, bi, bl, -, -⟩ := hb
  have hr0 : failedOp b o = failedAt b o (failed b o.user) := rfl
  rw [hr0]; clear hr0
  change failed b o.user = -1 ∨ _ ≤ failed b o.user ∧ failed b o.user < _ at hrg
  generalize failed b o.user = k at *
  simp -implicitDefEqProofs (disch := omega) [go_sem, book, op]
  refine .inl (call_data hk (by simp [go_sem, book]) ?_)
  by_cases g0 : o.kind = 5
  · by_cases g1 : k < 0
    · have hr : failedAt b o k = (b, 5) := by unfold failedAt; rw [if_pos g0, if_pos g1]
      simp -implicitDefEqProofs (disch := omega) [go_sem, g0, hr, out, book, Try.results31]
    obtain ⟨n, rfl⟩ : ∃ n : Nat, k = n := ⟨k.toNat, by omega⟩
    have hn : n < b.locks.length := by omega
    have hr : failedAt b o n = ({ b with locks := b.locks.take n ++ b.locks.drop (n + 1) }, 0) := by unfold failedAt; rw [if_pos g0, if_neg g1, Int.toNat_natCast]
    simp -implicitDefEqProofs (disch := omega) [go_sem, g0]
    refine side (by kernel_rfl) ?_
    simp -implicitDefEqProofs (disch := omega) [go_sem, hr, out, book, Try.results31]
    refine ⟨_, ⟨_, rfl, frz_aggL (frzL_c ((frz_data _ _ _ _).2 rfl) (frzL_c ((frz_data _ _ _ _).2 rfl) (frzL_c ((frz_data _ _ _ _).2 rfl) (frzL_c (fz_locks (rw := true) (l := b.locks.take n ++ b.locks.drop (n + 1)) (by simp [go_sem, ← locks_append]) (.inl rfl) (by simp; omega)) frzL_n))))⟩, ?_⟩
    rfl
  by_cases g1 : k < 0
  · by_cases g2 : (b.locks.length : Int) = 8
    · have hr : failedAt b o k = (b, 4) := by unfold failedAt; rw [if_neg g0, if_pos g1, if_pos g2]
      simp -implicitDefEqProofs (disch := omega) [go_sem, g0, g2, hr, out, book, Try.results31]
    have hr : failedAt b o k = ({ b with locks := b.locks ++ [⟨o.user, 1, o.at_⟩] }, 0) := by unfold failedAt; rw [if_neg g0, if_pos g1, if_neg g2]
    simp -implicitDefEqProofs (disch := omega) [go_sem, g0, g2, hr, out, book, Try.results31]
    refine ⟨_, ⟨_, rfl, frz_aggL (frzL_c ((frz_data _ _ _ _).2 rfl) (frzL_c ((frz_data _ _ _ _).2 rfl) (frzL_c ((frz_data _ _ _ _).2 rfl) (frzL_c (fz_locks (rw := true) (l := b.locks ++ [⟨o.user, 1, o.at_⟩]) (by simp [go_sem, ← locks_append, flat_lock1]) (.inl rfl) (by simp)) frzL_n))))⟩, ?_⟩
    rfl
  obtain ⟨n, rfl⟩ : ∃ n : Nat, k = n := ⟨k.toNat, by omega⟩
  have hn : n < b.locks.length := by omega
  have hgd : b.locks.getD ((n : Int)).toNat default = b.locks[n] := by rw [Int.toNat_natCast, List.getD_eq_getElem?_getD, List.getElem?_eq_getElem hn]; rfl
  have hnn := hn0 _ (List.getElem_mem hn)
  by_cases g3 : b.locks[n].at_ > o.at_
  · have hr : failedAt b o n = (b, 7) := by unfold failedAt; rw [if_neg g0, if_neg g1, hgd, if_pos g3]
    simp -implicitDefEqProofs (disch := omega) [go_sem, g0]
    refine side (by kernel_rfl) ?_
    simp -implicitDefEqProofs (disch := omega) [go_sem, hr, out, book, Try.results31]
  have hr : failedAt b o n = ({ b with locks := b.locks.set n ⟨o.user, min 255 (b.locks[n].n + 1), o.at_⟩ }, 0) := by unfold failedAt; rw [if_neg g0, if_neg g1, hgd, if_neg g3, Int.toNat_natCast]
  simp -implicitDefEqProofs (disch := omega) [go_sem, g0]
  refine side (by kernel_rfl) ?_
  simp -implicitDefEqProofs (disch := omega) [go_sem]
  refine side (by kernel_rfl) ?_
  simp -implicitDefEqProofs (disch := omega) [go_sem, hr, out, book, Try.results31]
  refine ⟨_, ⟨_, rfl, frz_aggL (frzL_c ((frz_data _ _ _ _).2 rfl) (frzL_c ((frz_data _ _ _ _).2 rfl) (frzL_c ((frz_data _ _ _ _).2 rfl) (frzL_c (fz_locks (rw := true) (l := b.locks.set n ⟨o.user, min 255 (b.locks[n].n + 1), o.at_⟩) (by have := lock_set b.locks n hn ⟨o.user, min 255 (b.locks[n].n + 1), o.at_⟩; simp [go_sem, ← this]; omega) (.inl rfl) (by simp)) frzL_n))))⟩, ?_⟩
  rfl
end Bk
end Go.Proofs.Ytjecieidmgkbaaa
