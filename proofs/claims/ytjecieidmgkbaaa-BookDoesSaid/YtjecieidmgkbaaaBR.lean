/- Books: a failure. -/
import Derived.Test.YtjecieidmgkbaaaBQ
namespace Go.Proofs.Ytjecieidmgkbaaa
open Go.RowKit
set_option linter.unusedVariables false
set_option linter.unusedSimpArgs false
namespace Bk
variable (Γ : Nat → Option (List Data))
theorem first_hit {α : Type} {p : α → Bool} : ∀ {l : List α} {m n : Nat}, first p m l = ((m + n : Nat) : Int) → ∃ h : n < l.length, p l[n] = true
  | [], m, n, h => by simp only [first] at h; omega
  | a :: l, m, n, h => by
    simp only [first] at h
    split at h
    · rename_i hp
      obtain rfl : n = 0 := by omega
      exact ⟨by simp, hp⟩
    · rcases first_range p l (m + 1) with h1 | h1
      · omega
      · obtain ⟨q, rfl⟩ : ∃ q, n = q + 1 := ⟨n - 1, by omega⟩
        obtain ⟨h2, h3⟩ := first_hit (l := l) (m := m + 1) (n := q) (by rw [h]; congr 1; omega)
        exact ⟨by simpa using h2, by simpa using h3⟩
theorem lock_cut (l : List Lock) (n : Nat) (h : n < l.length) : List.take 3 (List.drop (n * 3) ((flat (locks l)).map D.data)) = [.data (.str l[n].user), .data (.int .i64 l[n].n), .data (.int .i64 l[n].at_)] := by
  rw [← List.map_drop, ← flat_drop (locks_cells l) n (by rw [locks_length]; omega), locks_drop, List.drop_eq_getElem_cons h]
  rfl
theorem lock_set2 (l : List Lock) (n : Nat) (h : n < l.length) (x y : Int) : (((flat (locks l)).map D.data).set (n * 3 + 1) (.data (.int .i64 x))).set (n * 3 + 2) (.data (.int .i64 y)) = (flat (locks (l.set n ⟨l[n].user, x, y⟩))).map D.data := by
  rw [← lock_set l n h ⟨l[n].user, x, y⟩]
  have hc := lock_cut l n h
  have hlen : ((flat (locks l)).map D.data).length = l.length * 3 := by rw [List.length_map, flat_locks_length]
  generalize (flat (locks l)).map D.data = L at *
  have e : L = List.take (n * 3) L ++ (List.take 3 (List.drop (n * 3) L) ++ List.drop (n * 3 + 3) L) := by
    rw [← List.drop_drop, List.take_append_drop, List.take_append_drop]
  have ht : (List.take (n * 3) L).length = n * 3 := by rw [List.length_take]; omega
  conv => lhs; rw [e]
  rw [hc]
  rw [List.set_append_right _ _ (by omega), List.set_append_right _ _ (by omega), ht]
  simp [Nat.add_sub_cancel_left]
set_option maxHeartbeats 4000000 in
set_option maxRecDepth 100000 in
theorem fail_dc (b : Book) (o : Op) (hk : o.kind = 4) (hs : Short b) (hl : b.locks.length ≤ 8) (hn0 : ∀ l ∈ b.locks, -1000000 ≤ l.n ∧ l.n ≤ 1000000) : DC Try.prog Γ 50 [.ptr 10 0] (hpL (appL b o)) 83 (Ends (failedOp b o).1 b o (failedOp b o).2) := by
  refine dc_by mixed Try.func50 rfl (fun args w => Try.call50 args w) ?_
  have c1 := placeOfUser_pc Γ b.locks (by have := hs.2.2; omega) o.user
  have hrg := first_range (fun l : Lock => decide (l.user = o.user)) b.locks 0
  have hh := fun n => first_hit (p := fun l : Lock => decide (l.user = o.user)) (l := b.locks) (m := 0) (n := n)
  obtain ⟨s1, s2, s3⟩ := hs
  have hr0 : failedOp b o = failedAt b o (failed b o.user) := rfl
  rw [hr0]; clear hr0
  change PC _ _ _ _ (.int .i64 (failed b o.user)) at c1
  change failed b o.user = -1 ∨ _ ≤ failed b o.user ∧ failed b o.user < _ at hrg
  change ∀ n, failed b o.user = _ → _ at hh
  generalize failed b o.user = k at *
  unfold appL
  simp -implicitDefEqProofs (disch := omega) [go_sem]
  refine .inl (call_bare [7] c1 (by constructor) (fun H' hH => ?_) ?_)
  · have h7 := hH 7 (by simp)
    simp -implicitDefEqProofs [go_sem] at h7
    exact frzL_c (fz_locks (rw := true) h7 (.inl rfl) rfl) (frzL_c ((frz_data _ _ _ _).2 rfl) frzL_n)
  simp -implicitDefEqProofs (disch := omega) [go_sem]
  refine side (by kernel_rfl) ?_
  by_cases g1 : k < 0
  · have g1' : ¬ 0 ≤ k := by omega
    simp -implicitDefEqProofs (disch := omega) [go_sem, g1']
    refine side (by kernel_rfl) ?_
    by_cases g2 : (b.locks.length : Int) = 8
    · have hr : failedAt b o k = (b, 4) := by unfold failedAt; rw [if_neg (by omega), if_pos g1, if_pos g2]
      rw [hr]
      simp -implicitDefEqProofs (disch := omega) [go_sem, g1', Try.f50]
      exact ends_of (i := 5) (j := 6) (k := 7) (by omega) (by simp [go_sem]) ⟨[], by simp [go_sem]⟩ ⟨[], by simp [go_sem]⟩ ⟨[], by simp [go_sem]⟩ (by simp [go_sem]) (by simp [go_sem]) (by simp [go_sem]) (by omega)
    have hr : failedAt b o k = ({ b with locks := b.locks ++ [⟨o.user, 1, o.at_⟩] }, 0) := by unfold failedAt; rw [if_neg (by omega), if_pos g1, if_neg g2]
    rw [hr]
    simp -implicitDefEqProofs (disch := omega) [go_sem, g1']
    refine side (by kernel_rfl) ?_
    simp -implicitDefEqProofs (disch := omega) [go_sem, Try.f50]
    exact ends_of (i := 5) (j := 6) (k := 145) (by omega) (by simp [go_sem]) ⟨[], by simp [go_sem]⟩ ⟨[], by simp [go_sem]⟩ ⟨[], by simp [go_sem, ← locks_append, lock_one]⟩ (by simp [go_sem]) (by simp [go_sem]) (by simp [go_sem]) (by omega)
  obtain ⟨n, rfl⟩ : ∃ n : Nat, k = n := ⟨k.toNat, by omega⟩
  have hn : n < b.locks.length := by omega
  have hgd : b.locks.getD ((n : Int)).toNat default = b.locks[n] := by rw [Int.toNat_natCast, List.getD_eq_getElem?_getD, List.getElem?_eq_getElem hn]; rfl
  have hnn := hn0 _ (List.getElem_mem hn)
  obtain ⟨_, hu⟩ := hh n (by omega)
  have hu : b.locks[n].user = o.user := of_decide_eq_true hu
  have a1 : (flat (locks b.locks))[n * 3 + 1]? = some (.int .i64 b.locks[n].n) := flat_at (locks_cells _) (i := n) (y := lock b.locks[n]) (by rw [locks_get, List.getElem?_eq_getElem hn]; rfl) (j := 1) rfl
  have a2 : (flat (locks b.locks))[n * 3 + 2]? = some (.int .i64 b.locks[n].at_) := flat_at (locks_cells _) (i := n) (y := lock b.locks[n]) (by rw [locks_get, List.getElem?_eq_getElem hn]; rfl) (j := 2) rfl
  have g1' : (0 : Int) ≤ (n : Int) := by omega
  by_cases g3 : b.locks[n].at_ > o.at_
  · have hr : failedAt b o n = (b, 7) := by unfold failedAt; rw [if_neg (by omega), if_neg g1, hgd, if_pos g3]
    simp -implicitDefEqProofs (disch := omega) [-getElem?_pos, go_sem, a1, a2]
    refine side (by kernel_rfl) ?_
    rw [hr]
    simp -implicitDefEqProofs (disch := omega) [go_sem, Try.f50]
    exact ends_of (i := 5) (j := 6) (k := 7) (by omega) (by simp [go_sem]) ⟨[], by simp [go_sem]⟩ ⟨[], by simp [go_sem]⟩ ⟨[], by simp [go_sem]⟩ (by simp [go_sem]) (by simp [go_sem]) (by simp [go_sem]) (by omega)
  have hr : failedAt b o n = ({ b with locks := b.locks.set n ⟨o.user, min 255 (b.locks[n].n + 1), o.at_⟩ }, 0) := by unfold failedAt; rw [if_neg (by omega), if_neg g1, hgd, if_neg g3, Int.toNat_natCast]
  rw [hr]
  have hmin : (if (254 : Int) < b.locks[n].n then (254 : Int) else b.locks[n].n) + 1 = min 255 (b.locks[n].n + 1) := by split <;> omega
  have hset := lock_set2 b.locks n hn (min 255 (b.locks[n].n + 1)) o.at_
  rw [hu] at hset
  simp -implicitDefEqProofs (disch := omega) [-getElem?_pos, go_sem, a1, a2]
  refine side (by kernel_rfl) ?_
  simp -implicitDefEqProofs (disch := omega) [-getElem?_pos, go_sem, a1, a2]
  refine side (by kernel_rfl) ?_
  simp -implicitDefEqProofs (disch := omega) [-getElem?_pos, go_sem, a1, a2]
  refine side (by kernel_rfl) ?_
  simp -implicitDefEqProofs (disch := omega) [go_sem, Try.f50]
  exact ends_of (i := 5) (j := 6) (k := 7) (by omega) (by simp [go_sem]) ⟨[], by simp [go_sem]⟩ ⟨[], by simp [go_sem]⟩ ⟨[], by simp [go_sem, hset, hmin]⟩ (by simp [go_sem]) (by simp [go_sem]) (by simp [go_sem]) (by omega)
end Bk
end Go.Proofs.Ytjecieidmgkbaaa
