import Derived.Test.YtlfmgellojjndaaDoorMK
import Derived.Test.YtlfmgellojjndaaDoorZ
namespace Go.Proofs.YtlfmgellojjndaaDoor
open Go.RowKit
set_option linter.unusedVariables false
set_option linter.unusedSimpArgs false
theorem le8_at (n i : Nat) (h : i < 8) : (M5.le8 n)[i]? = some (n / 256 ^ i % 256) := by
  match i, h with
  | 0, _ => simp [M5.le8]
  | 1, _ | 2, _ | 3, _ | 4, _ | 5, _ | 6, _ | 7, _ => rfl
theorem pow_step (n j : Nat) (h : 0 < j) : n / 256 ^ j * 256 + n / 256 ^ (j - 1) % 256 = n / 256 ^ (j - 1) := by
  obtain ⟨k, rfl⟩ : ∃ k, j = k + 1 := ⟨j - 1, by omega⟩
  rw [Nat.add_sub_cancel, Nat.pow_succ, ← Nat.div_div_eq_div_mul]
  omega
set_option maxHeartbeats 1000000 in
set_option maxRecDepth 100000 in
theorem pads_pc (Γ : Nat → Option (List Data)) (hΓ : Tabs Γ) (a b : List Nat) (la : a.length ≤ 140737488351232) (lb : b.length ≤ 140737488351232) (ha : ∀ x ∈ a, x < 256) (hb : ∀ x ∈ b, x < 256) : PC Tryd.prog Γ 5 [.sl 1 (bys a), .sl 1 (bys b)] (.bool true) := by
  refine pc_by mixed Tryd.func5 rfl (fun args w => Tryd.call5 args w) ?_
  by_cases h : 1000 < a.length
  · simp -implicitDefEqProofs (disch := omega) [go_sem, Tryd.f5]
    refine .inl (call_data (shown_pc Γ hΓ) (by simp [go_sem]) ?_)
    simp -implicitDefEqProofs (disch := omega) [go_sem, Tryd.f5]
  by_cases h2 : 1000 < b.length
  · simp -implicitDefEqProofs (disch := omega) [go_sem, Tryd.f5]
    refine .inl (call_data (shown_pc Γ hΓ) (by simp [go_sem]) ?_)
    simp -implicitDefEqProofs (disch := omega) [go_sem, Tryd.f5]
  have la' : a.length ≤ 1000 := by omega
  have lb' : b.length ≤ 1000 := by omega
  have pl := M5.pad_length a
  have pz := M5.pz_lt a.length
  have ptake := M5.pad_take a
  have pone := M5.pad_one a
  have pn := M5.pad_noughts a
  have plast := M5.pad_last a
  have hinj := M5.pad_inj (l := a) (m := b) (by omega) (by omega)
  have padb := pad_pc Γ b (by omega)
  have pada := pad_pc Γ a (by omega)
  have hpb := M5.pad_length b
  have hpz := M5.pz_lt b.length
  generalize M5.pad a = p at *
  generalize M5.pz a.length = z at *
  simp -implicitDefEqProofs (disch := omega) [go_sem, Tryd.f5]
  refine .inl (call_data (shown_pc Γ hΓ) (by simp [go_sem]) ?_)
  simp -implicitDefEqProofs (disch := omega) [go_sem]
  refine .inl (call_data pada (by simp [go_sem]) ?_)
  simp -implicitDefEqProofs (disch := omega) [go_sem, ptake, pone, -getElem?_pos]
  refine .inl (call_data (row_pc Γ a a (by omega) (by omega)) (by simp [go_sem]) ?_)
  simp -implicitDefEqProofs (disch := omega) [go_sem, ptake, pone, -getElem?_pos]
  refine loop_of (σ := { i : Nat // i ≤ z }) (fun i => ⟨envL [(0, .data (.sl 1 (bys a))), (1, .data (.sl 1 (bys b))), (5, .data (.bool true)), (6, .data (.sl 1 (bys p))), (7, .data (.int .i64 z)), (8, .data (.int .i64 i.1))], hpL [], 0, 0, 100⟩) (fun i => z - i.1) ⟨0, by omega⟩ ?_ ?_
  · apply weak_lists <;> simp -implicitDefEqProofs [go_sem]
    all_goals omega
  · rintro ⟨i, hi⟩
    by_cases hiz : i < z
    · have e1 : ((a.length : Int) + 1 + i).toNat = a.length + 1 + i := by omega
      have pni := pn i hiz
      simp -implicitDefEqProofs (disch := omega) [go_sem, e1, pni, -getElem?_pos]
      refine next_of ⟨i + 1, by omega⟩ ?_ (by simp only; omega)
      apply weak_lists <;> simp -implicitDefEqProofs [go_sem]
    · simp -implicitDefEqProofs (disch := omega) [go_sem]
      obtain ⟨q, hq⟩ : ∃ q : Nat → Nat, ∀ j, q j = 8 * a.length / 256 ^ j := ⟨_, fun _ => rfl⟩
      have hq8 : q 8 = 0 := by rw [hq]; exact Nat.div_eq_of_lt (by omega)
      have hq0 : q 0 = 8 * a.length := by rw [hq]; simp
      refine loop_of (σ := { j : Nat // j ≤ 8 }) (fun j => ⟨envL [(0, .data (.sl 1 (bys a))), (1, .data (.sl 1 (bys b))), (5, .data (.bool true)), (6, .data (.sl 1 (bys p))), (9, .data (.int .i64 (q j.1 : Nat))), (10, .data (.int .i64 ((j.1 : Int) - 1)))], hpL [], 0, 0, 100⟩) (fun j => j.1) ⟨8, by omega⟩ ?_ ?_
      · apply weak_lists <;> simp -implicitDefEqProofs [go_sem]
        all_goals omega
      · rintro ⟨j, hj⟩
        by_cases hj0 : 0 < j
        · have e2 : ((p.length : Int) - 8 + ((j : Int) - 1)).toNat = a.length + 1 + z + (j - 1) := by omega
          have pj := plast (j - 1) (by omega)
          rw [le8_at _ _ (by omega), ← hq] at pj
          have hst := pow_step (8 * a.length) j hj0
          have hb1 : 8 * a.length / 256 ^ j ≤ 8 * a.length := Nat.div_le_self _ _
          have hb2 : 8 * a.length / 256 ^ (j - 1) ≤ 8 * a.length := Nat.div_le_self _ _
          rw [← hq, ← hq] at hst
          rw [← hq] at hb1 hb2
          simp -implicitDefEqProofs (disch := omega) [go_sem, e2, pj, -getElem?_pos]
          refine next_of ⟨j - 1, by omega⟩ ?_ (by simp only; omega)
          apply weak_lists <;> simp -implicitDefEqProofs [go_sem]
          all_goals omega
        · have : j = 0 := by omega
          subst this
          simp -implicitDefEqProofs (disch := omega) [go_sem, hq0]
          refine .inl (call_data padb (by simp [go_sem]) ?_)
          simp -implicitDefEqProofs (disch := omega) [go_sem]
          refine .inl (call_data (row_pc Γ p (M5.pad b) (by omega) (by omega)) (by simp [go_sem]) ?_)
          simp -implicitDefEqProofs (disch := omega) [go_sem]
          refine .inl (call_data (row_pc Γ a b (by omega) (by omega)) (by simp [go_sem]) ?_)
          simp -implicitDefEqProofs (disch := omega) [go_sem, hinj]
theorem law_Md5Pads (Γ : Nat → Option (List Data)) (hΓ : Tabs Γ) {x0 x1 : Data} (a0 : argD Tryd.prog 8 22 x0) (a1 : argD Tryd.prog 8 22 x1) : PC Tryd.prog Γ 5 [x0, x1] (.bool true) := by
  obtain ⟨a, ha, la, rfl⟩ := arg_bytes Tryd.underlying22 Tryd.underlying5 (by kernel_rfl) a0
  obtain ⟨b, hb, lb, rfl⟩ := arg_bytes Tryd.underlying22 Tryd.underlying5 (by kernel_rfl) a1
  exact pads_pc Γ hΓ a b la lb ha hb
end Go.Proofs.YtlfmgellojjndaaDoor
