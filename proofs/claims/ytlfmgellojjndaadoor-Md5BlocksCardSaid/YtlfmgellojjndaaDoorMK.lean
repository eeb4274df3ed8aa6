import Derived.Test.YtlfmgellojjndaaDoorMJ
namespace Go.Proofs.YtlfmgellojjndaaDoor
open Go.RowKit
set_option linter.unusedVariables false
set_option linter.unusedSimpArgs false
def zs (n : Nat) : List Nat := List.replicate n 0
theorem zs_length (n : Nat) : (zs n).length = n := by simp [zs]
theorem zs_lt (n : Nat) : ∀ x ∈ zs n, x < 256 := fun x hx => by
  simp [zs] at hx
  omega
set_option maxHeartbeats 1000000 in
set_option maxRecDepth 100000 in
theorem long_pc (Γ : Nat → Option (List Data)) (hΓ : Tabs Γ) (a b : Nat) (ha : a < 65536) (hb : b < 65536) : PC Tryd.prog Γ 7 [.int .u16 a, .int .u16 b] (.bool true) := by
  have ta : ((a : Int) % 2000).toNat = a % 2000 := by omega
  have tb : ((b : Int) % 2000).toNat = b % 2000 := by omega
  have la : (zs (a % 2000)).length ≤ 100000000000 := by rw [zs_length]; omega
  have lb : (zs (b % 2000)).length ≤ 100000000000 := by rw [zs_length]; omega
  have hsum := sum_pc Γ hΓ (zs (a % 2000)) la (zs_lt _)
  have sl : (M5.sum (zs (a % 2000))).length = 16 := M5.sum_length _
  have slt := M5.sum_lt (zs (a % 2000))
  have hrow := row_pc Γ (M5.pad (zs (a % 2000))) (M5.pad (zs (b % 2000)))
  have pla := M5.pad_length (zs (a % 2000))
  have plb := M5.pad_length (zs (b % 2000))
  have pma := M5.pad_mod (zs (a % 2000))
  have pza := M5.pz_lt (zs (a % 2000)).length
  have pzb := M5.pz_lt (zs (b % 2000)).length
  rw [zs_length] at pla plb pza pzb
  have hst : List.take 16 (M5.sum (zs (a % 2000))) = M5.sum (zs (a % 2000)) := List.take_of_length_le (by omega)
  have hsame := same_pc Γ (M5.sum (zs (a % 2000))) (M5.sum (zs (a % 2000))) sl sl slt slt
  rw [decide_eq_true rfl] at hsame
  have hinj : (M5.pad (zs (a % 2000)) = M5.pad (zs (b % 2000))) ↔ (a % 2000 = b % 2000) := by
    rw [M5.pad_inj (by rw [zs_length]; omega) (by rw [zs_length]; omega)]
    constructor
    · intro e
      have := congrArg List.length e
      simpa [zs_length] using this
    · intro e; rw [e]
  refine pc_by mixed Tryd.func7 rfl (fun args w => Tryd.call7 args w) ?_
  simp -implicitDefEqProofs (disch := omega) [go_sem, Tryd.f7]
  refine .inl (call_data (shown_pc Γ hΓ) (by simp [go_sem]) ?_)
  simp -implicitDefEqProofs (disch := omega) [go_sem, ta]
  refine .inl (call_kept _ _ (zs (a % 2000)) (pad_pc Γ _ la) (by simp [go_sem, zs]) (zs_length _) ?_)
  simp -implicitDefEqProofs (disch := omega) [go_sem, tb]
  refine .inl (call_kept _ _ (zs (b % 2000)) (pad_pc Γ _ lb) (by simp [go_sem, zs]) (zs_length _) ?_)
  simp -implicitDefEqProofs (disch := omega) [go_sem, ta]
  refine .inl (call_read (rw := true) _ _ (zs (a % 2000)) hsum (bare_bys _) (by simp [go_sem, zs]) (zs_length _) ?_)
  simp -implicitDefEqProofs (disch := first | omega | (simp only [List.length_cons, List.length_nil, List.length_map, bys_length, sl]; first | done | omega)) [go_sem, ta, over_map _ (bys (M5.sum (zs (a % 2000)))), hst]
  refine .inl (call_read (rw := true) _ _ (zs (a % 2000)) hsum (bare_bys _) (by simp [go_sem, zs]) (zs_length _) ?_)
  simp -implicitDefEqProofs (disch := first | omega | (simp only [List.length_cons, List.length_nil, List.length_map, bys_length, sl]; first | done | omega)) [go_sem, ta, over_map _ (bys (M5.sum (zs (a % 2000)))), hst]
  refine eqK_ints arr16 sl sl slt slt ?_
  simp -implicitDefEqProofs (disch := first | omega | (simp only [List.length_cons, List.length_nil, List.length_map, bys_length, sl]; first | done | omega)) [go_sem, ta, hst]
  refine .inl (call_data hsame (by simp [go_sem]) ?_)
  have x1 : ((M5.pad (zs (a % 2000))).length : Int) % 64 = 0 := by omega
  have x2 : (a : Int) % 2000 + 9 ≤ ((M5.pad (zs (a % 2000))).length : Int) := by omega
  have x3 : ((M5.pad (zs (a % 2000))).length : Int) < (a : Int) % 2000 + 73 := by omega
  simp -implicitDefEqProofs (disch := omega) [go_sem, x1, x2, x3]
  refine .inl (call_data (hrow (by omega) (by omega)) (by simp [go_sem]) ?_)
  have x4 : ((a : Int) % 2000 = (b : Int) % 2000) ↔ (a % 2000 = b % 2000) := by omega
  simp -implicitDefEqProofs (disch := omega) [go_sem, hinj, x4, Tryd.f7]
  trace_state
theorem law_Md5Long (Γ : Nat → Option (List Data)) (hΓ : Tabs Γ) {x0 x1 : Data} (a0 : argD Tryd.prog 8 38 x0) (a1 : argD Tryd.prog 8 38 x1) : PC Tryd.prog Γ 7 [x0, x1] (.bool true) := by
  obtain ⟨a, ha, rfl⟩ := arg_u16 Tryd.underlying38 a0
  obtain ⟨b, hb, rfl⟩ := arg_u16 Tryd.underlying38 a1
  exact long_pc Γ hΓ a b ha hb
end Go.Proofs.YtlfmgellojjndaaDoor
