import Derived.Test.YtlfmgellojjndaaDoorMI
namespace Go.Proofs.YtlfmgellojjndaaDoor
open Go.RowKit
set_option linter.unusedVariables false
set_option linter.unusedSimpArgs false
set_option maxHeartbeats 1000000 in
set_option maxRecDepth 100000 in
theorem shown_pc (Γ : Nat → Option (List Data)) (hΓ : Tabs Γ) : PC Tryd.prog Γ 8 [] (.bool true) := by
  refine pc_by mixed Tryd.func8 rfl (fun args w => Tryd.call8 args w) ?_
  have s0 : bys (M5.sum []) = bys [212, 29, 140, 217, 143, 0, 178, 4, 233, 128, 9, 152, 236, 248, 66, 126] := by rw [M5.sum_none]
  have s1 : bys (M5.sum [97, 98, 99]) = bys [144, 1, 80, 152, 60, 210, 79, 176, 214, 150, 63, 125, 40, 225, 127, 114] := by rw [M5.sum_abc]
  have h0 := sum_pc Γ hΓ [] (by decide) (by simp)
  rw [s0] at h0
  have h1 := sum_pc Γ hΓ [97, 98, 99] (by decide) (by decide)
  rw [s1] at h1
  simp -implicitDefEqProofs (disch := omega) [go_sem, Tryd.f8]
  refine .inl (call_bare [] h0 (bare_bys _) (fun H' _ => frzL_c (.emp _ 1) frzL_n) ?_)
  simp -implicitDefEqProofs (disch := omega) [go_sem, bys, u8]
  refine .inl (call_data h1 (by simp [go_sem, bys, u8]) ?_)
  simp -implicitDefEqProofs (disch := omega) [go_sem, bys, u8]
  have hs := same_pc Γ [212, 29, 140, 217, 143, 0, 178, 4, 233, 128, 9, 152, 236, 248, 66, 126] [212, 29, 140, 217, 143, 0, 178, 4, 233, 128, 9, 152, 236, 248, 66, 126] rfl rfl (by decide) (by decide)
  rw [decide_eq_true rfl] at hs
  refine .inl (call_data hs (by simp [go_sem, bys, u8]) ?_)
  simp -implicitDefEqProofs (disch := omega) [go_sem, bys, u8]
  refine .inl (call_frz [] [] (by simp) (pad_pc Γ [] (by decide)) (fun H' _ => frzL_c (.emp _ 1) frzL_n) ?_)
  have hl : (M5.pad []).length = 64 := rfl
  simp -implicitDefEqProofs (disch := omega) [go_sem, hl, Tryd.f8]
end Go.Proofs.YtlfmgellojjndaaDoor
