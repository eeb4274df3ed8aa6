import Derived.Test.YtlfmgellojjndaaDoorME
namespace Go.Proofs.YtlfmgellojjndaaDoor
open Go.RowKit
set_option linter.unusedVariables false
set_option linter.unusedSimpArgs false
theorem arr16 : IntArr Tryd.prog 26 5 16 .u8 256 where
  ut := Tryd.underlying26
  ue := Tryd.underlying5
  ct := by kernel_rfl
  ce := by kernel_rfl
  deep := run_equalIn_deep 9998 2 26 (by kernel_rfl)
  guard := by kernel_rfl
  range := fun x h => by
    simp only [Program.keyLits, Tryd.underlying5]
    rw [if_pos]
    refine ⟨trivial, ?_⟩
    show (decide ((0 : Int) ≤ (x : Int)) && decide ((x : Int) ≤ 255)) = true
    simp
    omega
theorem arr4 : IntArr Tryd.prog 24 23 4 .u32 4294967296 where
  ut := Tryd.underlying24
  ue := Tryd.underlying23
  ct := by kernel_rfl
  ce := by kernel_rfl
  deep := run_equalIn_deep 9998 2 24 (by kernel_rfl)
  guard := by kernel_rfl
  range := fun x h => by
    simp only [Program.keyLits, Tryd.underlying23]
    rw [if_pos]
    refine ⟨trivial, ?_⟩
    show (decide ((0 : Int) ≤ (x : Int)) && decide ((x : Int) ≤ 4294967295)) = true
    simp
    omega
theorem over_dg (l m : List Nat) (hl : l.length = 16) (hm : m.length = 16) : over ((bys l).map D.data) 0 ((bys m).map D.data) = (bys m).map D.data := over_map _ _ (by simp [bys_length, hl, hm])
set_option maxRecDepth 100000 in
theorem same_pc (Γ : Nat → Option (List Data)) (l m : List Nat) (hl : l.length = 16) (hm : m.length = 16) (bl : ∀ x ∈ l, x < 256) (bm : ∀ x ∈ m, x < 256) : PC Tryd.prog Γ 16 [.agg (bys l), .agg (bys m)] (.bool (decide (l = m))) := by
  refine pc_by mixed Tryd.func16 rfl (fun args w => Tryd.call16 args w) ?_
  have tl : List.take 16 l = l := List.take_of_length_le (by omega)
  have tm : List.take 16 m = m := List.take_of_length_le (by omega)
  simp -implicitDefEqProofs (disch := first | omega | (simp only [bys_length]; omega)) [go_sem, Tryd.f16, tl, tm]
  refine eqK_ints arr16 hl hm bl bm ?_
  simp -implicitDefEqProofs (disch := omega) [go_sem, Tryd.f16]
end Go.Proofs.YtlfmgellojjndaaDoor
