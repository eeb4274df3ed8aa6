/- The document's own comparison of rows. -/
import Derived.Test.YtlfmgellojjndaaV
import Derived.Test.YtlfmgellojjndaaTy
import Derived.Test.YtlfmgellojjndaaChecked
namespace Go.Proofs.Ytlfmgellojjndaa
open Go.RowKit
set_option linter.unusedVariables false
set_option linter.unusedSimpArgs false
set_option maxRecDepth 100000 in
theorem row_pc (Γ : Nat → Option (List Data)) (a b : List Nat) (ha : a.length ≤ 100000000000) (hb : b.length ≤ 100000000000) : PC Try.prog Γ 17 [.sl 1 (bys a), .sl 1 (bys b)] (.bool (decide (a = b))) := by
  refine pc_by mixed Try.func17 rfl (fun args w => Try.call17 args w) ?_
  simp -implicitDefEqProofs (disch := omega) [go_sem, Try.f17]
  refine ifW_ndec (fun h => ?_) (fun h => ?_)
  · have hne : a ≠ b := fun e => h (by rw [e])
    simp -implicitDefEqProofs (disch := omega) [go_sem, Try.f17, hne]
  · have hl : a.length = b.length := by omega
    simp -implicitDefEqProofs (disch := omega) [go_sem]
    refine loop_of (σ := { i : Nat // i ≤ a.length ∧ ∀ j, j < i → a[j]? = b[j]? }) (fun i => ⟨envL [(0, .data (.sl 1 (bys a))), (1, .data (.sl 1 (bys b))), (5, .data (.int .i64 i.1))], hpL [], 0, 0, 26⟩) (fun i => a.length - i.1) ⟨0, by omega, by omega⟩ ?_ ?_
    · apply weak_lists <;> simp -implicitDefEqProofs [go_sem]
    · rintro ⟨i, hi, heq⟩
      simp -implicitDefEqProofs (disch := omega) [go_sem]
      refine ifW_dec (fun h => ?_) (fun h => ?_)
      · have hia : i < a.length := by omega
        simp -implicitDefEqProofs (disch := omega) [go_sem]
        refine side (by kernel_rfl) ?_
        simp -implicitDefEqProofs (disch := omega) [go_sem]
        refine ifW_ndec (fun h2 => ?_) (fun h2 => ?_)
        · have hne : a ≠ b := fun e => h2 (by subst e; rfl)
          simp -implicitDefEqProofs (disch := omega) [go_sem, Try.f17, hne]
        · simp -implicitDefEqProofs (disch := omega) [go_sem]
          refine next_of ⟨i + 1, by omega, fun j hj => ?_⟩ ?_ (by simp only; omega)
          · by_cases e : j = i
            · subst e
              rw [List.getElem?_eq_getElem hia, List.getElem?_eq_getElem (by omega)]
              congr 1
              omega
            · exact heq j (by omega)
          apply weak_lists <;> simp -implicitDefEqProofs [go_sem]
      · have hab : a = b := List.ext_getElem? fun j => by
          by_cases hj : j < a.length
          · exact heq j (by omega)
          · rw [List.getElem?_eq_none (by omega), List.getElem?_eq_none (by omega)]
        simp -implicitDefEqProofs (disch := omega) [go_sem, Try.f17, hab]
end Go.Proofs.Ytlfmgellojjndaa
