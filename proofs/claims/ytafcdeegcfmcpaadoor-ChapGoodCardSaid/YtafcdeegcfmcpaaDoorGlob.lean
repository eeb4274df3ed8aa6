/- What the listed variables hold, as plain data. -/
import Derived.Test.YtafcdeegcfmcpaaDoorRows
import Derived.Test.YtafcdeegcfmcpaaDoorPk6
import Derived.WalkKit
import Derived.ProofKit
import Derived.LaidMore
import Derived.OpenShut
import Derived.Stop.Joined
import Derived.MakeChecks
import Derived.LaidHandle
namespace Go.Proofs.YtafcdeegcfmcpaaDoor
open Go.ChangeShapes Go.WideShapes Go.ChangeAt Go.RowKit
set_option linter.unusedVariables false
set_option linter.unusedSimpArgs false
set_option maxRecDepth 100000

def seatLaid : List (String × DataW Unit) := [("portreeve/md5.turns", Rows.laid_portreeve_md5_turns), ("portreeve/md5.words", Rows.laid_portreeve_md5_words)]
noncomputable def gd1 : List Data := dD Tryd.prog 8 85 (Rows.laid_portreeve_md5_turns (H := Unit))
noncomputable def gd0 : List Data := dD Tryd.prog 8 76 (Rows.laid_portreeve_md5_words (H := Unit))
noncomputable def G : Nat → Option (List Data) := fun g => if g = 1 then some gd1 else if g = 0 then some gd0 else none
theorem gne1 : gd1.isEmpty = false := by kernel_rfl
theorem gnam1 : Tryd.prog.globalNamed "portreeve/md5.turns" = some 1 := by kernel_rfl
theorem gtyp1 : (Tryd.prog.globals[1]?).map (·.type) = some 85 := by kernel_rfl
theorem gne0 : gd0.isEmpty = false := by kernel_rfl
theorem gnam0 : Tryd.prog.globalNamed "portreeve/md5.words" = some 0 := by kernel_rfl
theorem gtyp0 : (Tryd.prog.globals[0]?).map (·.type) = some 76 := by kernel_rfl
theorem door_met (os : Os) (args : Array Value) : laidMetH Tryd.prog seatLaid ((World.doorLaid Tryd.prog 23 os).forCall (fun _ _ => 0) ⟨#[], args, []⟩).memory :=
  laidMetH_of_parts3 (fuel := 8) (laidMet_of_run' 8 (by kernel_rfl) (by kernel_rfl)) (by kernel_rfl) (by kernel_rfl)
theorem glob_of_laid {W : World} (h : laidMetH Tryd.prog seatLaid W) : Glob G (fun _ => False) W := by
  rw [MakeChecks.laidMetH_plain _ _ _ (by kernel_rfl)] at h
  obtain ⟨ps, ⟨g0, t0, cs0, f0, p0, q0, hg0, ht0, hv0, hd0, ⟨g1, t1, cs1, f1, p1, q1, hg1, ht1, hv1, hd1, _, _⟩, _⟩, _, _⟩ := h
  obtain rfl := Option.some.inj (gnam1.symm.trans hg0)
  obtain rfl := Option.some.inj (gtyp1.symm.trans ht0)
  obtain rfl := Option.some.inj (gnam0.symm.trans hg1)
  obtain rfl := Option.some.inj (gtyp0.symm.trans ht1)
  intro g cells hc
  unfold G at hc
  split at hc
  · rename_i e; subst e; cases hc
    exact glob_of (n := 8) (by kernel_rfl) hg0 hv0 hd0 (by kernel_rfl) (fun e => by have h2 := gne1; rw [show gd1 = [] from e] at h2; cases h2)
  split at hc
  · rename_i e; subst e; cases hc
    exact glob_of (n := 8) (by kernel_rfl) hg1 hv1 hd1 (by kernel_rfl) (fun e => by have h2 := gne0; rw [show gd0 = [] from e] at h2; cases h2)
  · cases hc
end Go.Proofs.YtafcdeegcfmcpaaDoor
