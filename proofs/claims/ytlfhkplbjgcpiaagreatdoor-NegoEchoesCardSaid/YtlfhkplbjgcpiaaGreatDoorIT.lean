/- The table of spaces stands in the listed variables. -/
import Derived.Test.YtlfhkplbjgcpiaaGreatDoorPk10
import Derived.Test.YtlfhkplbjgcpiaaGreatDoorGlob
namespace Go.Proofs.YtlfhkplbjgcpiaaGreatDoor
set_option linter.unusedVariables false
set_option linter.unusedSimpArgs false
theorem tabsG : Fs.Spaces G := ⟨by kernel_rfl⟩
end Go.Proofs.YtlfhkplbjgcpiaaGreatDoor
