/- The table of spaces stands in the listed variables. -/
import Derived.Test.YticeibkffhdphaaDoorPk6
import Derived.Test.YticeibkffhdphaaDoorGlob
namespace Go.Proofs.YticeibkffhdphaaDoor
set_option linter.unusedVariables false
set_option linter.unusedSimpArgs false
theorem tabsG : Fs.Spaces G := ⟨by kernel_rfl⟩
end Go.Proofs.YticeibkffhdphaaDoor
