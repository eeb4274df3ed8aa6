/- md5's tables stand in the listed variables. -/
import Derived.Test.YtafcdeegcfmcpaaDoorGlob
import Derived.Test.YtafcdeegcfmcpaaDoorPk6
namespace Go.Proofs.YtafcdeegcfmcpaaDoor
set_option linter.unusedVariables false
set_option linter.unusedSimpArgs false
theorem tabsG : Tabs G := ⟨by kernel_rfl, by kernel_rfl⟩
end Go.Proofs.YtafcdeegcfmcpaaDoor
