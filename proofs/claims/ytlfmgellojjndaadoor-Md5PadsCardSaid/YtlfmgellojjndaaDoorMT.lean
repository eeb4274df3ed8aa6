import Derived.Test.YtlfmgellojjndaaDoorGlob
import Derived.Test.YtlfmgellojjndaaDoorMC
namespace Go.Proofs.YtlfmgellojjndaaDoor
set_option linter.unusedVariables false
set_option linter.unusedSimpArgs false
theorem tabsG : Tabs G := ⟨by kernel_rfl, by kernel_rfl⟩
end Go.Proofs.YtlfmgellojjndaaDoor
