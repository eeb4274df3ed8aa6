import Derived.Test.YtlfmgellojjndaaDoorGlob
import Derived.Test.YtlfmgellojjndaaDoorMC
namespace Go.Proofs.YtlfmgellojjndaaDoor
theorem tabsG : Tabs G := ⟨by kernel_rfl, by kernel_rfl⟩
end Go.Proofs.YtlfmgellojjndaaDoor
