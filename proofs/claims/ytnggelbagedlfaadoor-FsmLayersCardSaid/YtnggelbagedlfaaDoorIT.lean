/- The table of spaces stands in the listed variables. -/
import Derived.Test.YtnggelbagedlfaaDoorPk5
import Derived.Test.YtnggelbagedlfaaDoorGlob
namespace Go.Proofs.YtnggelbagedlfaaDoor
theorem tabsG : Fs.Spaces G := ⟨by kernel_rfl⟩
end Go.Proofs.YtnggelbagedlfaaDoor
