/- Choices that the numbers at hand decide: by omega, in the walk's simp. (Import it where the walk should decide by itself.) -/
import Derived.Test.YtedcnbkhdkchoaaV
namespace Go.Proofs.Ytedcnbkhdkchoaa
open Go.RowKit
set_option linter.unusedVariables false
set_option linter.unusedSimpArgs false
@[go_sem] theorem dec_yes {p : Prop} [Decidable p] (h : p) : decide p = true := decide_eq_true h
@[go_sem] theorem dec_no {p : Prop} [Decidable p] (h : ¬ p) : decide p = false := decide_eq_false h
end Go.Proofs.Ytedcnbkhdkchoaa
