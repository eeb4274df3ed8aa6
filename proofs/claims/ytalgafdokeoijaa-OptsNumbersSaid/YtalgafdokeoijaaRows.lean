/-
  No cell of these rows narrows 'for every input' (looked for: loops, veiled, ifaces, maps, wideKeys, modest, calm, conditions, laid).
  DERIVED. THE GIVEN ROWS OF THIS SEAT. 5 by the template 'for every input the law returns true; each argument reads behind the call as it read before'; 0 by the template 'total and deterministic' (their statements: YtalgafdokeoijaaTotals.lean).
  GIVEN WITH THE SEED: the statements are not yours to turn. If you find one false, say at which input.
  Laid BY PROGRAM, IN A SANDBOX (cutbox-rows.mjs): the forced cells as the released guide's own fill.sh prints them over the translation fb79858c21363c73… (all of the seat's roots in one cut). By AI agents, Wed Nov 11 2026. No macro, syntax, notation, axiom, sorry.
-/
import Derived.Test.YtalgafdokeoijaaChecked
import GoSem.Claim
import GoSem.ClaimJoined
import GoSem.ClaimMapViews
import Derived.JoinedTies
import Derived.KernelRfl
namespace Go.Proofs.Ytalgafdokeoijaa
/- THE CELL 'sum', in the pinned program and in every row, IS THE sha256 OF THE DUMP (.gsa) THAT YtalgafdokeoijaaProg.lean LOADS. Nothing in Lean hashes anything: it is a label: what it is worth is what the hold of that sum in a sandbox is worth. -/
noncomputable def Try.pinned : Pinned := { name := "ytalgafdokeoijaa", sum := "fb79858c21363c73a96cf35ae18e958584c54570d1183c1952f9b4d47141e0ac", checked := Try.checked }
namespace Rows
def none {H : Type} : Left H := { results := [], args := [] }

/-- 'portreevelaw10.OptsTells': WHATEVER THE INPUT: true; the input reads as it did. -/
def optsTellsSpec : ChangeSpec := { name := "optsTells", fn := fun _ => fun
  | [d] => { results := [.lit (.bool true)], args := [d] }
  | _ => none }
def optsTellsRow : OpenClaim := { program := "ytalgafdokeoijaa", sum := "fb79858c21363c73a96cf35ae18e958584c54570d1183c1952f9b4d47141e0ac", func := "portreeve/portreevelaw10.OptsTells", spec := "optsTells", unfollowed := true, recurses := true, apart := false }
def OptsTellsSaid : Prop := optsTellsRow.holds Try.pinned (OpenSpec.ofChange optsTellsSpec)

/-- ITS FALSE NEIGHBOUR: 'it returns false'. Refute it at one input. -/
def optsTellsWrong : ChangeSpec := { name := "optsTells", fn := fun _ => fun
  | [d] => { results := [.lit (.bool false)], args := [d] }
  | _ => none }
def OptsTellsWrongFalsely : Prop := optsTellsRow.holds Try.pinned (OpenSpec.ofChange optsTellsWrong)

/-- 'portreevelaw10.OptsBack': WHATEVER THE INPUT: true; the input reads as it did. -/
def optsBackSpec : ChangeSpec := { name := "optsBack", fn := fun _ => fun
  | [d1, d2, d3] => { results := [.lit (.bool true)], args := [d1, d2, d3] }
  | _ => none }
def optsBackRow : OpenClaim := { program := "ytalgafdokeoijaa", sum := "fb79858c21363c73a96cf35ae18e958584c54570d1183c1952f9b4d47141e0ac", func := "portreeve/portreevelaw10.OptsBack", spec := "optsBack", unfollowed := true, recurses := true, apart := false }
def OptsBackSaid : Prop := optsBackRow.holds Try.pinned (OpenSpec.ofChange optsBackSpec)

/-- ITS FALSE NEIGHBOUR: 'it returns false'. Refute it at one input. -/
def optsBackWrong : ChangeSpec := { name := "optsBack", fn := fun _ => fun
  | [d1, d2, d3] => { results := [.lit (.bool false)], args := [d1, d2, d3] }
  | _ => none }
def OptsBackWrongFalsely : Prop := optsBackRow.holds Try.pinned (OpenSpec.ofChange optsBackWrong)

/-- 'portreevelaw10.OptsJoined': WHATEVER THE INPUT: true; the input reads as it did. -/
def optsJoinedSpec : ChangeSpec := { name := "optsJoined", fn := fun _ => fun
  | [d1, d2] => { results := [.lit (.bool true)], args := [d1, d2] }
  | _ => none }
def optsJoinedRow : OpenClaim := { program := "ytalgafdokeoijaa", sum := "fb79858c21363c73a96cf35ae18e958584c54570d1183c1952f9b4d47141e0ac", func := "portreeve/portreevelaw10.OptsJoined", spec := "optsJoined", unfollowed := true, recurses := true, apart := false }
def OptsJoinedSaid : Prop := optsJoinedRow.holds Try.pinned (OpenSpec.ofChange optsJoinedSpec)

/-- ITS FALSE NEIGHBOUR: 'it returns false'. Refute it at one input. -/
def optsJoinedWrong : ChangeSpec := { name := "optsJoined", fn := fun _ => fun
  | [d1, d2] => { results := [.lit (.bool false)], args := [d1, d2] }
  | _ => none }
def OptsJoinedWrongFalsely : Prop := optsJoinedRow.holds Try.pinned (OpenSpec.ofChange optsJoinedWrong)

/-- 'portreevelaw10.OptsDrops': WHATEVER THE INPUT: true; the input reads as it did. -/
def optsDropsSpec : ChangeSpec := { name := "optsDrops", fn := fun _ => fun
  | [d] => { results := [.lit (.bool true)], args := [d] }
  | _ => none }
def optsDropsRow : OpenClaim := { program := "ytalgafdokeoijaa", sum := "fb79858c21363c73a96cf35ae18e958584c54570d1183c1952f9b4d47141e0ac", func := "portreeve/portreevelaw10.OptsDrops", spec := "optsDrops", unfollowed := true, recurses := true, apart := false }
def OptsDropsSaid : Prop := optsDropsRow.holds Try.pinned (OpenSpec.ofChange optsDropsSpec)

/-- ITS FALSE NEIGHBOUR: 'it returns false'. Refute it at one input. -/
def optsDropsWrong : ChangeSpec := { name := "optsDrops", fn := fun _ => fun
  | [d] => { results := [.lit (.bool false)], args := [d] }
  | _ => none }
def OptsDropsWrongFalsely : Prop := optsDropsRow.holds Try.pinned (OpenSpec.ofChange optsDropsWrong)

/-- 'portreevelaw10.OptsNumbers': WHATEVER THE INPUT: true; the input reads as it did. -/
def optsNumbersSpec : ChangeSpec := { name := "optsNumbers", fn := fun _ => fun
  | [d1, d2, d3] => { results := [.lit (.bool true)], args := [d1, d2, d3] }
  | _ => none }
def optsNumbersRow : OpenClaim := { program := "ytalgafdokeoijaa", sum := "fb79858c21363c73a96cf35ae18e958584c54570d1183c1952f9b4d47141e0ac", func := "portreeve/portreevelaw10.OptsNumbers", spec := "optsNumbers", unfollowed := true, recurses := true, apart := false }
def OptsNumbersSaid : Prop := optsNumbersRow.holds Try.pinned (OpenSpec.ofChange optsNumbersSpec)

/-- ITS FALSE NEIGHBOUR: 'it returns false'. Refute it at one input. -/
def optsNumbersWrong : ChangeSpec := { name := "optsNumbers", fn := fun _ => fun
  | [d1, d2, d3] => { results := [.lit (.bool false)], args := [d1, d2, d3] }
  | _ => none }
def OptsNumbersWrongFalsely : Prop := optsNumbersRow.holds Try.pinned (OpenSpec.ofChange optsNumbersWrong)

/- THE SECOND FORM. 'bulk': how many values and letters a reading holds, each counted each time it is reached (what is shared counts as often as it is met; a slice's spare places count too). A statement '..UptoSaid' is the law's where the arguments, and the package variables that the reading takes, are together of bulk at most 1048576: NARROWER than '..Said'. Prove '..Said' where nothing that the law and all that it calls make is longer than what came in: it says more and counts as full. Else prove '..UptoSaid'. A law counts once. -/
mutual
def uptoBulk {H : Type} : DataW H → Nat
  | .lit (.string bytes) => bytes.length + 1
  | .lit _ => 1
  | .nil => 1
  | .ptr d => uptoBulk d + 1
  | .slice elems spare => uptoBulkAll elems + uptoBulkAll spare + 1
  | .agg parts => uptoBulkAll parts + 1
  | .iface _ d => uptoBulk d + 1
  | .map entries => uptoBulkEntries entries + 1
  | .held _ => 1
def uptoBulkAll {H : Type} : List (DataW H) → Nat
  | [] => 0
  | d :: r => uptoBulk d + uptoBulkAll r
def uptoBulkEntries {H : Type} : List (Lit × DataW H) → Nat
  | [] => 0
  | x :: r => uptoBulkEntry x + uptoBulkEntries r
def uptoBulkEntry {H : Type} : Lit × DataW H → Nat
  | (.string bytes, d) => bytes.length + uptoBulk d + 1
  | (_, d) => uptoBulk d + 1
 end
def uptoSmall : (H : Type) → List (DataW H) → Bool := fun _ ds => decide (uptoBulkAll ds ≤ 1048576)
def OpenSpec.upto (s : _root_.Go.ChangeSpec) : _root_.Go.OpenSpec := { _root_.Go.OpenSpec.ofChange s with cond := some uptoSmall }

/-- 'portreevelaw10.OptsTells', WHERE WHAT IT READS IS OF BULK AT MOST 1048576: true; the input reads as it did. -/
def optsTellsUptoRow : OpenClaim := { program := "ytalgafdokeoijaa", sum := "fb79858c21363c73a96cf35ae18e958584c54570d1183c1952f9b4d47141e0ac", func := "portreeve/portreevelaw10.OptsTells", spec := "optsTells", unfollowed := true, recurses := true, apart := false, narrowed := true }
def OptsTellsUptoSaid : Prop := optsTellsUptoRow.holds Try.pinned (OpenSpec.upto optsTellsSpec)

/-- 'portreevelaw10.OptsBack', WHERE WHAT IT READS IS OF BULK AT MOST 1048576: true; the input reads as it did. -/
def optsBackUptoRow : OpenClaim := { program := "ytalgafdokeoijaa", sum := "fb79858c21363c73a96cf35ae18e958584c54570d1183c1952f9b4d47141e0ac", func := "portreeve/portreevelaw10.OptsBack", spec := "optsBack", unfollowed := true, recurses := true, apart := false, narrowed := true }
def OptsBackUptoSaid : Prop := optsBackUptoRow.holds Try.pinned (OpenSpec.upto optsBackSpec)

/-- 'portreevelaw10.OptsJoined', WHERE WHAT IT READS IS OF BULK AT MOST 1048576: true; the input reads as it did. -/
def optsJoinedUptoRow : OpenClaim := { program := "ytalgafdokeoijaa", sum := "fb79858c21363c73a96cf35ae18e958584c54570d1183c1952f9b4d47141e0ac", func := "portreeve/portreevelaw10.OptsJoined", spec := "optsJoined", unfollowed := true, recurses := true, apart := false, narrowed := true }
def OptsJoinedUptoSaid : Prop := optsJoinedUptoRow.holds Try.pinned (OpenSpec.upto optsJoinedSpec)

/-- 'portreevelaw10.OptsDrops', WHERE WHAT IT READS IS OF BULK AT MOST 1048576: true; the input reads as it did. -/
def optsDropsUptoRow : OpenClaim := { program := "ytalgafdokeoijaa", sum := "fb79858c21363c73a96cf35ae18e958584c54570d1183c1952f9b4d47141e0ac", func := "portreeve/portreevelaw10.OptsDrops", spec := "optsDrops", unfollowed := true, recurses := true, apart := false, narrowed := true }
def OptsDropsUptoSaid : Prop := optsDropsUptoRow.holds Try.pinned (OpenSpec.upto optsDropsSpec)

/-- 'portreevelaw10.OptsNumbers', WHERE WHAT IT READS IS OF BULK AT MOST 1048576: true; the input reads as it did. -/
def optsNumbersUptoRow : OpenClaim := { program := "ytalgafdokeoijaa", sum := "fb79858c21363c73a96cf35ae18e958584c54570d1183c1952f9b4d47141e0ac", func := "portreeve/portreevelaw10.OptsNumbers", spec := "optsNumbers", unfollowed := true, recurses := true, apart := false, narrowed := true }
def OptsNumbersUptoSaid : Prop := optsNumbersUptoRow.holds Try.pinned (OpenSpec.upto optsNumbersSpec)

end Rows
end Go.Proofs.Ytalgafdokeoijaa
