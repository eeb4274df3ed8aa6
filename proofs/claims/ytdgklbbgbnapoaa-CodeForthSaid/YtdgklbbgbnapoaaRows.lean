/-
  No cell of these rows narrows 'for every input' (looked for: loops, veiled, ifaces, maps, wideKeys, modest, calm, conditions, laid).
  DERIVED. THE GIVEN ROWS OF THIS SEAT. 7 by the template 'for every input the law returns true; each argument reads behind the call as it read before'; 0 by the template 'total and deterministic' (their statements: YtdgklbbgbnapoaaTotals.lean).
  GIVEN WITH THE SEED: the statements are not yours to turn. If you find one false, say at which input.
  Laid BY PROGRAM, IN A SANDBOX (cutbox-rows.mjs): the forced cells as the released guide's own fill.sh prints them over the translation af0b98ffc7bc3efd… (all of the seat's roots in one cut). By AI agents, Wed Nov 11 2026. No macro, syntax, notation, axiom, sorry.
-/
import Derived.Test.YtdgklbbgbnapoaaChecked
import GoSem.Claim
import GoSem.ClaimJoined
import GoSem.ClaimMapViews
import Derived.JoinedTies
import Derived.KernelRfl
namespace Go.Proofs.Ytdgklbbgbnapoaa
/- THE CELL 'sum', in the pinned program and in every row, IS THE sha256 OF THE DUMP (.gsa) THAT YtdgklbbgbnapoaaProg.lean LOADS. Nothing in Lean hashes anything: it is a label: what it is worth is what the hold of that sum in a sandbox is worth. -/
noncomputable def Try.pinned : Pinned := { name := "ytdgklbbgbnapoaa", sum := "af0b98ffc7bc3efde4c05d290fe3fcf9e551e383a88e259799a061939232c531", checked := Try.checked }
namespace Rows
def none {H : Type} : Left H := { results := [], args := [] }

/-- 'portreevelaw05.CodeRecords': WHATEVER THE INPUT: true; the input reads as it did. -/
def codeRecordsSpec : ChangeSpec := { name := "codeRecords", fn := fun _ => fun
  | [d] => { results := [.lit (.bool true)], args := [d] }
  | _ => none }
def codeRecordsRow : OpenClaim := { program := "ytdgklbbgbnapoaa", sum := "af0b98ffc7bc3efde4c05d290fe3fcf9e551e383a88e259799a061939232c531", func := "portreeve/portreevelaw05.CodeRecords", spec := "codeRecords", unfollowed := true, recurses := true, apart := false }
def CodeRecordsSaid : Prop := codeRecordsRow.holds Try.pinned (OpenSpec.ofChange codeRecordsSpec)

/-- ITS FALSE NEIGHBOUR: 'it returns false'. Refute it at one input. -/
def codeRecordsWrong : ChangeSpec := { name := "codeRecords", fn := fun _ => fun
  | [d] => { results := [.lit (.bool false)], args := [d] }
  | _ => none }
def CodeRecordsWrongFalsely : Prop := codeRecordsRow.holds Try.pinned (OpenSpec.ofChange codeRecordsWrong)

/-- 'portreevelaw05.CodeBooks': WHATEVER THE INPUT: true; the input reads as it did. -/
def codeBooksSpec : ChangeSpec := { name := "codeBooks", fn := fun _ => fun
  | [d1, d2, d3] => { results := [.lit (.bool true)], args := [d1, d2, d3] }
  | _ => none }
def codeBooksRow : OpenClaim := { program := "ytdgklbbgbnapoaa", sum := "af0b98ffc7bc3efde4c05d290fe3fcf9e551e383a88e259799a061939232c531", func := "portreeve/portreevelaw05.CodeBooks", spec := "codeBooks", unfollowed := true, recurses := true, apart := false }
def CodeBooksSaid : Prop := codeBooksRow.holds Try.pinned (OpenSpec.ofChange codeBooksSpec)

/-- ITS FALSE NEIGHBOUR: 'it returns false'. Refute it at one input. -/
def codeBooksWrong : ChangeSpec := { name := "codeBooks", fn := fun _ => fun
  | [d1, d2, d3] => { results := [.lit (.bool false)], args := [d1, d2, d3] }
  | _ => none }
def CodeBooksWrongFalsely : Prop := codeBooksRow.holds Try.pinned (OpenSpec.ofChange codeBooksWrong)

/-- 'portreevelaw05.CodeBack': WHATEVER THE INPUT: true; the input reads as it did. -/
def codeBackSpec : ChangeSpec := { name := "codeBack", fn := fun _ => fun
  | [d] => { results := [.lit (.bool true)], args := [d] }
  | _ => none }
def codeBackRow : OpenClaim := { program := "ytdgklbbgbnapoaa", sum := "af0b98ffc7bc3efde4c05d290fe3fcf9e551e383a88e259799a061939232c531", func := "portreeve/portreevelaw05.CodeBack", spec := "codeBack", unfollowed := true, recurses := true, apart := false }
def CodeBackSaid : Prop := codeBackRow.holds Try.pinned (OpenSpec.ofChange codeBackSpec)

/-- ITS FALSE NEIGHBOUR: 'it returns false'. Refute it at one input. -/
def codeBackWrong : ChangeSpec := { name := "codeBack", fn := fun _ => fun
  | [d] => { results := [.lit (.bool false)], args := [d] }
  | _ => none }
def CodeBackWrongFalsely : Prop := codeBackRow.holds Try.pinned (OpenSpec.ofChange codeBackWrong)

/-- 'portreevelaw05.CodeForth': WHATEVER THE INPUT: true; the input reads as it did. -/
def codeForthSpec : ChangeSpec := { name := "codeForth", fn := fun _ => fun
  | [d] => { results := [.lit (.bool true)], args := [d] }
  | _ => none }
def codeForthRow : OpenClaim := { program := "ytdgklbbgbnapoaa", sum := "af0b98ffc7bc3efde4c05d290fe3fcf9e551e383a88e259799a061939232c531", func := "portreeve/portreevelaw05.CodeForth", spec := "codeForth", unfollowed := true, recurses := true, apart := false }
def CodeForthSaid : Prop := codeForthRow.holds Try.pinned (OpenSpec.ofChange codeForthSpec)

/-- ITS FALSE NEIGHBOUR: 'it returns false'. Refute it at one input. -/
def codeForthWrong : ChangeSpec := { name := "codeForth", fn := fun _ => fun
  | [d] => { results := [.lit (.bool false)], args := [d] }
  | _ => none }
def CodeForthWrongFalsely : Prop := codeForthRow.holds Try.pinned (OpenSpec.ofChange codeForthWrong)

/-- 'portreevelaw05.CodeApart': WHATEVER THE INPUT: true; the input reads as it did. -/
def codeApartSpec : ChangeSpec := { name := "codeApart", fn := fun _ => fun
  | [d] => { results := [.lit (.bool true)], args := [d] }
  | _ => none }
def codeApartRow : OpenClaim := { program := "ytdgklbbgbnapoaa", sum := "af0b98ffc7bc3efde4c05d290fe3fcf9e551e383a88e259799a061939232c531", func := "portreeve/portreevelaw05.CodeApart", spec := "codeApart", unfollowed := true, recurses := true, apart := false }
def CodeApartSaid : Prop := codeApartRow.holds Try.pinned (OpenSpec.ofChange codeApartSpec)

/-- ITS FALSE NEIGHBOUR: 'it returns false'. Refute it at one input. -/
def codeApartWrong : ChangeSpec := { name := "codeApart", fn := fun _ => fun
  | [d] => { results := [.lit (.bool false)], args := [d] }
  | _ => none }
def CodeApartWrongFalsely : Prop := codeApartRow.holds Try.pinned (OpenSpec.ofChange codeApartWrong)

/-- 'portreevelaw05.CodeTail': WHATEVER THE INPUT: true; the input reads as it did. -/
def codeTailSpec : ChangeSpec := { name := "codeTail", fn := fun _ => fun
  | [d] => { results := [.lit (.bool true)], args := [d] }
  | _ => none }
def codeTailRow : OpenClaim := { program := "ytdgklbbgbnapoaa", sum := "af0b98ffc7bc3efde4c05d290fe3fcf9e551e383a88e259799a061939232c531", func := "portreeve/portreevelaw05.CodeTail", spec := "codeTail", unfollowed := true, recurses := true, apart := false }
def CodeTailSaid : Prop := codeTailRow.holds Try.pinned (OpenSpec.ofChange codeTailSpec)

/-- ITS FALSE NEIGHBOUR: 'it returns false'. Refute it at one input. -/
def codeTailWrong : ChangeSpec := { name := "codeTail", fn := fun _ => fun
  | [d] => { results := [.lit (.bool false)], args := [d] }
  | _ => none }
def CodeTailWrongFalsely : Prop := codeTailRow.holds Try.pinned (OpenSpec.ofChange codeTailWrong)

/-- 'portreevelaw05.CodeRight': WHATEVER THE INPUT: true; the input reads as it did. -/
def codeRightSpec : ChangeSpec := { name := "codeRight", fn := fun _ => fun
  | [d] => { results := [.lit (.bool true)], args := [d] }
  | _ => none }
def codeRightRow : OpenClaim := { program := "ytdgklbbgbnapoaa", sum := "af0b98ffc7bc3efde4c05d290fe3fcf9e551e383a88e259799a061939232c531", func := "portreeve/portreevelaw05.CodeRight", spec := "codeRight", unfollowed := true, recurses := true, apart := false }
def CodeRightSaid : Prop := codeRightRow.holds Try.pinned (OpenSpec.ofChange codeRightSpec)

/-- ITS FALSE NEIGHBOUR: 'it returns false'. Refute it at one input. -/
def codeRightWrong : ChangeSpec := { name := "codeRight", fn := fun _ => fun
  | [d] => { results := [.lit (.bool false)], args := [d] }
  | _ => none }
def CodeRightWrongFalsely : Prop := codeRightRow.holds Try.pinned (OpenSpec.ofChange codeRightWrong)

/- THE SECOND FORM. 'bulk': how many values and letters a reading holds, each counted each time it is reached (what is shared counts as often as it is met; a slice's spare places count too). A statement '..UptoSaid' is the law's where the arguments, and the package variables that the reading takes, are together of bulk at most 1048576: NARROWER than '..Said'. Prove '..Said' where nothing that the law and all that it calls make is longer than what came in: it says more and counts as full. Else prove '..UptoSaid'. A law counts once. -/
mutual
def uptoBulk {H : Type} : DataW H → Nat
  | .lit (.string bytes) => bytes.length + 1
  | .lit _ => 1
  | .nil => 1
  | .ptr d => uptoBulk d + 1
  | .slice elems spare => uptoBulkAll elems + uptoBulkAll spare + 1
  | .agg parts => uptoBulkAll parts + 1
  | .iface _ d => uptoBulk d + 1
  | .map entries => uptoBulkEntries entries + 1
  | .held _ => 1
def uptoBulkAll {H : Type} : List (DataW H) → Nat
  | [] => 0
  | d :: r => uptoBulk d + uptoBulkAll r
def uptoBulkEntries {H : Type} : List (Lit × DataW H) → Nat
  | [] => 0
  | x :: r => uptoBulkEntry x + uptoBulkEntries r
def uptoBulkEntry {H : Type} : Lit × DataW H → Nat
  | (.string bytes, d) => bytes.length + uptoBulk d + 1
  | (_, d) => uptoBulk d + 1
 end
def uptoSmall : (H : Type) → List (DataW H) → Bool := fun _ ds => decide (uptoBulkAll ds ≤ 1048576)
def OpenSpec.upto (s : _root_.Go.ChangeSpec) : _root_.Go.OpenSpec := { _root_.Go.OpenSpec.ofChange s with cond := some uptoSmall }

/-- 'portreevelaw05.CodeRecords', WHERE WHAT IT READS IS OF BULK AT MOST 1048576: true; the input reads as it did. -/
def codeRecordsUptoRow : OpenClaim := { program := "ytdgklbbgbnapoaa", sum := "af0b98ffc7bc3efde4c05d290fe3fcf9e551e383a88e259799a061939232c531", func := "portreeve/portreevelaw05.CodeRecords", spec := "codeRecords", unfollowed := true, recurses := true, apart := false, narrowed := true }
def CodeRecordsUptoSaid : Prop := codeRecordsUptoRow.holds Try.pinned (OpenSpec.upto codeRecordsSpec)

/-- 'portreevelaw05.CodeBooks', WHERE WHAT IT READS IS OF BULK AT MOST 1048576: true; the input reads as it did. -/
def codeBooksUptoRow : OpenClaim := { program := "ytdgklbbgbnapoaa", sum := "af0b98ffc7bc3efde4c05d290fe3fcf9e551e383a88e259799a061939232c531", func := "portreeve/portreevelaw05.CodeBooks", spec := "codeBooks", unfollowed := true, recurses := true, apart := false, narrowed := true }
def CodeBooksUptoSaid : Prop := codeBooksUptoRow.holds Try.pinned (OpenSpec.upto codeBooksSpec)

/-- 'portreevelaw05.CodeBack', WHERE WHAT IT READS IS OF BULK AT MOST 1048576: true; the input reads as it did. -/
def codeBackUptoRow : OpenClaim := { program := "ytdgklbbgbnapoaa", sum := "af0b98ffc7bc3efde4c05d290fe3fcf9e551e383a88e259799a061939232c531", func := "portreeve/portreevelaw05.CodeBack", spec := "codeBack", unfollowed := true, recurses := true, apart := false, narrowed := true }
def CodeBackUptoSaid : Prop := codeBackUptoRow.holds Try.pinned (OpenSpec.upto codeBackSpec)

/-- 'portreevelaw05.CodeForth', WHERE WHAT IT READS IS OF BULK AT MOST 1048576: true; the input reads as it did. -/
def codeForthUptoRow : OpenClaim := { program := "ytdgklbbgbnapoaa", sum := "af0b98ffc7bc3efde4c05d290fe3fcf9e551e383a88e259799a061939232c531", func := "portreeve/portreevelaw05.CodeForth", spec := "codeForth", unfollowed := true, recurses := true, apart := false, narrowed := true }
def CodeForthUptoSaid : Prop := codeForthUptoRow.holds Try.pinned (OpenSpec.upto codeForthSpec)

/-- 'portreevelaw05.CodeApart', WHERE WHAT IT READS IS OF BULK AT MOST 1048576: true; the input reads as it did. -/
def codeApartUptoRow : OpenClaim := { program := "ytdgklbbgbnapoaa", sum := "af0b98ffc7bc3efde4c05d290fe3fcf9e551e383a88e259799a061939232c531", func := "portreeve/portreevelaw05.CodeApart", spec := "codeApart", unfollowed := true, recurses := true, apart := false, narrowed := true }
def CodeApartUptoSaid : Prop := codeApartUptoRow.holds Try.pinned (OpenSpec.upto codeApartSpec)

/-- 'portreevelaw05.CodeTail', WHERE WHAT IT READS IS OF BULK AT MOST 1048576: true; the input reads as it did. -/
def codeTailUptoRow : OpenClaim := { program := "ytdgklbbgbnapoaa", sum := "af0b98ffc7bc3efde4c05d290fe3fcf9e551e383a88e259799a061939232c531", func := "portreeve/portreevelaw05.CodeTail", spec := "codeTail", unfollowed := true, recurses := true, apart := false, narrowed := true }
def CodeTailUptoSaid : Prop := codeTailUptoRow.holds Try.pinned (OpenSpec.upto codeTailSpec)

/-- 'portreevelaw05.CodeRight', WHERE WHAT IT READS IS OF BULK AT MOST 1048576: true; the input reads as it did. -/
def codeRightUptoRow : OpenClaim := { program := "ytdgklbbgbnapoaa", sum := "af0b98ffc7bc3efde4c05d290fe3fcf9e551e383a88e259799a061939232c531", func := "portreeve/portreevelaw05.CodeRight", spec := "codeRight", unfollowed := true, recurses := true, apart := false, narrowed := true }
def CodeRightUptoSaid : Prop := codeRightUptoRow.holds Try.pinned (OpenSpec.upto codeRightSpec)

end Rows
end Go.Proofs.Ytdgklbbgbnapoaa
