/-
  No cell of these rows narrows 'for every input' (looked for: loops, veiled, ifaces, maps, wideKeys, modest, calm, conditions, laid).
  DERIVED. THE GIVEN ROWS OF THIS SEAT. 7 by the template 'for every input the law returns true; each argument reads behind the call as it read before'; 0 by the template 'total and deterministic' (their statements: YtjkpeebajibgiaaGreatTotals.lean).
  GIVEN WITH THE SEED: the statements are not yours to turn. If you find one false, say at which input.
  Laid BY PROGRAM, IN A SANDBOX (cutbox-rows.mjs): the forced cells as the released guide's own fill.sh prints them over the translation 0f96720be0367d5f… (all of the seat's roots in one cut). By AI agents, Wed Nov 11 2026. No macro, syntax, notation, axiom, sorry.
-/
import Derived.Test.YtjkpeebajibgiaaGreatChecked
import GoSem.Claim
import GoSem.ClaimJoined
import GoSem.ClaimMapViews
import Derived.JoinedTies
import Derived.KernelRfl
namespace Go.Proofs.YtjkpeebajibgiaaGreat
/- THE CELL 'sum', in the pinned program and in every row, IS THE sha256 OF THE DUMP (.gsa) THAT YtjkpeebajibgiaaGreatProg.lean LOADS. Nothing in Lean hashes anything: it is a label: what it is worth is what the hold of that sum in a sandbox is worth. -/
noncomputable def Tryz.pinned : Pinned := { name := "ytjkpeebajibgiaagreat", sum := "0f96720be0367d5fb05cd07c06bc83d7343b8812d2c3365701cef9da006708a0", checked := Tryz.checked }
namespace Rows
def none {H : Type} : Left H := { results := [], args := [] }

/-- 'portreevelaw06.StoreDoes': WHATEVER THE INPUT: true; the input reads as it did. -/
def storeDoesSpec : ChangeSpec := { name := "storeDoes", fn := fun _ => fun
  | [d1, d2] => { results := [.lit (.bool true)], args := [d1, d2] }
  | _ => none }
def storeDoesRow : OpenClaim := { program := "ytjkpeebajibgiaagreat", sum := "0f96720be0367d5fb05cd07c06bc83d7343b8812d2c3365701cef9da006708a0", func := "portreeve/portreevelaw06.StoreDoes", spec := "storeDoes", unfollowed := true, recurses := true, apart := false }
def StoreDoesSaid : Prop := storeDoesRow.holds Tryz.pinned (OpenSpec.ofChange storeDoesSpec)

/-- ITS FALSE NEIGHBOUR: 'it returns false'. Refute it at one input. -/
def storeDoesWrong : ChangeSpec := { name := "storeDoes", fn := fun _ => fun
  | [d1, d2] => { results := [.lit (.bool false)], args := [d1, d2] }
  | _ => none }
def StoreDoesWrongFalsely : Prop := storeDoesRow.holds Tryz.pinned (OpenSpec.ofChange storeDoesWrong)

/-- 'portreevelaw06.StoreFinds': WHATEVER THE INPUT: true; the input reads as it did. -/
def storeFindsSpec : ChangeSpec := { name := "storeFinds", fn := fun _ => fun
  | [d] => { results := [.lit (.bool true)], args := [d] }
  | _ => none }
def storeFindsRow : OpenClaim := { program := "ytjkpeebajibgiaagreat", sum := "0f96720be0367d5fb05cd07c06bc83d7343b8812d2c3365701cef9da006708a0", func := "portreeve/portreevelaw06.StoreFinds", spec := "storeFinds", unfollowed := true, recurses := true, apart := false }
def StoreFindsSaid : Prop := storeFindsRow.holds Tryz.pinned (OpenSpec.ofChange storeFindsSpec)

/-- ITS FALSE NEIGHBOUR: 'it returns false'. Refute it at one input. -/
def storeFindsWrong : ChangeSpec := { name := "storeFinds", fn := fun _ => fun
  | [d] => { results := [.lit (.bool false)], args := [d] }
  | _ => none }
def StoreFindsWrongFalsely : Prop := storeFindsRow.holds Tryz.pinned (OpenSpec.ofChange storeFindsWrong)

/-- 'portreevelaw06.StoreCrash': WHATEVER THE INPUT: true; the input reads as it did. -/
def storeCrashSpec : ChangeSpec := { name := "storeCrash", fn := fun _ => fun
  | [d1, d2, d3] => { results := [.lit (.bool true)], args := [d1, d2, d3] }
  | _ => none }
def storeCrashRow : OpenClaim := { program := "ytjkpeebajibgiaagreat", sum := "0f96720be0367d5fb05cd07c06bc83d7343b8812d2c3365701cef9da006708a0", func := "portreeve/portreevelaw06.StoreCrash", spec := "storeCrash", unfollowed := true, recurses := true, apart := false }
def StoreCrashSaid : Prop := storeCrashRow.holds Tryz.pinned (OpenSpec.ofChange storeCrashSpec)

/-- ITS FALSE NEIGHBOUR: 'it returns false'. Refute it at one input. -/
def storeCrashWrong : ChangeSpec := { name := "storeCrash", fn := fun _ => fun
  | [d1, d2, d3] => { results := [.lit (.bool false)], args := [d1, d2, d3] }
  | _ => none }
def StoreCrashWrongFalsely : Prop := storeCrashRow.holds Tryz.pinned (OpenSpec.ofChange storeCrashWrong)

/-- 'portreevelaw06.StoreAgain': WHATEVER THE INPUT: true; the input reads as it did. -/
def storeAgainSpec : ChangeSpec := { name := "storeAgain", fn := fun _ => fun
  | [d] => { results := [.lit (.bool true)], args := [d] }
  | _ => none }
def storeAgainRow : OpenClaim := { program := "ytjkpeebajibgiaagreat", sum := "0f96720be0367d5fb05cd07c06bc83d7343b8812d2c3365701cef9da006708a0", func := "portreeve/portreevelaw06.StoreAgain", spec := "storeAgain", unfollowed := true, recurses := true, apart := false }
def StoreAgainSaid : Prop := storeAgainRow.holds Tryz.pinned (OpenSpec.ofChange storeAgainSpec)

/-- ITS FALSE NEIGHBOUR: 'it returns false'. Refute it at one input. -/
def storeAgainWrong : ChangeSpec := { name := "storeAgain", fn := fun _ => fun
  | [d] => { results := [.lit (.bool false)], args := [d] }
  | _ => none }
def StoreAgainWrongFalsely : Prop := storeAgainRow.holds Tryz.pinned (OpenSpec.ofChange storeAgainWrong)

/-- 'portreevelaw06.StoreSafe': WHATEVER THE INPUT: true; the input reads as it did. -/
def storeSafeSpec : ChangeSpec := { name := "storeSafe", fn := fun _ => fun
  | [d1, d2] => { results := [.lit (.bool true)], args := [d1, d2] }
  | _ => none }
def storeSafeRow : OpenClaim := { program := "ytjkpeebajibgiaagreat", sum := "0f96720be0367d5fb05cd07c06bc83d7343b8812d2c3365701cef9da006708a0", func := "portreeve/portreevelaw06.StoreSafe", spec := "storeSafe", unfollowed := true, recurses := true, apart := false }
def StoreSafeSaid : Prop := storeSafeRow.holds Tryz.pinned (OpenSpec.ofChange storeSafeSpec)

/-- ITS FALSE NEIGHBOUR: 'it returns false'. Refute it at one input. -/
def storeSafeWrong : ChangeSpec := { name := "storeSafe", fn := fun _ => fun
  | [d1, d2] => { results := [.lit (.bool false)], args := [d1, d2] }
  | _ => none }
def StoreSafeWrongFalsely : Prop := storeSafeRow.holds Tryz.pinned (OpenSpec.ofChange storeSafeWrong)

/-- 'portreevelaw06.StoreMidst': WHATEVER THE INPUT: true; the input reads as it did. -/
def storeMidstSpec : ChangeSpec := { name := "storeMidst", fn := fun _ => fun
  | [d1, d2, d3] => { results := [.lit (.bool true)], args := [d1, d2, d3] }
  | _ => none }
def storeMidstRow : OpenClaim := { program := "ytjkpeebajibgiaagreat", sum := "0f96720be0367d5fb05cd07c06bc83d7343b8812d2c3365701cef9da006708a0", func := "portreeve/portreevelaw06.StoreMidst", spec := "storeMidst", unfollowed := true, recurses := true, apart := false }
def StoreMidstSaid : Prop := storeMidstRow.holds Tryz.pinned (OpenSpec.ofChange storeMidstSpec)

/-- ITS FALSE NEIGHBOUR: 'it returns false'. Refute it at one input. -/
def storeMidstWrong : ChangeSpec := { name := "storeMidst", fn := fun _ => fun
  | [d1, d2, d3] => { results := [.lit (.bool false)], args := [d1, d2, d3] }
  | _ => none }
def StoreMidstWrongFalsely : Prop := storeMidstRow.holds Tryz.pinned (OpenSpec.ofChange storeMidstWrong)

/-- 'portreevelaw06.StoreGens': WHATEVER THE INPUT: true; the input reads as it did. -/
def storeGensSpec : ChangeSpec := { name := "storeGens", fn := fun _ => fun
  | [d1, d2] => { results := [.lit (.bool true)], args := [d1, d2] }
  | _ => none }
def storeGensRow : OpenClaim := { program := "ytjkpeebajibgiaagreat", sum := "0f96720be0367d5fb05cd07c06bc83d7343b8812d2c3365701cef9da006708a0", func := "portreeve/portreevelaw06.StoreGens", spec := "storeGens", unfollowed := true, recurses := true, apart := false }
def StoreGensSaid : Prop := storeGensRow.holds Tryz.pinned (OpenSpec.ofChange storeGensSpec)

/-- ITS FALSE NEIGHBOUR: 'it returns false'. Refute it at one input. -/
def storeGensWrong : ChangeSpec := { name := "storeGens", fn := fun _ => fun
  | [d1, d2] => { results := [.lit (.bool false)], args := [d1, d2] }
  | _ => none }
def StoreGensWrongFalsely : Prop := storeGensRow.holds Tryz.pinned (OpenSpec.ofChange storeGensWrong)

/- THE SECOND FORM. 'bulk': how many values and letters a reading holds, each counted each time it is reached (what is shared counts as often as it is met; a slice's spare places count too). A statement '..UptoSaid' is the law's where the arguments, and the package variables that the reading takes, are together of bulk at most 1048576: NARROWER than '..Said'. Prove '..Said' where nothing that the law and all that it calls make is longer than what came in: it says more and counts as full. Else prove '..UptoSaid'. A law counts once. -/
mutual
def uptoBulk {H : Type} : DataW H → Nat
  | .lit (.string bytes) => bytes.length + 1
  | .lit _ => 1
  | .nil => 1
  | .ptr d => uptoBulk d + 1
  | .slice elems spare => uptoBulkAll elems + uptoBulkAll spare + 1
  | .agg parts => uptoBulkAll parts + 1
  | .iface _ d => uptoBulk d + 1
  | .map entries => uptoBulkEntries entries + 1
  | .held _ => 1
def uptoBulkAll {H : Type} : List (DataW H) → Nat
  | [] => 0
  | d :: r => uptoBulk d + uptoBulkAll r
def uptoBulkEntries {H : Type} : List (Lit × DataW H) → Nat
  | [] => 0
  | x :: r => uptoBulkEntry x + uptoBulkEntries r
def uptoBulkEntry {H : Type} : Lit × DataW H → Nat
  | (.string bytes, d) => bytes.length + uptoBulk d + 1
  | (_, d) => uptoBulk d + 1
 end
def uptoSmall : (H : Type) → List (DataW H) → Bool := fun _ ds => decide (uptoBulkAll ds ≤ 1048576)
def OpenSpec.upto (s : _root_.Go.ChangeSpec) : _root_.Go.OpenSpec := { _root_.Go.OpenSpec.ofChange s with cond := some uptoSmall }

/-- 'portreevelaw06.StoreDoes', WHERE WHAT IT READS IS OF BULK AT MOST 1048576: true; the input reads as it did. -/
def storeDoesUptoRow : OpenClaim := { program := "ytjkpeebajibgiaagreat", sum := "0f96720be0367d5fb05cd07c06bc83d7343b8812d2c3365701cef9da006708a0", func := "portreeve/portreevelaw06.StoreDoes", spec := "storeDoes", unfollowed := true, recurses := true, apart := false, narrowed := true }
def StoreDoesUptoSaid : Prop := storeDoesUptoRow.holds Tryz.pinned (OpenSpec.upto storeDoesSpec)

/-- 'portreevelaw06.StoreFinds', WHERE WHAT IT READS IS OF BULK AT MOST 1048576: true; the input reads as it did. -/
def storeFindsUptoRow : OpenClaim := { program := "ytjkpeebajibgiaagreat", sum := "0f96720be0367d5fb05cd07c06bc83d7343b8812d2c3365701cef9da006708a0", func := "portreeve/portreevelaw06.StoreFinds", spec := "storeFinds", unfollowed := true, recurses := true, apart := false, narrowed := true }
def StoreFindsUptoSaid : Prop := storeFindsUptoRow.holds Tryz.pinned (OpenSpec.upto storeFindsSpec)

/-- 'portreevelaw06.StoreCrash', WHERE WHAT IT READS IS OF BULK AT MOST 1048576: true; the input reads as it did. -/
def storeCrashUptoRow : OpenClaim := { program := "ytjkpeebajibgiaagreat", sum := "0f96720be0367d5fb05cd07c06bc83d7343b8812d2c3365701cef9da006708a0", func := "portreeve/portreevelaw06.StoreCrash", spec := "storeCrash", unfollowed := true, recurses := true, apart := false, narrowed := true }
def StoreCrashUptoSaid : Prop := storeCrashUptoRow.holds Tryz.pinned (OpenSpec.upto storeCrashSpec)

/-- 'portreevelaw06.StoreAgain', WHERE WHAT IT READS IS OF BULK AT MOST 1048576: true; the input reads as it did. -/
def storeAgainUptoRow : OpenClaim := { program := "ytjkpeebajibgiaagreat", sum := "0f96720be0367d5fb05cd07c06bc83d7343b8812d2c3365701cef9da006708a0", func := "portreeve/portreevelaw06.StoreAgain", spec := "storeAgain", unfollowed := true, recurses := true, apart := false, narrowed := true }
def StoreAgainUptoSaid : Prop := storeAgainUptoRow.holds Tryz.pinned (OpenSpec.upto storeAgainSpec)

/-- 'portreevelaw06.StoreSafe', WHERE WHAT IT READS IS OF BULK AT MOST 1048576: true; the input reads as it did. -/
def storeSafeUptoRow : OpenClaim := { program := "ytjkpeebajibgiaagreat", sum := "0f96720be0367d5fb05cd07c06bc83d7343b8812d2c3365701cef9da006708a0", func := "portreeve/portreevelaw06.StoreSafe", spec := "storeSafe", unfollowed := true, recurses := true, apart := false, narrowed := true }
def StoreSafeUptoSaid : Prop := storeSafeUptoRow.holds Tryz.pinned (OpenSpec.upto storeSafeSpec)

/-- 'portreevelaw06.StoreMidst', WHERE WHAT IT READS IS OF BULK AT MOST 1048576: true; the input reads as it did. -/
def storeMidstUptoRow : OpenClaim := { program := "ytjkpeebajibgiaagreat", sum := "0f96720be0367d5fb05cd07c06bc83d7343b8812d2c3365701cef9da006708a0", func := "portreeve/portreevelaw06.StoreMidst", spec := "storeMidst", unfollowed := true, recurses := true, apart := false, narrowed := true }
def StoreMidstUptoSaid : Prop := storeMidstUptoRow.holds Tryz.pinned (OpenSpec.upto storeMidstSpec)

/-- 'portreevelaw06.StoreGens', WHERE WHAT IT READS IS OF BULK AT MOST 1048576: true; the input reads as it did. -/
def storeGensUptoRow : OpenClaim := { program := "ytjkpeebajibgiaagreat", sum := "0f96720be0367d5fb05cd07c06bc83d7343b8812d2c3365701cef9da006708a0", func := "portreeve/portreevelaw06.StoreGens", spec := "storeGens", unfollowed := true, recurses := true, apart := false, narrowed := true }
def StoreGensUptoSaid : Prop := storeGensUptoRow.holds Tryz.pinned (OpenSpec.upto storeGensSpec)

end Rows
end Go.Proofs.YtjkpeebajibgiaaGreat
