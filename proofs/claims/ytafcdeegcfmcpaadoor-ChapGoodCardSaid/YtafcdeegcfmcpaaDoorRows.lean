/-
  NARROWER THAN 'FOR EVERY INPUT', by the rows' own cells (each row's printed sentence says how): ChapProves: laid · ChapEnds: laid · ChapRead: laid · ChapOnce: laid · ChapUsers: laid · ChapGood: laid.
  DERIVED. THE GIVEN ROWS OF THIS SEAT. 6 by the template 'for every input the law returns true; each argument reads behind the call as it read before'; 0 by the template 'total and deterministic' (their statements: YtafcdeegcfmcpaaDoorTotals.lean).
  GIVEN WITH THE SEED: the statements are not yours to turn. If you find one false, say at which input.
  Laid BY PROGRAM, IN A SANDBOX (cutbox-rows.mjs): the forced cells as the released guide's own fill.sh prints them over the translation 6a4f66053d631886… (all of the seat's roots in one cut). By AI agents, Wed Nov 11 2026. No macro, syntax, notation, axiom, sorry.
-/
import Derived.Test.YtafcdeegcfmcpaaDoorChecked
import GoSem.Claim
import GoSem.ClaimJoined
import GoSem.ClaimMapViews
import Derived.JoinedTies
import Derived.KernelRfl
namespace Go.Proofs.YtafcdeegcfmcpaaDoor
/- THE CELL 'sum', in the pinned program and in every row, IS THE sha256 OF THE DUMP (.gsa) THAT YtafcdeegcfmcpaaDoorProg.lean LOADS. Nothing in Lean hashes anything: it is a label: what it is worth is what the hold of that sum in a sandbox is worth. -/
noncomputable def Tryd.pinned : Pinned := { name := "ytafcdeegcfmcpaadoor", sum := "6a4f66053d6318863dc0d1b08f64148f649ce3dde412ad3c800c1ae754a547c3", checked := Tryd.checked }
namespace Rows
def none {H : Type} : Left H := { results := [], args := [] }

/- WHAT THE LISTED PACKAGE-LEVEL VARIABLES READ AS WHEN THE CALL BEGINS. Each datum BY PROGRAM (the guide's laid-datum.mjs) off the statement by which the dump's own 'gosem.cut.vars' lays the variable. In a bare row this is a premise. The card (YtafcdeegcfmcpaaDoorCards.lean) ties it to the program's text. -/
def laid_portreeve_md5_turns {H : Type} : DataW H := .agg [.agg [.lit (.int .i64 7), .lit (.int .i64 12), .lit (.int .i64 17), .lit (.int .i64 22)], .agg [.lit (.int .i64 5), .lit (.int .i64 9), .lit (.int .i64 14), .lit (.int .i64 20)], .agg [.lit (.int .i64 4), .lit (.int .i64 11), .lit (.int .i64 16), .lit (.int .i64 23)], .agg [.lit (.int .i64 6), .lit (.int .i64 10), .lit (.int .i64 15), .lit (.int .i64 21)]]
def laid_portreeve_md5_words {H : Type} : DataW H := .agg [.lit (.int .u32 3614090360), .lit (.int .u32 3905402710), .lit (.int .u32 606105819), .lit (.int .u32 3250441966), .lit (.int .u32 4118548399), .lit (.int .u32 1200080426), .lit (.int .u32 2821735955), .lit (.int .u32 4249261313), .lit (.int .u32 1770035416), .lit (.int .u32 2336552879), .lit (.int .u32 4294925233), .lit (.int .u32 2304563134), .lit (.int .u32 1804603682), .lit (.int .u32 4254626195), .lit (.int .u32 2792965006), .lit (.int .u32 1236535329), .lit (.int .u32 4129170786), .lit (.int .u32 3225465664), .lit (.int .u32 643717713), .lit (.int .u32 3921069994), .lit (.int .u32 3593408605), .lit (.int .u32 38016083), .lit (.int .u32 3634488961), .lit (.int .u32 3889429448), .lit (.int .u32 568446438), .lit (.int .u32 3275163606), .lit (.int .u32 4107603335), .lit (.int .u32 1163531501), .lit (.int .u32 2850285829), .lit (.int .u32 4243563512), .lit (.int .u32 1735328473), .lit (.int .u32 2368359562), .lit (.int .u32 4294588738), .lit (.int .u32 2272392833), .lit (.int .u32 1839030562), .lit (.int .u32 4259657740), .lit (.int .u32 2763975236), .lit (.int .u32 1272893353), .lit (.int .u32 4139469664), .lit (.int .u32 3200236656), .lit (.int .u32 681279174), .lit (.int .u32 3936430074), .lit (.int .u32 3572445317), .lit (.int .u32 76029189), .lit (.int .u32 3654602809), .lit (.int .u32 3873151461), .lit (.int .u32 530742520), .lit (.int .u32 3299628645), .lit (.int .u32 4096336452), .lit (.int .u32 1126891415), .lit (.int .u32 2878612391), .lit (.int .u32 4237533241), .lit (.int .u32 1700485571), .lit (.int .u32 2399980690), .lit (.int .u32 4293915773), .lit (.int .u32 2240044497), .lit (.int .u32 1873313359), .lit (.int .u32 4264355552), .lit (.int .u32 2734768916), .lit (.int .u32 1309151649), .lit (.int .u32 4149444226), .lit (.int .u32 3174756917), .lit (.int .u32 718787259), .lit (.int .u32 3951481745)]

/-- 'portreevelaw15.ChapProves': WHATEVER THE INPUT: true; the input reads as it did. -/
def chapProvesSpec : ChangeSpec := { name := "chapProves", fn := fun _ => fun
  | [d1, d2, d3] => { results := [.lit (.bool true)], args := [d1, d2, d3] }
  | _ => none }
def chapProvesRow : OpenClaim := { program := "ytafcdeegcfmcpaadoor", sum := "6a4f66053d6318863dc0d1b08f64148f649ce3dde412ad3c800c1ae754a547c3", func := "portreeve/portreevelaw15.ChapProves", spec := "chapProves", unfollowed := true, recurses := true, named := ["portreeve/md5.words", "portreeve/md5.turns"], apart := false, laid := [("portreeve/md5.turns", laid_portreeve_md5_turns), ("portreeve/md5.words", laid_portreeve_md5_words)] }
def ChapProvesSaid : Prop := chapProvesRow.holds Tryd.pinned (OpenSpec.ofChange chapProvesSpec)

/-- ITS FALSE NEIGHBOUR: 'it returns false'. Refute it at one input. -/
def chapProvesWrong : ChangeSpec := { name := "chapProves", fn := fun _ => fun
  | [d1, d2, d3] => { results := [.lit (.bool false)], args := [d1, d2, d3] }
  | _ => none }
def ChapProvesWrongFalsely : Prop := chapProvesRow.holds Tryd.pinned (OpenSpec.ofChange chapProvesWrong)

/-- 'portreevelaw15.ChapEnds': WHATEVER THE INPUT: true; the input reads as it did. -/
def chapEndsSpec : ChangeSpec := { name := "chapEnds", fn := fun _ => fun
  | [d1, d2, d3] => { results := [.lit (.bool true)], args := [d1, d2, d3] }
  | _ => none }
def chapEndsRow : OpenClaim := { program := "ytafcdeegcfmcpaadoor", sum := "6a4f66053d6318863dc0d1b08f64148f649ce3dde412ad3c800c1ae754a547c3", func := "portreeve/portreevelaw15.ChapEnds", spec := "chapEnds", unfollowed := true, recurses := true, named := ["portreeve/md5.words", "portreeve/md5.turns"], apart := false, laid := [("portreeve/md5.turns", laid_portreeve_md5_turns), ("portreeve/md5.words", laid_portreeve_md5_words)] }
def ChapEndsSaid : Prop := chapEndsRow.holds Tryd.pinned (OpenSpec.ofChange chapEndsSpec)

/-- ITS FALSE NEIGHBOUR: 'it returns false'. Refute it at one input. -/
def chapEndsWrong : ChangeSpec := { name := "chapEnds", fn := fun _ => fun
  | [d1, d2, d3] => { results := [.lit (.bool false)], args := [d1, d2, d3] }
  | _ => none }
def ChapEndsWrongFalsely : Prop := chapEndsRow.holds Tryd.pinned (OpenSpec.ofChange chapEndsWrong)

/-- 'portreevelaw15.ChapRead': WHATEVER THE INPUT: true; the input reads as it did. -/
def chapReadSpec : ChangeSpec := { name := "chapRead", fn := fun _ => fun
  | [d] => { results := [.lit (.bool true)], args := [d] }
  | _ => none }
def chapReadRow : OpenClaim := { program := "ytafcdeegcfmcpaadoor", sum := "6a4f66053d6318863dc0d1b08f64148f649ce3dde412ad3c800c1ae754a547c3", func := "portreeve/portreevelaw15.ChapRead", spec := "chapRead", unfollowed := true, recurses := true, named := ["portreeve/md5.words", "portreeve/md5.turns"], apart := false, laid := [("portreeve/md5.turns", laid_portreeve_md5_turns), ("portreeve/md5.words", laid_portreeve_md5_words)] }
def ChapReadSaid : Prop := chapReadRow.holds Tryd.pinned (OpenSpec.ofChange chapReadSpec)

/-- ITS FALSE NEIGHBOUR: 'it returns false'. Refute it at one input. -/
def chapReadWrong : ChangeSpec := { name := "chapRead", fn := fun _ => fun
  | [d] => { results := [.lit (.bool false)], args := [d] }
  | _ => none }
def ChapReadWrongFalsely : Prop := chapReadRow.holds Tryd.pinned (OpenSpec.ofChange chapReadWrong)

/-- 'portreevelaw15.ChapOnce': WHATEVER THE INPUT: true; the input reads as it did. -/
def chapOnceSpec : ChangeSpec := { name := "chapOnce", fn := fun _ => fun
  | [d] => { results := [.lit (.bool true)], args := [d] }
  | _ => none }
def chapOnceRow : OpenClaim := { program := "ytafcdeegcfmcpaadoor", sum := "6a4f66053d6318863dc0d1b08f64148f649ce3dde412ad3c800c1ae754a547c3", func := "portreeve/portreevelaw15.ChapOnce", spec := "chapOnce", unfollowed := true, recurses := true, named := ["portreeve/md5.words", "portreeve/md5.turns"], apart := false, laid := [("portreeve/md5.turns", laid_portreeve_md5_turns), ("portreeve/md5.words", laid_portreeve_md5_words)] }
def ChapOnceSaid : Prop := chapOnceRow.holds Tryd.pinned (OpenSpec.ofChange chapOnceSpec)

/-- ITS FALSE NEIGHBOUR: 'it returns false'. Refute it at one input. -/
def chapOnceWrong : ChangeSpec := { name := "chapOnce", fn := fun _ => fun
  | [d] => { results := [.lit (.bool false)], args := [d] }
  | _ => none }
def ChapOnceWrongFalsely : Prop := chapOnceRow.holds Tryd.pinned (OpenSpec.ofChange chapOnceWrong)

/-- 'portreevelaw15.ChapUsers': WHATEVER THE INPUT: true; the input reads as it did. -/
def chapUsersSpec : ChangeSpec := { name := "chapUsers", fn := fun _ => fun
  | [d1, d2, d3] => { results := [.lit (.bool true)], args := [d1, d2, d3] }
  | _ => none }
def chapUsersRow : OpenClaim := { program := "ytafcdeegcfmcpaadoor", sum := "6a4f66053d6318863dc0d1b08f64148f649ce3dde412ad3c800c1ae754a547c3", func := "portreeve/portreevelaw15.ChapUsers", spec := "chapUsers", unfollowed := true, recurses := true, named := ["portreeve/md5.words", "portreeve/md5.turns"], apart := false, laid := [("portreeve/md5.turns", laid_portreeve_md5_turns), ("portreeve/md5.words", laid_portreeve_md5_words)] }
def ChapUsersSaid : Prop := chapUsersRow.holds Tryd.pinned (OpenSpec.ofChange chapUsersSpec)

/-- ITS FALSE NEIGHBOUR: 'it returns false'. Refute it at one input. -/
def chapUsersWrong : ChangeSpec := { name := "chapUsers", fn := fun _ => fun
  | [d1, d2, d3] => { results := [.lit (.bool false)], args := [d1, d2, d3] }
  | _ => none }
def ChapUsersWrongFalsely : Prop := chapUsersRow.holds Tryd.pinned (OpenSpec.ofChange chapUsersWrong)

/-- 'portreevelaw15.ChapGood': WHATEVER THE INPUT: true; the input reads as it did. -/
def chapGoodSpec : ChangeSpec := { name := "chapGood", fn := fun _ => fun
  | [d1, d2, d3] => { results := [.lit (.bool true)], args := [d1, d2, d3] }
  | _ => none }
def chapGoodRow : OpenClaim := { program := "ytafcdeegcfmcpaadoor", sum := "6a4f66053d6318863dc0d1b08f64148f649ce3dde412ad3c800c1ae754a547c3", func := "portreeve/portreevelaw15.ChapGood", spec := "chapGood", unfollowed := true, recurses := true, named := ["portreeve/md5.words", "portreeve/md5.turns"], apart := false, laid := [("portreeve/md5.turns", laid_portreeve_md5_turns), ("portreeve/md5.words", laid_portreeve_md5_words)] }
def ChapGoodSaid : Prop := chapGoodRow.holds Tryd.pinned (OpenSpec.ofChange chapGoodSpec)

/-- ITS FALSE NEIGHBOUR: 'it returns false'. Refute it at one input. -/
def chapGoodWrong : ChangeSpec := { name := "chapGood", fn := fun _ => fun
  | [d1, d2, d3] => { results := [.lit (.bool false)], args := [d1, d2, d3] }
  | _ => none }
def ChapGoodWrongFalsely : Prop := chapGoodRow.holds Tryd.pinned (OpenSpec.ofChange chapGoodWrong)

/- THE SECOND FORM. 'bulk': how many values and letters a reading holds, each counted each time it is reached (what is shared counts as often as it is met; a slice's spare places count too). A statement '..UptoSaid' is the law's where the arguments, and the package variables that the reading takes, are together of bulk at most 1048576: NARROWER than '..Said'. Prove '..Said' where nothing that the law and all that it calls make is longer than what came in: it says more and counts as full. Else prove '..UptoSaid'. A law counts once. -/
mutual
def uptoBulk {H : Type} : DataW H → Nat
  | .lit (.string bytes) => bytes.length + 1
  | .lit _ => 1
  | .nil => 1
  | .ptr d => uptoBulk d + 1
  | .slice elems spare => uptoBulkAll elems + uptoBulkAll spare + 1
  | .agg parts => uptoBulkAll parts + 1
  | .iface _ d => uptoBulk d + 1
  | .map entries => uptoBulkEntries entries + 1
  | .held _ => 1
def uptoBulkAll {H : Type} : List (DataW H) → Nat
  | [] => 0
  | d :: r => uptoBulk d + uptoBulkAll r
def uptoBulkEntries {H : Type} : List (Lit × DataW H) → Nat
  | [] => 0
  | x :: r => uptoBulkEntry x + uptoBulkEntries r
def uptoBulkEntry {H : Type} : Lit × DataW H → Nat
  | (.string bytes, d) => bytes.length + uptoBulk d + 1
  | (_, d) => uptoBulk d + 1
 end
def uptoSmall : (H : Type) → List (DataW H) → Bool := fun _ ds => decide (uptoBulkAll ds ≤ 1048576)
def OpenSpec.upto (s : _root_.Go.ChangeSpec) : _root_.Go.OpenSpec := { _root_.Go.OpenSpec.ofChange s with cond := some uptoSmall }

/-- 'portreevelaw15.ChapProves', WHERE WHAT IT READS IS OF BULK AT MOST 1048576: true; the input reads as it did. -/
def chapProvesUptoRow : OpenClaim := { program := "ytafcdeegcfmcpaadoor", sum := "6a4f66053d6318863dc0d1b08f64148f649ce3dde412ad3c800c1ae754a547c3", func := "portreeve/portreevelaw15.ChapProves", spec := "chapProves", unfollowed := true, recurses := true, named := ["portreeve/md5.words", "portreeve/md5.turns"], apart := false, laid := [("portreeve/md5.turns", laid_portreeve_md5_turns), ("portreeve/md5.words", laid_portreeve_md5_words)], narrowed := true }
def ChapProvesUptoSaid : Prop := chapProvesUptoRow.holds Tryd.pinned (OpenSpec.upto chapProvesSpec)

/-- 'portreevelaw15.ChapEnds', WHERE WHAT IT READS IS OF BULK AT MOST 1048576: true; the input reads as it did. -/
def chapEndsUptoRow : OpenClaim := { program := "ytafcdeegcfmcpaadoor", sum := "6a4f66053d6318863dc0d1b08f64148f649ce3dde412ad3c800c1ae754a547c3", func := "portreeve/portreevelaw15.ChapEnds", spec := "chapEnds", unfollowed := true, recurses := true, named := ["portreeve/md5.words", "portreeve/md5.turns"], apart := false, laid := [("portreeve/md5.turns", laid_portreeve_md5_turns), ("portreeve/md5.words", laid_portreeve_md5_words)], narrowed := true }
def ChapEndsUptoSaid : Prop := chapEndsUptoRow.holds Tryd.pinned (OpenSpec.upto chapEndsSpec)

/-- 'portreevelaw15.ChapRead', WHERE WHAT IT READS IS OF BULK AT MOST 1048576: true; the input reads as it did. -/
def chapReadUptoRow : OpenClaim := { program := "ytafcdeegcfmcpaadoor", sum := "6a4f66053d6318863dc0d1b08f64148f649ce3dde412ad3c800c1ae754a547c3", func := "portreeve/portreevelaw15.ChapRead", spec := "chapRead", unfollowed := true, recurses := true, named := ["portreeve/md5.words", "portreeve/md5.turns"], apart := false, laid := [("portreeve/md5.turns", laid_portreeve_md5_turns), ("portreeve/md5.words", laid_portreeve_md5_words)], narrowed := true }
def ChapReadUptoSaid : Prop := chapReadUptoRow.holds Tryd.pinned (OpenSpec.upto chapReadSpec)

/-- 'portreevelaw15.ChapOnce', WHERE WHAT IT READS IS OF BULK AT MOST 1048576: true; the input reads as it did. -/
def chapOnceUptoRow : OpenClaim := { program := "ytafcdeegcfmcpaadoor", sum := "6a4f66053d6318863dc0d1b08f64148f649ce3dde412ad3c800c1ae754a547c3", func := "portreeve/portreevelaw15.ChapOnce", spec := "chapOnce", unfollowed := true, recurses := true, named := ["portreeve/md5.words", "portreeve/md5.turns"], apart := false, laid := [("portreeve/md5.turns", laid_portreeve_md5_turns), ("portreeve/md5.words", laid_portreeve_md5_words)], narrowed := true }
def ChapOnceUptoSaid : Prop := chapOnceUptoRow.holds Tryd.pinned (OpenSpec.upto chapOnceSpec)

/-- 'portreevelaw15.ChapUsers', WHERE WHAT IT READS IS OF BULK AT MOST 1048576: true; the input reads as it did. -/
def chapUsersUptoRow : OpenClaim := { program := "ytafcdeegcfmcpaadoor", sum := "6a4f66053d6318863dc0d1b08f64148f649ce3dde412ad3c800c1ae754a547c3", func := "portreeve/portreevelaw15.ChapUsers", spec := "chapUsers", unfollowed := true, recurses := true, named := ["portreeve/md5.words", "portreeve/md5.turns"], apart := false, laid := [("portreeve/md5.turns", laid_portreeve_md5_turns), ("portreeve/md5.words", laid_portreeve_md5_words)], narrowed := true }
def ChapUsersUptoSaid : Prop := chapUsersUptoRow.holds Tryd.pinned (OpenSpec.upto chapUsersSpec)

/-- 'portreevelaw15.ChapGood', WHERE WHAT IT READS IS OF BULK AT MOST 1048576: true; the input reads as it did. -/
def chapGoodUptoRow : OpenClaim := { program := "ytafcdeegcfmcpaadoor", sum := "6a4f66053d6318863dc0d1b08f64148f649ce3dde412ad3c800c1ae754a547c3", func := "portreeve/portreevelaw15.ChapGood", spec := "chapGood", unfollowed := true, recurses := true, named := ["portreeve/md5.words", "portreeve/md5.turns"], apart := false, laid := [("portreeve/md5.turns", laid_portreeve_md5_turns), ("portreeve/md5.words", laid_portreeve_md5_words)], narrowed := true }
def ChapGoodUptoSaid : Prop := chapGoodUptoRow.holds Tryd.pinned (OpenSpec.upto chapGoodSpec)

end Rows
end Go.Proofs.YtafcdeegcfmcpaaDoor
