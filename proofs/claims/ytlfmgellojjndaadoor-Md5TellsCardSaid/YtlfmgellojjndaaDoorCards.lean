/-
  DERIVED. GIVEN WITH THE SEED: THE CARDS: each row of YtlfmgellojjndaaDoorRows.lean that lists a variable, with what it lists TIED to the program's text (the seventh form; the later family's looks); each row that meets fmt, with fmt's text TOLD by the authors' own Lean function (tested against real Go, not proved from fmt's source: count such statements apart). THE CARD IS WHAT COUNTS. Prove the row's statement (the work); the ties are given (YtlfmgellojjndaaDoorTie.lean); close each card by the builder's one call (the guide's Derived/Test/ToyasCard.lean, 'card_holds'). Laid BY PROGRAM, IN A SANDBOX (cutbox-door.mjs). By AI agents, Wed Nov 11 2026. No macro, syntax, notation, axiom, sorry.
-/
import Derived.Test.YtlfmgellojjndaaDoorRows
import GoSem.ClaimSeven
namespace Go.Proofs.YtlfmgellojjndaaDoor
namespace Rows

/-- THE TIED CARD OF 'portreevelaw02.Md5Tells'. -/
def md5TellsCard : Claim7 := { stood := { row := md5TellsRow, standIns := [], harness := (true, "2d1341be5acb09708be741b6b6e3ab9c7bd5cda3eaafb9a7d845b263f9716a59"), looks := false }, kinds := [], alts := [], laidByText := true, laidKinds := [.data, .data], laidTests := true, laidLooks := .later }
def Md5TellsCardSaid : Prop := Claim7.holds Tryd.pinned (.plain (OpenSpec.ofChange md5TellsSpec)) md5TellsCard

/-- THE TIED CARD OF 'portreevelaw02.Md5Blocks'. -/
def md5BlocksCard : Claim7 := { stood := { row := md5BlocksRow, standIns := [], harness := (true, "2d1341be5acb09708be741b6b6e3ab9c7bd5cda3eaafb9a7d845b263f9716a59"), looks := false }, kinds := [], alts := [], laidByText := true, laidKinds := [.data, .data], laidTests := true, laidLooks := .later }
def Md5BlocksCardSaid : Prop := Claim7.holds Tryd.pinned (.plain (OpenSpec.ofChange md5BlocksSpec)) md5BlocksCard

/-- THE TIED CARD OF 'portreevelaw02.Md5Pads'. -/
def md5PadsCard : Claim7 := { stood := { row := md5PadsRow, standIns := [], harness := (true, "2d1341be5acb09708be741b6b6e3ab9c7bd5cda3eaafb9a7d845b263f9716a59"), looks := false }, kinds := [], alts := [], laidByText := true, laidKinds := [.data, .data], laidTests := true, laidLooks := .later }
def Md5PadsCardSaid : Prop := Claim7.holds Tryd.pinned (.plain (OpenSpec.ofChange md5PadsSpec)) md5PadsCard

/-- THE TIED CARD OF 'portreevelaw02.Md5More'. -/
def md5MoreCard : Claim7 := { stood := { row := md5MoreRow, standIns := [], harness := (true, "2d1341be5acb09708be741b6b6e3ab9c7bd5cda3eaafb9a7d845b263f9716a59"), looks := false }, kinds := [], alts := [], laidByText := true, laidKinds := [.data, .data], laidTests := true, laidLooks := .later }
def Md5MoreCardSaid : Prop := Claim7.holds Tryd.pinned (.plain (OpenSpec.ofChange md5MoreSpec)) md5MoreCard

/-- THE TIED CARD OF 'portreevelaw02.Md5Long'. -/
def md5LongCard : Claim7 := { stood := { row := md5LongRow, standIns := [], harness := (true, "2d1341be5acb09708be741b6b6e3ab9c7bd5cda3eaafb9a7d845b263f9716a59"), looks := false }, kinds := [], alts := [], laidByText := true, laidKinds := [.data, .data], laidTests := true, laidLooks := .later }
def Md5LongCardSaid : Prop := Claim7.holds Tryd.pinned (.plain (OpenSpec.ofChange md5LongSpec)) md5LongCard

/-- THE SECOND FORM's CARD OF 'portreevelaw02.Md5Tells'. -/
def md5TellsUptoCard : Claim7 := { stood := { row := md5TellsUptoRow, standIns := [], harness := (true, "2d1341be5acb09708be741b6b6e3ab9c7bd5cda3eaafb9a7d845b263f9716a59"), looks := false }, kinds := [], alts := [], laidByText := true, laidKinds := [.data, .data], laidTests := true, laidLooks := .later }
def Md5TellsUptoCardSaid : Prop := Claim7.holds Tryd.pinned (.plain (OpenSpec.upto md5TellsSpec)) md5TellsUptoCard

/-- THE SECOND FORM's CARD OF 'portreevelaw02.Md5Blocks'. -/
def md5BlocksUptoCard : Claim7 := { stood := { row := md5BlocksUptoRow, standIns := [], harness := (true, "2d1341be5acb09708be741b6b6e3ab9c7bd5cda3eaafb9a7d845b263f9716a59"), looks := false }, kinds := [], alts := [], laidByText := true, laidKinds := [.data, .data], laidTests := true, laidLooks := .later }
def Md5BlocksUptoCardSaid : Prop := Claim7.holds Tryd.pinned (.plain (OpenSpec.upto md5BlocksSpec)) md5BlocksUptoCard

/-- THE SECOND FORM's CARD OF 'portreevelaw02.Md5Pads'. -/
def md5PadsUptoCard : Claim7 := { stood := { row := md5PadsUptoRow, standIns := [], harness := (true, "2d1341be5acb09708be741b6b6e3ab9c7bd5cda3eaafb9a7d845b263f9716a59"), looks := false }, kinds := [], alts := [], laidByText := true, laidKinds := [.data, .data], laidTests := true, laidLooks := .later }
def Md5PadsUptoCardSaid : Prop := Claim7.holds Tryd.pinned (.plain (OpenSpec.upto md5PadsSpec)) md5PadsUptoCard

/-- THE SECOND FORM's CARD OF 'portreevelaw02.Md5More'. -/
def md5MoreUptoCard : Claim7 := { stood := { row := md5MoreUptoRow, standIns := [], harness := (true, "2d1341be5acb09708be741b6b6e3ab9c7bd5cda3eaafb9a7d845b263f9716a59"), looks := false }, kinds := [], alts := [], laidByText := true, laidKinds := [.data, .data], laidTests := true, laidLooks := .later }
def Md5MoreUptoCardSaid : Prop := Claim7.holds Tryd.pinned (.plain (OpenSpec.upto md5MoreSpec)) md5MoreUptoCard

/-- THE SECOND FORM's CARD OF 'portreevelaw02.Md5Long'. -/
def md5LongUptoCard : Claim7 := { stood := { row := md5LongUptoRow, standIns := [], harness := (true, "2d1341be5acb09708be741b6b6e3ab9c7bd5cda3eaafb9a7d845b263f9716a59"), looks := false }, kinds := [], alts := [], laidByText := true, laidKinds := [.data, .data], laidTests := true, laidLooks := .later }
def Md5LongUptoCardSaid : Prop := Claim7.holds Tryd.pinned (.plain (OpenSpec.upto md5LongSpec)) md5LongUptoCard
end Rows
end Go.Proofs.YtlfmgellojjndaaDoor
