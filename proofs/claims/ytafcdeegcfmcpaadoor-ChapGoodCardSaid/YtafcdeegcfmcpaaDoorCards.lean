/-
  DERIVED. GIVEN WITH THE SEED: THE CARDS: each row of YtafcdeegcfmcpaaDoorRows.lean that lists a variable, with what it lists TIED to the program's text (the seventh form; the later family's looks); each row that meets fmt, with fmt's text TOLD by the authors' own Lean function (tested against real Go, not proved from fmt's source: count such statements apart). THE CARD IS WHAT COUNTS. Prove the row's statement (the work); the ties are given (YtafcdeegcfmcpaaDoorTie.lean); close each card by the builder's one call (the guide's Derived/Test/ToyasCard.lean, 'card_holds'). Laid BY PROGRAM, IN A SANDBOX (cutbox-door.mjs). By AI agents, Wed Nov 11 2026. No macro, syntax, notation, axiom, sorry.
-/
import Derived.Test.YtafcdeegcfmcpaaDoorRows
import GoSem.ClaimSeven
namespace Go.Proofs.YtafcdeegcfmcpaaDoor
namespace Rows

/-- THE TIED CARD OF 'portreevelaw15.ChapProves'. -/
def chapProvesCard : Claim7 := { stood := { row := chapProvesRow, standIns := [], harness := (true, "ba1ba921840258369ee046cb58606a6ff55ababacb03dc6daca21bbca3087538"), looks := false }, kinds := [], alts := [], laidByText := true, laidKinds := [.data, .data], laidTests := true, laidLooks := .later }
def ChapProvesCardSaid : Prop := Claim7.holds Tryd.pinned (.plain (OpenSpec.ofChange chapProvesSpec)) chapProvesCard

/-- THE TIED CARD OF 'portreevelaw15.ChapEnds'. -/
def chapEndsCard : Claim7 := { stood := { row := chapEndsRow, standIns := [], harness := (true, "ba1ba921840258369ee046cb58606a6ff55ababacb03dc6daca21bbca3087538"), looks := false }, kinds := [], alts := [], laidByText := true, laidKinds := [.data, .data], laidTests := true, laidLooks := .later }
def ChapEndsCardSaid : Prop := Claim7.holds Tryd.pinned (.plain (OpenSpec.ofChange chapEndsSpec)) chapEndsCard

/-- THE TIED CARD OF 'portreevelaw15.ChapRead'. -/
def chapReadCard : Claim7 := { stood := { row := chapReadRow, standIns := [], harness := (true, "ba1ba921840258369ee046cb58606a6ff55ababacb03dc6daca21bbca3087538"), looks := false }, kinds := [], alts := [], laidByText := true, laidKinds := [.data, .data], laidTests := true, laidLooks := .later }
def ChapReadCardSaid : Prop := Claim7.holds Tryd.pinned (.plain (OpenSpec.ofChange chapReadSpec)) chapReadCard

/-- THE TIED CARD OF 'portreevelaw15.ChapOnce'. -/
def chapOnceCard : Claim7 := { stood := { row := chapOnceRow, standIns := [], harness := (true, "ba1ba921840258369ee046cb58606a6ff55ababacb03dc6daca21bbca3087538"), looks := false }, kinds := [], alts := [], laidByText := true, laidKinds := [.data, .data], laidTests := true, laidLooks := .later }
def ChapOnceCardSaid : Prop := Claim7.holds Tryd.pinned (.plain (OpenSpec.ofChange chapOnceSpec)) chapOnceCard

/-- THE TIED CARD OF 'portreevelaw15.ChapUsers'. -/
def chapUsersCard : Claim7 := { stood := { row := chapUsersRow, standIns := [], harness := (true, "ba1ba921840258369ee046cb58606a6ff55ababacb03dc6daca21bbca3087538"), looks := false }, kinds := [], alts := [], laidByText := true, laidKinds := [.data, .data], laidTests := true, laidLooks := .later }
def ChapUsersCardSaid : Prop := Claim7.holds Tryd.pinned (.plain (OpenSpec.ofChange chapUsersSpec)) chapUsersCard

/-- THE TIED CARD OF 'portreevelaw15.ChapGood'. -/
def chapGoodCard : Claim7 := { stood := { row := chapGoodRow, standIns := [], harness := (true, "ba1ba921840258369ee046cb58606a6ff55ababacb03dc6daca21bbca3087538"), looks := false }, kinds := [], alts := [], laidByText := true, laidKinds := [.data, .data], laidTests := true, laidLooks := .later }
def ChapGoodCardSaid : Prop := Claim7.holds Tryd.pinned (.plain (OpenSpec.ofChange chapGoodSpec)) chapGoodCard

/-- THE SECOND FORM's CARD OF 'portreevelaw15.ChapProves'. -/
def chapProvesUptoCard : Claim7 := { stood := { row := chapProvesUptoRow, standIns := [], harness := (true, "ba1ba921840258369ee046cb58606a6ff55ababacb03dc6daca21bbca3087538"), looks := false }, kinds := [], alts := [], laidByText := true, laidKinds := [.data, .data], laidTests := true, laidLooks := .later }
def ChapProvesUptoCardSaid : Prop := Claim7.holds Tryd.pinned (.plain (OpenSpec.upto chapProvesSpec)) chapProvesUptoCard

/-- THE SECOND FORM's CARD OF 'portreevelaw15.ChapEnds'. -/
def chapEndsUptoCard : Claim7 := { stood := { row := chapEndsUptoRow, standIns := [], harness := (true, "ba1ba921840258369ee046cb58606a6ff55ababacb03dc6daca21bbca3087538"), looks := false }, kinds := [], alts := [], laidByText := true, laidKinds := [.data, .data], laidTests := true, laidLooks := .later }
def ChapEndsUptoCardSaid : Prop := Claim7.holds Tryd.pinned (.plain (OpenSpec.upto chapEndsSpec)) chapEndsUptoCard

/-- THE SECOND FORM's CARD OF 'portreevelaw15.ChapRead'. -/
def chapReadUptoCard : Claim7 := { stood := { row := chapReadUptoRow, standIns := [], harness := (true, "ba1ba921840258369ee046cb58606a6ff55ababacb03dc6daca21bbca3087538"), looks := false }, kinds := [], alts := [], laidByText := true, laidKinds := [.data, .data], laidTests := true, laidLooks := .later }
def ChapReadUptoCardSaid : Prop := Claim7.holds Tryd.pinned (.plain (OpenSpec.upto chapReadSpec)) chapReadUptoCard

/-- THE SECOND FORM's CARD OF 'portreevelaw15.ChapOnce'. -/
def chapOnceUptoCard : Claim7 := { stood := { row := chapOnceUptoRow, standIns := [], harness := (true, "ba1ba921840258369ee046cb58606a6ff55ababacb03dc6daca21bbca3087538"), looks := false }, kinds := [], alts := [], laidByText := true, laidKinds := [.data, .data], laidTests := true, laidLooks := .later }
def ChapOnceUptoCardSaid : Prop := Claim7.holds Tryd.pinned (.plain (OpenSpec.upto chapOnceSpec)) chapOnceUptoCard

/-- THE SECOND FORM's CARD OF 'portreevelaw15.ChapUsers'. -/
def chapUsersUptoCard : Claim7 := { stood := { row := chapUsersUptoRow, standIns := [], harness := (true, "ba1ba921840258369ee046cb58606a6ff55ababacb03dc6daca21bbca3087538"), looks := false }, kinds := [], alts := [], laidByText := true, laidKinds := [.data, .data], laidTests := true, laidLooks := .later }
def ChapUsersUptoCardSaid : Prop := Claim7.holds Tryd.pinned (.plain (OpenSpec.upto chapUsersSpec)) chapUsersUptoCard

/-- THE SECOND FORM's CARD OF 'portreevelaw15.ChapGood'. -/
def chapGoodUptoCard : Claim7 := { stood := { row := chapGoodUptoRow, standIns := [], harness := (true, "ba1ba921840258369ee046cb58606a6ff55ababacb03dc6daca21bbca3087538"), looks := false }, kinds := [], alts := [], laidByText := true, laidKinds := [.data, .data], laidTests := true, laidLooks := .later }
def ChapGoodUptoCardSaid : Prop := Claim7.holds Tryd.pinned (.plain (OpenSpec.upto chapGoodSpec)) chapGoodUptoCard
end Rows
end Go.Proofs.YtafcdeegcfmcpaaDoor
