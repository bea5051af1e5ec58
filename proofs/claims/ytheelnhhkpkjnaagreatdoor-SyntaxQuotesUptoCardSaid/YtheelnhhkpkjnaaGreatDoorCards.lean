/-
  DERIVED. GIVEN WITH THE SEED: THE CARDS: each row of YtheelnhhkpkjnaaGreatDoorRows.lean that lists a variable, with what it lists TIED to the program's text (the seventh form; the later family's looks); each row that meets fmt, with fmt's text TOLD by the authors' own Lean function (tested against real Go, not proved from fmt's source: count such statements apart). THE CARD IS WHAT COUNTS. Prove the row's statement (the work); the ties are given (YtheelnhhkpkjnaaGreatDoorTie.lean); close each card by the builder's one call (the guide's Derived/Test/ToyasCard.lean, 'card_holds'). Laid BY PROGRAM, IN A SANDBOX (cutbox-door.mjs). By AI agents, Wed Nov 11 2026. No macro, syntax, notation, axiom, sorry.
-/
import Derived.Test.YtheelnhhkpkjnaaGreatDoorRows
import GoSem.ClaimSeven
namespace Go.Proofs.YtheelnhhkpkjnaaGreatDoor
namespace Rows

/-- THE TIED CARD OF 'tremalaw07.SyntaxMays'. -/
def syntaxMaysCard : Claim7 := { stood := { row := syntaxMaysRow, standIns := [], harness := (true, "6b4478d21ff18495c62c2d3a840990a1f64bc53a618625b6b4a5f2b2176f8e6e"), looks := true }, kinds := [], alts := [], laidByText := true, laidKinds := [.data, .data, .data, .data, .data, .data, .pinned, .pinned], laidTests := true, laidLooks := .later }
def SyntaxMaysCardSaid : Prop := Claim7.holds Tryz.pinned (.plain (OpenSpec.ofChange syntaxMaysSpec)) syntaxMaysCard

/-- THE TIED CARD OF 'tremalaw07.SyntaxSame'. -/
def syntaxSameCard : Claim7 := { stood := { row := syntaxSameRow, standIns := [], harness := (true, "6b4478d21ff18495c62c2d3a840990a1f64bc53a618625b6b4a5f2b2176f8e6e"), looks := true }, kinds := [], alts := [], laidByText := true, laidKinds := [.data, .data, .data, .data, .data, .data, .pinned, .pinned], laidTests := true, laidLooks := .later }
def SyntaxSameCardSaid : Prop := Claim7.holds Tryz.pinned (.plain (OpenSpec.ofChange syntaxSameSpec)) syntaxSameCard

/-- THE TIED CARD OF 'tremalaw07.SyntaxQuotes'. -/
def syntaxQuotesCard : Claim7 := { stood := { row := syntaxQuotesRow, standIns := [], harness := (true, "6b4478d21ff18495c62c2d3a840990a1f64bc53a618625b6b4a5f2b2176f8e6e"), looks := true }, kinds := [], alts := [], laidByText := true, laidKinds := [.data, .data, .data, .data, .data, .data, .pinned, .pinned], laidTests := true, laidLooks := .later }
def SyntaxQuotesCardSaid : Prop := Claim7.holds Tryz.pinned (.plain (OpenSpec.ofChange syntaxQuotesSpec)) syntaxQuotesCard

/-- THE TIED CARD OF 'tremalaw07.SyntaxKeeps'. -/
def syntaxKeepsCard : Claim7 := { stood := { row := syntaxKeepsRow, standIns := [], harness := (true, "6b4478d21ff18495c62c2d3a840990a1f64bc53a618625b6b4a5f2b2176f8e6e"), looks := true }, kinds := [], alts := [], laidByText := true, laidKinds := [.data, .data, .data, .data, .data, .data, .pinned, .pinned], laidTests := true, laidLooks := .later }
def SyntaxKeepsCardSaid : Prop := Claim7.holds Tryz.pinned (.plain (OpenSpec.ofChange syntaxKeepsSpec)) syntaxKeepsCard

/-- THE TIED CARD OF 'tremalaw07.SyntaxGroups'. -/
def syntaxGroupsCard : Claim7 := { stood := { row := syntaxGroupsRow, standIns := [], harness := (true, "6b4478d21ff18495c62c2d3a840990a1f64bc53a618625b6b4a5f2b2176f8e6e"), looks := true }, kinds := [], alts := [], laidByText := true, laidKinds := [.data, .data, .data, .data, .data, .data, .pinned, .pinned], laidTests := true, laidLooks := .later }
def SyntaxGroupsCardSaid : Prop := Claim7.holds Tryz.pinned (.plain (OpenSpec.ofChange syntaxGroupsSpec)) syntaxGroupsCard

/-- THE TIED CARD OF 'tremalaw07.SyntaxPlaces'. -/
def syntaxPlacesCard : Claim7 := { stood := { row := syntaxPlacesRow, standIns := [], harness := (true, "6b4478d21ff18495c62c2d3a840990a1f64bc53a618625b6b4a5f2b2176f8e6e"), looks := true }, kinds := [], alts := [], laidByText := true, laidKinds := [.data, .data, .data, .data, .data, .data, .pinned, .pinned], laidTests := true, laidLooks := .later }
def SyntaxPlacesCardSaid : Prop := Claim7.holds Tryz.pinned (.plain (OpenSpec.ofChange syntaxPlacesSpec)) syntaxPlacesCard

/-- THE SECOND FORM's CARD OF 'tremalaw07.SyntaxMays'. -/
def syntaxMaysUptoCard : Claim7 := { stood := { row := syntaxMaysUptoRow, standIns := [], harness := (true, "6b4478d21ff18495c62c2d3a840990a1f64bc53a618625b6b4a5f2b2176f8e6e"), looks := true }, kinds := [], alts := [], laidByText := true, laidKinds := [.data, .data, .data, .data, .data, .data, .pinned, .pinned], laidTests := true, laidLooks := .later }
def SyntaxMaysUptoCardSaid : Prop := Claim7.holds Tryz.pinned (.plain (OpenSpec.upto syntaxMaysSpec)) syntaxMaysUptoCard

/-- THE SECOND FORM's CARD OF 'tremalaw07.SyntaxSame'. -/
def syntaxSameUptoCard : Claim7 := { stood := { row := syntaxSameUptoRow, standIns := [], harness := (true, "6b4478d21ff18495c62c2d3a840990a1f64bc53a618625b6b4a5f2b2176f8e6e"), looks := true }, kinds := [], alts := [], laidByText := true, laidKinds := [.data, .data, .data, .data, .data, .data, .pinned, .pinned], laidTests := true, laidLooks := .later }
def SyntaxSameUptoCardSaid : Prop := Claim7.holds Tryz.pinned (.plain (OpenSpec.upto syntaxSameSpec)) syntaxSameUptoCard

/-- THE SECOND FORM's CARD OF 'tremalaw07.SyntaxQuotes'. -/
def syntaxQuotesUptoCard : Claim7 := { stood := { row := syntaxQuotesUptoRow, standIns := [], harness := (true, "6b4478d21ff18495c62c2d3a840990a1f64bc53a618625b6b4a5f2b2176f8e6e"), looks := true }, kinds := [], alts := [], laidByText := true, laidKinds := [.data, .data, .data, .data, .data, .data, .pinned, .pinned], laidTests := true, laidLooks := .later }
def SyntaxQuotesUptoCardSaid : Prop := Claim7.holds Tryz.pinned (.plain (OpenSpec.upto syntaxQuotesSpec)) syntaxQuotesUptoCard

/-- THE SECOND FORM's CARD OF 'tremalaw07.SyntaxKeeps'. -/
def syntaxKeepsUptoCard : Claim7 := { stood := { row := syntaxKeepsUptoRow, standIns := [], harness := (true, "6b4478d21ff18495c62c2d3a840990a1f64bc53a618625b6b4a5f2b2176f8e6e"), looks := true }, kinds := [], alts := [], laidByText := true, laidKinds := [.data, .data, .data, .data, .data, .data, .pinned, .pinned], laidTests := true, laidLooks := .later }
def SyntaxKeepsUptoCardSaid : Prop := Claim7.holds Tryz.pinned (.plain (OpenSpec.upto syntaxKeepsSpec)) syntaxKeepsUptoCard

/-- THE SECOND FORM's CARD OF 'tremalaw07.SyntaxGroups'. -/
def syntaxGroupsUptoCard : Claim7 := { stood := { row := syntaxGroupsUptoRow, standIns := [], harness := (true, "6b4478d21ff18495c62c2d3a840990a1f64bc53a618625b6b4a5f2b2176f8e6e"), looks := true }, kinds := [], alts := [], laidByText := true, laidKinds := [.data, .data, .data, .data, .data, .data, .pinned, .pinned], laidTests := true, laidLooks := .later }
def SyntaxGroupsUptoCardSaid : Prop := Claim7.holds Tryz.pinned (.plain (OpenSpec.upto syntaxGroupsSpec)) syntaxGroupsUptoCard

/-- THE SECOND FORM's CARD OF 'tremalaw07.SyntaxPlaces'. -/
def syntaxPlacesUptoCard : Claim7 := { stood := { row := syntaxPlacesUptoRow, standIns := [], harness := (true, "6b4478d21ff18495c62c2d3a840990a1f64bc53a618625b6b4a5f2b2176f8e6e"), looks := true }, kinds := [], alts := [], laidByText := true, laidKinds := [.data, .data, .data, .data, .data, .data, .pinned, .pinned], laidTests := true, laidLooks := .later }
def SyntaxPlacesUptoCardSaid : Prop := Claim7.holds Tryz.pinned (.plain (OpenSpec.upto syntaxPlacesSpec)) syntaxPlacesUptoCard
end Rows
end Go.Proofs.YtheelnhhkpkjnaaGreatDoor
