/-
  DERIVED. GIVEN WITH THE SEED: THE CARDS: each row of YtkgeiokckfpjlaaGreatDoorRows.lean that lists a variable, with what it lists TIED to the program's text (the seventh form; the later family's looks); each row that meets fmt, with fmt's text TOLD by the authors' own Lean function (tested against real Go, not proved from fmt's source: count such statements apart). THE CARD IS WHAT COUNTS. Prove the row's statement (the work); the ties are given (YtkgeiokckfpjlaaGreatDoorTie.lean); close each card by the builder's one call (the guide's Derived/Test/ToyasCard.lean, 'card_holds'). Laid BY PROGRAM, IN A SANDBOX (cutbox-door.mjs). By AI agents, Wed Nov 11 2026. No macro, syntax, notation, axiom, sorry.
-/
import Derived.Test.YtkgeiokckfpjlaaGreatDoorRows
import GoSem.ClaimSeven
namespace Go.Proofs.YtkgeiokckfpjlaaGreatDoor
namespace Rows

/-- THE TIED CARD OF 'tremalaw07.SyntaxMays'. -/
def syntaxMaysCard : Claim7 := { stood := { row := syntaxMaysRow, standIns := [], harness := (true, "e1c2b694872e55947c1ad04fe9917068232650b76172bba42c1558443b506b49"), looks := true }, kinds := [], alts := [], laidByText := true, laidKinds := [.data, .data, .data, .data, .data, .data, .pinned, .pinned], laidTests := true, laidLooks := .later }
def SyntaxMaysCardSaid : Prop := Claim7.holds Tryz.pinned (.plain (OpenSpec.ofChange syntaxMaysSpec)) syntaxMaysCard

/-- THE TIED CARD OF 'tremalaw07.SyntaxSame'. -/
def syntaxSameCard : Claim7 := { stood := { row := syntaxSameRow, standIns := [], harness := (true, "e1c2b694872e55947c1ad04fe9917068232650b76172bba42c1558443b506b49"), looks := true }, kinds := [], alts := [], laidByText := true, laidKinds := [.data, .data, .data, .data, .data, .data, .pinned, .pinned], laidTests := true, laidLooks := .later }
def SyntaxSameCardSaid : Prop := Claim7.holds Tryz.pinned (.plain (OpenSpec.ofChange syntaxSameSpec)) syntaxSameCard

/-- THE TIED CARD OF 'tremalaw07.SyntaxQuotes'. -/
def syntaxQuotesCard : Claim7 := { stood := { row := syntaxQuotesRow, standIns := [], harness := (true, "e1c2b694872e55947c1ad04fe9917068232650b76172bba42c1558443b506b49"), looks := true }, kinds := [], alts := [], laidByText := true, laidKinds := [.data, .data, .data, .data, .data, .data, .pinned, .pinned], laidTests := true, laidLooks := .later }
def SyntaxQuotesCardSaid : Prop := Claim7.holds Tryz.pinned (.plain (OpenSpec.ofChange syntaxQuotesSpec)) syntaxQuotesCard

/-- THE TIED CARD OF 'tremalaw07.SyntaxKeeps'. -/
def syntaxKeepsCard : Claim7 := { stood := { row := syntaxKeepsRow, standIns := [], harness := (true, "e1c2b694872e55947c1ad04fe9917068232650b76172bba42c1558443b506b49"), looks := true }, kinds := [], alts := [], laidByText := true, laidKinds := [.data, .data, .data, .data, .data, .data, .pinned, .pinned], laidTests := true, laidLooks := .later }
def SyntaxKeepsCardSaid : Prop := Claim7.holds Tryz.pinned (.plain (OpenSpec.ofChange syntaxKeepsSpec)) syntaxKeepsCard

/-- THE TIED CARD OF 'tremalaw07.SyntaxGroups'. -/
def syntaxGroupsCard : Claim7 := { stood := { row := syntaxGroupsRow, standIns := [], harness := (true, "e1c2b694872e55947c1ad04fe9917068232650b76172bba42c1558443b506b49"), looks := true }, kinds := [], alts := [], laidByText := true, laidKinds := [.data, .data, .data, .data, .data, .data, .pinned, .pinned], laidTests := true, laidLooks := .later }
def SyntaxGroupsCardSaid : Prop := Claim7.holds Tryz.pinned (.plain (OpenSpec.ofChange syntaxGroupsSpec)) syntaxGroupsCard

/-- THE TIED CARD OF 'tremalaw07.SyntaxPlaces'. -/
def syntaxPlacesCard : Claim7 := { stood := { row := syntaxPlacesRow, standIns := [], harness := (true, "e1c2b694872e55947c1ad04fe9917068232650b76172bba42c1558443b506b49"), looks := true }, kinds := [], alts := [], laidByText := true, laidKinds := [.data, .data, .data, .data, .data, .data, .pinned, .pinned], laidTests := true, laidLooks := .later }
def SyntaxPlacesCardSaid : Prop := Claim7.holds Tryz.pinned (.plain (OpenSpec.ofChange syntaxPlacesSpec)) syntaxPlacesCard

/-- THE TIED CARD OF 'tremalaw08.ProgCompiles'. -/
def progCompilesCard : Claim7 := { stood := { row := progCompilesRow, standIns := [], harness := (true, "e1c2b694872e55947c1ad04fe9917068232650b76172bba42c1558443b506b49"), looks := true }, kinds := [], alts := [], laidByText := true, laidKinds := [.data, .data, .data, .data, .data, .data, .pinned, .pinned], laidTests := true, laidLooks := .later }
def ProgCompilesCardSaid : Prop := Claim7.holds Tryz.pinned (.plain (OpenSpec.ofChange progCompilesSpec)) progCompilesCard

/-- THE TIED CARD OF 'tremalaw08.ProgMays'. -/
def progMaysCard : Claim7 := { stood := { row := progMaysRow, standIns := [], harness := (true, "e1c2b694872e55947c1ad04fe9917068232650b76172bba42c1558443b506b49"), looks := true }, kinds := [], alts := [], laidByText := true, laidKinds := [.data, .data, .data, .data, .data, .data, .pinned, .pinned], laidTests := true, laidLooks := .later }
def ProgMaysCardSaid : Prop := Claim7.holds Tryz.pinned (.plain (OpenSpec.ofChange progMaysSpec)) progMaysCard

/-- THE TIED CARD OF 'tremalaw08.ProgReaches'. -/
def progReachesCard : Claim7 := { stood := { row := progReachesRow, standIns := [], harness := (true, "e1c2b694872e55947c1ad04fe9917068232650b76172bba42c1558443b506b49"), looks := true }, kinds := [], alts := [], laidByText := true, laidKinds := [.data, .data, .data, .data, .data, .data, .pinned, .pinned], laidTests := true, laidLooks := .later }
def ProgReachesCardSaid : Prop := Claim7.holds Tryz.pinned (.plain (OpenSpec.ofChange progReachesSpec)) progReachesCard

/-- THE TIED CARD OF 'tremalaw08.ProgKeeps'. -/
def progKeepsCard : Claim7 := { stood := { row := progKeepsRow, standIns := [], harness := (true, "e1c2b694872e55947c1ad04fe9917068232650b76172bba42c1558443b506b49"), looks := true }, kinds := [], alts := [], laidByText := true, laidKinds := [.data, .data, .data, .data, .data, .data, .pinned, .pinned], laidTests := true, laidLooks := .later }
def ProgKeepsCardSaid : Prop := Claim7.holds Tryz.pinned (.plain (OpenSpec.ofChange progKeepsSpec)) progKeepsCard

/-- THE TIED CARD OF 'tremalaw08.ProgWeights'. -/
def progWeightsCard : Claim7 := { stood := { row := progWeightsRow, standIns := [], harness := (true, "e1c2b694872e55947c1ad04fe9917068232650b76172bba42c1558443b506b49"), looks := true }, kinds := [], alts := [], laidByText := true, laidKinds := [.data, .data, .data, .data, .data, .data, .data, .data, .data, .pinned, .pinned], laidTests := true, laidLooks := .later }
def ProgWeightsCardSaid : Prop := Claim7.holds Tryz.pinned (.plain (OpenSpec.ofChange progWeightsSpec)) progWeightsCard

/-- THE SECOND FORM's CARD OF 'tremalaw07.SyntaxMays'. -/
def syntaxMaysUptoCard : Claim7 := { stood := { row := syntaxMaysUptoRow, standIns := [], harness := (true, "e1c2b694872e55947c1ad04fe9917068232650b76172bba42c1558443b506b49"), looks := true }, kinds := [], alts := [], laidByText := true, laidKinds := [.data, .data, .data, .data, .data, .data, .pinned, .pinned], laidTests := true, laidLooks := .later }
def SyntaxMaysUptoCardSaid : Prop := Claim7.holds Tryz.pinned (.plain (OpenSpec.upto syntaxMaysSpec)) syntaxMaysUptoCard

/-- THE SECOND FORM's CARD OF 'tremalaw07.SyntaxSame'. -/
def syntaxSameUptoCard : Claim7 := { stood := { row := syntaxSameUptoRow, standIns := [], harness := (true, "e1c2b694872e55947c1ad04fe9917068232650b76172bba42c1558443b506b49"), looks := true }, kinds := [], alts := [], laidByText := true, laidKinds := [.data, .data, .data, .data, .data, .data, .pinned, .pinned], laidTests := true, laidLooks := .later }
def SyntaxSameUptoCardSaid : Prop := Claim7.holds Tryz.pinned (.plain (OpenSpec.upto syntaxSameSpec)) syntaxSameUptoCard

/-- THE SECOND FORM's CARD OF 'tremalaw07.SyntaxQuotes'. -/
def syntaxQuotesUptoCard : Claim7 := { stood := { row := syntaxQuotesUptoRow, standIns := [], harness := (true, "e1c2b694872e55947c1ad04fe9917068232650b76172bba42c1558443b506b49"), looks := true }, kinds := [], alts := [], laidByText := true, laidKinds := [.data, .data, .data, .data, .data, .data, .pinned, .pinned], laidTests := true, laidLooks := .later }
def SyntaxQuotesUptoCardSaid : Prop := Claim7.holds Tryz.pinned (.plain (OpenSpec.upto syntaxQuotesSpec)) syntaxQuotesUptoCard

/-- THE SECOND FORM's CARD OF 'tremalaw07.SyntaxKeeps'. -/
def syntaxKeepsUptoCard : Claim7 := { stood := { row := syntaxKeepsUptoRow, standIns := [], harness := (true, "e1c2b694872e55947c1ad04fe9917068232650b76172bba42c1558443b506b49"), looks := true }, kinds := [], alts := [], laidByText := true, laidKinds := [.data, .data, .data, .data, .data, .data, .pinned, .pinned], laidTests := true, laidLooks := .later }
def SyntaxKeepsUptoCardSaid : Prop := Claim7.holds Tryz.pinned (.plain (OpenSpec.upto syntaxKeepsSpec)) syntaxKeepsUptoCard

/-- THE SECOND FORM's CARD OF 'tremalaw07.SyntaxGroups'. -/
def syntaxGroupsUptoCard : Claim7 := { stood := { row := syntaxGroupsUptoRow, standIns := [], harness := (true, "e1c2b694872e55947c1ad04fe9917068232650b76172bba42c1558443b506b49"), looks := true }, kinds := [], alts := [], laidByText := true, laidKinds := [.data, .data, .data, .data, .data, .data, .pinned, .pinned], laidTests := true, laidLooks := .later }
def SyntaxGroupsUptoCardSaid : Prop := Claim7.holds Tryz.pinned (.plain (OpenSpec.upto syntaxGroupsSpec)) syntaxGroupsUptoCard

/-- THE SECOND FORM's CARD OF 'tremalaw07.SyntaxPlaces'. -/
def syntaxPlacesUptoCard : Claim7 := { stood := { row := syntaxPlacesUptoRow, standIns := [], harness := (true, "e1c2b694872e55947c1ad04fe9917068232650b76172bba42c1558443b506b49"), looks := true }, kinds := [], alts := [], laidByText := true, laidKinds := [.data, .data, .data, .data, .data, .data, .pinned, .pinned], laidTests := true, laidLooks := .later }
def SyntaxPlacesUptoCardSaid : Prop := Claim7.holds Tryz.pinned (.plain (OpenSpec.upto syntaxPlacesSpec)) syntaxPlacesUptoCard

/-- THE SECOND FORM's CARD OF 'tremalaw08.ProgCompiles'. -/
def progCompilesUptoCard : Claim7 := { stood := { row := progCompilesUptoRow, standIns := [], harness := (true, "e1c2b694872e55947c1ad04fe9917068232650b76172bba42c1558443b506b49"), looks := true }, kinds := [], alts := [], laidByText := true, laidKinds := [.data, .data, .data, .data, .data, .data, .pinned, .pinned], laidTests := true, laidLooks := .later }
def ProgCompilesUptoCardSaid : Prop := Claim7.holds Tryz.pinned (.plain (OpenSpec.upto progCompilesSpec)) progCompilesUptoCard

/-- THE SECOND FORM's CARD OF 'tremalaw08.ProgMays'. -/
def progMaysUptoCard : Claim7 := { stood := { row := progMaysUptoRow, standIns := [], harness := (true, "e1c2b694872e55947c1ad04fe9917068232650b76172bba42c1558443b506b49"), looks := true }, kinds := [], alts := [], laidByText := true, laidKinds := [.data, .data, .data, .data, .data, .data, .pinned, .pinned], laidTests := true, laidLooks := .later }
def ProgMaysUptoCardSaid : Prop := Claim7.holds Tryz.pinned (.plain (OpenSpec.upto progMaysSpec)) progMaysUptoCard

/-- THE SECOND FORM's CARD OF 'tremalaw08.ProgReaches'. -/
def progReachesUptoCard : Claim7 := { stood := { row := progReachesUptoRow, standIns := [], harness := (true, "e1c2b694872e55947c1ad04fe9917068232650b76172bba42c1558443b506b49"), looks := true }, kinds := [], alts := [], laidByText := true, laidKinds := [.data, .data, .data, .data, .data, .data, .pinned, .pinned], laidTests := true, laidLooks := .later }
def ProgReachesUptoCardSaid : Prop := Claim7.holds Tryz.pinned (.plain (OpenSpec.upto progReachesSpec)) progReachesUptoCard

/-- THE SECOND FORM's CARD OF 'tremalaw08.ProgKeeps'. -/
def progKeepsUptoCard : Claim7 := { stood := { row := progKeepsUptoRow, standIns := [], harness := (true, "e1c2b694872e55947c1ad04fe9917068232650b76172bba42c1558443b506b49"), looks := true }, kinds := [], alts := [], laidByText := true, laidKinds := [.data, .data, .data, .data, .data, .data, .pinned, .pinned], laidTests := true, laidLooks := .later }
def ProgKeepsUptoCardSaid : Prop := Claim7.holds Tryz.pinned (.plain (OpenSpec.upto progKeepsSpec)) progKeepsUptoCard

/-- THE SECOND FORM's CARD OF 'tremalaw08.ProgWeights'. -/
def progWeightsUptoCard : Claim7 := { stood := { row := progWeightsUptoRow, standIns := [], harness := (true, "e1c2b694872e55947c1ad04fe9917068232650b76172bba42c1558443b506b49"), looks := true }, kinds := [], alts := [], laidByText := true, laidKinds := [.data, .data, .data, .data, .data, .data, .data, .data, .data, .pinned, .pinned], laidTests := true, laidLooks := .later }
def ProgWeightsUptoCardSaid : Prop := Claim7.holds Tryz.pinned (.plain (OpenSpec.upto progWeightsSpec)) progWeightsUptoCard
end Rows
end Go.Proofs.YtkgeiokckfpjlaaGreatDoor
