/-
  DERIVED. GIVEN WITH THE SEED: THE CARDS: each row of YtdngaddggcmjgaaDoorRows.lean that lists a variable, with what it lists TIED to the program's text (the seventh form; the later family's looks); each row that meets fmt, with fmt's text TOLD by the authors' own Lean function (tested against real Go, not proved from fmt's source: count such statements apart). THE CARD IS WHAT COUNTS. Prove the row's statement (the work); the ties are given (YtdngaddggcmjgaaDoorTie.lean); close each card by the builder's one call (the guide's Derived/Test/ToyasCard.lean, 'card_holds'). Laid BY PROGRAM, IN A SANDBOX (cutbox-door.mjs). By AI agents, Wed Nov 11 2026. No macro, syntax, notation, axiom, sorry.
-/
import Derived.Test.YtdngaddggcmjgaaDoorRows
import GoSem.ClaimSeven
namespace Go.Proofs.YtdngaddggcmjgaaDoor
namespace Rows

/-- THE TIED CARD OF 'tremalaw13.WordsKeys'. -/
def wordsKeysCard : Claim7 := { stood := { row := wordsKeysRow, standIns := [], harness := (true, "d3c45973b99ef1dcc688da0b6fb05e29cc9595bba5a70ba31d668538ab939300"), looks := false }, kinds := [], alts := [], laidByText := true, laidKinds := [.data, .data, .data, .data, .data, .data], laidTests := true, laidLooks := .later }
def WordsKeysCardSaid : Prop := Claim7.holds Tryd.pinned (.plain (OpenSpec.ofChange wordsKeysSpec)) wordsKeysCard

/-- THE TIED CARD OF 'tremalaw13.WordsSame'. -/
def wordsSameCard : Claim7 := { stood := { row := wordsSameRow, standIns := [], harness := (true, "d3c45973b99ef1dcc688da0b6fb05e29cc9595bba5a70ba31d668538ab939300"), looks := false }, kinds := [], alts := [], laidByText := true, laidKinds := [.data, .data, .data, .data, .data, .data], laidTests := true, laidLooks := .later }
def WordsSameCardSaid : Prop := Claim7.holds Tryd.pinned (.plain (OpenSpec.ofChange wordsSameSpec)) wordsSameCard

/-- THE TIED CARD OF 'tremalaw13.WordsApart'. -/
def wordsApartCard : Claim7 := { stood := { row := wordsApartRow, standIns := [], harness := (true, "d3c45973b99ef1dcc688da0b6fb05e29cc9595bba5a70ba31d668538ab939300"), looks := false }, kinds := [], alts := [], laidByText := true, laidKinds := [.data, .data, .data, .data, .data, .data], laidTests := true, laidLooks := .later }
def WordsApartCardSaid : Prop := Claim7.holds Tryd.pinned (.plain (OpenSpec.ofChange wordsApartSpec)) wordsApartCard

/-- THE TIED CARD OF 'tremalaw13.WordsCases'. -/
def wordsCasesCard : Claim7 := { stood := { row := wordsCasesRow, standIns := [], harness := (true, "d3c45973b99ef1dcc688da0b6fb05e29cc9595bba5a70ba31d668538ab939300"), looks := false }, kinds := [], alts := [], laidByText := true, laidKinds := [.data, .data, .data, .data, .data, .data], laidTests := true, laidLooks := .later }
def WordsCasesCardSaid : Prop := Claim7.holds Tryd.pinned (.plain (OpenSpec.ofChange wordsCasesSpec)) wordsCasesCard

/-- THE TIED CARD OF 'tremalaw13.WordsBeside'. -/
def wordsBesideCard : Claim7 := { stood := { row := wordsBesideRow, standIns := [], harness := (true, "d3c45973b99ef1dcc688da0b6fb05e29cc9595bba5a70ba31d668538ab939300"), looks := false }, kinds := [], alts := [], laidByText := true, laidKinds := [.data, .data, .data, .data, .data, .data], laidTests := true, laidLooks := .later }
def WordsBesideCardSaid : Prop := Claim7.holds Tryd.pinned (.plain (OpenSpec.ofChange wordsBesideSpec)) wordsBesideCard

/-- THE SECOND FORM's CARD OF 'tremalaw13.WordsKeys'. -/
def wordsKeysUptoCard : Claim7 := { stood := { row := wordsKeysUptoRow, standIns := [], harness := (true, "d3c45973b99ef1dcc688da0b6fb05e29cc9595bba5a70ba31d668538ab939300"), looks := false }, kinds := [], alts := [], laidByText := true, laidKinds := [.data, .data, .data, .data, .data, .data], laidTests := true, laidLooks := .later }
def WordsKeysUptoCardSaid : Prop := Claim7.holds Tryd.pinned (.plain (OpenSpec.upto wordsKeysSpec)) wordsKeysUptoCard

/-- THE SECOND FORM's CARD OF 'tremalaw13.WordsSame'. -/
def wordsSameUptoCard : Claim7 := { stood := { row := wordsSameUptoRow, standIns := [], harness := (true, "d3c45973b99ef1dcc688da0b6fb05e29cc9595bba5a70ba31d668538ab939300"), looks := false }, kinds := [], alts := [], laidByText := true, laidKinds := [.data, .data, .data, .data, .data, .data], laidTests := true, laidLooks := .later }
def WordsSameUptoCardSaid : Prop := Claim7.holds Tryd.pinned (.plain (OpenSpec.upto wordsSameSpec)) wordsSameUptoCard

/-- THE SECOND FORM's CARD OF 'tremalaw13.WordsApart'. -/
def wordsApartUptoCard : Claim7 := { stood := { row := wordsApartUptoRow, standIns := [], harness := (true, "d3c45973b99ef1dcc688da0b6fb05e29cc9595bba5a70ba31d668538ab939300"), looks := false }, kinds := [], alts := [], laidByText := true, laidKinds := [.data, .data, .data, .data, .data, .data], laidTests := true, laidLooks := .later }
def WordsApartUptoCardSaid : Prop := Claim7.holds Tryd.pinned (.plain (OpenSpec.upto wordsApartSpec)) wordsApartUptoCard

/-- THE SECOND FORM's CARD OF 'tremalaw13.WordsCases'. -/
def wordsCasesUptoCard : Claim7 := { stood := { row := wordsCasesUptoRow, standIns := [], harness := (true, "d3c45973b99ef1dcc688da0b6fb05e29cc9595bba5a70ba31d668538ab939300"), looks := false }, kinds := [], alts := [], laidByText := true, laidKinds := [.data, .data, .data, .data, .data, .data], laidTests := true, laidLooks := .later }
def WordsCasesUptoCardSaid : Prop := Claim7.holds Tryd.pinned (.plain (OpenSpec.upto wordsCasesSpec)) wordsCasesUptoCard

/-- THE SECOND FORM's CARD OF 'tremalaw13.WordsBeside'. -/
def wordsBesideUptoCard : Claim7 := { stood := { row := wordsBesideUptoRow, standIns := [], harness := (true, "d3c45973b99ef1dcc688da0b6fb05e29cc9595bba5a70ba31d668538ab939300"), looks := false }, kinds := [], alts := [], laidByText := true, laidKinds := [.data, .data, .data, .data, .data, .data], laidTests := true, laidLooks := .later }
def WordsBesideUptoCardSaid : Prop := Claim7.holds Tryd.pinned (.plain (OpenSpec.upto wordsBesideSpec)) wordsBesideUptoCard
end Rows
end Go.Proofs.YtdngaddggcmjgaaDoor
