/-
  DERIVED. GIVEN WITH THE SEED: THE CARDS: each row of YtochodombojamaaDoorRows.lean that lists a variable, with what it lists TIED to the program's text (the seventh form; the later family's looks); each row that meets fmt, with fmt's text TOLD by the authors' own Lean function (tested against real Go, not proved from fmt's source: count such statements apart). THE CARD IS WHAT COUNTS. Prove the row's statement (the work); the ties are given (YtochodombojamaaDoorTie.lean); close each card by the builder's one call (the guide's Derived/Test/ToyasCard.lean, 'card_holds'). Laid BY PROGRAM, IN A SANDBOX (cutbox-door.mjs). By AI agents, Wed Nov 11 2026. No macro, syntax, notation, axiom, sorry.
-/
import Derived.Test.YtochodombojamaaDoorRows
import GoSem.ClaimSeven
namespace Go.Proofs.YtochodombojamaaDoor
namespace Rows

/-- THE TIED CARD OF 'tremalaw03.NormSwaps'. -/
def normSwapsCard : Claim7 := { stood := { row := normSwapsRow, standIns := [], harness := (true, "30cd8737c81f29f6a08bf8d7cd51b376584b843b7276fc4331749a4d7f8850ee"), looks := false }, kinds := [], alts := [], laidByText := true, laidKinds := [.data, .data, .data], laidTests := true, laidLooks := .later }
def NormSwapsCardSaid : Prop := Claim7.holds Tryd.pinned (.plain (OpenSpec.ofChange normSwapsSpec)) normSwapsCard

/-- THE SECOND FORM's CARD OF 'tremalaw03.NormSwaps'. -/
def normSwapsUptoCard : Claim7 := { stood := { row := normSwapsUptoRow, standIns := [], harness := (true, "30cd8737c81f29f6a08bf8d7cd51b376584b843b7276fc4331749a4d7f8850ee"), looks := false }, kinds := [], alts := [], laidByText := true, laidKinds := [.data, .data, .data], laidTests := true, laidLooks := .later }
def NormSwapsUptoCardSaid : Prop := Claim7.holds Tryd.pinned (.plain (OpenSpec.upto normSwapsSpec)) normSwapsUptoCard
end Rows
end Go.Proofs.YtochodombojamaaDoor
