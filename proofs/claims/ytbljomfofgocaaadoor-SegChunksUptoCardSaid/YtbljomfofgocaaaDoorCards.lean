/-
  DERIVED. GIVEN WITH THE SEED: THE CARDS: each row of YtbljomfofgocaaaDoorRows.lean that lists a variable, with what it lists TIED to the program's text (the seventh form; the later family's looks); each row that meets fmt, with fmt's text TOLD by the authors' own Lean function (tested against real Go, not proved from fmt's source: count such statements apart). THE CARD IS WHAT COUNTS. Prove the row's statement (the work); the ties are given (YtbljomfofgocaaaDoorTie.lean); close each card by the builder's one call (the guide's Derived/Test/ToyasCard.lean, 'card_holds'). Laid BY PROGRAM, IN A SANDBOX (cutbox-door.mjs). By AI agents, Wed Nov 11 2026. No macro, syntax, notation, axiom, sorry.
-/
import Derived.Test.YtbljomfofgocaaaDoorRows
import GoSem.ClaimSeven
namespace Go.Proofs.YtbljomfofgocaaaDoor
namespace Rows

/-- THE TIED CARD OF 'tremalaw03.NormSwaps'. -/
def normSwapsCard : Claim7 := { stood := { row := normSwapsRow, standIns := [], harness := (true, "fb17496dbbe4081c1f48497c977dfc418432fad78e623c27366908c1b742d508"), looks := false }, kinds := [], alts := [], laidByText := true, laidKinds := [.data, .data, .data], laidTests := true, laidLooks := .later }
def NormSwapsCardSaid : Prop := Claim7.holds Tryd.pinned (.plain (OpenSpec.ofChange normSwapsSpec)) normSwapsCard

/-- THE TIED CARD OF 'tremalaw04.SegChunks'. -/
def segChunksCard : Claim7 := { stood := { row := segChunksRow, standIns := [], harness := (true, "fb17496dbbe4081c1f48497c977dfc418432fad78e623c27366908c1b742d508"), looks := false }, kinds := [], alts := [], laidByText := true, laidKinds := [.data, .data, .data], laidTests := true, laidLooks := .later }
def SegChunksCardSaid : Prop := Claim7.holds Tryd.pinned (.plain (OpenSpec.ofChange segChunksSpec)) segChunksCard

/-- THE SECOND FORM's CARD OF 'tremalaw03.NormSwaps'. -/
def normSwapsUptoCard : Claim7 := { stood := { row := normSwapsUptoRow, standIns := [], harness := (true, "fb17496dbbe4081c1f48497c977dfc418432fad78e623c27366908c1b742d508"), looks := false }, kinds := [], alts := [], laidByText := true, laidKinds := [.data, .data, .data], laidTests := true, laidLooks := .later }
def NormSwapsUptoCardSaid : Prop := Claim7.holds Tryd.pinned (.plain (OpenSpec.upto normSwapsSpec)) normSwapsUptoCard

/-- THE SECOND FORM's CARD OF 'tremalaw04.SegChunks'. -/
def segChunksUptoCard : Claim7 := { stood := { row := segChunksUptoRow, standIns := [], harness := (true, "fb17496dbbe4081c1f48497c977dfc418432fad78e623c27366908c1b742d508"), looks := false }, kinds := [], alts := [], laidByText := true, laidKinds := [.data, .data, .data], laidTests := true, laidLooks := .later }
def SegChunksUptoCardSaid : Prop := Claim7.holds Tryd.pinned (.plain (OpenSpec.upto segChunksSpec)) segChunksUptoCard
end Rows
end Go.Proofs.YtbljomfofgocaaaDoor
