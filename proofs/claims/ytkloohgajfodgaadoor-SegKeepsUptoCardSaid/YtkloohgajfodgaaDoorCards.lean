/-
  DERIVED. GIVEN WITH THE SEED: THE CARDS: each row of YtkloohgajfodgaaDoorRows.lean that lists a variable, with what it lists TIED to the program's text (the seventh form; the later family's looks); each row that meets fmt, with fmt's text TOLD by the authors' own Lean function (tested against real Go, not proved from fmt's source: count such statements apart). THE CARD IS WHAT COUNTS. Prove the row's statement (the work); the ties are given (YtkloohgajfodgaaDoorTie.lean); close each card by the builder's one call (the guide's Derived/Test/ToyasCard.lean, 'card_holds'). Laid BY PROGRAM, IN A SANDBOX (cutbox-door.mjs). By AI agents, Wed Nov 11 2026. No macro, syntax, notation, axiom, sorry.
-/
import Derived.Test.YtkloohgajfodgaaDoorRows
import GoSem.ClaimSeven
namespace Go.Proofs.YtkloohgajfodgaaDoor
namespace Rows

/-- THE TIED CARD OF 'tremalaw04.SegSplits'. -/
def segSplitsCard : Claim7 := { stood := { row := segSplitsRow, standIns := [], harness := (true, "adea4df778acfa1995862390abdb976ceffb5e5969a089237852ce03839f1c8c"), looks := false }, kinds := [], alts := [], laidByText := true, laidKinds := [.data, .data, .data], laidTests := true, laidLooks := .later }
def SegSplitsCardSaid : Prop := Claim7.holds Tryd.pinned (.plain (OpenSpec.ofChange segSplitsSpec)) segSplitsCard

/-- THE TIED CARD OF 'tremalaw04.SegChunks'. -/
def segChunksCard : Claim7 := { stood := { row := segChunksRow, standIns := [], harness := (true, "adea4df778acfa1995862390abdb976ceffb5e5969a089237852ce03839f1c8c"), looks := false }, kinds := [], alts := [], laidByText := true, laidKinds := [.data, .data, .data], laidTests := true, laidLooks := .later }
def SegChunksCardSaid : Prop := Claim7.holds Tryd.pinned (.plain (OpenSpec.ofChange segChunksSpec)) segChunksCard

/-- THE TIED CARD OF 'tremalaw04.SegFills'. -/
def segFillsCard : Claim7 := { stood := { row := segFillsRow, standIns := [], harness := (true, "adea4df778acfa1995862390abdb976ceffb5e5969a089237852ce03839f1c8c"), looks := false }, kinds := [], alts := [], laidByText := true, laidKinds := [.data, .data, .data], laidTests := true, laidLooks := .later }
def SegFillsCardSaid : Prop := Claim7.holds Tryd.pinned (.plain (OpenSpec.ofChange segFillsSpec)) segFillsCard

/-- THE TIED CARD OF 'tremalaw04.SegSame'. -/
def segSameCard : Claim7 := { stood := { row := segSameRow, standIns := [], harness := (true, "adea4df778acfa1995862390abdb976ceffb5e5969a089237852ce03839f1c8c"), looks := false }, kinds := [], alts := [], laidByText := true, laidKinds := [.data, .data, .data], laidTests := true, laidLooks := .later }
def SegSameCardSaid : Prop := Claim7.holds Tryd.pinned (.plain (OpenSpec.ofChange segSameSpec)) segSameCard

/-- THE TIED CARD OF 'tremalaw04.SegKeeps'. -/
def segKeepsCard : Claim7 := { stood := { row := segKeepsRow, standIns := [], harness := (true, "adea4df778acfa1995862390abdb976ceffb5e5969a089237852ce03839f1c8c"), looks := false }, kinds := [], alts := [], laidByText := true, laidKinds := [.data, .data, .data], laidTests := true, laidLooks := .later }
def SegKeepsCardSaid : Prop := Claim7.holds Tryd.pinned (.plain (OpenSpec.ofChange segKeepsSpec)) segKeepsCard

/-- THE TIED CARD OF 'tremalaw04.SegCounts'. -/
def segCountsCard : Claim7 := { stood := { row := segCountsRow, standIns := [], harness := (true, "adea4df778acfa1995862390abdb976ceffb5e5969a089237852ce03839f1c8c"), looks := false }, kinds := [], alts := [], laidByText := true, laidKinds := [.data, .data, .data], laidTests := true, laidLooks := .later }
def SegCountsCardSaid : Prop := Claim7.holds Tryd.pinned (.plain (OpenSpec.ofChange segCountsSpec)) segCountsCard

/-- THE TIED CARD OF 'tremalaw04.SegJoins'. -/
def segJoinsCard : Claim7 := { stood := { row := segJoinsRow, standIns := [], harness := (true, "adea4df778acfa1995862390abdb976ceffb5e5969a089237852ce03839f1c8c"), looks := false }, kinds := [], alts := [], laidByText := true, laidKinds := [.data, .data, .data], laidTests := true, laidLooks := .later }
def SegJoinsCardSaid : Prop := Claim7.holds Tryd.pinned (.plain (OpenSpec.ofChange segJoinsSpec)) segJoinsCard

/-- THE TIED CARD OF 'tremalaw03.NormSwaps'. -/
def normSwapsCard : Claim7 := { stood := { row := normSwapsRow, standIns := [], harness := (true, "adea4df778acfa1995862390abdb976ceffb5e5969a089237852ce03839f1c8c"), looks := false }, kinds := [], alts := [], laidByText := true, laidKinds := [.data, .data, .data], laidTests := true, laidLooks := .later }
def NormSwapsCardSaid : Prop := Claim7.holds Tryd.pinned (.plain (OpenSpec.ofChange normSwapsSpec)) normSwapsCard

/-- THE SECOND FORM's CARD OF 'tremalaw04.SegSplits'. -/
def segSplitsUptoCard : Claim7 := { stood := { row := segSplitsUptoRow, standIns := [], harness := (true, "adea4df778acfa1995862390abdb976ceffb5e5969a089237852ce03839f1c8c"), looks := false }, kinds := [], alts := [], laidByText := true, laidKinds := [.data, .data, .data], laidTests := true, laidLooks := .later }
def SegSplitsUptoCardSaid : Prop := Claim7.holds Tryd.pinned (.plain (OpenSpec.upto segSplitsSpec)) segSplitsUptoCard

/-- THE SECOND FORM's CARD OF 'tremalaw04.SegChunks'. -/
def segChunksUptoCard : Claim7 := { stood := { row := segChunksUptoRow, standIns := [], harness := (true, "adea4df778acfa1995862390abdb976ceffb5e5969a089237852ce03839f1c8c"), looks := false }, kinds := [], alts := [], laidByText := true, laidKinds := [.data, .data, .data], laidTests := true, laidLooks := .later }
def SegChunksUptoCardSaid : Prop := Claim7.holds Tryd.pinned (.plain (OpenSpec.upto segChunksSpec)) segChunksUptoCard

/-- THE SECOND FORM's CARD OF 'tremalaw04.SegFills'. -/
def segFillsUptoCard : Claim7 := { stood := { row := segFillsUptoRow, standIns := [], harness := (true, "adea4df778acfa1995862390abdb976ceffb5e5969a089237852ce03839f1c8c"), looks := false }, kinds := [], alts := [], laidByText := true, laidKinds := [.data, .data, .data], laidTests := true, laidLooks := .later }
def SegFillsUptoCardSaid : Prop := Claim7.holds Tryd.pinned (.plain (OpenSpec.upto segFillsSpec)) segFillsUptoCard

/-- THE SECOND FORM's CARD OF 'tremalaw04.SegSame'. -/
def segSameUptoCard : Claim7 := { stood := { row := segSameUptoRow, standIns := [], harness := (true, "adea4df778acfa1995862390abdb976ceffb5e5969a089237852ce03839f1c8c"), looks := false }, kinds := [], alts := [], laidByText := true, laidKinds := [.data, .data, .data], laidTests := true, laidLooks := .later }
def SegSameUptoCardSaid : Prop := Claim7.holds Tryd.pinned (.plain (OpenSpec.upto segSameSpec)) segSameUptoCard

/-- THE SECOND FORM's CARD OF 'tremalaw04.SegKeeps'. -/
def segKeepsUptoCard : Claim7 := { stood := { row := segKeepsUptoRow, standIns := [], harness := (true, "adea4df778acfa1995862390abdb976ceffb5e5969a089237852ce03839f1c8c"), looks := false }, kinds := [], alts := [], laidByText := true, laidKinds := [.data, .data, .data], laidTests := true, laidLooks := .later }
def SegKeepsUptoCardSaid : Prop := Claim7.holds Tryd.pinned (.plain (OpenSpec.upto segKeepsSpec)) segKeepsUptoCard

/-- THE SECOND FORM's CARD OF 'tremalaw04.SegCounts'. -/
def segCountsUptoCard : Claim7 := { stood := { row := segCountsUptoRow, standIns := [], harness := (true, "adea4df778acfa1995862390abdb976ceffb5e5969a089237852ce03839f1c8c"), looks := false }, kinds := [], alts := [], laidByText := true, laidKinds := [.data, .data, .data], laidTests := true, laidLooks := .later }
def SegCountsUptoCardSaid : Prop := Claim7.holds Tryd.pinned (.plain (OpenSpec.upto segCountsSpec)) segCountsUptoCard

/-- THE SECOND FORM's CARD OF 'tremalaw04.SegJoins'. -/
def segJoinsUptoCard : Claim7 := { stood := { row := segJoinsUptoRow, standIns := [], harness := (true, "adea4df778acfa1995862390abdb976ceffb5e5969a089237852ce03839f1c8c"), looks := false }, kinds := [], alts := [], laidByText := true, laidKinds := [.data, .data, .data], laidTests := true, laidLooks := .later }
def SegJoinsUptoCardSaid : Prop := Claim7.holds Tryd.pinned (.plain (OpenSpec.upto segJoinsSpec)) segJoinsUptoCard

/-- THE SECOND FORM's CARD OF 'tremalaw03.NormSwaps'. -/
def normSwapsUptoCard : Claim7 := { stood := { row := normSwapsUptoRow, standIns := [], harness := (true, "adea4df778acfa1995862390abdb976ceffb5e5969a089237852ce03839f1c8c"), looks := false }, kinds := [], alts := [], laidByText := true, laidKinds := [.data, .data, .data], laidTests := true, laidLooks := .later }
def NormSwapsUptoCardSaid : Prop := Claim7.holds Tryd.pinned (.plain (OpenSpec.upto normSwapsSpec)) normSwapsUptoCard
end Rows
end Go.Proofs.YtkloohgajfodgaaDoor
