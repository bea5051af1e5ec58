/-
  No cell of these rows narrows 'for every input' (looked for: loops, veiled, ifaces, maps, wideKeys, modest, calm, conditions, laid).
  DERIVED. THE GIVEN ROWS OF THIS SEAT. 4 by the template 'for every input the law returns true; each argument reads behind the call as it read before'; 0 by the template 'total and deterministic' (their statements: YtckdjbonplpknaaTotals.lean).
  GIVEN WITH THE SEED: the statements are not yours to turn. If you find one false, say at which input.
  Laid BY PROGRAM, IN A SANDBOX (cutbox-rows.mjs): the forced cells as the released guide's own fill.sh prints them over the translation 5bbed2fc4626c689… (all of the seat's roots in one cut). By AI agents, Wed Nov 11 2026. No macro, syntax, notation, axiom, sorry.
-/
import Derived.Test.YtckdjbonplpknaaChecked
import GoSem.Claim
import GoSem.ClaimJoined
import GoSem.ClaimMapViews
import Derived.JoinedTies
import Derived.KernelRfl
namespace Go.Proofs.Ytckdjbonplpknaa
/- THE CELL 'sum', in the pinned program and in every row, IS THE sha256 OF THE DUMP (.gsa) THAT YtckdjbonplpknaaProg.lean LOADS. Nothing in Lean hashes anything: it is a label: what it is worth is what the hold of that sum in a sandbox is worth. -/
noncomputable def Try.pinned : Pinned := { name := "ytckdjbonplpknaa", sum := "5bbed2fc4626c689768a6bf3b0b0bbb092d5aa203ee525513753b0c032bd1f05", checked := Try.checked }
namespace Rows
def none {H : Type} : Left H := { results := [], args := [] }

/-- 'tremalaw09.SparsePlays': WHATEVER THE INPUT: true; the input reads as it did. -/
def sparsePlaysSpec : ChangeSpec := { name := "sparsePlays", fn := fun _ => fun
  | [d1, d2] => { results := [.lit (.bool true)], args := [d1, d2] }
  | _ => none }
def sparsePlaysRow : OpenClaim := { program := "ytckdjbonplpknaa", sum := "5bbed2fc4626c689768a6bf3b0b0bbb092d5aa203ee525513753b0c032bd1f05", func := "trema/tremalaw09.SparsePlays", spec := "sparsePlays", apart := false }
def SparsePlaysSaid : Prop := sparsePlaysRow.holds Try.pinned (OpenSpec.ofChange sparsePlaysSpec)

/-- ITS FALSE NEIGHBOUR: 'it returns false'. Refute it at one input. -/
def sparsePlaysWrong : ChangeSpec := { name := "sparsePlays", fn := fun _ => fun
  | [d1, d2] => { results := [.lit (.bool false)], args := [d1, d2] }
  | _ => none }
def SparsePlaysWrongFalsely : Prop := sparsePlaysRow.holds Try.pinned (OpenSpec.ofChange sparsePlaysWrong)

/-- 'tremalaw09.SparseKinds': WHATEVER THE INPUT: true; the input reads as it did. -/
def sparseKindsSpec : ChangeSpec := { name := "sparseKinds", fn := fun _ => fun
  | [d1, d2] => { results := [.lit (.bool true)], args := [d1, d2] }
  | _ => none }
def sparseKindsRow : OpenClaim := { program := "ytckdjbonplpknaa", sum := "5bbed2fc4626c689768a6bf3b0b0bbb092d5aa203ee525513753b0c032bd1f05", func := "trema/tremalaw09.SparseKinds", spec := "sparseKinds", apart := false }
def SparseKindsSaid : Prop := sparseKindsRow.holds Try.pinned (OpenSpec.ofChange sparseKindsSpec)

/-- ITS FALSE NEIGHBOUR: 'it returns false'. Refute it at one input. -/
def sparseKindsWrong : ChangeSpec := { name := "sparseKinds", fn := fun _ => fun
  | [d1, d2] => { results := [.lit (.bool false)], args := [d1, d2] }
  | _ => none }
def SparseKindsWrongFalsely : Prop := sparseKindsRow.holds Try.pinned (OpenSpec.ofChange sparseKindsWrong)

/-- 'tremalaw09.SparseClears': WHATEVER THE INPUT: true; the input reads as it did. -/
def sparseClearsSpec : ChangeSpec := { name := "sparseClears", fn := fun _ => fun
  | [d1, d2, d3] => { results := [.lit (.bool true)], args := [d1, d2, d3] }
  | _ => none }
def sparseClearsRow : OpenClaim := { program := "ytckdjbonplpknaa", sum := "5bbed2fc4626c689768a6bf3b0b0bbb092d5aa203ee525513753b0c032bd1f05", func := "trema/tremalaw09.SparseClears", spec := "sparseClears", apart := false }
def SparseClearsSaid : Prop := sparseClearsRow.holds Try.pinned (OpenSpec.ofChange sparseClearsSpec)

/-- ITS FALSE NEIGHBOUR: 'it returns false'. Refute it at one input. -/
def sparseClearsWrong : ChangeSpec := { name := "sparseClears", fn := fun _ => fun
  | [d1, d2, d3] => { results := [.lit (.bool false)], args := [d1, d2, d3] }
  | _ => none }
def SparseClearsWrongFalsely : Prop := sparseClearsRow.holds Try.pinned (OpenSpec.ofChange sparseClearsWrong)

/-- 'tremalaw09.SparseOrders': WHATEVER THE INPUT: true; the input reads as it did. -/
def sparseOrdersSpec : ChangeSpec := { name := "sparseOrders", fn := fun _ => fun
  | [d1, d2] => { results := [.lit (.bool true)], args := [d1, d2] }
  | _ => none }
def sparseOrdersRow : OpenClaim := { program := "ytckdjbonplpknaa", sum := "5bbed2fc4626c689768a6bf3b0b0bbb092d5aa203ee525513753b0c032bd1f05", func := "trema/tremalaw09.SparseOrders", spec := "sparseOrders", apart := false }
def SparseOrdersSaid : Prop := sparseOrdersRow.holds Try.pinned (OpenSpec.ofChange sparseOrdersSpec)

/-- ITS FALSE NEIGHBOUR: 'it returns false'. Refute it at one input. -/
def sparseOrdersWrong : ChangeSpec := { name := "sparseOrders", fn := fun _ => fun
  | [d1, d2] => { results := [.lit (.bool false)], args := [d1, d2] }
  | _ => none }
def SparseOrdersWrongFalsely : Prop := sparseOrdersRow.holds Try.pinned (OpenSpec.ofChange sparseOrdersWrong)

/- THE SECOND FORM. 'bulk': how many values and letters a reading holds, each counted each time it is reached (what is shared counts as often as it is met; a slice's spare places count too). A statement '..UptoSaid' is the law's where the arguments, and the package variables that the reading takes, are together of bulk at most 1048576: NARROWER than '..Said'. Prove '..Said' where nothing that the law and all that it calls make is longer than what came in: it says more and counts as full. Else prove '..UptoSaid'. A law counts once. -/
mutual
def uptoBulk {H : Type} : DataW H → Nat
  | .lit (.string bytes) => bytes.length + 1
  | .lit _ => 1
  | .nil => 1
  | .ptr d => uptoBulk d + 1
  | .slice elems spare => uptoBulkAll elems + uptoBulkAll spare + 1
  | .agg parts => uptoBulkAll parts + 1
  | .iface _ d => uptoBulk d + 1
  | .map entries => uptoBulkEntries entries + 1
  | .held _ => 1
def uptoBulkAll {H : Type} : List (DataW H) → Nat
  | [] => 0
  | d :: r => uptoBulk d + uptoBulkAll r
def uptoBulkEntries {H : Type} : List (Lit × DataW H) → Nat
  | [] => 0
  | x :: r => uptoBulkEntry x + uptoBulkEntries r
def uptoBulkEntry {H : Type} : Lit × DataW H → Nat
  | (.string bytes, d) => bytes.length + uptoBulk d + 1
  | (_, d) => uptoBulk d + 1
 end
def uptoSmall : (H : Type) → List (DataW H) → Bool := fun _ ds => decide (uptoBulkAll ds ≤ 1048576)
def OpenSpec.upto (s : _root_.Go.ChangeSpec) : _root_.Go.OpenSpec := { _root_.Go.OpenSpec.ofChange s with cond := some uptoSmall }

/-- 'tremalaw09.SparsePlays', WHERE WHAT IT READS IS OF BULK AT MOST 1048576: true; the input reads as it did. -/
def sparsePlaysUptoRow : OpenClaim := { program := "ytckdjbonplpknaa", sum := "5bbed2fc4626c689768a6bf3b0b0bbb092d5aa203ee525513753b0c032bd1f05", func := "trema/tremalaw09.SparsePlays", spec := "sparsePlays", apart := false, narrowed := true }
def SparsePlaysUptoSaid : Prop := sparsePlaysUptoRow.holds Try.pinned (OpenSpec.upto sparsePlaysSpec)

/-- 'tremalaw09.SparseKinds', WHERE WHAT IT READS IS OF BULK AT MOST 1048576: true; the input reads as it did. -/
def sparseKindsUptoRow : OpenClaim := { program := "ytckdjbonplpknaa", sum := "5bbed2fc4626c689768a6bf3b0b0bbb092d5aa203ee525513753b0c032bd1f05", func := "trema/tremalaw09.SparseKinds", spec := "sparseKinds", apart := false, narrowed := true }
def SparseKindsUptoSaid : Prop := sparseKindsUptoRow.holds Try.pinned (OpenSpec.upto sparseKindsSpec)

/-- 'tremalaw09.SparseClears', WHERE WHAT IT READS IS OF BULK AT MOST 1048576: true; the input reads as it did. -/
def sparseClearsUptoRow : OpenClaim := { program := "ytckdjbonplpknaa", sum := "5bbed2fc4626c689768a6bf3b0b0bbb092d5aa203ee525513753b0c032bd1f05", func := "trema/tremalaw09.SparseClears", spec := "sparseClears", apart := false, narrowed := true }
def SparseClearsUptoSaid : Prop := sparseClearsUptoRow.holds Try.pinned (OpenSpec.upto sparseClearsSpec)

/-- 'tremalaw09.SparseOrders', WHERE WHAT IT READS IS OF BULK AT MOST 1048576: true; the input reads as it did. -/
def sparseOrdersUptoRow : OpenClaim := { program := "ytckdjbonplpknaa", sum := "5bbed2fc4626c689768a6bf3b0b0bbb092d5aa203ee525513753b0c032bd1f05", func := "trema/tremalaw09.SparseOrders", spec := "sparseOrders", apart := false, narrowed := true }
def SparseOrdersUptoSaid : Prop := sparseOrdersUptoRow.holds Try.pinned (OpenSpec.upto sparseOrdersSpec)

end Rows
end Go.Proofs.Ytckdjbonplpknaa
