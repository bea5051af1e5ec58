/-
  A SLICE OF SLICES OF NUMBERS THAT CAME IN, opened as a list of pieces.
-/
import Derived.Test.YtmgpkjiahdacfaaDoorNormOpen
namespace Go.Proofs.YtmgpkjiahdacfaaDoor.Norm
open Go.ChangeShapes Go.WideShapes Go.ChangeAt Go.RowKit
open Utf hiding infoI32 rd_new own_form rdec_any below_drewN new_any write_any close_any
open Ucd hiding grow same Told
set_option maxRecDepth 100000

/-- a piece that came in: where it lies, its numbers, its room -/
structure Piece where
  A : Option Addr
  l : List Int
  c : Nat
def Piece.val (x : Piece) : Value := .slice x.A x.l.length x.c
def Piece.ok (W : World) (x : Piece) : Prop := x.l.length ≤ x.c ∧ x.c ≤ 9223372036854775807 ∧ Rd W W.heap.size x.A (nums x.l)
def total : List Piece → Nat
  | [] => 0
  | x :: r => x.l.length + total r
def cat : List Piece → List Int
  | [] => []
  | x :: r => x.l ++ cat r
def pieceVals (l : List Piece) : List Value := l.map Piece.val
theorem pieceVals_len (l : List Piece) : (pieceVals l).length = l.length := List.length_map ..
theorem cat_len (l : List Piece) : (cat l).length = total l := by
  induction l with
  | nil => rfl
  | cons x r ih => simp [cat, total, ih]
theorem cat_append (l m : List Piece) : cat (l ++ m) = cat l ++ cat m := by
  induction l with
  | nil => rfl
  | cons x r ih => simp [cat, ih]
theorem cat_succ {l : List Piece} {k : Nat} (h : k < l.length) : cat (l.take (k + 1)) = cat (l.take k) ++ l[k].l := by
  rw [List.take_succ_eq_append_getElem h, cat_append]; simp [cat]
theorem cat_take_le (l : List Piece) : ∀ k, (cat (l.take k)).length ≤ total l := by
  induction l with
  | nil => simp [cat, total]
  | cons x r ih =>
    intro k
    cases k with
    | zero => simp [cat]
    | succ k => have := ih k; simp only [List.take_succ_cons, cat, total, List.length_append]; omega

theorem pieces_of {H : Type} {W : World} (a : Addr) (ys : List (DataW H × List MemPlace)) : ∀ k, (∀ i y, ys[i]? = some y → ∃ x : Piece, W.cell? (a.add (k + i)) = some x.val ∧ x.ok W ∧ x.l.length ≤ Rows.uptoBulk y.1) →
    ∃ xs : List Piece, xs.length = ys.length ∧ (∀ i x, xs[i]? = some x → W.cell? (a.add (k + i)) = some x.val) ∧ (∀ x ∈ xs, x.ok W) ∧ total xs ≤ Rows.uptoBulkAll (ys.map (·.1)) := by
  induction ys with
  | nil => intro k _; exact ⟨[], rfl, by simp, by simp, by simp [total]⟩
  | cons y r ih =>
    intro k h
    obtain ⟨x, h1, h2, h3⟩ := h 0 y rfl
    obtain ⟨xs, g1, g2, g3, g4⟩ := ih (k + 1) (fun i z hz => by
      have := h (i + 1) z (by simpa using hz)
      rwa [show k + (i + 1) = k + 1 + i from by omega] at this)
    refine ⟨x :: xs, by simp [g1], ?_, ?_, ?_⟩
    · intro i z hz
      cases i with
      | zero => simp only [List.getElem?_cons_zero, Option.some.injEq] at hz; subst hz; exact h1
      | succ i => rw [show k + (i + 1) = k + 1 + i from by omega]; exact g2 i z (by simpa using hz)
    · intro z hz
      rcases List.mem_cons.1 hz with rfl | hz
      · exact h2
      · exact g3 z hz
    · simp only [total, List.map_cons, Rows.uptoBulkAll]; omega

theorem open_pieces {H : Type} {enc : TypeId × Value → H} {W : World} {a0 : Option Addr} {len cap : Nat} {d : DataW H} {p : List MemPlace}
    (h : DataW.Trod enc Tryd.prog W 0 (fun _ => true) true 33 (.slice a0 len cap) d p) :
    ∃ l : List Piece, l.length = len ∧ len ≤ cap ∧ cap ≤ 9223372036854775807 ∧ (Rd W W.heap.size a0 (pieceVals l) ∧ ∀ x ∈ l, x.ok W) ∧ total l ≤ Rows.uptoBulk d := by
  obtain ⟨fuel, hf⟩ := h
  rcases DataW.trod_slice Tryd.underlying33 hf with ⟨hcs, hx⟩ | ⟨a, len', cap', elems, rest, n, _, hcs, hx, hb, hl, hm, hlen, hel, hsp, hns⟩
  · simp [Value.cells] at hcs
    obtain ⟨rfl, rfl, rfl⟩ := hcs
    exact ⟨[], rfl, Nat.le_refl _, by omega, ⟨fun h => absurd rfl h, by simp⟩, by simp [total]⟩
  · simp [Value.cells] at hcs
    obtain ⟨rfl, rfl, rfl⟩ := hcs
    simp only [Prod.mk.injEq] at hx
    obtain ⟨hd, _⟩ := hx
    have hc1 : Tryd.prog.cellsOf 22 = 1 := by kernel_rfl
    have each : ∀ i y, elems[i]? = some y → ∃ x : Piece, W.cell? (a.add (0 + i)) = some x.val ∧ x.ok W ∧ x.l.length ≤ Rows.uptoBulk y.1 := by
      intro i y hy
      have hi : i < len := by have := (List.getElem?_eq_some_iff.1 hy).1; omega
      have h := hel i hi
      rw [hy, hc1, Nat.mul_one, Option.bind_eq_some_iff] at h
      obtain ⟨cs, hcs, ht⟩ := h
      have hv : ∃ A L C, cs = [.slice A L C] := by
        rcases DataW.trod_slice Tryd.underlying22 ht with ⟨h1, _⟩ | ⟨_, _, _, _, _, _, _, h1, _⟩
        · exact ⟨_, _, _, h1⟩
        · exact ⟨_, _, _, h1⟩
      obtain ⟨A, L, C, rfl⟩ := hv
      obtain ⟨l, h1, h2, h3, hw, h4, h5, _⟩ := open_nums (enc := enc) (a0 := A) (len := L) (cap := C) (d := y.1) (p := y.2) ⟨n, by simpa [Value.cells] using ht⟩
      refine ⟨⟨A, l, C⟩, ?_, ⟨by show l.length ≤ C; omega, h3, h4⟩, by show l.length ≤ _; omega⟩
      rw [Nat.zero_add, cell_of_cells?_one hcs]
      simp [Piece.val, h1]
    obtain ⟨xs, hx1, hx2, hx3, hx4⟩ := pieces_of a elems 0 each
    refine ⟨xs, by omega, hl, by simpa [maxLen] using hm, ⟨fun hne => ?_, hx3⟩, by rw [hd]; simp only [Rows.uptoBulk]; omega⟩
    have h0 : 0 < xs.length := by
      rcases Nat.eq_zero_or_pos xs.length with h | h
      · have : xs = [] := List.eq_nil_of_length_eq_zero h
        subst this; exact absurd rfl hne
      · exact h
    obtain ⟨b, o, spot⟩ := a
    have hc0 := hx2 0 xs[0] (List.getElem?_eq_getElem h0)
    have hspot : spot = none := by simpa [Addr.add] using World.cell?_spot hc0
    subst hspot
    have hc0' : W.cell? ⟨b, o, none⟩ = some xs[0].val := by simpa [Addr.add] using hc0
    refine ⟨b, o, rfl, World.block_lt_of_cell? W _ hc0', fun j u hu => ?_⟩
    simp only [pieceVals, List.getElem?_map, Option.map_eq_some_iff] at hu
    obtain ⟨x, hx, rfl⟩ := hu
    have := hx2 j x hx
    have hadd : (⟨b, o, none⟩ : Addr).add (0 + j) = ⟨b, o + j, none⟩ := by rw [Nat.zero_add]; unfold Addr.add; split <;> simp_all
    rwa [hadd] at this
end Go.Proofs.YtmgpkjiahdacfaaDoor.Norm
