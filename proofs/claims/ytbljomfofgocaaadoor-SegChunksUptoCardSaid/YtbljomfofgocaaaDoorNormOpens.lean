/-
  WHAT A ROW's LIST OF VARIABLES GIVES (the tables hold what they hold); a world for the witnesses; arguments opened that no stage before had.
-/
import Derived.Test.YtbljomfofgocaaaDoorCards
import Derived.Test.YtbljomfofgocaaaDoorTie
import Derived.Test.YtbljomfofgocaaaDoorUtfOpen
import Derived.Test.YtbljomfofgocaaaDoorNormFixed
import Derived.Deep.DeepHandedRow
import Derived.Lib.LaidTab
import Derived.MakeChecks
namespace Go.Proofs.YtbljomfofgocaaaDoor.Norm
open Go.ChangeShapes Go.WideShapes Go.ChangeAt Go.RowKit
open Utf hiding infoI32 rd_new own_form rdec_any below_drewN new_any write_any close_any
open Ucd hiding grow same Told

/-! ### the tables -/
def Reads (w : World) (n : String) (d : DataW Unit) : Prop :=
  ∃ g t cs fuel p, Tryd.prog.globalNamed n = some g ∧ (Tryd.prog.globals[g]?).map (·.type) = some t ∧ w.var? Tryd.prog n = some cs ∧ DataW.trod (fun _ => ()) Tryd.prog w 0 (fun _ => true) false fuel t cs.toList = some (d, p)
theorem vars_reads {w : World} : ∀ {l : List (String × DataW Unit)} {ps : List MemPlace}, DataW.LaidVars Tryd.prog w l ps → ∀ n d, (n, d) ∈ l → Reads w n d
  | [], _, _, _, _, hm => by cases hm
  | (n', d') :: r, ps, h, n, d, hm => by
    obtain ⟨g, t, cs, fuel, p, q, h1, h2, h3, h4, h5, _⟩ := h
    rcases List.mem_cons.1 hm with e | e
    · cases e
      exact ⟨g, t, cs, fuel, p, h1, h2, h3, h4⟩
    · exact vars_reads h5 n d e
theorem var_heap {P : Program} {w : World} {n : String} {g : Nat} {cs : Array Value} (hg : P.globalNamed n = some g) (h : w.var? P n = some cs) : ∃ t fr, w.heap[g]? = some (.cells cs t fr) := by
  simp only [World.var?, hg, Option.bind_some] at h
  split at h
  · rename_i c t fr he
    cases h
    exact ⟨t, fr, he⟩
  · cases h

theorem chunks {α : Type} (flat : α → List Value) (sz : Nat) : ∀ (xs : List α) (cs : List Value), cs.length = xs.length * sz → (∀ (i : Nat) (h : i < xs.length), (cs.drop (i * sz)).take sz = flat xs[i]) → cs = xs.flatMap flat
  | [], cs, hl, _ => by simpa using hl
  | x :: t, cs, hl, h => by
    have h0 := h 0 (by simp)
    rw [Nat.zero_mul, List.drop_zero] at h0
    have hr := chunks flat sz t (cs.drop sz) (by rw [List.length_drop, hl, List.length_cons, Nat.succ_mul]; omega) (fun i hi => by
      have := h (i + 1) (by simpa using hi)
      rw [List.drop_drop, show sz + i * sz = (i + 1) * sz from by rw [Nat.succ_mul]; omega]
      simpa using this)
    rw [List.flatMap_cons]
    have e : flat x = flat (x :: t)[0] := rfl
    rw [e, ← h0, ← hr, List.take_append_drop]
theorem cells_of_rows {α : Type} {w : World} {fuel : Nat} {t e : TypeId} {n sz : Nat} {cs : List Value} {p : List MemPlace} (enc : α → DataW Unit) (flat : α → List Value) (xs : List α)
    (ht : Tryd.prog.underlying t = some (.array n e)) (hce : Tryd.prog.cellsOf e = sz) (hct : Tryd.prog.cellsOf t = n * sz)
    (inner : ∀ (fuel : Nat) (c : List Value) (x : α) (p : List MemPlace), DataW.trod (fun _ => ()) Tryd.prog w 0 (fun _ => true) false fuel e c = some (enc x, p) → c = flat x)
    (h : DataW.trod (fun _ => ()) Tryd.prog w 0 (fun _ => true) false fuel t cs = some (.agg (xs.map enc), p)) : cs = xs.flatMap flat := by
  cases fuel with
  | zero => simp [DataW.trod] at h
  | succ fuel =>
    simp only [DataW.trod, ht, hce, hct] at h
    split at h
    · rename_i hl
      obtain ⟨ys, hm, hx⟩ := Option.map_eq_some_iff.1 h
      have hxs : ys.map (·.1) = xs.map enc := by
        have := congrArg Prod.fst hx
        simpa using this
      have hyl : ys.length = n := by simpa using Lib.mapM_length hm
      have hxl : xs.length = n := by
        have := congrArg List.length hxs
        simp at this
        omega
      refine chunks flat sz xs cs (by rw [hl, hxl]) fun i hi => ?_
      obtain ⟨b, hb, hf⟩ := Lib.mapM_at hm i i (List.getElem?_range (by omega))
      have h2 : (ys.map (·.1))[i]? = some b.1 := by simp [hb]
      rw [hxs, List.getElem?_map, List.getElem?_eq_getElem hi, Option.map_some, Option.some.injEq] at h2
      obtain ⟨bd, bp⟩ := b
      exact inner fuel _ _ bp (by rw [hf]; exact congrArg some (Prod.ext h2.symm rfl))
    · cases h

def d3 (x : Int × Int × Int) : DataW Unit := .agg [.lit (.int .i32 x.1), .lit (.int .i32 x.2.1), .lit (.int .i32 x.2.2)]
theorem cells32 : Tryd.prog.cellsOf 21 = 1 := by kernel_rfl
theorem cellsStretch : Tryd.prog.cellsOf 109 = 3 := by kernel_rfl
theorem cellsPair : Tryd.prog.cellsOf 117 = 3 := by kernel_rfl
theorem take_one {cs : List Value} {k : Nat} {v : Value} (h : (cs.drop k).take 1 = [v]) : cs[k]? = some v := by
  have := congrArg (·[0]?) h
  simpa [List.getElem?_take, List.getElem?_drop] using this
theorem three_of {cs : List Value} {a b c : Value} (hl : cs.length = 3) (h0 : cs[0]? = some a) (h1 : cs[1]? = some b) (h2 : cs[2]? = some c) : cs = [a, b, c] := by
  match cs, hl with
  | [x, y, z], _ => simp at h0 h1 h2; rw [h0, h1, h2]
theorem int_cell {w : World} {fuel : Nat} {c : List Value} {n : Int} {p : List MemPlace} (h : DataW.trod (fun _ => ()) Tryd.prog w 0 (fun _ => true) false fuel 21 c = some (.lit (.int .i32 n), p)) : c = [.int .i32 n] := by
  obtain ⟨m, hc, hx, _⟩ := DataW.trod_int Tryd.underlying21 h
  cases hx
  exact hc
theorem part_at {α β : Type} {f : α → Option (DataW Unit × β)} {l : List α} {ys : List (DataW Unit × β)} {ds : List (DataW Unit)} (hm : l.mapM f = some ys) (hx : ys.map (·.1) = ds) (i : Nat) (a : α) (d : DataW Unit) (ha : l[i]? = some a) (hd : ds[i]? = some d) : ∃ q, f a = some (d, q) := by
  obtain ⟨b, hb, hf⟩ := Lib.mapM_at hm i a ha
  have h2 : (ys.map (·.1))[i]? = some b.1 := by simp [hb]
  rw [hx, hd, Option.some.injEq] at h2
  exact ⟨b.2, by rw [hf, h2]⟩
theorem inner_stretch (w : World) (fuel : Nat) (c : List Value) (x : Int × Int × Int) (p : List MemPlace) (h : DataW.trod (fun _ => ()) Tryd.prog w 0 (fun _ => true) false fuel 109 c = some (d3 x, p)) : c = [.int .i32 x.1, .int .i32 x.2.1, .int .i32 x.2.2] := by
  cases fuel with
  | zero => simp [DataW.trod] at h
  | succ fuel =>
    simp only [DataW.trod, Tryd.underlying109, cellsStretch] at h
    split at h
    · rename_i hl
      obtain ⟨ys, hm, hx⟩ := Option.map_eq_some_iff.1 h
      have hxs : ys.map (·.1) = [.lit (.int .i32 x.1), .lit (.int .i32 x.2.1), .lit (.int .i32 x.2.2)] := by
        have := congrArg Prod.fst hx
        simpa [d3] using this
      obtain ⟨q0, f0⟩ := part_at hm hxs 0 _ _ rfl rfl
      obtain ⟨q1, f1⟩ := part_at hm hxs 1 _ _ rfl rfl
      obtain ⟨q2, f2⟩ := part_at hm hxs 2 _ _ rfl rfl
      rw [cells32] at f0 f1 f2
      exact three_of hl (take_one (int_cell f0)) (take_one (int_cell f1)) (take_one (int_cell f2))
    · cases h
theorem inner_pair (w : World) (fuel : Nat) (c : List Value) (x : Int × Int × Int) (p : List MemPlace) (h : DataW.trod (fun _ => ()) Tryd.prog w 0 (fun _ => true) false fuel 117 c = some (d3 x, p)) : c = [.int .i32 x.1, .int .i32 x.2.1, .int .i32 x.2.2] := by
  cases fuel with
  | zero => simp [DataW.trod] at h
  | succ fuel =>
    simp only [DataW.trod, Tryd.underlying117, cellsPair] at h
    split at h
    · rename_i hl
      obtain ⟨ys, hm, hx⟩ := Option.map_eq_some_iff.1 h
      have hxs : ys.map (·.1) = [.lit (.int .i32 x.1), .lit (.int .i32 x.2.1), .lit (.int .i32 x.2.2)] := by
        have := congrArg Prod.fst hx
        simpa [d3] using this
      obtain ⟨q0, f0⟩ := part_at hm hxs 0 _ _ rfl rfl
      obtain ⟨q1, f1⟩ := part_at hm hxs 1 _ _ rfl rfl
      obtain ⟨q2, f2⟩ := part_at hm hxs 2 _ _ rfl rfl
      rw [cells32] at f0 f1 f2
      exact three_of hl (take_one (int_cell f0)) (take_one (int_cell f1)) (take_one (int_cell f2))
    · cases h
theorem tbl_of {w : World} {n : String} {d : DataW Unit} {g : Nat} {t : TypeId} {cs : List Value} (hg : Tryd.prog.globalNamed n = some g) (hty : (Tryd.prog.globals[g]?).map (·.type) = some t) (h : Reads w n d)
    (hc : ∀ (fuel : Nat) (c : List Value) (p : List MemPlace), DataW.trod (fun _ => ()) Tryd.prog w 0 (fun _ => true) false fuel t c = some (d, p) → c = cs) : Tbl w g cs := by
  obtain ⟨g', t', c, fuel, p, h1, h2, h3, h4⟩ := h
  obtain rfl := Option.some.inj (hg.symm.trans h1)
  obtain rfl := Option.some.inj (hty.symm.trans h2)
  obtain ⟨ty, fr, hh⟩ := var_heap hg h3
  exact ⟨ty, fr, by rw [hh, ← hc _ _ _ h4]⟩
theorem inner_mark (w : World) (fuel : Nat) (c : List Value) (x : Int) (p : List MemPlace) (h : DataW.trod (fun _ => ()) Tryd.prog w 0 (fun _ => true) false fuel 21 c = some (.lit (.int .i32 x), p)) : c = [.int .i32 x] := int_cell h
theorem flat_nums (l : List Int) : (l.flatMap fun x => [Value.int .i32 x]) = nums l := by
  induction l with
  | nil => rfl
  | cons x t ih => rw [List.flatMap_cons, ih]; rfl

/-- **WHAT THE ROW's LIST GIVES.** -/
theorem laid_of {W : World} (h : laidMetH Tryd.prog Rows.segChunksUptoRow.laid W) : Laid W := by
  rw [MakeChecks.laidMetH_plain _ _ _ (by rfl)] at h
  obtain ⟨ps, hv, _⟩ := h
  have r := vars_reads hv
  refine ⟨tbl_of (t := 110) (by kernel_rfl) (by kernel_rfl) (r _ Rows.laid_trema_ucd_classes (.head _)) fun fuel c p hd => ?_, trivial, trivial,
    tbl_of (t := 118) (by kernel_rfl) (by kernel_rfl) (r _ Rows.laid_trema_ucd_listed (.tail _ (.tail _ (.head _)))) fun fuel c p hd => ?_, tbl_of (t := 125) (by kernel_rfl) (by kernel_rfl) (r _ Rows.laid_trema_ucd_marks (.tail _ (.head _))) fun fuel c p hd => ?_, trivial⟩
  · exact cells_of_rows d3 (fun x => [.int .i32 x.1, .int .i32 x.2.1, .int .i32 x.2.2]) clsRows Tryd.underlying110 cellsStretch (by kernel_rfl) (inner_stretch W) hd
  · exact cells_of_rows d3 (fun x => [.int .i32 x.1, .int .i32 x.2.1, .int .i32 x.2.2]) listRows Tryd.underlying118 cellsPair (by kernel_rfl) (inner_pair W) hd
  · rw [← flat_nums]
    exact cells_of_rows (fun x => .lit (.int .i32 x)) (fun x => [.int .i32 x]) markList Tryd.underlying125 cells32 (by kernel_rfl) (inner_mark W) hd

/-- a block's cells laid anew -/
def lay (cs : List Value) : Obj → Obj
  | .cells _ t fr => .cells cs.toArray t fr
  | o => o
/-- A WORLD FOR THE WITNESSES: the settled one, the tables holding what their initialisers lay. -/
noncomputable def laidWorld (os : Os) : World :=
  { World.holding Tryd.prog os ⟨#[], #[], []⟩ with heap := ((((World.holding Tryd.prog os ⟨#[], #[], []⟩).heap.modify 0 (lay (c3 clsRows))).modify 1 (lay (c3 listRows))).modify 2 (lay (nums markList))) }
end Go.Proofs.YtbljomfofgocaaaDoor.Norm

/-
  A SLICE OF SLICES OF BYTES THAT CAME IN, opened as a list of chunks.
-/
namespace Go.Proofs.YtbljomfofgocaaaDoor.Utf
open Go.ChangeShapes Go.WideShapes Go.ChangeAt Go.RowKit
set_option maxRecDepth 100000

/-- a chunk that came in: where it lies, its bytes, its room -/
structure Chunk where
  A : Option Addr
  l : List UInt8
  c : Nat
def Chunk.val (x : Chunk) : Value := .slice x.A x.l.length x.c
def Chunk.ok (W : World) (x : Chunk) : Prop := x.l.length ≤ x.c ∧ x.c ≤ 9223372036854775807 ∧ Rd W W.heap.size x.A (bys x.l)
def total : List Chunk → Nat
  | [] => 0
  | x :: r => x.l.length + total r
def cat : List Chunk → List UInt8
  | [] => []
  | x :: r => x.l ++ cat r
def chunkVals (l : List Chunk) : List Value := l.map Chunk.val
theorem chunkVals_len (l : List Chunk) : (chunkVals l).length = l.length := List.length_map ..
theorem cat_len (l : List Chunk) : (cat l).length = total l := by
  induction l with
  | nil => rfl
  | cons x r ih => simp [cat, total, ih]
theorem cat_append (l m : List Chunk) : cat (l ++ m) = cat l ++ cat m := by
  induction l with
  | nil => rfl
  | cons x r ih => simp [cat, ih]
theorem cat_succ {l : List Chunk} {k : Nat} (h : k < l.length) : cat (l.take (k + 1)) = cat (l.take k) ++ l[k].l := by
  rw [List.take_succ_eq_append_getElem h, cat_append]; simp [cat]
theorem cat_take_le (l : List Chunk) : ∀ k, (cat (l.take k)).length ≤ total l := by
  induction l with
  | nil => simp [cat, total]
  | cons x r ih =>
    intro k
    cases k with
    | zero => simp [cat]
    | succ k => have := ih k; simp only [List.take_succ_cons, cat, total, List.length_append]; omega

theorem chunks_of {H : Type} {W : World} (a : Addr) (ys : List (DataW H × List MemPlace)) : ∀ k, (∀ i y, ys[i]? = some y → ∃ x : Chunk, W.cell? (a.add (k + i)) = some x.val ∧ x.ok W ∧ x.l.length ≤ Rows.uptoBulk y.1) →
    ∃ xs : List Chunk, xs.length = ys.length ∧ (∀ i x, xs[i]? = some x → W.cell? (a.add (k + i)) = some x.val) ∧ (∀ x ∈ xs, x.ok W) ∧ total xs ≤ Rows.uptoBulkAll (ys.map (·.1)) := by
  induction ys with
  | nil => intro k _; exact ⟨[], rfl, by simp, by simp, by simp [total]⟩
  | cons y r ih =>
    intro k h
    obtain ⟨x, h1, h2, h3⟩ := h 0 y rfl
    obtain ⟨xs, g1, g2, g3, g4⟩ := ih (k + 1) (fun i z hz => by
      have := h (i + 1) z (by simpa using hz)
      rwa [show k + (i + 1) = k + 1 + i from by omega] at this)
    refine ⟨x :: xs, by simp [g1], ?_, ?_, ?_⟩
    · intro i z hz
      cases i with
      | zero => simp only [List.getElem?_cons_zero, Option.some.injEq] at hz; subst hz; exact h1
      | succ i => rw [show k + (i + 1) = k + 1 + i from by omega]; exact g2 i z (by simpa using hz)
    · intro z hz
      rcases List.mem_cons.1 hz with rfl | hz
      · exact h2
      · exact g3 z hz
    · simp only [total, List.map_cons, Rows.uptoBulkAll]; omega

theorem open_chunks {H : Type} {enc : TypeId × Value → H} {W : World} {a0 : Option Addr} {len cap : Nat} {d : DataW H} {p : List MemPlace}
    (h : DataW.Trod enc Tryd.prog W 0 (fun _ => true) true 30 (.slice a0 len cap) d p) :
    ∃ l : List Chunk, l.length = len ∧ len ≤ cap ∧ cap ≤ 9223372036854775807 ∧ (Rd W W.heap.size a0 (chunkVals l) ∧ ∀ x ∈ l, x.ok W) ∧ total l ≤ Rows.uptoBulk d := by
  obtain ⟨fuel, hf⟩ := h
  rcases DataW.trod_slice Tryd.underlying30 hf with ⟨hcs, hx⟩ | ⟨a, len', cap', elems, rest, n, _, hcs, hx, hb, hl, hm, hlen, hel, hsp, hns⟩
  · simp [Value.cells] at hcs
    obtain ⟨rfl, rfl, rfl⟩ := hcs
    exact ⟨[], rfl, Nat.le_refl _, by omega, ⟨fun h => absurd rfl h, by simp⟩, by simp [total]⟩
  · simp [Value.cells] at hcs
    obtain ⟨rfl, rfl, rfl⟩ := hcs
    simp only [Prod.mk.injEq] at hx
    obtain ⟨hd, _⟩ := hx
    have hc1 : Tryd.prog.cellsOf 31 = 1 := by kernel_rfl
    have each : ∀ i y, elems[i]? = some y → ∃ x : Chunk, W.cell? (a.add (0 + i)) = some x.val ∧ x.ok W ∧ x.l.length ≤ Rows.uptoBulk y.1 := by
      intro i y hy
      have hi : i < len := by have := (List.getElem?_eq_some_iff.1 hy).1; omega
      have h := hel i hi
      rw [hy, hc1, Nat.mul_one, Option.bind_eq_some_iff] at h
      obtain ⟨cs, hcs, ht⟩ := h
      have hv : ∃ A L C, cs = [.slice A L C] := by
        rcases DataW.trod_slice Tryd.underlying31 ht with ⟨h1, _⟩ | ⟨_, _, _, _, _, _, _, h1, _⟩
        · exact ⟨_, _, _, h1⟩
        · exact ⟨_, _, _, h1⟩
      obtain ⟨A, L, C, rfl⟩ := hv
      obtain ⟨l, h1, h2, h3, h4, h5⟩ := open_bytes (enc := enc) (a0 := A) (len := L) (cap := C) (d := y.1) (p := y.2) ⟨n, by simpa [Value.cells] using ht⟩
      refine ⟨⟨A, l, C⟩, ?_, ⟨by show l.length ≤ C; omega, h3, h4⟩, by show l.length ≤ _; omega⟩
      rw [Nat.zero_add, cell_of_cells?_one hcs]
      simp [Chunk.val, h1]
    obtain ⟨xs, hx1, hx2, hx3, hx4⟩ := chunks_of a elems 0 each
    refine ⟨xs, by omega, hl, by simpa [maxLen] using hm, ⟨fun hne => ?_, hx3⟩, by rw [hd]; simp only [Rows.uptoBulk]; omega⟩
    have h0 : 0 < xs.length := by
      rcases Nat.eq_zero_or_pos xs.length with h | h
      · have : xs = [] := List.eq_nil_of_length_eq_zero h
        subst this; exact absurd rfl hne
      · exact h
    obtain ⟨b, o, spot⟩ := a
    have hc0 := hx2 0 xs[0] (List.getElem?_eq_getElem h0)
    have hspot : spot = none := by simpa [Addr.add] using World.cell?_spot hc0
    subst hspot
    have hc0' : W.cell? ⟨b, o, none⟩ = some xs[0].val := by simpa [Addr.add] using hc0
    refine ⟨b, o, rfl, World.block_lt_of_cell? W _ hc0', fun j u hu => ?_⟩
    simp only [chunkVals, List.getElem?_map, Option.map_eq_some_iff] at hu
    obtain ⟨x, hx, rfl⟩ := hu
    have := hx2 j x hx
    have hadd : (⟨b, o, none⟩ : Addr).add (0 + j) = ⟨b, o + j, none⟩ := by rw [Nat.zero_add]; unfold Addr.add; split <;> simp_all
    rwa [hadd] at this
end Go.Proofs.YtbljomfofgocaaaDoor.Utf
