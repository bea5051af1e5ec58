/-
  WHAT A ROW's LIST OF VARIABLES GIVES (the tables hold what they hold), AND ARGUMENTS OPENED: slices of 32-bit and of 16-bit numbers, of texts.
-/
import Derived.Test.YthpadpoomelhbaaDoorCards
import Derived.Test.YthpadpoomelhbaaDoorTie
import Derived.Test.YthpadpoomelhbaaDoorUcdFixed
import Derived.ProofKit
import Derived.OpenShut
import Derived.JoinedCond
import Derived.ChangeOld
import Derived.Below
import Derived.SizedLaws
import Derived.SliceStrings
import Derived.Deep.DeepHandedRow
import Derived.Lib.LaidTab
import Derived.MakeChecks
namespace Go.Proofs.YthpadpoomelhbaaDoor.Ucd
open Go.ChangeShapes Go.WideShapes Go.ChangeAt Go.RowKit Utf

theorem own : ownKnob Tryd.prog.godebug = none := by kernel_rfl
theorem laidOut : laidOutB Tryd.prog = true := by kernel_rfl

/-! ### the tables -/
def Reads (w : World) (n : String) (d : DataW Unit) : Prop :=
  ∃ g t cs fuel p, Tryd.prog.globalNamed n = some g ∧ (Tryd.prog.globals[g]?).map (·.type) = some t ∧ w.var? Tryd.prog n = some cs ∧ DataW.trod (fun _ => ()) Tryd.prog w 0 (fun _ => true) false fuel t cs.toList = some (d, p)
theorem vars_reads {w : World} : ∀ {l : List (String × DataW Unit)} {ps : List MemPlace}, DataW.LaidVars Tryd.prog w l ps → ∀ n d, (n, d) ∈ l → Reads w n d
  | [], _, _, _, _, hm => by cases hm
  | (n', d') :: r, ps, h, n, d, hm => by
    obtain ⟨g, t, cs, fuel, p, q, h1, h2, h3, h4, h5, _⟩ := h
    rcases List.mem_cons.1 hm with e | e
    · cases e
      exact ⟨g, t, cs, fuel, p, h1, h2, h3, h4⟩
    · exact vars_reads h5 n d e
theorem var_heap {P : Program} {w : World} {n : String} {g : Nat} {cs : Array Value} (hg : P.globalNamed n = some g) (h : w.var? P n = some cs) : ∃ t fr, w.heap[g]? = some (.cells cs t fr) := by
  simp only [World.var?, hg, Option.bind_some] at h
  split at h
  · rename_i c t fr he
    cases h
    exact ⟨t, fr, he⟩
  · cases h

theorem chunks {α : Type} (flat : α → List Value) (sz : Nat) : ∀ (xs : List α) (cs : List Value), cs.length = xs.length * sz → (∀ (i : Nat) (h : i < xs.length), (cs.drop (i * sz)).take sz = flat xs[i]) → cs = xs.flatMap flat
  | [], cs, hl, _ => by simpa using hl
  | x :: t, cs, hl, h => by
    have h0 := h 0 (by simp)
    rw [Nat.zero_mul, List.drop_zero] at h0
    have hr := chunks flat sz t (cs.drop sz) (by rw [List.length_drop, hl, List.length_cons, Nat.succ_mul]; omega) (fun i hi => by
      have := h (i + 1) (by simpa using hi)
      rw [List.drop_drop, show sz + i * sz = (i + 1) * sz from by rw [Nat.succ_mul]; omega]
      simpa using this)
    rw [List.flatMap_cons]
    have e : flat x = flat (x :: t)[0] := rfl
    rw [e, ← h0, ← hr, List.take_append_drop]
theorem cells_of_rows {α : Type} {w : World} {fuel : Nat} {t e : TypeId} {n sz : Nat} {cs : List Value} {p : List MemPlace} (enc : α → DataW Unit) (flat : α → List Value) (xs : List α)
    (ht : Tryd.prog.underlying t = some (.array n e)) (hce : Tryd.prog.cellsOf e = sz) (hct : Tryd.prog.cellsOf t = n * sz)
    (inner : ∀ (fuel : Nat) (c : List Value) (x : α) (p : List MemPlace), DataW.trod (fun _ => ()) Tryd.prog w 0 (fun _ => true) false fuel e c = some (enc x, p) → c = flat x)
    (h : DataW.trod (fun _ => ()) Tryd.prog w 0 (fun _ => true) false fuel t cs = some (.agg (xs.map enc), p)) : cs = xs.flatMap flat := by
  cases fuel with
  | zero => simp [DataW.trod] at h
  | succ fuel =>
    simp only [DataW.trod, ht, hce, hct] at h
    split at h
    · rename_i hl
      obtain ⟨ys, hm, hx⟩ := Option.map_eq_some_iff.1 h
      have hxs : ys.map (·.1) = xs.map enc := by
        have := congrArg Prod.fst hx
        simpa using this
      have hyl : ys.length = n := by simpa using Lib.mapM_length hm
      have hxl : xs.length = n := by
        have := congrArg List.length hxs
        simp at this
        omega
      refine chunks flat sz xs cs (by rw [hl, hxl]) fun i hi => ?_
      obtain ⟨b, hb, hf⟩ := Lib.mapM_at hm i i (List.getElem?_range (by omega))
      have h2 : (ys.map (·.1))[i]? = some b.1 := by simp [hb]
      rw [hxs, List.getElem?_map, List.getElem?_eq_getElem hi, Option.map_some, Option.some.injEq] at h2
      obtain ⟨bd, bp⟩ := b
      exact inner fuel _ _ bp (by rw [hf]; exact congrArg some (Prod.ext h2.symm rfl))
    · cases h

def d3 (x : Int × Int × Int) : DataW Unit := .agg [.lit (.int .i32 x.1), .lit (.int .i32 x.2.1), .lit (.int .i32 x.2.2)]
def d4 (x : Int × Int × Int × Int) : DataW Unit := .agg [.lit (.int .i32 x.1), .lit (.int .i32 x.2.1), .lit (.int .i32 x.2.2.1), .lit (.int .i32 x.2.2.2)]
theorem cells32 : Tryd.prog.cellsOf 21 = 1 := by kernel_rfl
theorem cellsStretch : Tryd.prog.cellsOf 44 = 3 := by kernel_rfl
theorem cellsPair : Tryd.prog.cellsOf 52 = 3 := by kernel_rfl
theorem cellsShift : Tryd.prog.cellsOf 61 = 4 := by kernel_rfl
theorem take_one {cs : List Value} {k : Nat} {v : Value} (h : (cs.drop k).take 1 = [v]) : cs[k]? = some v := by
  have := congrArg (·[0]?) h
  simpa [List.getElem?_take, List.getElem?_drop] using this
theorem three_of {cs : List Value} {a b c : Value} (hl : cs.length = 3) (h0 : cs[0]? = some a) (h1 : cs[1]? = some b) (h2 : cs[2]? = some c) : cs = [a, b, c] := by
  match cs, hl with
  | [x, y, z], _ => simp at h0 h1 h2; rw [h0, h1, h2]
theorem four_of {cs : List Value} {a b c d : Value} (hl : cs.length = 4) (h0 : cs[0]? = some a) (h1 : cs[1]? = some b) (h2 : cs[2]? = some c) (h3 : cs[3]? = some d) : cs = [a, b, c, d] := by
  match cs, hl with
  | [x, y, z, u], _ => simp at h0 h1 h2 h3; rw [h0, h1, h2, h3]
theorem int_cell {w : World} {fuel : Nat} {c : List Value} {n : Int} {p : List MemPlace} (h : DataW.trod (fun _ => ()) Tryd.prog w 0 (fun _ => true) false fuel 21 c = some (.lit (.int .i32 n), p)) : c = [.int .i32 n] := by
  obtain ⟨m, hc, hx, _⟩ := DataW.trod_int Tryd.underlying21 h
  cases hx
  exact hc
theorem part_at {α β : Type} {f : α → Option (DataW Unit × β)} {l : List α} {ys : List (DataW Unit × β)} {ds : List (DataW Unit)} (hm : l.mapM f = some ys) (hx : ys.map (·.1) = ds) (i : Nat) (a : α) (d : DataW Unit) (ha : l[i]? = some a) (hd : ds[i]? = some d) : ∃ q, f a = some (d, q) := by
  obtain ⟨b, hb, hf⟩ := Lib.mapM_at hm i a ha
  have h2 : (ys.map (·.1))[i]? = some b.1 := by simp [hb]
  rw [hx, hd, Option.some.injEq] at h2
  exact ⟨b.2, by rw [hf, h2]⟩
theorem inner_stretch (w : World) (fuel : Nat) (c : List Value) (x : Int × Int × Int) (p : List MemPlace) (h : DataW.trod (fun _ => ()) Tryd.prog w 0 (fun _ => true) false fuel 44 c = some (d3 x, p)) : c = [.int .i32 x.1, .int .i32 x.2.1, .int .i32 x.2.2] := by
  cases fuel with
  | zero => simp [DataW.trod] at h
  | succ fuel =>
    simp only [DataW.trod, Tryd.underlying44, cellsStretch] at h
    split at h
    · rename_i hl
      obtain ⟨ys, hm, hx⟩ := Option.map_eq_some_iff.1 h
      have hxs : ys.map (·.1) = [.lit (.int .i32 x.1), .lit (.int .i32 x.2.1), .lit (.int .i32 x.2.2)] := by
        have := congrArg Prod.fst hx
        simpa [d3] using this
      obtain ⟨q0, f0⟩ := part_at hm hxs 0 _ _ rfl rfl
      obtain ⟨q1, f1⟩ := part_at hm hxs 1 _ _ rfl rfl
      obtain ⟨q2, f2⟩ := part_at hm hxs 2 _ _ rfl rfl
      rw [cells32] at f0 f1 f2
      exact three_of hl (take_one (int_cell f0)) (take_one (int_cell f1)) (take_one (int_cell f2))
    · cases h
theorem inner_pair (w : World) (fuel : Nat) (c : List Value) (x : Int × Int × Int) (p : List MemPlace) (h : DataW.trod (fun _ => ()) Tryd.prog w 0 (fun _ => true) false fuel 52 c = some (d3 x, p)) : c = [.int .i32 x.1, .int .i32 x.2.1, .int .i32 x.2.2] := by
  cases fuel with
  | zero => simp [DataW.trod] at h
  | succ fuel =>
    simp only [DataW.trod, Tryd.underlying52, cellsPair] at h
    split at h
    · rename_i hl
      obtain ⟨ys, hm, hx⟩ := Option.map_eq_some_iff.1 h
      have hxs : ys.map (·.1) = [.lit (.int .i32 x.1), .lit (.int .i32 x.2.1), .lit (.int .i32 x.2.2)] := by
        have := congrArg Prod.fst hx
        simpa [d3] using this
      obtain ⟨q0, f0⟩ := part_at hm hxs 0 _ _ rfl rfl
      obtain ⟨q1, f1⟩ := part_at hm hxs 1 _ _ rfl rfl
      obtain ⟨q2, f2⟩ := part_at hm hxs 2 _ _ rfl rfl
      rw [cells32] at f0 f1 f2
      exact three_of hl (take_one (int_cell f0)) (take_one (int_cell f1)) (take_one (int_cell f2))
    · cases h
theorem inner_shift (w : World) (fuel : Nat) (c : List Value) (x : Int × Int × Int × Int) (p : List MemPlace) (h : DataW.trod (fun _ => ()) Tryd.prog w 0 (fun _ => true) false fuel 61 c = some (d4 x, p)) : c = [.int .i32 x.1, .int .i32 x.2.1, .int .i32 x.2.2.1, .int .i32 x.2.2.2] := by
  cases fuel with
  | zero => simp [DataW.trod] at h
  | succ fuel =>
    simp only [DataW.trod, Tryd.underlying61, cellsShift] at h
    split at h
    · rename_i hl
      obtain ⟨ys, hm, hx⟩ := Option.map_eq_some_iff.1 h
      have hxs : ys.map (·.1) = [.lit (.int .i32 x.1), .lit (.int .i32 x.2.1), .lit (.int .i32 x.2.2.1), .lit (.int .i32 x.2.2.2)] := by
        have := congrArg Prod.fst hx
        simpa [d4] using this
      obtain ⟨q0, f0⟩ := part_at hm hxs 0 _ _ rfl rfl
      obtain ⟨q1, f1⟩ := part_at hm hxs 1 _ _ rfl rfl
      obtain ⟨q2, f2⟩ := part_at hm hxs 2 _ _ rfl rfl
      obtain ⟨q3, f3⟩ := part_at hm hxs 3 _ _ rfl rfl
      rw [cells32] at f0 f1 f2 f3
      exact four_of hl (take_one (int_cell f0)) (take_one (int_cell f1)) (take_one (int_cell f2)) (take_one (int_cell f3))
    · cases h

theorem tbl_of {w : World} {n : String} {d : DataW Unit} {g : Nat} {t : TypeId} {cs : List Value} (hg : Tryd.prog.globalNamed n = some g) (hty : (Tryd.prog.globals[g]?).map (·.type) = some t) (h : Reads w n d)
    (hc : ∀ (fuel : Nat) (c : List Value) (p : List MemPlace), DataW.trod (fun _ => ()) Tryd.prog w 0 (fun _ => true) false fuel t c = some (d, p) → c = cs) : Tbl w g cs := by
  obtain ⟨g', t', c, fuel, p, h1, h2, h3, h4⟩ := h
  obtain rfl := Option.some.inj (hg.symm.trans h1)
  obtain rfl := Option.some.inj (hty.symm.trans h2)
  obtain ⟨ty, fr, hh⟩ := var_heap hg h3
  exact ⟨ty, fr, by rw [hh, ← hc _ _ _ h4]⟩
theorem inner_mark (w : World) (fuel : Nat) (c : List Value) (x : Int) (p : List MemPlace) (h : DataW.trod (fun _ => ()) Tryd.prog w 0 (fun _ => true) false fuel 21 c = some (.lit (.int .i32 x), p)) : c = [.int .i32 x] := int_cell h
theorem flat_nums (l : List Int) : (l.flatMap fun x => [Value.int .i32 x]) = nums l := by
  induction l with
  | nil => rfl
  | cons x t ih => rw [List.flatMap_cons, ih]; rfl

/-- **WHAT THE ROW's LIST GIVES.** -/
theorem laid_of {W : World} (h : laidMetH Tryd.prog Rows.ucdClassesRow.laid W) : Laid W := by
  rw [MakeChecks.laidMetH_plain _ _ _ (by rfl)] at h
  obtain ⟨ps, hv, _⟩ := h
  have r := vars_reads hv
  refine ⟨tbl_of (t := 45) (by kernel_rfl) (by kernel_rfl) (r _ Rows.laid_trema_ucd_classes (.tail _ (.tail _ (.head _)))) fun fuel c p hd => ?_, tbl_of (t := 58) (by kernel_rfl) (by kernel_rfl) (r _ Rows.laid_trema_ucd_lowRows (.head _)) fun fuel c p hd => ?_, tbl_of (t := 59) (by kernel_rfl) (by kernel_rfl) (r _ Rows.laid_trema_ucd_highRows (.tail _ (.head _))) fun fuel c p hd => ?_,
    tbl_of (t := 53) (by kernel_rfl) (by kernel_rfl) (r _ Rows.laid_trema_ucd_listed (.tail _ (.tail _ (.tail _ (.tail _ (.tail _ (.head _))))))) fun fuel c p hd => ?_, tbl_of (t := 60) (by kernel_rfl) (by kernel_rfl) (r _ Rows.laid_trema_ucd_marks (.tail _ (.tail _ (.tail _ (.tail _ (.head _)))))) fun fuel c p hd => ?_, tbl_of (t := 62) (by kernel_rfl) (by kernel_rfl) (r _ Rows.laid_trema_ucd_shifts (.tail _ (.tail _ (.tail _ (.head _))))) fun fuel c p hd => ?_⟩
  · exact cells_of_rows d3 (fun x => [.int .i32 x.1, .int .i32 x.2.1, .int .i32 x.2.2]) clsRows Tryd.underlying45 cellsStretch (by kernel_rfl) (inner_stretch W) hd
  · exact cells_of_rows d3 (fun x => [.int .i32 x.1, .int .i32 x.2.1, .int .i32 x.2.2]) lowRows Tryd.underlying58 cellsStretch (by kernel_rfl) (inner_stretch W) hd
  · exact cells_of_rows d3 (fun x => [.int .i32 x.1, .int .i32 x.2.1, .int .i32 x.2.2]) highRows Tryd.underlying59 cellsStretch (by kernel_rfl) (inner_stretch W) hd
  · exact cells_of_rows d3 (fun x => [.int .i32 x.1, .int .i32 x.2.1, .int .i32 x.2.2]) listRows Tryd.underlying53 cellsPair (by kernel_rfl) (inner_pair W) hd
  · rw [← flat_nums]
    exact cells_of_rows (fun x => .lit (.int .i32 x)) (fun x => [.int .i32 x]) markList Tryd.underlying60 cells32 (by kernel_rfl) (inner_mark W) hd
  · exact cells_of_rows d4 (fun x => [.int .i32 x.1, .int .i32 x.2.1, .int .i32 x.2.2.1, .int .i32 x.2.2.2]) shRows Tryd.underlying62 cellsShift (by kernel_rfl) (inner_shift W) hd

/-! ### arguments -/
/-- a slice that came in: its cells by index -/
theorem open_cells {H : Type} {enc : TypeId × Value → H} {W : World} {t e : TypeId} {k : IntKind} {a0 : Option Addr} {len cap : Nat} {d : DataW H} {p : List MemPlace} (ht : Tryd.prog.underlying t = some (.slice e)) (he : Tryd.prog.underlying e = some (.int k)) (hc : Tryd.prog.cellsOf e = 1)
    (h : DataW.Trod enc Tryd.prog W 0 (fun _ => true) true t (.slice a0 len cap) d p) :
    ∃ zs : List Int, zs.length = len ∧ len ≤ cap ∧ cap ≤ maxLen ∧ (∀ n ∈ zs, (Lit.int k n).wf = true) ∧ (zs ≠ [] → ∃ b o, a0 = some ⟨b, o, none⟩ ∧ b < W.heap.size ∧ ∀ (j : Nat) (z : Int), zs[j]? = some z → W.cell? ⟨b, o + j, none⟩ = some (.int k z)) ∧
      (d = .nil ∧ cap = 0 ∨ ∃ elems spare, d = .slice elems spare ∧ elems.length + spare.length = cap ∧ elems.length = len) := by
  obtain ⟨fuel, hf⟩ := h
  rcases open_ints ht he hc hf with ⟨hcs, hx⟩ | ⟨x, l, c, zs, hcs, _, hl, hm, hz, hx, hcell, hwz⟩
  · simp [Value.cells] at hcs
    obtain ⟨rfl, rfl, rfl⟩ := hcs
    simp only [Prod.mk.injEq] at hx
    exact ⟨[], rfl, Nat.le_refl _, by simp [maxLen], by simp, fun h => absurd rfl h, .inl ⟨hx.1, rfl⟩⟩
  · simp [Value.cells] at hcs
    obtain ⟨rfl, rfl, rfl⟩ := hcs
    simp only [Prod.mk.injEq] at hx
    simp only [if_true] at hz
    refine ⟨zs.take len, by rw [List.length_take]; omega, hl, hm, fun n hn => hwz n (List.mem_of_mem_take hn), fun hne => ?_, .inr ⟨_, _, hx.1, by simp only [lits, List.length_map, List.length_take, List.length_drop]; omega, by simp only [lits, List.length_map, List.length_take]; omega⟩⟩
    have h0 : 0 < zs.length := by
      rcases Nat.eq_zero_or_pos zs.length with h | h
      · have : zs = [] := List.eq_nil_of_length_eq_zero h
        subst this; simp at hne
      · exact h
    obtain ⟨b, o, spot⟩ := x
    have hc0 := hcell 0 h0
    have hspot : spot = none := by simpa [Addr.add] using World.cell?_spot hc0
    subst hspot
    have hc0' : W.cell? ⟨b, o, none⟩ = some (.int k (zs.getD 0 0)) := by simpa [Addr.add] using hc0
    refine ⟨b, o, rfl, World.block_lt_of_cell? W _ hc0', fun j z hj => ?_⟩
    rw [List.getElem?_take] at hj
    split at hj
    · have hjl : j < zs.length := by
        rcases Nat.lt_or_ge j zs.length with h | h
        · exact h
        · rw [List.getElem?_eq_none h] at hj; cases hj
      have := hcell j hjl
      have hadd : (⟨b, o, none⟩ : Addr).add j = ⟨b, o + j, none⟩ := by unfold Addr.add; split <;> simp_all
      rw [hadd] at this
      rw [this]
      simp [List.getD, hj]
    · cases hj

theorem open_nums {H : Type} {enc : TypeId × Value → H} {W : World} {a0 : Option Addr} {len cap : Nat} {d : DataW H} {p : List MemPlace}
    (h : DataW.Trod enc Tryd.prog W 0 (fun _ => true) true 22 (.slice a0 len cap) d p) :
    ∃ l : List Int, l.length = len ∧ len ≤ cap ∧ cap ≤ 9223372036854775807 ∧ (∀ n ∈ l, (Lit.int .i32 n).wf = true) ∧ Rd W W.heap.size a0 (nums l) := by
  obtain ⟨zs, h1, h2, h3, h4, h5, _⟩ := open_cells Tryd.underlying22 Tryd.underlying21 (by kernel_rfl) h
  refine ⟨zs, h1, h2, by simpa [maxLen] using h3, h4, fun hne => ?_⟩
  obtain ⟨b, o, e, hbl, hc⟩ := h5 (by rintro rfl; exact hne rfl)
  refine ⟨b, o, e, hbl, fun j u hu => ?_⟩
  simp only [nums, List.getElem?_map, Option.map_eq_some_iff] at hu
  obtain ⟨z, hz, rfl⟩ := hu
  exact hc j z hz
theorem i32_wf {n : Int} (h : (Lit.int .i32 n).wf = true) : -2147483648 ≤ n ∧ n ≤ 2147483647 := by simpa [Lit.wf, IntKind.min, IntKind.max, IntKind.signed, IntKind.bits] using h
def u16v (l : List Int) : List Value := l.map fun n => .int .u16 n
theorem u16v_len (l : List Int) : (u16v l).length = l.length := List.length_map _
theorem Rd.u16 {w : World} {B : Nat} {l : List Int} {b o : Nat} (h : Rd w B (some ⟨b, o, none⟩) (u16v l)) {k : Nat} (hk : k < l.length) : w.cell? ⟨b, o + k, none⟩ = some (.int .u16 l[k]) := by
  have hne : u16v l ≠ [] := by intro e; have := congrArg List.length e; rw [u16v_len, List.length_nil] at this; omega
  obtain ⟨b', o', e, _, hc⟩ := h hne
  simp only [Option.some.injEq, Addr.mk.injEq, and_true] at e
  obtain ⟨rfl, rfl⟩ := e
  exact hc _ _ (by simp [u16v, List.getElem?_eq_getElem hk])
theorem open_u16s {H : Type} {enc : TypeId × Value → H} {W : World} {a0 : Option Addr} {len cap : Nat} {d : DataW H} {p : List MemPlace}
    (h : DataW.Trod enc Tryd.prog W 0 (fun _ => true) true 40 (.slice a0 len cap) d p) :
    ∃ l : List Int, l.length = len ∧ len ≤ cap ∧ cap ≤ 9223372036854775807 ∧ (∀ n ∈ l, (Lit.int .u16 n).wf = true) ∧ Rd W W.heap.size a0 (u16v l) := by
  obtain ⟨zs, h1, h2, h3, h4, h5, _⟩ := open_cells Tryd.underlying40 Tryd.underlying41 (by kernel_rfl) h
  refine ⟨zs, h1, h2, by simpa [maxLen] using h3, h4, fun hne => ?_⟩
  obtain ⟨b, o, e, hbl, hc⟩ := h5 (by rintro rfl; exact hne rfl)
  refine ⟨b, o, e, hbl, fun j u hu => ?_⟩
  simp only [u16v, List.getElem?_map, Option.map_eq_some_iff] at hu
  obtain ⟨z, hz, rfl⟩ := hu
  exact hc j z hz
theorem u16_wf {n : Int} (h : (Lit.int .u16 n).wf = true) : 0 ≤ n ∧ n ≤ 65535 := by simpa [Lit.wf, IntKind.min, IntKind.max, IntKind.signed, IntKind.bits] using h
def strv (l : List ByteArray) : List Value := l.map fun s => .string s
theorem strv_len (l : List ByteArray) : (strv l).length = l.length := List.length_map _
theorem Rd.str {w : World} {B : Nat} {l : List ByteArray} {b o : Nat} (h : Rd w B (some ⟨b, o, none⟩) (strv l)) {k : Nat} (hk : k < l.length) : w.cell? ⟨b, o + k, none⟩ = some (.string l[k]) := by
  have hne : strv l ≠ [] := by intro e; have := congrArg List.length e; rw [strv_len, List.length_nil] at this; omega
  obtain ⟨b', o', e, _, hc⟩ := h hne
  simp only [Option.some.injEq, Addr.mk.injEq, and_true] at e
  obtain ⟨rfl, rfl⟩ := e
  exact hc _ _ (by simp [strv, List.getElem?_eq_getElem hk])
theorem open_strings {H : Type} {enc : TypeId × Value → H} {W : World} {a0 : Option Addr} {len cap : Nat} {d : DataW H} {p : List MemPlace}
    (h : DataW.Trod enc Tryd.prog W 0 (fun _ => true) true 36 (.slice a0 len cap) d p) :
    ∃ l : List ByteArray, l.length = len ∧ len ≤ 9223372036854775807 ∧ Rd W W.heap.size a0 (strv l) := by
  obtain ⟨fuel, hf⟩ := h
  rcases ChangeShapes.open_strings Tryd.underlying36 Tryd.underlying9 (by kernel_rfl) hf with ⟨hcs, _⟩ | ⟨x, n, c, zs, hcs, _, hl, hm, hz, _, hcell, _⟩
  · simp [Value.cells] at hcs
    obtain ⟨rfl, rfl, rfl⟩ := hcs
    exact ⟨[], rfl, by omega, fun h => absurd rfl h⟩
  · simp [Value.cells] at hcs
    obtain ⟨rfl, rfl, rfl⟩ := hcs
    simp only [if_true] at hz
    unfold maxLen at hm
    refine ⟨zs.take len, by rw [List.length_take]; omega, by omega, fun hne => ?_⟩
    have h0 : 0 < zs.length := by
      rcases Nat.eq_zero_or_pos zs.length with h | h
      · have : zs = [] := List.eq_nil_of_length_eq_zero h
        subst this; simp [strv] at hne
      · exact h
    obtain ⟨b, o, spot⟩ := x
    have hc0 := hcell 0 h0
    have hspot : spot = none := by simpa [Addr.add] using World.cell?_spot hc0
    subst hspot
    have hc0' : W.cell? ⟨b, o, none⟩ = some (.string (zs.getD 0 ByteArray.empty)) := by simpa [Addr.add] using hc0
    refine ⟨b, o, rfl, World.block_lt_of_cell? W _ hc0', fun j u hu => ?_⟩
    simp only [strv, List.getElem?_map, Option.map_eq_some_iff] at hu
    obtain ⟨z, hj, rfl⟩ := hu
    rw [List.getElem?_take] at hj
    split at hj
    · have hjl : j < zs.length := by
        rcases Nat.lt_or_ge j zs.length with h | h
        · exact h
        · rw [List.getElem?_eq_none h] at hj; cases hj
      have := hcell j hjl
      have hadd : (⟨b, o, none⟩ : Addr).add j = ⟨b, o + j, none⟩ := by unfold Addr.add; split <;> simp_all
      rw [hadd] at this
      rw [this]
      simp [List.getD, hj]
    · cases hj
/-- a block's cells laid anew -/
def lay (cs : List Value) : Obj → Obj
  | .cells _ t fr => .cells cs.toArray t fr
  | o => o
/-- A WORLD FOR THE WITNESSES: the settled one, the tables holding what their initialisers lay. -/
noncomputable def laidWorld (os : Os) : World :=
  { World.holding Tryd.prog os ⟨#[], #[], []⟩ with heap := ((((((World.holding Tryd.prog os ⟨#[], #[], []⟩).heap.modify 0 (lay (c3 clsRows))).modify 1 (lay (c3 listRows))).modify 2 (lay (c3 lowRows))).modify 3 (lay (c3 highRows))).modify 4 (lay (nums markList))).modify 5 (lay (c4 shRows)) }
/-- what every law's walk ends in -/
def Law (w : World) (e : Ending) (w' : World) : Prop := e = .returned (.bool true) ∧ Below w.heap.size w w'
end Go.Proofs.YthpadpoomelhbaaDoor.Ucd
