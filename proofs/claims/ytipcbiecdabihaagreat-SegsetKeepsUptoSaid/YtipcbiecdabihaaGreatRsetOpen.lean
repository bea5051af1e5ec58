/-
  ARGUMENTS OPENED: a slice of ranges, a slice of 32-bit numbers, as lists; what the bound on the readings' bulk gives; contracts over lists that can be read.
-/
import Derived.Test.YtipcbiecdabihaaGreatRows
import Derived.Test.YtipcbiecdabihaaGreatRsetRops
import Derived.Deep.SlicePairs
import Derived.ProofKit
import Derived.OpenShut
import Derived.JoinedCond
import Derived.ChangeOld
import Derived.Below
import Derived.SizedLaws
namespace Go.Proofs.YtipcbiecdabihaaGreat.Rset
open Go.ChangeShapes Go.WideShapes Go.ChangeAt Go.RowKit Go.Deep
open Utf (Rd Blk nums)
set_option maxRecDepth 100000

theorem own : ownKnob Tryz.prog.godebug = none := by kernel_rfl
theorem laidOut : laidOutB Tryz.prog = true := by kernel_rfl
theorem bulk_one {H : Type} (d : DataW H) : 1 ≤ Rows.uptoBulk d := by
  cases d with
  | lit l => cases l <;> simp [Rows.uptoBulk]
  | nil => simp [Rows.uptoBulk]
  | ptr d => simp [Rows.uptoBulk]
  | slice elems spare => simp [Rows.uptoBulk]
  | agg parts => simp [Rows.uptoBulk]
  | iface t d => simp [Rows.uptoBulk]
  | map entries => simp [Rows.uptoBulk]
  | held h => simp [Rows.uptoBulk]
theorem bulk_len {H : Type} (l : List (DataW H)) : l.length ≤ Rows.uptoBulkAll l := by
  induction l with
  | nil => simp [Rows.uptoBulkAll]
  | cons x r ih => have := bulk_one x; simp only [Rows.uptoBulkAll, List.length_cons]; omega
theorem i32_bounds {n : Int} (h : (Lit.int .i32 n).wf = true) : -2147483648 ≤ n ∧ n ≤ 2147483647 := by simpa [Lit.wf, IntKind.min, IntKind.max, IntKind.signed, IntKind.bits] using h
theorem add_lit (b o k : Nat) : (⟨b, o, none⟩ : Addr).add k = ⟨b, o + k, none⟩ := by unfold Addr.add; split <;> simp_all

/-- a slice of ranges that came in -/
theorem open_rgs {H : Type} {enc : TypeId × Value → H} {W : World} {a0 : Option Addr} {len cap : Nat} {d : DataW H} {p : List MemPlace}
    (h : DataW.Trod enc Tryz.prog W 0 (fun _ => true) true 22 (.slice a0 len cap) d p) :
    ∃ l : List Rg, l.length = len ∧ len ≤ cap ∧ cap ≤ 9223372036854775807 ∧ Fit l ∧ Rd W W.heap.size a0 (rgs l) ∧ len ≤ Rows.uptoBulk d := by
  obtain ⟨fuel, hf⟩ := h
  rcases open_slice_pairs Tryz.underlying22 Tryz.underlying38 (by kernel_rfl) rfl rfl (by kernel_rfl) (by kernel_rfl) hf with ⟨hcs, hx⟩ | ⟨x, l, c, m, n, V0, V1, D0, D1, P0, P1, hcs, _, hl, hm, hmm, hx, hi⟩
  · simp [Value.cells] at hcs
    obtain ⟨rfl, rfl, rfl⟩ := hcs
    exact ⟨[], rfl, Nat.le_refl _, by omega, fun _ h => by simp at h, Rd.empty _ _ _, Nat.zero_le _⟩
  · simp [Value.cells] at hcs
    obtain ⟨rfl, rfl, rfl⟩ := hcs
    simp only [if_true] at hmm
    simp only [Prod.mk.injEq] at hx
    have each : ∀ i, i < cap → ∃ r : Rg, W.cell? (x.add (i * 2)) = some (.int .i32 r.1) ∧ W.cell? (x.add (i * 2 + 1)) = some (.int .i32 r.2) ∧ (-2147483648 ≤ r.1 ∧ r.1 ≤ 2147483647) ∧ -2147483648 ≤ r.2 ∧ r.2 ≤ 2147483647 := by
      intro i him
      obtain ⟨h0, h1, t0, t1⟩ := hi i (by omega)
      obtain ⟨n0, e0, _, w0⟩ := DataW.trod_int Tryz.underlying21 t0
      obtain ⟨n1, e1, _, w1⟩ := DataW.trod_int Tryz.underlying21 t1
      simp only [List.cons.injEq, and_true] at e0 e1
      exact ⟨(n0, n1), e0 ▸ h0, e1 ▸ h1, i32_bounds w0, i32_bounds w1⟩
    have ex : ∃ L : List Rg, L.length = len ∧ Fit L ∧ ∀ (i : Nat) (h : i < L.length), W.cell? (x.add (i * 2)) = some (.int .i32 L[i].1) ∧ W.cell? (x.add (i * 2 + 1)) = some (.int .i32 L[i].2) := by
      have : ∀ k, k ≤ cap → ∃ L : List Rg, L.length = k ∧ Fit L ∧ ∀ (i : Nat) (h : i < L.length), W.cell? (x.add (i * 2)) = some (.int .i32 L[i].1) ∧ W.cell? (x.add (i * 2 + 1)) = some (.int .i32 L[i].2) := by
        intro k
        induction k with
        | zero => intro _; exact ⟨[], rfl, fun _ h => by simp at h, fun i h => by simp at h⟩
        | succ k ih =>
          intro hk
          obtain ⟨L, h1, h2, h3⟩ := ih (by omega)
          obtain ⟨r, r1, r2, r3, r4⟩ := each k (by omega)
          refine ⟨L ++ [r], by rw [List.length_append, h1]; rfl, fun q hq => ?_, fun i h => ?_⟩
          · rcases List.mem_append.1 hq with hq | hq
            · exact h2 q hq
            · rw [List.mem_singleton.1 hq]; exact ⟨r3, r4⟩
          · by_cases hi : i < L.length
            · rw [List.getElem_append_left hi]; exact h3 i hi
            · have e : i = k := by rw [List.length_append] at h; simp at h; omega
              subst e
              rw [List.getElem_append_right (by omega)]
              simp only [h1, Nat.sub_self, List.getElem_cons_zero]
              exact ⟨r1, r2⟩
      exact this len hl
    obtain ⟨L, h1, h2, h3⟩ := ex
    refine ⟨L, h1, hl, by simpa [maxLen] using hm, h2, fun hne => ?_, ?_⟩
    · have h0 : 0 < L.length := by
        rcases Nat.eq_zero_or_pos L.length with h | h
        · have : L = [] := List.eq_nil_of_length_eq_zero h
          subst this; exact absurd rfl hne
        · exact h
      obtain ⟨b, o, spot⟩ := x
      have hc0 := (h3 0 h0).1
      have hspot : spot = none := by simpa [Addr.add] using World.cell?_spot hc0
      subst hspot
      have hc0' : W.cell? ⟨b, o, none⟩ = some (.int .i32 L[0].1) := by simpa [Addr.add] using hc0
      refine ⟨b, o, rfl, World.block_lt_of_cell? W _ hc0', fun j u hj => ?_⟩
      have hjl : j < (rgs L).length := (List.getElem?_eq_some_iff.1 hj).1
      rw [rgs_len] at hjl
      obtain ⟨g1, g2⟩ := rgs_get L (k := j / 2) (by omega)
      obtain ⟨k1, k2⟩ := h3 (j / 2) (by omega)
      rw [add_lit] at k1 k2
      rcases Nat.mod_two_eq_zero_or_one j with hm2 | hm2
      · have e : j / 2 * 2 = j := by omega
        rw [e] at g1 k1
        rw [g1] at hj; injection hj with hj; rw [k1, hj]
      · have e : j / 2 * 2 + 1 = j := by omega
        rw [e] at g2 k2
        rw [g2] at hj; injection hj with hj; rw [k2, hj]
    · rw [hx.1]
      have := bulk_len ((List.range len).map fun i => DataW.agg [D0 i, D1 i])
      rw [List.length_map, List.length_range] at this
      simp only [Rows.uptoBulk]
      omega
theorem open_nums {H : Type} {enc : TypeId × Value → H} {W : World} {a0 : Option Addr} {len cap : Nat} {d : DataW H} {p : List MemPlace}
    (h : DataW.Trod enc Tryz.prog W 0 (fun _ => true) true 44 (.slice a0 len cap) d p) :
    ∃ l : List Int, l.length = len ∧ len ≤ cap ∧ cap ≤ 9223372036854775807 ∧ (∀ n ∈ l, -2147483648 ≤ n ∧ n ≤ 2147483647) ∧ Rd W W.heap.size a0 (nums l) ∧ len ≤ Rows.uptoBulk d := by
  obtain ⟨fuel, hf⟩ := h
  rcases open_ints Tryz.underlying44 Tryz.underlying21 (by kernel_rfl) hf with ⟨hcs, hx⟩ | ⟨x, l, c, zs, hcs, _, hl, hm, hz, hx, hcell, hwz⟩
  · simp [Value.cells] at hcs
    obtain ⟨rfl, rfl, rfl⟩ := hcs
    exact ⟨[], rfl, Nat.le_refl _, by omega, fun _ h => by simp at h, Rd.empty _ _ _, Nat.zero_le _⟩
  · simp [Value.cells] at hcs
    obtain ⟨rfl, rfl, rfl⟩ := hcs
    simp only [Prod.mk.injEq] at hx
    simp only [if_true] at hz
    refine ⟨zs.take len, by rw [List.length_take]; omega, hl, by simpa [maxLen] using hm, fun n hn => i32_bounds (hwz n (List.mem_of_mem_take hn)), fun hne => ?_, ?_⟩
    · have h0 : 0 < zs.length := by
        rcases Nat.eq_zero_or_pos zs.length with h | h
        · have : zs = [] := List.eq_nil_of_length_eq_zero h
          subst this; simp [nums] at hne
        · exact h
      obtain ⟨b, o, spot⟩ := x
      have hc0 := hcell 0 h0
      have hspot : spot = none := by simpa [Addr.add] using World.cell?_spot hc0
      subst hspot
      have hc0' : W.cell? ⟨b, o, none⟩ = some (.int .i32 (zs.getD 0 0)) := by simpa [Addr.add] using hc0
      refine ⟨b, o, rfl, World.block_lt_of_cell? W _ hc0', fun j u hj => ?_⟩
      simp only [nums, List.getElem?_map, Option.map_eq_some_iff] at hj
      obtain ⟨z, hj, rfl⟩ := hj
      rw [List.getElem?_take] at hj
      split at hj
      · have hjl : j < zs.length := by
          rcases Nat.lt_or_ge j zs.length with h | h
          · exact h
          · rw [List.getElem?_eq_none h] at hj; cases hj
        have := hcell j hjl
        rw [add_lit] at this
        rw [this]
        simp [List.getD, hj]
      · cases hj
    · rw [hx.1]
      have := bulk_len (lits (H := H) .i32 (zs.take len))
      simp only [lits, List.length_map, List.length_take] at this
      simp only [Rows.uptoBulk]
      simp only [lits]
      omega
/-- the bound, as the builder hands it over -/
theorem bulk_bound {H : Type} {l : List (DataW H)} (hk : Rows.uptoSmall H l = true) : Rows.uptoBulkAll l ≤ 1048576 := of_decide_eq_true hk
/-- what every law's walk ends in -/
def Law (w : World) (e : Ending) (w' : World) : Prop := e = .returned (.bool true) ∧ Below w.heap.size w w'

/-! ### lists that can be read -/
structure Arg (w : World) (A : Option Addr) (n : Nat) (l : List Rg) : Prop where
  rd : Rd w w.heap.size A (rgs l)
  len : l.length = n
  fit : Fit l
  sm : n ≤ 8388608
theorem Arg.next {w w' : World} {A : Option Addr} {n : Nat} {l : List Rg} (h : Arg w A n l) (hb : Below w.heap.size w w') : Arg w' A n l := ⟨(h.rd.below hb).more hb.size, h.len, h.fit, h.sm⟩
theorem Arg.lit (w : World) (l : List Rg) (cs : List Value) (hcs : cs = rgs l) (n : Nat) (hn : l.length = n) (hf : Fit l) (hs : n ≤ 8388608) (g : Nat) (hg : w.heap.size = g) : Arg (w.alloc (.cells cs.toArray 38)) (some ⟨g, 0, none⟩) n l := by
  subst hcs
  subst hg
  exact ⟨(rd_new w _ (rgs l) _ rfl).more (by simp), hn, hf, hs⟩
theorem Arg.lit2 (w : World) (cs ds : List Value) (l : List Rg) (hcs : cs = rgs l) (n : Nat) (hn : l.length = n) (hf : Fit l) (hs : n ≤ 8388608) : Arg ((w.alloc (.cells cs.toArray 38)).alloc (.cells ds.toArray 38)) (some ⟨w.heap.size, 0, none⟩) n l :=
  (Arg.lit w l cs hcs n hn hf hs w.heap.size rfl).next ((Below.refl _ _).alloc (Nat.le_refl _) _)
theorem below_lit {w w' : World} {o : Obj} (h : Below (w.alloc o).heap.size (w.alloc o) w') : Below w.heap.size w w' := ((Below.refl _ _).alloc (Nat.le_refl _) _).trans (h.mono (by simp))
theorem below_lit2 {w w' : World} {o p : Obj} (h : Below ((w.alloc o).alloc p).heap.size ((w.alloc o).alloc p) w') : Below w.heap.size w w' := below_lit (below_lit h)
theorem Arg.ahead {w : World} {A : Option Addr} {n : Nat} {l : List Rg} (h : Arg w A n l) (o : Obj) : Arg (w.alloc o) A n l := h.next ((Below.refl _ _).alloc (Nat.le_refl _) _)
/-- a normal list that the call made -/
def Res (w : World) (L : List Rg) (e : Ending) (w' : World) : Prop := ∃ A n c, e = .returned (.slice A n c) ∧ Arg w' A n L ∧ Below w.heap.size w w'
theorem Own.res {w w' : World} {L : List Rg} {e : Ending} (h : Own w L e w') (hN : Nm L) : Res w L e w' := by
  obtain ⟨v, rfl, ho, hb⟩ := h
  obtain ⟨A, c, rfl, _, _, hr⟩ := own_form ho
  exact ⟨A, _, c, rfl, ⟨hr, rfl, hN.fit, by have := nm_len hN; omega⟩, hb⟩
section
variable {A B : Option Addr} {a b : List Rg} {n m : Nat} {w : World}
theorem a_norm (c : Nat) (h : Arg w A n a) : Calls Tryz.prog 31 #[.slice A n c] w (Res w (norm a)) := (norm_any A a n c w h.rd h.len h.fit (by have := h.sm; omega)).mono fun _ _ h => h.res (nl_nm _)
theorem a_not (c : Nat) (h : Arg w A n a) : Calls Tryz.prog 54 #[.slice A n c] w (Res w (compl a)) := (not_any A a n c w h.rd h.len h.fit (by have := h.sm; omega)).mono fun _ _ h => h.res (nl_nm _)
theorem a_uni (c d : Nat) (h : Arg w A n a) (k : Arg w B m b) : Calls Tryz.prog 50 #[.slice A n c, .slice B m d] w (Res w (uni a b)) := (uni_any A B a b n m c d w h.rd k.rd h.len k.len h.fit k.fit (by have := h.sm; have := k.sm; omega)).mono fun _ _ h => h.res (nl_nm _)
theorem a_meet (c d : Nat) (h : Arg w A n a) (k : Arg w B m b) : Calls Tryz.prog 55 #[.slice A n c, .slice B m d] w (Res w (meet a b)) := (meet_any A B a b n m c d w h.rd k.rd h.len k.len h.fit k.fit (by have := h.sm; have := k.sm; omega)).mono fun _ _ h => h.res (nl_nm _)
theorem a_may (c : Nat) (h : Arg w A n a) {q : Bool} (e : eqL (norm a) a = q) : Calls Tryz.prog 35 #[.slice A n c] w (Ret w (.bool q)) := e ▸ may_any A a n c w h.rd h.len h.fit (by have := h.sm; omega)
theorem a_has (c : Nat) (h : Arg w A n a) (r : Int) {q : Bool} (e : has a r = q) : Calls Tryz.prog 38 #[.slice A n c, .int .i32 r] w (Ret w (.bool q)) := e ▸ has_any A a n c r w h.rd h.len (by have := h.sm; omega)
theorem a_same (c d : Nat) (h : Arg w A n a) (k : Arg w B m b) {q : Bool} (e : eqL a b = q) : Calls Tryz.prog 24 #[.slice A n c, .slice B m d] w (Ret w (.bool q)) :=
  (same_any A B a b n m c d w h.rd k.rd h.len k.len (by have := h.sm; omega) (by have := k.sm; omega)).mono fun _ _ ⟨he, j, hw⟩ => ⟨e ▸ he, hw ▸ below_drewN (Below.refl _ _) j⟩
theorem a_rhas (c : Nat) (h : Arg w A n a) (r : Int) {q : Bool} (e : has a r = q) : Calls Tryz.prog 40 #[.slice A n c, .int .i32 r] w (fun e w' => e = .returned (.bool q) ∧ w = w') := e ▸ rhas_any A a n c r w h.rd h.len (by have := h.sm; omega)
theorem a_rnorm (c : Nat) (h : Arg w A n a) : Calls Tryz.prog 25 #[.slice A n c] w (Res w (norm a)) := (rnorm_any A a n c w h.rd h.len (by have := h.sm; omega)).mono fun _ _ h => h.res (nl_nm _)
end
end Go.Proofs.YtipcbiecdabihaaGreat.Rset
