/-
  A region that draws its order with calls in a chain and allocations that come up anywhere among them: one state for all that has come up, whatever the order.
-/
import Derived.Test.YtipcbiecdabihaaGreatSsetFixed
namespace Go
section
variable {P : Program} {ops : Array Oper} {Q : Exit → Act → World → Prop} {md : Region.Mode} {S : World → Prop}
def bitsOf : Nat → List (List Bool)
  | 0 => [[]]
  | n + 1 => (bitsOf n).flatMap fun bs => [false :: bs, true :: bs]
theorem mem_bitsOf : ∀ (bs : List Bool), bs ∈ bitsOf bs.length
  | [] => List.mem_singleton.2 rfl
  | b :: bs => by
    show b :: bs ∈ (bitsOf bs.length).flatMap _
    rw [List.mem_flatMap]
    refine ⟨bs, mem_bitsOf bs, ?_⟩
    cases b <;> simp
def allNE (f : Nat → Bool) : List Nat → Bool
  | [] => false
  | i :: is => f i && is.all f
theorem allNE_spec {f : Nat → Bool} : ∀ {l : List Nat}, allNE f l = true → l ≠ [] ∧ ∀ i ∈ l, f i = true
  | [], h => by simp [allNE] at h
  | i :: is, h => by
    simp only [allNE, Bool.and_eq_true, List.all_eq_true] at h
    refine ⟨by simp, fun k hk => ?_⟩
    rcases List.mem_cons.1 hk with rfl | hk
    · exact h.1
    · exact h.2 k hk
/-- what may come up while some of 'M' has not: only such as have not, and that 'ok' lets come -/
def floatTab (md : Region.Mode) (ops : Array Oper) (L : List Bool → Array Bool) (ok : List Bool → Bool) (M : List Nat) : Bool :=
  (bitsOf M.length).all fun bs => !ok bs || bs.all id ||
    allNE (fun i => decide (M.idxOf i < M.length) && !(bs.getD (M.idxOf i) true) && ok (bs.set (M.idxOf i) true) && ((L bs).toList.set i true == (L (bs.set (M.idxOf i) true)).toList)) (Region.ready md ops (L bs))
theorem float_count : ∀ (bs : List Bool) (j : Nat), bs.getD j true = false → ((bs.set j true).count false) + 1 = bs.count false
  | [], j, h => by simp at h
  | b :: bs, 0, h => by
    have : b = false := h
    subst this
    show (true :: bs).count false + 1 = (false :: bs).count false
    simp
  | b :: bs, j + 1, h => by
    have := float_count bs j h
    show (b :: bs.set j true).count false + 1 = (b :: bs).count false
    cases b <;> simp <;> omega
theorem float_all : ∀ (bs : List Bool), bs.count false = 0 → bs = List.replicate bs.length true
  | [], _ => rfl
  | true :: bs, h => by
    have := float_all bs (by simpa using h)
    show true :: bs = true :: List.replicate bs.length true
    rw [← this]
  | false :: bs, h => by simp at h
theorem float_idx : ∀ (M : List Nat) (i : Nat), M.idxOf i < M.length → M[M.idxOf i]? = some i
  | [], i, h => by simp at h
  | m :: M, i, h => by
    by_cases e : m = i
    · subst e; simp
    · have he : (m == i) = false := by simpa using e
      rw [List.idxOf_cons, he, cond_false] at h ⊢
      rw [List.length_cons] at h
      simpa using float_idx M i (by omega)

/-- **One state for whatever has come up**: the operations 'M' come up in whatever order 'ok' lets them. -/
theorem wpAnyH_float {L : List Bool → Array Bool} {ok : List Bool → Bool} {M : List Nat} {fuel : Nat} (J : List Bool → Act → World → Prop)
    (htab : floatTab md ops L ok M = true)
    (hstep : ∀ (j i : Nat) (bs : List Bool) (a : Act) (w : World), M[j]? = some i → bs.length = M.length → bs.getD j true = false → ok (bs.set j true) = true → S w → J bs a w →
      ∃ o, ops[i]? = some o ∧ ∀ K : Act → World → Prop, Shut (∀ a' w', S w' → J (bs.set j true) a' w' → K a' w') → if Region.wanted o (yielded ops a.tmps) = true then Oper.wp P o a w K Q else K (a.put o.dst undef) w)
    (hend : ∀ a w, S w → J (List.replicate M.length true) a w → wpAnyH P md ops Q S fuel (L (List.replicate M.length true)) a w) :
    ∀ (k : Nat) (bs : List Bool) (a : Act) (w : World), bs.count false = k → bs.length = M.length → ok bs = true → S w → J bs a w → wpAnyH P md ops Q S (fuel + k) (L bs) a w
  | 0, bs, a, w, hk, hl, _, hS, hJ => by
    obtain rfl : bs = List.replicate M.length true := by rw [← hl]; exact float_all bs hk
    exact hend a w hS hJ
  | k + 1, bs, a, w, hk, hl, hok, hS, hJ => by
    have hall : bs.all id = false := by
      rw [Bool.eq_false_iff]
      intro h
      have : bs.count false = 0 := List.count_eq_zero.2 fun hm => by
        have := List.all_eq_true.1 h _ hm
        simp at this
      omega
    have ht := List.all_eq_true.1 htab bs (hl ▸ mem_bitsOf bs)
    simp only [hok, hall, Bool.not_true, Bool.or_false, Bool.false_or] at ht
    obtain ⟨hne, hr⟩ := allNE_spec ht
    refine ⟨fun h => absurd h hne, fun i hi => ?_⟩
    have hx := hr i hi
    simp only [Bool.and_eq_true, Bool.not_eq_true', decide_eq_true_eq, beq_iff_eq] at hx
    obtain ⟨⟨⟨h1, h2⟩, h3⟩, h5⟩ := hx
    have h4 : (L bs).setIfInBounds i true = L (bs.set (M.idxOf i) true) := by
      apply Array.toList_inj.1
      rw [Array.toList_setIfInBounds]
      exact h5
    obtain ⟨o, ho, hrun⟩ := hstep (M.idxOf i) i bs a w (float_idx M i h1) hl h2 h3 hS hJ
    refine wpOp_step ho (fun K hK => hrun K fun a' w' hS' hJ' => hK a' w' ⟨hS', ?_⟩)
    have hc := float_count bs (M.idxOf i) h2
    rw [h4]
    exact wpAnyH_float J htab hstep hend k (bs.set (M.idxOf i) true) a' w' (by omega) (by simpa using hl) h3 hS' hJ'
/-- the state named -/
theorem wpAnyH_named {fuel : Nat} {listed : Array Bool} {a : Act} {w : World} (h : ∀ a', a' = a → wpAnyH P md ops Q S fuel listed a' w) : wpAnyH P md ops Q S fuel listed a w := h a rfl
end
end Go
namespace Go.Proofs.YtipcbiecdabihaaGreat.Sset
open Go.ChangeShapes Go.WideShapes Go.ChangeAt Go.RowKit
open Utf (Rd Blk nums nums_len wpList_append_rd own_ne)
open Rset (Rg rgs has)
set_option maxRecDepth 100000
/-- three slices in a block of a set -/
def Hz (B : Nat) (w : World) (x : Value) : Prop := ∃ g A1 n1 c1 A2 n2 c2 A3 n3 c3, x = .pointer (some ⟨g, 0, none⟩) ∧ B ≤ g ∧ BlkS w g (.slice A1 n1 c1) (.slice A2 n2 c2) (.slice A3 n3 c3)
theorem Hz.next {B : Nat} {w w' : World} {x : Value} (h : Hz B w x) (hb : Below w.heap.size w w') : Hz B w' x := by
  obtain ⟨g, A1, n1, c1, A2, n2, c2, A3, n3, c3, e, hB, hk⟩ := h
  exact ⟨g, A1, n1, c1, A2, n2, c2, A3, n3, c3, e, hB, hk.next hb⟩
theorem Hz.new {B : Nat} (w : World) (hB : B ≤ w.heap.size) : Hz B (w.alloc (.cells #[.slice none 0 0, .slice none 0 0, .slice none 0 0] 25)) (.pointer (some ⟨w.heap.size, 0, none⟩)) :=
  ⟨w.heap.size, none, 0, 0, none, 0, 0, none, 0, 0, rfl, hB, BlkS.new w _ _ _⟩
theorem Hz.ne {B : Nat} {w : World} {x : Value} (h : Hz B w x) : x ≠ .pointer (some ⟨w.heap.size, 0, none⟩) := by
  obtain ⟨g, A1, n1, c1, A2, n2, c2, A3, n3, c3, rfl, _, hk⟩ := h
  intro e
  have hl := hk.lt
  have : g = w.heap.size := by injection e with e; injection e with e; injection e
  omega
theorem Hz.ne' {B : Nat} {w : World} {x : Value} (h : Hz B w x) : .pointer (some ⟨w.heap.size, 0, none⟩) ≠ x := fun e => h.ne e.symm
theorem rd_put3 {w : World} {B g : Nat} {A A1 A2 A3 : Option Addr} {n1 c1 n2 c2 n3 c3 : Nat} {xs : List Value} (h : Rd w B A xs) (hs : ∀ u ∈ xs, ∀ C n c, u ≠ Value.slice C n c)
    (hz : BlkS w g (.slice A1 n1 c1) (.slice A2 n2 c2) (.slice A3 n3 c3)) (a b c : Value) : Rd (((w.setCell ⟨g, 0, none⟩ a).setCell ⟨g, 1, none⟩ b).setCell ⟨g, 2, none⟩ c) B A xs := by
  intro hn
  obtain ⟨b', o, e, hb, hc⟩ := h hn
  refine ⟨b', o, e, hb, fun k u hu => ?_⟩
  have h1 := hc k u hu
  have hm := List.mem_of_getElem? hu
  have n0 : (⟨g, 0, none⟩ : Addr) ≠ ⟨b', o + k, none⟩ := fun e => by
    rw [← e, hz.c0] at h1; injection h1 with h1; exact hs u hm _ _ _ h1.symm
  have n1 : (⟨g, 1, none⟩ : Addr) ≠ ⟨b', o + k, none⟩ := fun e => by
    rw [← e, hz.c1] at h1; injection h1 with h1; exact hs u hm _ _ _ h1.symm
  have n2 : (⟨g, 2, none⟩ : Addr) ≠ ⟨b', o + k, none⟩ := fun e => by
    rw [← e, hz.c2] at h1; injection h1 with h1; exact hs u hm _ _ _ h1.symm
  rw [World.cell?_setCell_other _ _ _ _ n2, World.cell?_setCell_other _ _ _ _ n1, World.cell?_setCell_other _ _ _ _ n0]
  exact h1
theorem rgs_noslice (l : List Rg) : ∀ u ∈ rgs l, ∀ C n c, u ≠ Value.slice C n c := by
  intro u hu C n c e
  subst e
  induction l with
  | nil => simp [rgs] at hu
  | cons q l ih => simp [rgs] at hu ih; try exact ih hu
theorem txs_noslice (l : List Tx) : ∀ u ∈ txs l, ∀ C n c, u ≠ Value.slice C n c := by
  intro u hu C n c e
  subst e
  simp only [txs, List.mem_map] at hu
  obtain ⟨x, _, e⟩ := hu
  simp [encStr] at e
theorem has3_put {w : World} {g : Nat} {B1 B2 B3 A1 A2 A3 : Option Addr} {m1 m2 m3 n1 c1 n2 c2 n3 c3 : Nat} {s : St} (h : Has3 w B1 m1 B2 m2 B3 m3 s)
    (hz : BlkS w g (.slice A1 n1 c1) (.slice A2 n2 c2) (.slice A3 n3 c3)) (a b c : Value) : Has3 (((w.setCell ⟨g, 0, none⟩ a).setCell ⟨g, 1, none⟩ b).setCell ⟨g, 2, none⟩ c) B1 m1 B2 m2 B3 m3 s := by
  have hs : (((w.setCell ⟨g, 0, none⟩ a).setCell ⟨g, 1, none⟩ b).setCell ⟨g, 2, none⟩ c).heap.size = w.heap.size := by simp
  exact ⟨⟨by rw [hs]; exact rd_put3 h.s.rd (rgs_noslice _) hz _ _ _, h.s.len, h.s.fit, h.s.sm⟩, ⟨by rw [hs]; exact rd_put3 h.m.rd (rgs_noslice _) hz _ _ _, h.m.len, h.m.fit, h.m.sm⟩,
    ⟨by rw [hs]; exact rd_put3 h.o.rd (txs_noslice _) hz _ _ _, h.o.len, h.o.short, h.o.sm⟩⟩
theorem argS_put {w : World} {g : Nat} {v : Value} {A1 A2 A3 : Option Addr} {n1 c1 n2 c2 n3 c3 : Nat} {s : St} (h : ArgS w v s)
    (hz : BlkS w g (.slice A1 n1 c1) (.slice A2 n2 c2) (.slice A3 n3 c3)) (a b c : Value) : ArgS (((w.setCell ⟨g, 0, none⟩ a).setCell ⟨g, 1, none⟩ b).setCell ⟨g, 2, none⟩ c) v s := by
  obtain ⟨B1, m1, d1, B2, m2, d2, B3, m3, d3, e, h⟩ := h
  exact ⟨B1, m1, d1, B2, m2, d2, B3, m3, d3, e, has3_put h hz _ _ _⟩
theorem blkS_far {w : World} {g g' : Nat} {v1 v2 v3 : Value} (h : BlkS w g v1 v2 v3) (hne : g' ≠ g) (a b c : Value) : BlkS (((w.setCell ⟨g', 0, none⟩ a).setCell ⟨g', 1, none⟩ b).setCell ⟨g', 2, none⟩ c) g v1 v2 v3 :=
  Blk.grown h (grown_put w g' a b c) (fun e => hne (Option.some.inj e.symm))
theorem hz_far {B : Nat} {w : World} {g : Nat} {x : Value} (h : Hz B w x) (hne : x ≠ .pointer (some ⟨g, 0, none⟩)) (a b c : Value) : Hz B (((w.setCell ⟨g, 0, none⟩ a).setCell ⟨g, 1, none⟩ b).setCell ⟨g, 2, none⟩ c) x := by
  obtain ⟨g', A1, n1, c1, A2, n2, c2, A3, n3, c3, rfl, hB, hk⟩ := h
  exact ⟨g', A1, n1, c1, A2, n2, c2, A3, n3, c3, rfl, hB, blkS_far hk (fun e => hne (by rw [e])) _ _ _⟩
theorem bx_far {w : World} {g g' : Nat} {A1 A2 A3 B1 B2 B3 : Option Addr} {n1 c1 n2 c2 n3 c3 m1 d1 m2 d2 m3 d3 : Nat} {s : St} (h : Bx w g A1 n1 c1 A2 n2 c2 A3 n3 c3 s) (hne : g' ≠ g)
    (hz : BlkS w g' (.slice B1 m1 d1) (.slice B2 m2 d2) (.slice B3 m3 d3)) (a b c : Value) : Bx (((w.setCell ⟨g', 0, none⟩ a).setCell ⟨g', 1, none⟩ b).setCell ⟨g', 2, none⟩ c) g A1 n1 c1 A2 n2 c2 A3 n3 c3 s :=
  ⟨blkS_far h.blk hne _ _ _, has3_put h.has hz _ _ _⟩
theorem below_put3 {B g : Nat} {w u : World} (h : Below B w u) (hg : B ≤ g) (a b c : Value) : Below B w (((u.setCell ⟨g, 0, none⟩ a).setCell ⟨g, 1, none⟩ b).setCell ⟨g, 2, none⟩ c) :=
  ((h.setCell (p := ⟨g, 0, none⟩) hg a).setCell (p := ⟨g, 1, none⟩) hg b).setCell (p := ⟨g, 2, none⟩) hg c
end Go.Proofs.YtipcbiecdabihaaGreat.Sset
