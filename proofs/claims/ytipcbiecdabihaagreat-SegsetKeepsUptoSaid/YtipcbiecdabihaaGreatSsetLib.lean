/-
  CONTRACTS OF slices.Equal, Contains, BinarySearch, Sort, Compact at texts, laid off the shelf (the layings' text is written by tools/layplain.py).
-/
import Derived.Shelf.Sort.Plain
import Derived.Shelf.Slices.In.SortNone
import Derived.Shelf.Slices.CompactS
import Derived.Shelf.Slices.Turned
import Derived.Shelf.Slices.Equal
import Derived.Shelf.Slices.Empties2
import Derived.Shelf.Spec.SearchS
import Derived.Test.YtipcbiecdabihaaGreatSsetWords
namespace Go.Proofs.YtipcbiecdabihaaGreat.Sset
open Go.Shelf Go.RowKit Go.Lib Go.Sort
open Utf (Rd Blk)
open Rset
set_option maxRecDepth 100000

def eqT_ren : Go.Shelf.Ren := ⟨fun | 193 => 36 | n => n, fun | 31 => 23 | 9 => 9 | 4 => 4 | 3 => 3 | 0 => 0 | n => n, fun | n => n⟩
theorem eqT : Go.Proofs.Lays.n193 Tryz.prog eqT_ren := {
  mixed := by kernel_rfl
  f193 := Tryz.func36.trans (congrArg some (by kernel_rfl))
  t0 := Tryz.underlying0
  a0 := Tryz.isAgg0
  z0 := Tryz.sizeOf0
  v0 := Tryz.zeroValue0
  t3 := Tryz.underlying3
  a3 := Tryz.isAgg3
  z3 := Tryz.sizeOf3
  v3 := Tryz.zeroValue3
  t4 := Tryz.underlying4
  a4 := Tryz.isAgg4
  z4 := Tryz.sizeOf4
  v4 := Tryz.zeroValue4
  t9 := Tryz.underlying9
  a9 := Tryz.isAgg9
  z9 := Tryz.sizeOf9
  v9 := Tryz.zeroValue9
  t31 := Tryz.underlying23
  a31 := Tryz.isAgg23
  z31 := Tryz.sizeOf23
  v31 := Tryz.zeroValue23 }
def conT_ren : Go.Shelf.Ren := ⟨fun | 110 => 39 | 109 => 61 | n => n, fun | 31 => 23 | 9 => 9 | 4 => 4 | 3 => 3 | 0 => 0 | n => n, fun | n => n⟩
theorem conT : Go.Proofs.Lays.n110 Tryz.prog conT_ren := {
  mixed := by kernel_rfl
  f109 := Tryz.func61.trans (congrArg some (by kernel_rfl))
  f110 := Tryz.func39.trans (congrArg some (by kernel_rfl))
  t0 := Tryz.underlying0
  a0 := Tryz.isAgg0
  z0 := Tryz.sizeOf0
  v0 := Tryz.zeroValue0
  t3 := Tryz.underlying3
  a3 := Tryz.isAgg3
  z3 := Tryz.sizeOf3
  v3 := Tryz.zeroValue3
  t4 := Tryz.underlying4
  a4 := Tryz.isAgg4
  z4 := Tryz.sizeOf4
  v4 := Tryz.zeroValue4
  t9 := Tryz.underlying9
  a9 := Tryz.isAgg9
  z9 := Tryz.sizeOf9
  v9 := Tryz.zeroValue9
  t31 := Tryz.underlying23
  a31 := Tryz.isAgg23
  z31 := Tryz.sizeOf23
  v31 := Tryz.zeroValue23 }
def bsT_ren : Go.Shelf.Ren := ⟨fun | 26 => 79 | 33 => 94 | 34 => 95 | 38 => 112 | n => n, fun | 24 => 23 | 9 => 9 | 3 => 3 | 4 => 4 | 40 => 103 | 0 => 0 | n => n, fun | n => n⟩
theorem bsT : Go.Proofs.Lays2.n26 Tryz.prog bsT_ren := {
  mixed := by kernel_rfl
  f26 := Tryz.func79.trans (congrArg some (by kernel_rfl))
  f33 := Tryz.func94.trans (congrArg some (by kernel_rfl))
  f34 := Tryz.func95.trans (congrArg some (by kernel_rfl))
  f38 := Tryz.func112.trans (congrArg some (by kernel_rfl))
  t0 := Tryz.underlying0
  a0 := Tryz.isAgg0
  z0 := Tryz.sizeOf0
  v0 := Tryz.zeroValue0
  t3 := Tryz.underlying3
  a3 := Tryz.isAgg3
  z3 := Tryz.sizeOf3
  v3 := Tryz.zeroValue3
  t4 := Tryz.underlying4
  a4 := Tryz.isAgg4
  z4 := Tryz.sizeOf4
  v4 := Tryz.zeroValue4
  t9 := Tryz.underlying9
  a9 := Tryz.isAgg9
  z9 := Tryz.sizeOf9
  v9 := Tryz.zeroValue9
  t24 := Tryz.underlying23
  a24 := Tryz.isAgg23
  z24 := Tryz.sizeOf23
  v24 := Tryz.zeroValue23
  t40 := Tryz.underlying103
  a40 := Tryz.isAgg103
  z40 := Tryz.sizeOf103
  v40 := Tryz.zeroValue103 }
def sortT_ren : Go.Shelf.Ren := ⟨fun | 190 => 75 | 125 => 93 | 258 => 92 | 128 => 110 | 129 => 111 | 302 => 102 | 303 => 103 | 304 => 104 | 305 => 105 | 306 => 106 | 307 => 107 | 308 => 94 | 309 => 108 | 310 => 109 | 333 => 118 | 329 => 119 | 330 => 120 | 334 => 121 | 335 => 122 | 336 => 112 | 344 => 134 | n => n, fun | 31 => 23 | 9 => 9 | 3 => 3 | 46 => 103 | 0 => 0 | 51 => 123 | 53 => 125 | 4 => 4 | 183 => 117 | 182 => 116 | 131 => 82 | 5 => 5 | 218 => 133 | 222 => 137 | 228 => 147 | 229 => 128 | n => n, fun | n => n⟩
theorem sortT : Go.Proofs.Lays.n190 Tryz.prog sortT_ren := {
  mixed := by kernel_rfl
  f125 := Tryz.func93.trans (congrArg some (by kernel_rfl))
  f128 := Tryz.func110.trans (congrArg some (by kernel_rfl))
  f129 := Tryz.func111.trans (congrArg some (by kernel_rfl))
  f190 := Tryz.func75.trans (congrArg some (by kernel_rfl))
  f258 := Tryz.func92.trans (congrArg some (by kernel_rfl))
  f302 := Tryz.func102.trans (congrArg some (by kernel_rfl))
  f303 := Tryz.func103.trans (congrArg some (by kernel_rfl))
  f304 := Tryz.func104.trans (congrArg some (by kernel_rfl))
  f305 := Tryz.func105.trans (congrArg some (by kernel_rfl))
  f306 := Tryz.func106.trans (congrArg some (by kernel_rfl))
  f307 := Tryz.func107.trans (congrArg some (by kernel_rfl))
  f308 := Tryz.func94.trans (congrArg some (by kernel_rfl))
  f309 := Tryz.func108.trans (congrArg some (by kernel_rfl))
  f310 := Tryz.func109.trans (congrArg some (by kernel_rfl))
  f329 := Tryz.func119.trans (congrArg some (by kernel_rfl))
  f330 := Tryz.func120.trans (congrArg some (by kernel_rfl))
  f333 := Tryz.func118.trans (congrArg some (by kernel_rfl))
  f334 := Tryz.func121.trans (congrArg some (by kernel_rfl))
  f335 := Tryz.func122.trans (congrArg some (by kernel_rfl))
  f336 := Tryz.func112.trans (congrArg some (by kernel_rfl))
  f344 := Tryz.func134.trans (congrArg some (by kernel_rfl))
  t0 := Tryz.underlying0
  a0 := Tryz.isAgg0
  z0 := Tryz.sizeOf0
  v0 := Tryz.zeroValue0
  t3 := Tryz.underlying3
  a3 := Tryz.isAgg3
  z3 := Tryz.sizeOf3
  v3 := Tryz.zeroValue3
  t4 := Tryz.underlying4
  a4 := Tryz.isAgg4
  z4 := Tryz.sizeOf4
  v4 := Tryz.zeroValue4
  t5 := Tryz.underlying5
  a5 := Tryz.isAgg5
  z5 := Tryz.sizeOf5
  v5 := Tryz.zeroValue5
  t9 := Tryz.underlying9
  a9 := Tryz.isAgg9
  z9 := Tryz.sizeOf9
  v9 := Tryz.zeroValue9
  t31 := Tryz.underlying23
  a31 := Tryz.isAgg23
  z31 := Tryz.sizeOf23
  v31 := Tryz.zeroValue23
  t46 := Tryz.underlying103
  a46 := Tryz.isAgg103
  z46 := Tryz.sizeOf103
  v46 := Tryz.zeroValue103
  t51 := Tryz.underlying123
  a51 := Tryz.isAgg123
  z51 := Tryz.sizeOf123
  v51 := Tryz.zeroValue123
  t53 := Tryz.underlying125
  a53 := Tryz.isAgg125
  z53 := Tryz.sizeOf125
  v53 := Tryz.zeroValue125
  t131 := Tryz.underlying82
  a131 := Tryz.isAgg82
  z131 := Tryz.sizeOf82
  v131 := Tryz.zeroValue82
  t182 := Tryz.underlying116
  a182 := Tryz.isAgg116
  z182 := Tryz.sizeOf116
  v182 := Tryz.zeroValue116
  t183 := Tryz.underlying117
  a183 := Tryz.isAgg117
  z183 := Tryz.sizeOf117
  v183 := Tryz.zeroValue117
  t218 := Tryz.underlying133
  a218 := Tryz.isAgg133
  z218 := Tryz.sizeOf133
  v218 := Tryz.zeroValue133
  t222 := Tryz.underlying137
  a222 := Tryz.isAgg137
  z222 := Tryz.sizeOf137
  v222 := Tryz.zeroValue137
  t228 := Tryz.underlying147
  a228 := Tryz.isAgg147
  z228 := Tryz.sizeOf147
  v228 := Tryz.zeroValue147
  t229 := Tryz.underlying128
  a229 := Tryz.isAgg128
  z229 := Tryz.sizeOf128
  v229 := Tryz.zeroValue128 }
def compT_ren : Go.Shelf.Ren := ⟨fun | 194 => 76 | n => n, fun | 31 => 23 | 9 => 9 | 3 => 3 | 4 => 4 | 0 => 0 | n => n, fun | n => n⟩
theorem compT : Go.Proofs.Lays.n194 Tryz.prog compT_ren := {
  mixed := by kernel_rfl
  f194 := Tryz.func76.trans (congrArg some (by kernel_rfl))
  t0 := Tryz.underlying0
  a0 := Tryz.isAgg0
  z0 := Tryz.sizeOf0
  v0 := Tryz.zeroValue0
  t3 := Tryz.underlying3
  a3 := Tryz.isAgg3
  z3 := Tryz.sizeOf3
  v3 := Tryz.zeroValue3
  t4 := Tryz.underlying4
  a4 := Tryz.isAgg4
  z4 := Tryz.sizeOf4
  v4 := Tryz.zeroValue4
  t9 := Tryz.underlying9
  a9 := Tryz.isAgg9
  z9 := Tryz.sizeOf9
  v9 := Tryz.zeroValue9
  t31 := Tryz.underlying23
  a31 := Tryz.isAgg23
  z31 := Tryz.sizeOf23
  v31 := Tryz.zeroValue23 }

/-- a text as a string -/
def ba (l : Tx) : ByteArray := ⟨l.toArray⟩
theorem ba_list (l : Tx) : (ba l).toList = l := mk_toList l
theorem ba_inj {x y : Tx} (h : ba x = ba y) : x = y := by rw [← ba_list x, h, ba_list]
theorem map_ba {l : List Tx} {k : Nat} (h : k < l.length) : (l.map ba).getD k ByteArray.empty = ba l[k] := by simp [List.getD, List.getElem?_eq_getElem h]
theorem cells_ba {w : World} {B : Nat} {l : List Tx} {b o : Nat} (h : Rd w B (some ⟨b, o, none⟩) (txs l)) : ∀ j, j < (l.map ba).length → w.cell? ⟨b, o + j, none⟩ = some (.string ((l.map ba).getD j ByteArray.empty)) := fun j hj => by
  rw [List.length_map] at hj
  rw [map_ba hj]
  exact rd_tx h hj
theorem eqT_any (A B : Option Addr) (a b : List Tx) (n m c d : Nat) (w : World) (ha : Rd w w.heap.size A (txs a)) (hb : Rd w w.heap.size B (txs b)) (hn : a.length = n) (hm : b.length = m) (hn1 : n ≤ 1099511627776) (hm1 : m ≤ 1099511627776) :
    Calls Tryz.prog 36 #[.slice A n c, .slice B m d] w fun e w' => e = .returned (.bool (decide (a = b))) ∧ ∃ q, w' = w.drewN q := by
  by_cases hnm : n = m
  · by_cases h0 : n = 0
    · subst h0
      have ha0 : a = [] := List.eq_nil_of_length_eq_zero hn
      have hb0 : b = [] := List.eq_nil_of_length_eq_zero (by omega)
      subst ha0 hb0
      have hcon := Any.slices_Equal_string_empty eqT A B c m d w (by omega)
      change Calls Tryz.prog 36 _ _ _ at hcon
      exact hcon.mono fun e w' ⟨h1, h2⟩ => ⟨by rw [h1, ← hnm]; rfl, 0, h2⟩
    · obtain ⟨b1, o1, rfl, _⟩ := rd_form_tx ha (by omega)
      obtain ⟨b2, o2, rfl, _⟩ := rd_form_tx hb (by omega)
      have hcon := Any.slices_Equal_string eqT b1 o1 n c b2 o2 m d (a.map ba) (b.map ba) w (by rw [List.length_map]; omega) (by rw [List.length_map]; omega) (by omega) (by omega) (cells_ba ha) (cells_ba hb)
      change Calls Tryz.prog 36 _ _ _ at hcon
      refine hcon.mono fun e w' ⟨h1, h2⟩ => ⟨?_, h2⟩
      rw [h1, List.take_of_length_le (by rw [List.length_map]; omega), List.take_of_length_le (by rw [List.length_map]; omega)]
      refine ret_bool ?_
      rw [decide_eq_decide]
      exact ⟨fun h => List.map_inj_right (fun _ _ h => ba_inj h) |>.1 h, fun h => by rw [h]⟩
  · have hcon := Any.slices_Equal_string_lens eqT A B n c m d w hnm
    change Calls Tryz.prog 36 _ _ _ at hcon
    refine hcon.mono fun e w' ⟨h1, h2⟩ => ⟨?_, 0, h2⟩
    rw [h1]
    refine ret_bool ?_
    symm
    rw [decide_eq_false_iff_not]
    rintro rfl
    exact hnm (hn.symm.trans hm)
theorem con_any (A : Option Addr) (a : List Tx) (n c : Nat) (X : ByteArray) (x : Tx) (hX : X.toList = x) (w : World) (ha : Rd w w.heap.size A (txs a)) (hn : a.length = n) (hn1 : n ≤ 1099511627776) :
    Calls Tryz.prog 39 #[.slice A n c, .string X] w fun e w' => e = .returned (.bool (isIn a x)) ∧ w = w' := by
  by_cases h0 : n = 0
  · subst h0
    have ha0 : a = [] := List.eq_nil_of_length_eq_zero hn
    subst ha0
    have hcon := Any.slices_Contains_string_empty conT A c X w
    change Calls Tryz.prog 39 _ _ _ at hcon
    exact hcon.mono fun e w' ⟨h1, h2⟩ => ⟨by rw [h1, isIn_nil], h2.symm⟩
  · obtain ⟨b1, o1, rfl, _⟩ := rd_form_tx ha (by omega)
    have hcon := Any.slices_Contains_string conT b1 o1 n c (a.map ba) X w (by rw [List.length_map]; omega) (by omega) (cells_ba ha)
    change Calls Tryz.prog 39 _ _ _ at hcon
    refine hcon.mono fun e w' ⟨h1, h2⟩ => ⟨?_, h2.symm⟩
    rw [h1, List.take_of_length_le (by rw [List.length_map]; omega)]
    refine ret_bool ?_
    rw [toList_mk hX]
    rw [Bool.eq_iff_iff, Lib.containsS_iff, isIn_iff, List.mem_map]
    constructor
    · rintro ⟨z, hz, h⟩
      have := ba_inj (x := z) (y := x) h
      subst this
      exact hz
    · intro h
      exact ⟨x, h, rfl⟩

/-- the first place of a list that rises at which no lesser text stands -/
theorem bs_place (a : List Tx) (h : Up a) (x : Tx) (F : Nat → Tx) (hF : ∀ j (hj : j < a.length), F j = a[j]) (hF2 : ∀ j, a.length ≤ j → F j = x) :
    ∃ k, (∀ t, t < k → decide (F t < x) = true) ∧ (∀ t, k ≤ t → decide (F t < x) = false) ∧ k ≤ a.length ∧ (decide (k < a.length ∧ F k = x) = isIn a x) := by
  have up : ∀ i j : Nat, i < j → j < a.length → F i < F j := fun i j hij hj => by
    rw [hF i (by omega), hF j hj]
    exact List.pairwise_iff_getElem.1 h i j (by omega) hj hij
  have ex : ∀ n : Nat, n ≤ a.length → (∀ t, t < n → F t < x) ∨ ∃ k, k < n ∧ (∀ t, t < k → F t < x) ∧ ¬ F k < x := by
    intro n
    induction n with
    | zero => intro _; exact .inl fun t ht => by omega
    | succ n ih =>
      intro hn
      rcases ih (by omega) with h1 | ⟨k, h1, h2, h3⟩
      · by_cases hx : F n < x
        · left; intro t ht
          rcases Nat.lt_or_ge t n with h2 | h2
          · exact h1 t h2
          · have : t = n := by omega
            subst this; exact hx
        · exact .inr ⟨n, by omega, h1, hx⟩
      · exact .inr ⟨k, by omega, h2, h3⟩
  rcases ex a.length (Nat.le_refl _) with h1 | ⟨k, h1, h2, h3⟩
  · refine ⟨a.length, fun t ht => decide_eq_true (h1 t ht), fun t ht => decide_eq_false (by rw [hF2 t ht]; exact lt_irr x), Nat.le_refl _, ?_⟩
    unfold isIn
    rw [decide_eq_decide]
    refine ⟨fun ⟨h, _⟩ => absurd h (Nat.lt_irrefl _), fun hm => ?_⟩
    obtain ⟨i, hi, rfl⟩ := List.getElem_of_mem hm
    have := h1 i hi
    rw [hF i hi] at this
    exact absurd this (lt_irr _)
  · refine ⟨k, fun t ht => decide_eq_true (h2 t ht), fun t ht => decide_eq_false fun hlt => ?_, by omega, ?_⟩
    · rcases Nat.lt_or_ge t a.length with h4 | h4
      · rcases Nat.lt_or_ge k t with h5 | h5
        · exact h3 (lt_tr (up k t h5 h4) hlt)
        · have : t = k := by omega
          subst this; exact h3 hlt
      · rw [hF2 t h4] at hlt; exact lt_irr x hlt
    · unfold isIn
      rw [decide_eq_decide]
      constructor
      · rintro ⟨_, hk⟩
        rw [hF k h1] at hk
        rw [← hk]
        exact List.getElem_mem h1
      · intro hm
        obtain ⟨i, hi, he⟩ := List.getElem_of_mem hm
        refine ⟨h1, ?_⟩
        rw [← hF i hi] at he
        rcases Nat.lt_trichotomy i k with h4 | h4 | h4
        · have := h2 i h4; rw [he] at this; exact absurd this (lt_irr _)
        · rw [← h4]; exact he
        · have := up k i h4 hi; rw [he] at this; exact absurd this h3
theorem bs_any (A : Option Addr) (a : List Tx) (n c : Nat) (X : ByteArray) (x : Tx) (hX : X.toList = x) (w : World) (ha : Rd w w.heap.size A (txs a)) (hn : a.length = n) (hu : Up a) (hn1 : n ≤ 1099511627776) :
    Calls Tryz.prog 79 #[.slice A n c, .string X] w fun e w' => (∃ k : Int, e = .returned (.tuple #[.int .i64 k, .bool (isIn a x)])) ∧ ∃ q, w' = w.drewN q := by
  by_cases h0 : n = 0
  · subst h0
    have ha0 : a = [] := List.eq_nil_of_length_eq_zero hn
    subst ha0
    have hcon := Any2.slices_BinarySearch_string_empty bsT A c X w
    change Calls Tryz.prog 79 _ _ _ at hcon
    exact hcon.mono fun e w' ⟨h1, h2⟩ => ⟨⟨0, by rw [h1, isIn_nil]⟩, 0, h2⟩
  · obtain ⟨b1, o1, rfl, _⟩ := rd_form_tx ha (by omega)
    have hF2 : ∀ j, (if h : j < a.length then ba a[j] else X).toList = (if h : j < a.length then a[j] else x) := fun j => by
      by_cases h : j < a.length
      · rw [dif_pos h, dif_pos h, ba_list]
      · rw [dif_neg h, dif_neg h, hX]
    have hcon := Any2.slices_BinarySearch_string bsT b1 o1 n c (fun j => if h : j < a.length then ba a[j] else X) X w (by omega) (fun j hj => by
      rw [dif_pos (by omega)]; exact rd_tx ha (by omega))
    change Calls Tryz.prog 79 _ _ _ at hcon
    obtain ⟨k, k1, k2, k3, k4⟩ := bs_place a hu x (fun j => if h : j < a.length then a[j] else x) (fun j hj => dif_pos hj) (fun j hj => dif_neg (by omega))
    refine hcon.mono fun e w' ⟨h1, h2⟩ => ⟨⟨k, ?_⟩, h2⟩
    have hb : Lib.bsGo (fun t => Op.bytesLess (if h : t < a.length then ba a[t] else X).toList X.toList) n 0 n = k := by
      refine Lib.bsGo_spec _ k (fun t ht => ?_) (fun t ht => ?_) n 0 n (by omega) (Nat.zero_le _) (by omega)
      · rw [bytesLess_eq, hF2, hX]; exact k1 t ht
      · rw [bytesLess_eq, hF2, hX]; exact k2 t ht
    rw [h1, hb, ← k4]
    have key : decide (k < n ∧ (if h : k < a.length then ba a[k] else X) = X) = decide (k < a.length ∧ (if h : k < a.length then a[k] else x) = x) := by
      rw [decide_eq_decide]
      refine and_congr (by rw [hn]) ?_
      constructor
      · intro h
        have := congrArg ByteArray.toList h
        rw [hF2, hX] at this
        exact this
      · intro h
        have h3 := hF2 k
        rw [h] at h3
        rw [toList_mk h3, toList_mk hX]
    rw [key]

/-! ### sorting and compacting in place -/
theorem grow_none (u : World) : grow u #[] = u := by cases u; simp [grow]
theorem own_put {w : World} {base g n cap : Nat} {L L' : List Tx} (h : w.ownsRow base 9 1 (.slice (some ⟨g, 0, none⟩) n cap) n (txs L)) (hl : L'.length = n) (k : Nat) (os : Array Obj) :
    (grow (putRow encStr (Sort.ahead w k) g 0 L'.toArray) os).ownsRow base 9 1 (.slice (some ⟨g, 0, none⟩) n cap) n (txs L') ∧ w.grownBy (grow (putRow encStr (Sort.ahead w k) g 0 L'.toArray) os) (some g) := by
  rcases h.2 with ⟨hv, _⟩ | ⟨g', cap', cur, hv, h1, h2, h3, h4, h5, h6⟩
  · cases hv
  · simp only [Value.slice.injEq, Option.some.injEq, Addr.mk.injEq, and_true, true_and] at hv
    obtain ⟨rfl, rfl⟩ := hv
    have hlt : g < w.heap.size := (Array.getElem?_eq_some_iff.1 h2).1
    refine ⟨⟨by rw [txs_len, hl, Nat.mul_one], .inr ⟨g, cap, putCells encStr 0 L'.toArray cur, rfl, h1, ?_, h3, h4, by simp [putCells, h5], ?_⟩⟩, ⟨rfl, rfl, rfl, by simp, fun j hj hne => ?_⟩⟩
    · rw [heap_grow_old _ _ (by simpa using hlt)]
      simp [putRow, mapBlock, Sort.ahead, Array.getElem?_modify, h2, onCells]
    · apply List.ext_getElem?
      intro j
      rw [Nat.mul_one, List.getElem?_take]
      by_cases hj : j < n
      · rw [if_pos hj, txs_get (by omega)]
        simp only [putCells, Array.getElem?_toList, Array.getElem?_mapIdx]
        rw [Array.getElem?_eq_getElem (by omega)]
        simp only [Option.map_some]
        rw [if_pos ⟨Nat.zero_le _, by simp; omega⟩, Nat.sub_zero, getElem!_pos _ j (by simp; omega)]
        simp
      · rw [if_neg hj, List.getElem?_eq_none (by rw [txs_len]; omega)]
    · rw [heap_grow_old _ _ (by simpa using hj)]
      have : g ≠ j := fun e => hne (by rw [e])
      simp [putRow, mapBlock, Sort.ahead, Array.getElem?_modify, this]
theorem holds_own {w : World} {base g n cap : Nat} {L : List Tx} (h : w.ownsRow base 9 1 (.slice (some ⟨g, 0, none⟩) n cap) n (txs L)) : Holds encStr w g 0 L.toArray := by
  intro j hj
  have hl := h.1
  rw [txs_len] at hl
  have hj' : j < L.length := by simpa using hj
  refine ⟨?_, h.frozenAt _⟩
  rw [Nat.zero_add, h.cellAt j (by omega), txs_get hj', getElem!_pos _ j (by simpa using hj')]
  simp
theorem own_pre {w : World} {base g n k cap : Nat} {L : List Tx} (h : w.ownsRow base 9 1 (.slice (some ⟨g, 0, none⟩) n cap) n (txs L)) (hk : k ≤ n) : w.ownsRow base 9 1 (.slice (some ⟨g, 0, none⟩) k cap) k (txs (L.take k)) := by
  have hl := h.1
  rw [txs_len, Nat.mul_one] at hl
  rcases h.2 with ⟨hv, _⟩ | ⟨g', cap', cur, hv, h1, h2, h3, h4, h5, h6⟩
  · cases hv
  · simp only [Value.slice.injEq, Option.some.injEq, Addr.mk.injEq, and_true, true_and] at hv
    obtain ⟨rfl, rfl⟩ := hv
    refine ⟨by rw [txs_len, List.length_take]; omega, .inr ⟨g, cap, cur, rfl, h1, h2, by omega, h4, h5, ?_⟩⟩
    rw [← txs_take, ← h6, List.take_take]
    congr 1
    omega
/-- a list of texts that lies in memory of the call's own -/
def OwnT (B : Nat) (w : World) (L : List Tx) (e : Ending) (w' : World) : Prop := ∃ v, e = .returned v ∧ w'.ownsRow B 9 1 v L.length (txs L) ∧ Below B w w'
/-- what is done in place to a row of the caller's own -/
def Sorts (B : Nat) (v : Value) (n : Nat) (L : List Tx) (w : World) (e : Ending) (w' : World) : Prop := e = .returned (.tuple #[]) ∧ w'.ownsRow B 9 1 v n (txs L) ∧ Below B w w'
theorem sortT_any (B n : Nat) (v : Value) (L : List Tx) (w : World) (h : w.ownsRow B 9 1 v n (txs L)) (hB : B ≤ w.heap.size) (hsm : n ≤ 4294967296) :
    Calls Tryz.prog 75 #[v] w (Sorts B v n (L.mergeSort fun x y => decide (x ≤ y)) w) := by
  have hl := h.1
  rw [txs_len, Nat.mul_one] at hl
  rcases h.2 with ⟨rfl, hn⟩ | ⟨g, cap, cur, rfl, h1, h2, h3, h4, h5, h6⟩
  · subst hn
    have hL : L = [] := List.eq_nil_of_length_eq_zero hl
    subst hL
    have hcon := Any.slices_Sort_string_none sortT none 0 w
    change Calls Tryz.prog 75 _ _ _ at hcon
    refine hcon.mono ?_
    rintro e w' ⟨rfl, rfl⟩
    rw [List.mergeSort_nil]
    exact ⟨rfl, h, Below.refl _ _⟩
  · have hcon := Any.slices_Sort_string sortT g 0 cap L w (holds_own h) (Array.getElem?_eq_some_iff.1 h2).1 (by omega)
    change Calls Tryz.prog 75 _ _ _ at hcon
    rw [hl] at hcon
    refine hcon.mono ?_
    rintro e w' ⟨rfl, k, os, rfl⟩
    obtain ⟨k1, k2⟩ := own_put h (L' := L.mergeSort fun x y => decide (x ≤ y)) (by rw [List.length_mergeSort]; exact hl) k os
    exact ⟨rfl, k1, (Below.refl _ _).grown k2 hB (fun j hj => by injection hj with hj; omega)⟩
theorem compT_any (B n : Nat) (v : Value) (L : List Tx) (w : World) (h : w.ownsRow B 9 1 v n (txs L)) (hB : B ≤ w.heap.size) (hsm : n ≤ 4294967296) :
    Calls Tryz.prog 76 #[v] w (OwnT B w (Lib.compact L)) := by
  have hl := h.1
  rw [txs_len, Nat.mul_one] at hl
  rcases h.2 with ⟨rfl, hn⟩ | ⟨g, cap, cur, rfl, h1, h2, h3, h4, h5, h6⟩
  · subst hn
    have hL : L = [] := List.eq_nil_of_length_eq_zero hl
    subst hL
    have hcon := Any.slices_Compact_string_empty compT none 0 w
    change Calls Tryz.prog 76 _ _ _ at hcon
    refine hcon.mono ?_
    rintro e w' ⟨rfl, rfl⟩
    exact ⟨_, rfl, h, Below.refl _ _⟩
  · have hcon := Any.slices_Compact_string compT g 0 cap L w (holds_own h) (by omega) (by omega)
    change Calls Tryz.prog 76 _ _ _ at hcon
    rw [hl] at hcon
    refine hcon.mono ?_
    rintro e w' ⟨rfl, k, rfl⟩
    have hcl := compact_len L
    obtain ⟨k1, k2⟩ := own_put h (L' := Lib.compact L ++ List.replicate (n - (Lib.compact L).length) []) (by rw [List.length_append, List.length_replicate]; omega) k #[]
    rw [grow_none] at k1 k2
    have k3 := own_pre k1 (k := (Lib.compact L).length) (by omega)
    rw [List.take_left' rfl] at k3
    exact ⟨_, rfl, k3, (Below.refl _ _).grown k2 hB (fun j hj => by injection hj with hj; omega)⟩
end Go.Proofs.YtipcbiecdabihaaGreat.Sset
