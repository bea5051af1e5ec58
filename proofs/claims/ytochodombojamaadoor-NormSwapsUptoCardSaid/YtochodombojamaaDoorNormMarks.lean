/-
  CONTRACTS OF Class (told what memory it leaves), of the comparison, and of order: a run of marks, in a row of the call's own, comes to stand in its order.
-/
import Derived.Test.YtochodombojamaaDoorNormStab
import Derived.Test.YtochodombojamaaDoorNormMath
namespace Go.Proofs.YtochodombojamaaDoor.Norm
open Go.Shelf Go.RowKit Go.Sort Utf
open Ucd hiding grow same Told

set_option maxHeartbeats 2000000 in
theorem class_grow (r : Int) (w : World) (hL : Laid w) :
    Calls Tryd.prog 31 #[.int .i32 r] w fun e w' => e = .returned (.int .i64 (cls r)) ∧ ∃ os, w' = grow w os := by
  obtain ⟨ty, fr, hB⟩ := hL.1
  have HB := Lib.hid hB
  clear hL hB
  go_enter Tryd.func31, Tryd.ntmps31
  go_wp2_with (refine wpList_load_row rfl _ _ rfl 0 rfl _ _ _ _ HB.out Tryd.underlying61 rfl (by kernel_rfl) ?_)
  obtain ⟨arr, harr⟩ : ∃ arr, arr = (c3 clsRows).toArray := ⟨_, rfl⟩
  rw [← harr]
  have hidx : ∀ k : Nat, k < 23 → ∀ u : World, (Instr.index 61 (.agg arr) (.int .i64 k)).run Tryd.prog u = .ok (.agg (arr.extract (k * 3) (k * 3 + 3))) u := fun k hk u => run_index_row arr k Tryd.underlying61 Tryd.isAgg60 Tryd.sizeOf60 hk u
  have HI := Lib.hid hidx
  have HA := Lib.hid harr
  clear hidx harr
  go_loopw [6] (fun i wr => ∃ k : Nat, k ≤ 23 ∧ i = .int .i64 k ∧ Hid (Ucd.look 0 (clsRows.drop k) r = cls r ∧ ∃ os, wr = grow w os)) (fun i _ => 23 - (intOf i).toNat)
  case atStart => exact ⟨0, Nat.zero_le _, rfl, Lib.hid ⟨rfl, #[], (grow_empty w).symm⟩⟩
  case round =>
    obtain ⟨k, hk, rfl, H⟩ := hrel
    by_cases hlt : k < 23
    · have hx : ∀ u : World, (Instr.index 61 (.agg arr) (.int .i64 k)).run Tryd.prog u = .ok (.agg #[.int .i32 (clsRows[k]'hlt).1, .int .i32 (clsRows[k]'hlt).2.1, .int .i32 (clsRows[k]'hlt).2.2]) u := fun u => by
        rw [HI.out k hlt u, HA.out, c3_row clsRows k hlt]
      have hd : Ucd.look 0 (clsRows.drop k) r = if r < (clsRows[k]'hlt).1 then 0 else if r ≤ (clsRows[k]'hlt).2.1 then (clsRows[k]'hlt).2.2 else Ucd.look 0 (clsRows.drop (k + 1)) r := by
        rw [List.drop_eq_getElem_cons hlt]; rfl
      have hv : -2147483648 ≤ (clsRows[k]'hlt).2.2 ∧ (clsRows[k]'hlt).2.2 ≤ 2147483647 := by
        have : ∀ x ∈ clsRows, -2147483648 ≤ x.2.2 ∧ x.2.2 ≤ 2147483647 := by decide +kernel
        exact this _ (List.getElem_mem _)
      generalize clsRows[k]'hlt = row at hx hd hv
      obtain ⟨lo, hi, v⟩ := row
      dsimp only at hx hd hv
      obtain ⟨v1, v2⟩ := hv
      have HD := Lib.hid hd
      have HG := Lib.hid (show ∀ o : Obj, ∃ os, wr.alloc o = grow w os from fun o => by
        obtain ⟨os, hos⟩ := H.out.2
        exact ⟨os ++ #[o], by rw [hos, alloc_eq_grow, grow_grow]⟩)
      clear hd
      go_wp2
      · go_ret
        have ht : r < lo := by assumption
        exact ⟨ret_int (by rw [← H.out.1, HD.out, if_pos ht]), HG.out _⟩
      · go_ret
        have ht : lo ≤ r := by assumption
        have hu : r ≤ hi := by assumption
        exact ⟨ret_int (by rw [← H.out.1, HD.out, if_neg (by omega), if_pos hu]), HG.out _⟩
      · have ht : lo ≤ r := by assumption
        have hu : hi < r := by assumption
        go_roundw
        case rel => exact ⟨k + 1, by omega, by go_num, Lib.hid ⟨by rw [← H.out.1, HD.out, if_neg (by omega), if_neg (by omega)], HG.out _⟩⟩
        case measure => simp [intOf]; omega
    · go_wp2
      go_ret
      exact ⟨ret_int (by rw [← H.out.1, List.drop_of_length_le (by show 23 ≤ k; omega)]; rfl), H.out.2⟩

def cf (x y : Int) : Int := if cls x < cls y then -1 else if cls y < cls x then 1 else 0
theorem cf_lt (x y : Int) : cf x y < 0 ↔ cls x < cls y := by
  unfold cf
  split
  · simp [*]
  · split
    · simp; omega
    · simp; omega

theorem isNaN_any (x : Int) (w : World) : Calls Tryd.prog 39 #[.int .i64 x] w fun e w' => e = .returned (.bool false) ∧ w = w' := by
  have hx : (x != x) = false := by simp
  go_enter Tryd.func39, Tryd.ntmps39
  go_wp2
  go_ret
  exact ⟨rfl, rfl⟩
theorem compare_any (x y : Int) (w : World) : Calls Tryd.prog 34 #[.int .i64 x, .int .i64 y] w fun e w' => e = .returned (.int .i64 (if x < y then -1 else if y < x then 1 else 0)) ∧ w = w' := by
  go_enter Tryd.func34, Tryd.ntmps34
  by_cases h1 : x < y
  · rw [if_pos h1]
    go_wp2_with (go_at_call 39; refine (isNaN_any _ _).mono ?_; rintro e w1 ⟨rfl, rfl⟩)
    go_ret
    exact ⟨rfl, rfl⟩
  · by_cases h2 : y < x
    · rw [if_neg h1, if_pos h2]
      go_wp2_with (go_at_call 39; refine (isNaN_any _ _).mono ?_; rintro e w1 ⟨rfl, rfl⟩)
      go_ret
      exact ⟨rfl, rfl⟩
    · rw [if_neg h1, if_neg h2]
      go_wp2_with (go_at_call 39; refine (isNaN_any _ _).mono ?_; rintro e w1 ⟨rfl, rfl⟩)
      go_ret
      exact ⟨rfl, rfl⟩

theorem laid_grow {w : World} (h : Laid w) (os : Array Obj) : Laid (grow w os) := by
  have : Below w.heap.size w (grow w os) := ⟨rfl, rfl, rfl, by simp [grow], fun k hk => heap_grow_old w os hk⟩
  exact h.next this

theorem order1_any (x y : Int) (w : World) (hL : Laid w) : Calls Tryd.prog 33 #[.int .i32 x, .int .i32 y] w fun e w' => e = .returned (.int .i64 (cf x y)) ∧ ∃ q os, w' = grow (w.drewN q) os := by
  have HC := Lib.hid (fun (r : Int) (u : World) (h : Laid u) => class_grow r u h)
  have HE := Lib.hid (show cf x y = if cls x < cls y then -1 else if cls y < cls x then 1 else 0 from rfl)
  have HL := Lib.hid hL
  clear hL
  generalize cf x y = v at HE ⊢
  go_enter Tryd.func33, Tryd.ntmps33
  go_wp2_with fail
  refine (HC.out x _ HL.out).mono ?_
  rintro e w1 ⟨rfl, os1, rfl⟩
  have HL1 := Lib.hid (laid_grow HL.out os1)
  go_wp2_with fail
  refine (HC.out y _ HL1.out).mono ?_
  rintro e w2 ⟨rfl, os2, rfl⟩
  go_wp2_with fail
  refine (compare_any _ _ _).mono ?_
  rintro e w3 ⟨rfl, rfl⟩
  rw [← HE.out]
  go_wp2_with fail
  go_ret
  exact ⟨rfl, 0, os1 ++ os2, by rw [grow_grow]; rfl⟩

/-! ### a run of marks in a row of the call's own -/
theorem sg_all {α : Type} [Inhabited α] (d : Array α) : sg 0 d.size d = d.toList := by
  apply List.ext_getElem (by simp [sg])
  intro i h1 h2
  rw [sg_get]
  simp only [Nat.zero_add, Array.getElem_toList]
  exact getElem!_pos d i (by simpa using h2)
theorem up_of_srt {d : Array Int} (h : Srt cls 0 d.size d) : Up d.toList := by
  unfold Up
  rw [List.pairwise_iff_getElem]
  intro i j hi hj hij
  have h3 := h i j (Nat.zero_le _) hij (by simpa using hj)
  rw [getElem!_pos d i (by simpa using hi), getElem!_pos d j (by simpa using hj)] at h3
  simpa using h3
theorem mg_ord {d d' : Array Int} (h : Mg cls 0 d.size d d') : d'.toList = ord d.toList := by
  have hs : d'.size = d.size := h.1.size
  refine ord_uniq (up_of_srt (by rw [hs]; exact h.2)) fun c => ?_
  have := h.1.key c
  rw [Nat.sub_zero, sg_all] at this
  rw [← this, ← hs, sg_all]
theorem row_holds {w : World} {g n s : Nat} {cur : Array Value} {e : TypeId} {xs : List Int} (hb : w.heap[g]? = some (.cells cur e (0, 0))) (ht : cur.toList.take n = nums xs) : Holds e32 w g s (xs.drop s).toArray := by
  intro j hj
  have hj' : s + j < xs.length := by simp at hj; omega
  have hl : xs.length ≤ n := by have := congrArg List.length ht; rw [nums_len, List.length_take] at this; omega
  refine ⟨?_, by simp [World.frozen?, hb]⟩
  have h1 : (cur.toList.take n)[s + j]? = (nums xs)[s + j]? := by rw [ht]
  rw [List.getElem?_take_of_lt (by omega), nums_get hj'] at h1
  simp only [World.cell?, hb]
  simp only [Option.isSome_none, Bool.false_eq_true, if_false]
  rw [← Array.getElem?_toList, h1]
  rw [getElem!_pos _ j hj]
  simp
theorem take_put {cur : Array Value} {n s : Nat} {xs : List Int} {d' : Array Int} (ht : cur.toList.take n = nums xs) (hl : xs.length = n) (hs : s ≤ n) (hd : d'.size = n - s) :
    (putCells e32 s d' cur).toList.take n = nums (xs.take s ++ d'.toList) := by
  have hc : n ≤ cur.size := by have := congrArg List.length ht; rw [nums_len, List.length_take, hl, Array.length_toList] at this; omega
  apply List.ext_getElem?
  intro k
  by_cases hk : k < n
  · have h0 : (cur.toList.take n)[k]? = (nums xs)[k]? := by rw [ht]
    rw [List.getElem?_take_of_lt hk, nums_get (by omega), Array.getElem?_toList] at h0
    rw [List.getElem?_take_of_lt hk, Array.getElem?_toList]
    by_cases hks : k < s
    · have hk2 : k < (xs.take s ++ d'.toList).length := by simp; omega
      rw [nums_get hk2, List.getElem_append_left (by rw [List.length_take]; omega)]
      simp only [putCells, Array.getElem?_mapIdx, h0, Option.map_some]
      rw [if_neg (by omega)]
      simp
    · have hk2 : k < (xs.take s ++ d'.toList).length := by simp; omega
      rw [nums_get hk2, List.getElem_append_right (by rw [List.length_take]; omega)]
      simp only [putCells, Array.getElem?_mapIdx, h0, Option.map_some]
      rw [if_pos (by omega), getElem!_pos d' (k - s) (by omega)]
      have : min s xs.length = s := by omega
      simp [List.length_take, this]
  · rw [List.getElem?_take_eq_none (by omega), List.getElem?_eq_none (by rw [nums_len]; simp; omega)]
theorem sw_heap {w W : World} {g s : Nat} {d' : Array Int} {cur : Array Value} {e : TypeId} (h : SW e32 w g s d' W) (hb : w.heap[g]? = some (.cells cur e (0, 0))) : W.heap[g]? = some (.cells (putCells e32 s d' cur) e (0, 0)) := by
  obtain ⟨n, os, rfl⟩ := h
  have hg : g < w.heap.size := (Array.getElem?_eq_some_iff.1 hb).1
  unfold sortWorld
  rw [heap_grow_old _ _ (by simpa using hg)]
  simp [putRow, mapBlock, Sort.ahead, Array.getElem?_modify, hb, onCells]
theorem sw_grown {w W : World} {g s : Nat} {d' : Array Int} (h : SW e32 w g s d' W) : w.grownBy W (some g) := by
  obtain ⟨n, os, rfl⟩ := h
  unfold sortWorld
  refine ⟨rfl, rfl, rfl, by simp, fun k hk hne => ?_⟩
  rw [heap_grow_old _ _ (by simpa using hk)]
  have : g ≠ k := fun e => hne (by rw [e])
  simp [putRow, mapBlock, Sort.ahead, Array.getElem?_modify, this]
theorem laid_sw {w W : World} {g s : Nat} {d' : Array Int} (hL : Laid w) (h : SW e32 w g s d' W) (hg : 2 < g) : Laid W := by
  have hb := sw_grown h
  have hw := hL.size
  refine hL.below (B := 2 + 1) ⟨hb.os, hb.tape, hb.output, hb.size, fun k hk => hb.block k (by omega) (fun e => by injection e with e; omega)⟩ (by omega)
theorem told_of {w : World} {g s N : Nat} {d : Array Int} (hL : Laid w) (hH : Holds e32 w g s d) (hN : d.size = N) (hg : 2 < g) (hgs : g < w.heap.size) (hsm : N ≤ 1099511627776) : Told cls cf 33 g s N d w :=
  ⟨⟨one32, hH, hgs⟩, hN, by omega, fun m os dk _ x y => (order1_any x y _ (laid_sw hL ⟨m, os, rfl⟩ hg)).mono fun _ _ ⟨he, q, os', hw⟩ => ⟨he, q, os', hw⟩, cf_lt, enters_of Tryd.func33 (by kernel_rfl) rfl⟩

theorem order_some (base g cap n s c N : Nat) (xs : List Int) (w : World) (hL : Laid w) (hown : w.ownsRow base 21 1 (.slice (some ⟨g, 0, none⟩) n cap) n (nums xs)) (hs : s ≤ n) (hN : N = n - s) (hg : 2 < base) (hsm : n ≤ 1099511627776) :
    Calls Tryd.prog 22 #[.slice (some ⟨g, s, none⟩) N c] w fun e w' => e = .returned (.tuple #[]) ∧ w'.ownsRow base 21 1 (.slice (some ⟨g, 0, none⟩) n cap) n (nums (xs.take s ++ ord (xs.drop s))) ∧ w.grownBy w' (some g) := by
  have hl0 := hown.1
  rw [nums_len, Nat.mul_one] at hl0
  rcases hown.2 with ⟨h0, _⟩ | ⟨g', cap', cur, hv, hbase, hh, h1, h2, h3, h4⟩
  · cases h0
  cases hv
  rw [Nat.mul_one] at h4
  have hgs : g < w.heap.size := (Array.getElem?_eq_some_iff.1 hh).1
  have hd : (xs.drop s).toArray.size = N := by simp; omega
  have hH := row_holds (s := s) hh h4
  have T := told_of hL hH hd (by omega) hgs (by omega)
  have HC := Lib.hid (sortStable_any cls cf 33 g s c N _ _ w w T hd (SW.start hH) (by omega))
  have HE := Lib.hid (fun (e : Ending) (w' : World) (h : MgEnd cls g s 0 N (xs.drop s).toArray w e w') => (show e = .returned (.tuple #[]) ∧ w'.ownsRow base 21 1 (.slice (some ⟨g, 0, none⟩) n cap) n (nums (xs.take s ++ ord (xs.drop s))) ∧ w.grownBy w' (some g) from by
    obtain ⟨he, d', hm, hw⟩ := h
    have hz : d'.size = N := hm.1.size.trans hd
    have hm' : d'.toList = ord (xs.drop s) := by
      have := mg_ord (d := (xs.drop s).toArray) (d' := d') (by rw [hd]; exact hm)
      simpa using this
    refine ⟨he, ⟨?_, .inr ⟨g, cap, _, rfl, hbase, sw_heap hw hh, h1, h2, by simp [putCells, h3], ?_⟩⟩, sw_grown hw⟩
    · rw [nums_len, List.length_append, ord_len, List.length_take, List.length_drop]; omega
    · rw [Nat.mul_one, take_put h4 hl0 hs (by omega), hm']))
  clear hL hown T hH hh h4 hd h3 hl0 hN
  go_enter Tryd.func22, Tryd.ntmps22
  go_wp2_with fail
  refine HC.out.mono ?_
  intro e w1 hm
  have he := hm.1
  subst he
  have HM := Lib.hid (HE.out _ _ hm).2
  clear hm
  go_wp2_with fail
  go_end0
  exact ⟨rfl, HM.out⟩

theorem ins_none (A : Option Addr) (c : Nat) (fv : Value) (w : World) : Calls Tryd.prog 47 #[.slice A 0 c, .int .i64 0, .int .i64 0, fv] w fun e w' => e = .returned (.tuple #[]) ∧ w = w' := by
  go_enter Tryd.func47, Tryd.ntmps47
  go_wp2_with fail
  refine wp_loop_rounds 1 ?_
  rw [rounds_succ]
  go_wp2
  all_goals go_end0
  all_goals exact ⟨rfl, rfl⟩
theorem stable_none (A : Option Addr) (c : Nat) (fv : Value) (w : World) : Calls Tryd.prog 38 #[.slice A 0 c, .int .i64 0, fv] w fun e w' => e = .returned (.tuple #[]) ∧ w = w' := by
  go_enter Tryd.func38, Tryd.ntmps38
  go_wp2_with fail
  refine wp_loop_rounds 1 ?_
  rw [rounds_succ]
  go_wp2_with (go_at_call 47; refine (ins_none _ _ _ _).mono ?_; rintro e w1 ⟨rfl, rfl⟩)
  refine wp_loop_rounds 1 ?_
  rw [rounds_succ]
  go_wp2
  all_goals go_end0
  all_goals exact ⟨rfl, rfl⟩
theorem order_none (A : Option Addr) (c : Nat) (w : World) : Calls Tryd.prog 22 #[.slice A 0 c] w fun e w' => e = .returned (.tuple #[]) ∧ w = w' := by
  have hs : ∀ u : World, Calls Tryd.prog 32 #[.slice A 0 c, .func (.func 33) #[] #[]] u fun e w' => e = .returned (.tuple #[]) ∧ u = w' := fun u => by
    go_enter Tryd.func32, Tryd.ntmps32
    go_wp2_with (go_at_call 38; refine (stable_none _ _ _ _).mono ?_; rintro e w1 ⟨rfl, rfl⟩)
    go_end0
    exact ⟨rfl, rfl⟩
  go_enter Tryd.func22, Tryd.ntmps22
  go_wp2_with (go_at_call 32; refine (hs _).mono ?_; rintro e w1 ⟨rfl, rfl⟩)
  go_end0
  exact ⟨rfl, rfl⟩
end Go.Proofs.YtochodombojamaaDoor.Norm

/-
  WORDS FOR A FORMER IN MEMORY; CONTRACTS OF starter, New, Pending.
-/
namespace Go.Proofs.YtochodombojamaaDoor.Norm
open Go.Shelf Go.RowKit Go.Sort Utf
open Ucd hiding grow same Told

/-- between two worlds: only the blocks of S, and new ones, have turned -/
structure Chg (w w' : World) (S : Nat → Prop) : Prop where
  os : w'.os = w.os
  tape : w'.tape = w.tape
  output : w'.output = w.output
  size : w.heap.size ≤ w'.heap.size
  block : ∀ k, k < w.heap.size → ¬ S k → w'.heap[k]? = w.heap[k]?
section
variable {w w' w'' : World} {S T : Nat → Prop}
theorem Chg.refl (w : World) (S : Nat → Prop) : Chg w w S := ⟨rfl, rfl, rfl, Nat.le_refl _, fun _ _ _ => rfl⟩
theorem Chg.trans (h : Chg w w' S) (k : Chg w' w'' T) (hT : ∀ i, i < w.heap.size → T i → S i) : Chg w w'' S :=
  ⟨k.os.trans h.os, k.tape.trans h.tape, k.output.trans h.output, Nat.le_trans h.size k.size, fun i hi hs => (k.block i (Nat.lt_of_lt_of_le hi h.size) fun ht => hs (hT i hi ht)).trans (h.block i hi hs)⟩
theorem Chg.more (h : Chg w w' S) (hS : ∀ i, S i → T i) : Chg w w' T := ⟨h.os, h.tape, h.output, h.size, fun i hi hn => h.block i hi fun hs => hn (hS i hs)⟩
theorem Chg.grown (h : Chg w w' S) {row : Option Nat} (hg : w'.grownBy w'' row) (hr : ∀ i, i < w.heap.size → row = some i → S i) : Chg w w'' S :=
  h.trans (T := fun i => row = some i) ⟨hg.os, hg.tape, hg.output, hg.size, fun k hk hn => hg.block k hk fun e => hn e.symm⟩ hr
theorem Chg.setCell (h : Chg w w' S) {p : Addr} (u : Value) (hp : S p.block) : Chg w (w'.setCell p u) S :=
  h.trans (T := fun k => k = p.block) ⟨rfl, rfl, rfl, by simp [World.setCell], fun k _ hk => Below.heap_setCell _ _ _ _ hk⟩ fun i _ e => e ▸ hp
theorem Chg.of_below {B : Nat} (hb : Below B w w') (hB : w.heap.size ≤ B) : Chg w w' S := ⟨hb.os, hb.tape, hb.output, hb.size, fun k hk _ => hb.block k (by omega)⟩
theorem Chg.and_below (h : Chg w w' S) (hb : Below w'.heap.size w' w'') : Chg w w'' S := h.trans (T := fun _ => False) (Chg.of_below hb (Nat.le_refl _)) fun _ _ h => h.elim
theorem Chg.below {B : Nat} (h : Chg w w' S) (hB : B ≤ w.heap.size) (hS : ∀ i, i < B → ¬ S i) : Below B w w' := ⟨h.os, h.tape, h.output, h.size, fun k hk => h.block k (by omega) (hS k hk)⟩
end
theorem own_keep {w w' : World} {base : Nat} {e : TypeId} {size : Nat} {v : Value} {n : Nat} {xs : List Value} {S : Nat → Prop} (h : w.ownsRow base e size v n xs) (hg : Chg w w' S) (hne : ∀ k, v.ownBlock = some k → ¬ S k) : w'.ownsRow base e size v n xs := by
  have hl := h.lt
  refine ⟨h.1, ?_⟩
  rcases h.2 with h0 | ⟨g, cap, cur, rfl, h1, h2, h3, h4, h5, h6⟩
  · exact .inl h0
  · exact .inr ⟨g, cap, cur, rfl, h1, by rw [hg.block g (hl g rfl).2 (hne g rfl)]; exact h2, h3, h4, h5, h6⟩
theorem blk_keep {w w' : World} {g : Nat} {t : TypeId} {cs : List Value} {S : Nat → Prop} (h : Blk w g t cs) (hg : Chg w w' S) (hne : ¬ S g) : Blk w' g t cs := (hg.block g h.lt hne).trans h
theorem rd_keep {w w' : World} {B : Nat} {A : Option Addr} {xs : List Value} {S : Nat → Prop} (h : Rd w B A xs) (hg : Chg w w' S) (hB : B ≤ w.heap.size) (hS : ∀ k, k < B → ¬ S k) : Rd w' B A xs := h.below (hg.below hB hS)
theorem own_mono {w : World} {base base' : Nat} {e : TypeId} {size : Nat} {v : Value} {n : Nat} {xs : List Value} (h : w.ownsRow base e size v n xs) (hb : base' ≤ base) : w.ownsRow base' e size v n xs := by
  refine ⟨h.1, ?_⟩
  rcases h.2 with h0 | ⟨g, cap, cur, rfl, h1, h2⟩
  · exact .inl h0
  · exact .inr ⟨g, cap, cur, rfl, Nat.le_trans hb h1, h2⟩
theorem own_set {w : World} {base : Nat} {e : TypeId} {size : Nat} {v : Value} {n : Nat} {xs : List Value} (h : w.ownsRow base e size v n xs) {fb : Nat} (ha : v.ownBlock ≠ some fb) {o : Nat} (u : Value) : (w.setCell ⟨fb, o, none⟩ u).ownsRow base e size v n xs :=
  own_keep (S := fun k => k = fb) h ((Chg.refl w _).setCell (p := ⟨fb, o, none⟩) u rfl) fun _ hk e => ha (e ▸ hk)
/-- the front of a row of the call's own -/
theorem own_prefix {w : World} {base g n cap s : Nat} {xs : List Int} (h : w.ownsRow base 21 1 (.slice (some ⟨g, 0, none⟩) n cap) n (nums xs)) (hs : s ≤ n) : w.ownsRow base 21 1 (.slice (some ⟨g, 0, none⟩) s cap) s (nums (xs.take s)) := by
  rcases h.2 with ⟨h0, _⟩ | ⟨g', cap', cur, hv, h1, h2, h3, h4, h5, h6⟩
  · cases h0
  cases hv
  have hl := h.1
  rw [nums_len] at hl
  refine ⟨by rw [nums_len, List.length_take]; omega, .inr ⟨g, cap, cur, rfl, h1, h2, by omega, h4, h5, ?_⟩⟩
  rw [← nums_take', ← h6, List.take_take]
  congr 1
  omega
where
  nums_take' (l : List Int) (k : Nat) : (nums l).take k = nums (l.take k) := List.map_take.symm

/-- A FORMER that stands at block fb, keeps back K, is closed or not; what it holds lies from base on -/
structure Fm (w : World) (base fb : Nat) (v : Value) (K : List Int) (cl : Bool) : Prop where
  blk : Blk w fb 43 [v, .bool cl]
  own : w.ownsRow base 21 1 v K.length (nums K)
  le : base ≤ fb
theorem Fm.ne {w : World} {base fb : Nat} {v : Value} {K : List Int} {cl : Bool} (h : Fm w base fb v K cl) : v.ownBlock ≠ some fb := own_ne h.own h.blk (by decide)
theorem Fm.keep {w w' : World} {base fb : Nat} {v : Value} {K : List Int} {cl : Bool} {S : Nat → Prop} (h : Fm w base fb v K cl) (hg : Chg w w' S) (h1 : ¬ S fb) (h2 : ∀ k, v.ownBlock = some k → ¬ S k) : Fm w' base fb v K cl :=
  ⟨blk_keep h.blk hg h1, own_keep h.own hg h2, h.le⟩
/-- what a former's calls may turn -/
def Its (fb : Nat) (v : Value) (k : Nat) : Prop := k = fb ∨ v.ownBlock = some k
theorem Fm.its {w : World} {base fb : Nat} {v : Value} {K : List Int} {cl : Bool} (h : Fm w base fb v K cl) {k : Nat} (hk : k < base) : ¬ Its fb v k := fun hi => by
  rcases hi with rfl | hi
  · have := h.le; omega
  · have := (h.own.lt k hi).1; omega

theorem starter_any (x : Int) (w : World) (hL : Laid w) : Calls Tryd.prog 21 #[.int .i32 x] w (Ret w (.bool (cls x == 0))) := by
  have HC := Lib.hid (class_any x w hL)
  clear hL
  go_enter Tryd.func21, Tryd.ntmps21
  go_wp2_with fail
  refine HC.out.mono ?_
  rintro e w1 ⟨rfl, hb⟩
  have HB := Lib.hid hb
  clear hb
  go_wp2_with fail
  go_ret
  exact ⟨rfl, HB.out⟩
theorem new_any (w : World) : Calls Tryd.prog 8 #[] w fun e w' => e = .returned (.pointer (some ⟨w.heap.size, 0, none⟩)) ∧ w' = w.alloc (.cells #[.slice none 0 0, .bool false] 43) := by
  go_enter Tryd.func8, Tryd.ntmps8
  go_wp2
  go_ret
  exact ⟨rfl, rfl⟩
theorem new_fm (w : World) (base : Nat) (hb : base ≤ w.heap.size) : Fm (w.alloc (.cells #[.slice none 0 0, .bool false] 43)) base w.heap.size (.slice none 0 0) [] false :=
  ⟨Blk.new w _ [.slice none 0 0, .bool false], World.ownsRow_nil _ _ _ _, hb⟩
theorem pending_nil (w : World) : Calls Tryd.prog 10 #[.pointer none] w fun e w' => e = .returned (.int .i64 0) ∧ w = w' := by
  go_enter Tryd.func10, Tryd.ntmps10
  go_wp2
  go_ret
  exact ⟨rfl, rfl⟩
theorem pending_any (base fb : Nat) (v : Value) (K : List Int) (cl : Bool) (w : World) (h : Fm w base fb v K cl) : Calls Tryd.prog 10 #[.pointer (some ⟨fb, 0, none⟩)] w fun e w' => e = .returned (.int .i64 K.length) ∧ w = w' := by
  obtain ⟨A, c, rfl, h1, h2, _⟩ := own_form h.own
  have c0 := h.blk.cell 0
  simp only [List.getElem?_cons_zero] at c0
  generalize K.length = n at *
  clear h
  go_enter Tryd.func10, Tryd.ntmps10
  go_wp2
  go_ret
  exact ⟨rfl, rfl⟩
theorem write_nil (A : Option Addr) (n c : Nat) (w : World) : Calls Tryd.prog 9 #[.pointer none, .slice A n c] w fun e w' => e = .returned (.slice none 0 0) ∧ w = w' := by
  go_enter Tryd.func9, Tryd.ntmps9
  go_wp2
  go_ret
  exact ⟨rfl, rfl⟩
theorem write_closed (base fb : Nat) (v : Value) (K : List Int) (A : Option Addr) (n c : Nat) (w : World) (h : Fm w base fb v K true) : Calls Tryd.prog 9 #[.pointer (some ⟨fb, 0, none⟩), .slice A n c] w fun e w' => e = .returned (.slice none 0 0) ∧ w = w' := by
  have c1 := h.blk.cell 1
  simp only [List.getElem?_cons_succ, List.getElem?_cons_zero] at c1
  clear h
  go_enter Tryd.func9, Tryd.ntmps9
  go_wp2
  go_ret
  exact ⟨rfl, rfl⟩
theorem close_nil (w : World) : Calls Tryd.prog 16 #[.pointer none] w fun e w' => e = .returned (.slice none 0 0) ∧ w = w' := by
  go_enter Tryd.func16, Tryd.ntmps16
  go_wp2
  go_ret
  exact ⟨rfl, rfl⟩
end Go.Proofs.YtochodombojamaaDoor.Norm
