/-
  CONTRACT OF slices.SortFunc at edges, laid off the shelf (the laying's text is written by tools/layplain.py): the edges rise by their places.
-/
import Derived.Shelf.SlSortCmp.WholeK
import Derived.Test.YtldcjeljdmjneaaRsetWords
namespace Go.Proofs.Ytldcjeljdmjneaa.Rset
open Go.Shelf Go.RowKit Go.Lib Go.Sort
open Utf (Rd Blk)

def sortEd_ren : Go.Shelf.Ren := ⟨fun | 6 => 40 | 15 => 44 | 14 => 43 | 28 => 54 | 29 => 55 | 20 => 46 | 21 => 47 | 22 => 48 | 23 => 49 | 24 => 50 | 25 => 51 | 26 => 52 | 27 => 53 | 46 => 56 | 47 => 57 | 48 => 58 | 49 => 59 | 50 => 60 | 57 => 61 | n => n, fun | 22 => 45 | 24 => 48 | 25 => 53 | 3 => 3 | 39 => 36 | 0 => 0 | 53 => 66 | 55 => 68 | 4 => 4 | 46 => 59 | 45 => 58 | 50 => 63 | 5 => 5 | 9 => 9 | 66 => 69 | 70 => 73 | 76 => 75 | 77 => 76 | n => n, fun | n => n⟩
theorem sortEd : Go.Proofs.SlLaysF0.n6 Try.prog sortEd_ren := {
  mixed := by kernel_rfl
  f6 := ⟨Try.f40.name, by decide, Try.func40.trans (congrArg some (by kernel_rfl))⟩
  f14 := ⟨Try.f43.name, by decide, Try.func43.trans (congrArg some (by kernel_rfl))⟩
  f15 := Try.func44.trans (congrArg some (by kernel_rfl))
  f20 := ⟨Try.f46.name, by decide, Try.func46.trans (congrArg some (by kernel_rfl))⟩
  f21 := ⟨Try.f47.name, by decide, Try.func47.trans (congrArg some (by kernel_rfl))⟩
  f22 := ⟨Try.f48.name, by decide, Try.func48.trans (congrArg some (by kernel_rfl))⟩
  f23 := ⟨Try.f49.name, by decide, Try.func49.trans (congrArg some (by kernel_rfl))⟩
  f24 := ⟨Try.f50.name, by decide, Try.func50.trans (congrArg some (by kernel_rfl))⟩
  f25 := ⟨Try.f51.name, by decide, Try.func51.trans (congrArg some (by kernel_rfl))⟩
  f26 := ⟨Try.f52.name, by decide, Try.func52.trans (congrArg some (by kernel_rfl))⟩
  f27 := ⟨Try.f53.name, by decide, Try.func53.trans (congrArg some (by kernel_rfl))⟩
  f28 := Try.func54.trans (congrArg some (by kernel_rfl))
  f29 := Try.func55.trans (congrArg some (by kernel_rfl))
  f46 := ⟨Try.f56.name, by decide, Try.func56.trans (congrArg some (by kernel_rfl))⟩
  f47 := Try.func57.trans (congrArg some (by kernel_rfl))
  f48 := Try.func58.trans (congrArg some (by kernel_rfl))
  f49 := ⟨Try.f59.name, by decide, Try.func59.trans (congrArg some (by kernel_rfl))⟩
  f50 := ⟨Try.f60.name, by decide, Try.func60.trans (congrArg some (by kernel_rfl))⟩
  f57 := ⟨Try.f61.name, by decide, Try.func61.trans (congrArg some (by kernel_rfl))⟩
  t0 := Try.underlying0
  a0 := Try.isAgg0
  z0 := Try.sizeOf0
  v0 := Try.zeroValue0
  t3 := Try.underlying3
  a3 := Try.isAgg3
  z3 := Try.sizeOf3
  v3 := Try.zeroValue3
  t4 := Try.underlying4
  a4 := Try.isAgg4
  z4 := Try.sizeOf4
  v4 := Try.zeroValue4
  t5 := Try.underlying5
  a5 := Try.isAgg5
  z5 := Try.sizeOf5
  v5 := Try.zeroValue5
  t9 := Try.underlying9
  a9 := Try.isAgg9
  z9 := Try.sizeOf9
  v9 := Try.zeroValue9
  t22 := Try.underlying45
  a22 := Try.isAgg45
  z22 := Try.sizeOf45
  v22 := Try.zeroValue45
  t25 := Try.underlying53
  a25 := Try.isAgg53
  z25 := Try.sizeOf53
  v25 := Try.zeroValue53
  t39 := Try.underlying36
  a39 := Try.isAgg36
  z39 := Try.sizeOf36
  v39 := Try.zeroValue36
  t45 := Try.underlying58
  a45 := Try.isAgg58
  z45 := Try.sizeOf58
  v45 := Try.zeroValue58
  t46 := Try.underlying59
  a46 := Try.isAgg59
  z46 := Try.sizeOf59
  v46 := Try.zeroValue59
  t50 := Try.underlying63
  a50 := Try.isAgg63
  z50 := Try.sizeOf63
  v50 := Try.zeroValue63
  t53 := Try.underlying66
  a53 := Try.isAgg66
  z53 := Try.sizeOf66
  v53 := Try.zeroValue66
  t55 := Try.underlying68
  a55 := Try.isAgg68
  z55 := Try.sizeOf68
  v55 := Try.zeroValue68
  t66 := Try.underlying69
  a66 := Try.isAgg69
  z66 := Try.sizeOf69
  v66 := Try.zeroValue69
  t70 := Try.underlying73
  a70 := Try.isAgg73
  z70 := Try.sizeOf73
  v70 := Try.zeroValue73
  t76 := Try.underlying75
  a76 := Try.isAgg75
  z76 := Try.sizeOf75
  v76 := Try.zeroValue75
  t77 := Try.underlying76
  a77 := Try.isAgg76
  z77 := Try.sizeOf76
  v77 := Try.zeroValue76 }

def encE (x : Ed) : List Value := [.int .i64 x.1, .int .i64 x.2.1, .int .i64 x.2.2]
def cmpE (x y : Ed) : Int := if x.1 < y.1 then -1 else if y.1 < x.1 then 1 else 0
theorem ltE (x y : Ed) : ltOf cmpE x y = decide (x.1 < y.1) := by
  unfold ltOf cmpE
  by_cases h1 : x.1 < y.1
  · simp [h1]
  · by_cases h2 : y.1 < x.1 <;> simp [h1, h2]
theorem swoE : SWO (ltOf cmpE) where
  irrefl x := by rw [ltE]; simp
  trans x y z h1 h2 := by rw [ltE] at *; simp at *; omega
  ntrans x y z h1 h2 := by rw [ltE] at *; simp at *; omega

theorem isNaN_any (x : Int) (w : World) : Calls Try.prog 45 #[.int .i64 x] w fun e w' => e = .returned (.bool false) ∧ w = w' := by
  have hx : (x != x) = false := by simp
  go_enter Try.func45, Try.ntmps45
  go_wp2
  go_ret
  exact ⟨rfl, rfl⟩
theorem compare_any (x y : Int) (w : World) : Calls Try.prog 42 #[.int .i64 x, .int .i64 y] w fun e w' => e = .returned (.int .i64 (if x < y then -1 else if y < x then 1 else 0)) ∧ w = w' := by
  go_enter Try.func42, Try.ntmps42
  by_cases h1 : x < y
  · rw [if_pos h1]
    go_wp2_with (go_at_call 45; refine (isNaN_any _ _).mono ?_; rintro e w1 ⟨rfl, rfl⟩)
    go_ret
    exact ⟨rfl, rfl⟩
  · by_cases h2 : y < x
    · rw [if_neg h1, if_pos h2]
      go_wp2_with (go_at_call 45; refine (isNaN_any _ _).mono ?_; rintro e w1 ⟨rfl, rfl⟩)
      go_ret
      exact ⟨rfl, rfl⟩
    · rw [if_neg h1, if_neg h2]
      go_wp2_with (go_at_call 45; refine (isNaN_any _ _).mono ?_; rintro e w1 ⟨rfl, rfl⟩)
      go_ret
      exact ⟨rfl, rfl⟩
theorem closureE (x y : Ed) (W : World) : Calls Try.prog 41 #[.agg #[.int .i64 x.1, .int .i64 x.2.1, .int .i64 x.2.2], .agg #[.int .i64 y.1, .int .i64 y.2.1, .int .i64 y.2.2]] W fun e w' => e = .returned (.int .i64 (cmpE x y)) ∧ ∃ q os', w' = grow (W.drewN q) os' := by
  have hcon := fun W' => compare_any x.1 y.1 W'
  have HE := Lib.hid (show cmpE x y = if x.1 < y.1 then -1 else if y.1 < x.1 then 1 else 0 from rfl)
  rw [← HE.out] at hcon
  generalize cmpE x y = r at hcon ⊢
  go_enter Try.func41, Try.ntmps41
  go_wp2_with (go_at_call 42; refine (hcon _).mono ?_; rintro e w' ⟨rfl, rfl⟩)
  go_ret
  exact ⟨rfl, 0, _, by rw [alloc_eq_grow, alloc_eq_grow, grow_grow]; rfl⟩
theorem cmpLaysE (blk off size : Nat) (w : World) : CmpLays Try.prog 41 #[] encE 3 cmpE blk off size w := fun _ _ _ _ x y => closureE x y _

theorem flat_eds (es : Array Ed) : flatK encE 3 es = (eds es.toList).toArray := by
  apply Array.ext_getElem?
  intro t
  rw [show (eds es.toList).toArray[t]? = (eds es.toList)[t]? from by simp]
  unfold flatK
  rw [Array.getElem?_map, Array.getElem?_range]
  by_cases h1 : t < es.size * 3
  · rw [if_pos h1, Option.map_some]
    have hk : t / 3 < es.toList.length := by rw [Array.length_toList]; omega
    obtain ⟨g0, g1, g2⟩ := eds_get es.toList hk
    have he : es[t / 3]! = es.toList[t / 3] := by rw [getElem!_pos es (t / 3) (by omega)]; rfl
    rw [he]
    generalize es.toList[t / 3] = x at g0 g1 g2
    have hm : t % 3 = 0 ∨ t % 3 = 1 ∨ t % 3 = 2 := by omega
    rcases hm with hm | hm | hm
    · rw [hm, show (eds es.toList)[t]? = some (.int .i64 x.1) by rw [← g0]; congr 1; omega]; rfl
    · rw [hm, show (eds es.toList)[t]? = some (.int .i64 x.2.1) by rw [← g1]; congr 1; omega]; rfl
    · rw [hm, show (eds es.toList)[t]? = some (.int .i64 x.2.2) by rw [← g2]; congr 1; omega]; rfl
  · rw [if_neg h1, Option.map_none, List.getElem?_eq_none (by rw [eds_len, Array.length_toList]; omega)]
theorem holds_of_own {w : World} {base g n cap : Nat} {es : List Ed} (h : w.ownsRow base 48 3 (.slice (some ⟨g, 0, none⟩) n cap) n (eds es)) : HoldsK encE 3 w g 0 es.toArray := by
  unfold HoldsK
  rw [flat_eds]
  intro j hj
  have hl := h.1
  rw [eds_len] at hl
  have hj' : j < (eds es).length := by simpa using hj
  refine ⟨?_, h.frozenAt _⟩
  rw [Nat.zero_add, h.cellAt j (by rw [eds_len] at hj'; omega), List.getElem?_eq_getElem hj']
  rw [getElem!_pos _ j (by simpa using hj')]
  rfl
theorem rd_of_holds {w : World} {g : Nat} {d : Array Ed} (h : HoldsK encE 3 w g 0 d) (hg : g < w.heap.size) : Rd w w.heap.size (some ⟨g, 0, none⟩) (eds d.toList) := fun _ => by
  refine ⟨g, 0, rfl, hg, fun j u hu => ?_⟩
  unfold HoldsK at h
  rw [flat_eds] at h
  have hj : j < (eds d.toList).length := (List.getElem?_eq_some_iff.1 hu).1
  have := (h j (by simpa using hj)).1
  rw [this, getElem!_pos _ j (by simpa using hj)]
  rw [List.getElem?_eq_getElem hj] at hu
  simpa using hu
theorem swk_grown {w W : World} {g : Nat} {d : Array Ed} (h : SWK encE 3 w g 0 d W) : w.grownBy W (some g) := by
  obtain ⟨n, os, rfl⟩ := h
  unfold sortWorldK putRowK
  refine ⟨rfl, rfl, rfl, by simp, fun k hk hne => ?_⟩
  rw [heap_grow_old _ _ (by simpa using hk)]
  have : g ≠ k := fun e => hne (by rw [e])
  simp [putRow, mapBlock, Sort.ahead, Array.getElem?_modify, this]

/-- what the sorting leaves -/
def Sorted (g : Nat) (es : List Ed) (w : World) (e : Ending) (w' : World) : Prop :=
  e = .returned (.tuple #[]) ∧ ∃ d : List Ed, d.Perm es ∧ AscE d ∧ Rd w' w'.heap.size (some ⟨g, 0, none⟩) (eds d) ∧ w.grownBy w' (some g)
theorem sort_any (base g cap n : Nat) (es : List Ed) (w : World) (h : w.ownsRow base 48 3 (.slice (some ⟨g, 0, none⟩) n cap) n (eds es)) (hg : g < w.heap.size) (hsm : n ≤ 1099511627776) :
    Calls Try.prog 40 #[.slice (some ⟨g, 0, none⟩) n cap, .func (.func 41) #[] #[]] w (Sorted g es w) := by
  have hl := h.1
  rw [eds_len] at hl
  have hn : es.toArray.size = n := by rw [List.size_toArray]; omega
  have hcon := AnyQ.slices_SortFunc sortEd 3 Try.isAgg48 Try.sizeOf48 encE (fun _ => rfl) (fun x v hv => by simp [encE] at hv; rcases hv with rfl | rfl | rfl <;> rfl) cmpE swoE 41 #[] g 0 cap es.toArray w
    (enters_of Try.func41 (by kernel_rfl) rfl) (cmpLaysE g 0 es.toArray.size w) (holds_of_own h) hg (by omega)
  rw [hn] at hcon
  refine hcon.mono fun e w' ⟨he, d', k, os, hp, hs, hw⟩ => ?_
  have S : SWK encE 3 w g 0 d' w' := ⟨k, os, hw⟩
  have hsz : d'.size = n := hp.1.trans hn
  refine ⟨he, d'.toList, ?_, ?_, rd_of_holds (S.holds hg (holds_of_own h) (by rw [hsz, hn])) (S.lt hg), swk_grown S⟩
  · have := hp.2.2
    rw [show d'.extract 0 n = d' by rw [← hsz]; exact Array.extract_size, show es.toArray.extract 0 n = es.toArray by rw [← hn]; exact Array.extract_size] at this
    exact this
  · unfold AscE
    rw [List.pairwise_iff_getElem]
    intro i j hi hj hij
    have h3 := hs i j (Nat.zero_le _) hij (by rw [Array.length_toList] at hj; omega)
    rw [ltE, getElem!_pos d' i (by simpa using hi), getElem!_pos d' j (by simpa using hj)] at h3
    have h4 := of_decide_eq_false h3
    simp only [Array.getElem_toList]
    omega
end Go.Proofs.Ytldcjeljdmjneaa.Rset
