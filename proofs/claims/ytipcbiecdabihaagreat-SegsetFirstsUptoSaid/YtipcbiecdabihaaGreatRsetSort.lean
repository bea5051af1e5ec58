/-
  CONTRACT OF slices.SortFunc at edges, laid off the shelf (the laying's text is written by tools/layplain.py): the edges rise by their places.
-/
import Derived.Shelf.SlSortCmp.WholeK
import Derived.Test.YtipcbiecdabihaaGreatRsetWords
namespace Go.Proofs.YtipcbiecdabihaaGreat.Rset
open Go.Shelf Go.RowKit Go.Lib Go.Sort
open Utf (Rd Blk)

def sortEd_ren : Go.Shelf.Ren := ⟨fun | 6 => 99 | 15 => 93 | 14 => 116 | 28 => 110 | 29 => 111 | 20 => 126 | 21 => 127 | 22 => 128 | 23 => 129 | 24 => 130 | 25 => 131 | 26 => 132 | 27 => 133 | 46 => 136 | 47 => 119 | 48 => 120 | 49 => 137 | 50 => 138 | 57 => 139 | n => n, fun | 22 => 95 | 24 => 98 | 25 => 114 | 3 => 3 | 39 => 103 | 0 => 0 | 53 => 123 | 55 => 125 | 4 => 4 | 46 => 117 | 45 => 116 | 50 => 82 | 5 => 5 | 9 => 9 | 66 => 133 | 70 => 137 | 76 => 147 | 77 => 128 | n => n, fun | n => n⟩
theorem sortEd : Go.Proofs.SlLaysF0.n6 Tryz.prog sortEd_ren := {
  mixed := by kernel_rfl
  f6 := ⟨Tryz.f99.name, by decide, Tryz.func99.trans (congrArg some (by kernel_rfl))⟩
  f14 := ⟨Tryz.f116.name, by decide, Tryz.func116.trans (congrArg some (by kernel_rfl))⟩
  f15 := Tryz.func93.trans (congrArg some (by kernel_rfl))
  f20 := ⟨Tryz.f126.name, by decide, Tryz.func126.trans (congrArg some (by kernel_rfl))⟩
  f21 := ⟨Tryz.f127.name, by decide, Tryz.func127.trans (congrArg some (by kernel_rfl))⟩
  f22 := ⟨Tryz.f128.name, by decide, Tryz.func128.trans (congrArg some (by kernel_rfl))⟩
  f23 := ⟨Tryz.f129.name, by decide, Tryz.func129.trans (congrArg some (by kernel_rfl))⟩
  f24 := ⟨Tryz.f130.name, by decide, Tryz.func130.trans (congrArg some (by kernel_rfl))⟩
  f25 := ⟨Tryz.f131.name, by decide, Tryz.func131.trans (congrArg some (by kernel_rfl))⟩
  f26 := ⟨Tryz.f132.name, by decide, Tryz.func132.trans (congrArg some (by kernel_rfl))⟩
  f27 := ⟨Tryz.f133.name, by decide, Tryz.func133.trans (congrArg some (by kernel_rfl))⟩
  f28 := Tryz.func110.trans (congrArg some (by kernel_rfl))
  f29 := Tryz.func111.trans (congrArg some (by kernel_rfl))
  f46 := ⟨Tryz.f136.name, by decide, Tryz.func136.trans (congrArg some (by kernel_rfl))⟩
  f47 := Tryz.func119.trans (congrArg some (by kernel_rfl))
  f48 := Tryz.func120.trans (congrArg some (by kernel_rfl))
  f49 := ⟨Tryz.f137.name, by decide, Tryz.func137.trans (congrArg some (by kernel_rfl))⟩
  f50 := ⟨Tryz.f138.name, by decide, Tryz.func138.trans (congrArg some (by kernel_rfl))⟩
  f57 := ⟨Tryz.f139.name, by decide, Tryz.func139.trans (congrArg some (by kernel_rfl))⟩
  t0 := Tryz.underlying0
  a0 := Tryz.isAgg0
  z0 := Tryz.sizeOf0
  v0 := Tryz.zeroValue0
  t3 := Tryz.underlying3
  a3 := Tryz.isAgg3
  z3 := Tryz.sizeOf3
  v3 := Tryz.zeroValue3
  t4 := Tryz.underlying4
  a4 := Tryz.isAgg4
  z4 := Tryz.sizeOf4
  v4 := Tryz.zeroValue4
  t5 := Tryz.underlying5
  a5 := Tryz.isAgg5
  z5 := Tryz.sizeOf5
  v5 := Tryz.zeroValue5
  t9 := Tryz.underlying9
  a9 := Tryz.isAgg9
  z9 := Tryz.sizeOf9
  v9 := Tryz.zeroValue9
  t22 := Tryz.underlying95
  a22 := Tryz.isAgg95
  z22 := Tryz.sizeOf95
  v22 := Tryz.zeroValue95
  t25 := Tryz.underlying114
  a25 := Tryz.isAgg114
  z25 := Tryz.sizeOf114
  v25 := Tryz.zeroValue114
  t39 := Tryz.underlying103
  a39 := Tryz.isAgg103
  z39 := Tryz.sizeOf103
  v39 := Tryz.zeroValue103
  t45 := Tryz.underlying116
  a45 := Tryz.isAgg116
  z45 := Tryz.sizeOf116
  v45 := Tryz.zeroValue116
  t46 := Tryz.underlying117
  a46 := Tryz.isAgg117
  z46 := Tryz.sizeOf117
  v46 := Tryz.zeroValue117
  t50 := Tryz.underlying82
  a50 := Tryz.isAgg82
  z50 := Tryz.sizeOf82
  v50 := Tryz.zeroValue82
  t53 := Tryz.underlying123
  a53 := Tryz.isAgg123
  z53 := Tryz.sizeOf123
  v53 := Tryz.zeroValue123
  t55 := Tryz.underlying125
  a55 := Tryz.isAgg125
  z55 := Tryz.sizeOf125
  v55 := Tryz.zeroValue125
  t66 := Tryz.underlying133
  a66 := Tryz.isAgg133
  z66 := Tryz.sizeOf133
  v66 := Tryz.zeroValue133
  t70 := Tryz.underlying137
  a70 := Tryz.isAgg137
  z70 := Tryz.sizeOf137
  v70 := Tryz.zeroValue137
  t76 := Tryz.underlying147
  a76 := Tryz.isAgg147
  z76 := Tryz.sizeOf147
  v76 := Tryz.zeroValue147
  t77 := Tryz.underlying128
  a77 := Tryz.isAgg128
  z77 := Tryz.sizeOf128
  v77 := Tryz.zeroValue128 }

def encE (x : Ed) : List Value := [.int .i64 x.1, .int .i64 x.2.1, .int .i64 x.2.2]
def cmpE (x y : Ed) : Int := if x.1 < y.1 then -1 else if y.1 < x.1 then 1 else 0
theorem ltE (x y : Ed) : ltOf cmpE x y = decide (x.1 < y.1) := by
  unfold ltOf cmpE
  by_cases h1 : x.1 < y.1
  · simp [h1]
  · by_cases h2 : y.1 < x.1 <;> simp [h1, h2]
theorem swoE : SWO (ltOf cmpE) where
  irrefl x := by rw [ltE]; simp
  trans x y z h1 h2 := by rw [ltE] at *; simp at *; omega
  ntrans x y z h1 h2 := by rw [ltE] at *; simp at *; omega

theorem isNaN_any (x : Int) (w : World) : Calls Tryz.prog 117 #[.int .i64 x] w fun e w' => e = .returned (.bool false) ∧ w = w' := by
  have hx : (x != x) = false := by simp
  go_enter Tryz.func117, Tryz.ntmps117
  go_wp2
  go_ret
  exact ⟨rfl, rfl⟩
theorem compare_any (x y : Int) (w : World) : Calls Tryz.prog 101 #[.int .i64 x, .int .i64 y] w fun e w' => e = .returned (.int .i64 (if x < y then -1 else if y < x then 1 else 0)) ∧ w = w' := by
  go_enter Tryz.func101, Tryz.ntmps101
  by_cases h1 : x < y
  · rw [if_pos h1]
    go_wp2_with (go_at_call 117; refine (isNaN_any _ _).mono ?_; rintro e w1 ⟨rfl, rfl⟩)
    go_ret
    exact ⟨rfl, rfl⟩
  · by_cases h2 : y < x
    · rw [if_neg h1, if_pos h2]
      go_wp2_with (go_at_call 117; refine (isNaN_any _ _).mono ?_; rintro e w1 ⟨rfl, rfl⟩)
      go_ret
      exact ⟨rfl, rfl⟩
    · rw [if_neg h1, if_neg h2]
      go_wp2_with (go_at_call 117; refine (isNaN_any _ _).mono ?_; rintro e w1 ⟨rfl, rfl⟩)
      go_ret
      exact ⟨rfl, rfl⟩
theorem closureE (x y : Ed) (W : World) : Calls Tryz.prog 100 #[.agg #[.int .i64 x.1, .int .i64 x.2.1, .int .i64 x.2.2], .agg #[.int .i64 y.1, .int .i64 y.2.1, .int .i64 y.2.2]] W fun e w' => e = .returned (.int .i64 (cmpE x y)) ∧ ∃ q os', w' = grow (W.drewN q) os' := by
  have hcon := fun W' => compare_any x.1 y.1 W'
  have HE := Lib.hid (show cmpE x y = if x.1 < y.1 then -1 else if y.1 < x.1 then 1 else 0 from rfl)
  rw [← HE.out] at hcon
  generalize cmpE x y = r at hcon ⊢
  go_enter Tryz.func100, Tryz.ntmps100
  go_wp2_with (go_at_call 101; refine (hcon _).mono ?_; rintro e w' ⟨rfl, rfl⟩)
  go_ret
  exact ⟨rfl, 0, _, by rw [alloc_eq_grow, alloc_eq_grow, grow_grow]; rfl⟩
theorem cmpLaysE (blk off size : Nat) (w : World) : CmpLays Tryz.prog 100 #[] encE 3 cmpE blk off size w := fun _ _ _ _ x y => closureE x y _

theorem flat_eds (es : Array Ed) : flatK encE 3 es = (eds es.toList).toArray := by
  apply Array.ext_getElem?
  intro t
  rw [show (eds es.toList).toArray[t]? = (eds es.toList)[t]? from by simp]
  unfold flatK
  rw [Array.getElem?_map, Array.getElem?_range]
  by_cases h1 : t < es.size * 3
  · rw [if_pos h1, Option.map_some]
    have hk : t / 3 < es.toList.length := by rw [Array.length_toList]; omega
    obtain ⟨g0, g1, g2⟩ := eds_get es.toList hk
    have he : es[t / 3]! = es.toList[t / 3] := by rw [getElem!_pos es (t / 3) (by omega)]; rfl
    rw [he]
    generalize es.toList[t / 3] = x at g0 g1 g2
    have hm : t % 3 = 0 ∨ t % 3 = 1 ∨ t % 3 = 2 := by omega
    rcases hm with hm | hm | hm
    · rw [hm, show (eds es.toList)[t]? = some (.int .i64 x.1) by rw [← g0]; congr 1; omega]; rfl
    · rw [hm, show (eds es.toList)[t]? = some (.int .i64 x.2.1) by rw [← g1]; congr 1; omega]; rfl
    · rw [hm, show (eds es.toList)[t]? = some (.int .i64 x.2.2) by rw [← g2]; congr 1; omega]; rfl
  · rw [if_neg h1, Option.map_none, List.getElem?_eq_none (by rw [eds_len, Array.length_toList]; omega)]
theorem holds_of_own {w : World} {base g n cap : Nat} {es : List Ed} (h : w.ownsRow base 98 3 (.slice (some ⟨g, 0, none⟩) n cap) n (eds es)) : HoldsK encE 3 w g 0 es.toArray := by
  unfold HoldsK
  rw [flat_eds]
  intro j hj
  have hl := h.1
  rw [eds_len] at hl
  have hj' : j < (eds es).length := by simpa using hj
  refine ⟨?_, h.frozenAt _⟩
  rw [Nat.zero_add, h.cellAt j (by rw [eds_len] at hj'; omega), List.getElem?_eq_getElem hj']
  rw [getElem!_pos _ j (by simpa using hj')]
  rfl
theorem rd_of_holds {w : World} {g : Nat} {d : Array Ed} (h : HoldsK encE 3 w g 0 d) (hg : g < w.heap.size) : Rd w w.heap.size (some ⟨g, 0, none⟩) (eds d.toList) := fun _ => by
  refine ⟨g, 0, rfl, hg, fun j u hu => ?_⟩
  unfold HoldsK at h
  rw [flat_eds] at h
  have hj : j < (eds d.toList).length := (List.getElem?_eq_some_iff.1 hu).1
  have := (h j (by simpa using hj)).1
  rw [this, getElem!_pos _ j (by simpa using hj)]
  rw [List.getElem?_eq_getElem hj] at hu
  simpa using hu
theorem swk_grown {w W : World} {g : Nat} {d : Array Ed} (h : SWK encE 3 w g 0 d W) : w.grownBy W (some g) := by
  obtain ⟨n, os, rfl⟩ := h
  unfold sortWorldK putRowK
  refine ⟨rfl, rfl, rfl, by simp, fun k hk hne => ?_⟩
  rw [heap_grow_old _ _ (by simpa using hk)]
  have : g ≠ k := fun e => hne (by rw [e])
  simp [putRow, mapBlock, Sort.ahead, Array.getElem?_modify, this]

/-- what the sorting leaves -/
def Sorted (g : Nat) (es : List Ed) (w : World) (e : Ending) (w' : World) : Prop :=
  e = .returned (.tuple #[]) ∧ ∃ d : List Ed, d.Perm es ∧ AscE d ∧ Rd w' w'.heap.size (some ⟨g, 0, none⟩) (eds d) ∧ w.grownBy w' (some g)
theorem sort_any (base g cap n : Nat) (es : List Ed) (w : World) (h : w.ownsRow base 98 3 (.slice (some ⟨g, 0, none⟩) n cap) n (eds es)) (hg : g < w.heap.size) (hsm : n ≤ 1099511627776) :
    Calls Tryz.prog 99 #[.slice (some ⟨g, 0, none⟩) n cap, .func (.func 100) #[] #[]] w (Sorted g es w) := by
  have hl := h.1
  rw [eds_len] at hl
  have hn : es.toArray.size = n := by rw [List.size_toArray]; omega
  have hcon := AnyQ.slices_SortFunc sortEd 3 Tryz.isAgg98 Tryz.sizeOf98 encE (fun _ => rfl) (fun x v hv => by simp [encE] at hv; rcases hv with rfl | rfl | rfl <;> rfl) cmpE swoE 100 #[] g 0 cap es.toArray w
    (enters_of Tryz.func100 (by kernel_rfl) rfl) (cmpLaysE g 0 es.toArray.size w) (holds_of_own h) hg (by omega)
  rw [hn] at hcon
  refine hcon.mono fun e w' ⟨he, d', k, os, hp, hs, hw⟩ => ?_
  have S : SWK encE 3 w g 0 d' w' := ⟨k, os, hw⟩
  have hsz : d'.size = n := hp.1.trans hn
  refine ⟨he, d'.toList, ?_, ?_, rd_of_holds (S.holds hg (holds_of_own h) (by rw [hsz, hn])) (S.lt hg), swk_grown S⟩
  · have := hp.2.2
    rw [show d'.extract 0 n = d' by rw [← hsz]; exact Array.extract_size, show es.toArray.extract 0 n = es.toArray by rw [← hn]; exact Array.extract_size] at this
    exact this
  · unfold AscE
    rw [List.pairwise_iff_getElem]
    intro i j hi hj hij
    have h3 := hs i j (Nat.zero_le _) hij (by rw [Array.length_toList] at hj; omega)
    rw [ltE, getElem!_pos d' i (by simpa using hi), getElem!_pos d' j (by simpa using hj)] at h3
    have h4 := of_decide_eq_false h3
    simp only [Array.getElem_toList]
    omega
end Go.Proofs.YtipcbiecdabihaaGreat.Rset
