/-
  CONTRACT OF the document's Ranges: from number to number.
-/
import Derived.Test.YthpadpoomelhbaaDoorUcdRrMath
import Derived.IntWalk
namespace Go.Proofs.YthpadpoomelhbaaDoor.Ucd
open Go.RowKit Utf

def ci (l : List (Nat × Nat)) : List (Int × Int) := l.map fun x => ((x.1 : Int), (x.2 : Int))
theorem cR_len (l : List (Int × Int)) : (cR l).length = l.length * 2 := by
  induction l with
  | nil => rfl
  | cons q t ih => simp only [cR, List.flatMap_cons, List.length_append, List.length_cons, List.length_nil] at ih ⊢; omega
theorem cR_one (l : List (Int × Int)) : ∀ u ∈ cR l, u.oneCell' = true := by
  intro u hu
  simp only [cR, List.mem_flatMap, List.mem_cons, List.not_mem_nil, or_false] at hu
  obtain ⟨n, _, rfl | rfl⟩ := hu <;> rfl
theorem cR_set (P : List (Int × Int)) (a b v : Int) : (cR (P ++ [(a, b)])).set (P.length * 2 + 1) (.int .i32 v) = cR (P ++ [(a, v)]) := by
  rw [cR_append, cR_append, List.set_append_right _ _ (by rw [cR_len]; omega), cR_len, show P.length * 2 + 1 - P.length * 2 = 1 from by omega]
  rfl
theorem ranges_none (c : Int) (h : ¬ (1 ≤ c ∧ c ≤ 7)) : rangesF c = [] := by
  have : ∀ (l : List (Int × Int × Int)) (s : List (Int × Int) × Int), (∀ x ∈ l, 1 ≤ x.2.2 ∧ x.2.2 ≤ 7) → s.1 = [] → (l.foldl (rstep c) s).1 = [] := by
    intro l
    induction l with
    | nil => intro s _ hs; exact hs
    | cons x t ih =>
      intro s hl hs
      have hx := hl x (by simp)
      refine ih _ (fun y hy => hl y (by simp [hy])) ?_
      simp only [rstep]
      rw [if_neg (by omega), if_neg (by omega)]
      exact hs
  unfold rangesF
  rw [if_neg (by omega)]
  exact this catRows _ (by decide +kernel) rfl

theorem rranges_none (c : Int) (w : World) (h : ¬ (1 ≤ c ∧ c ≤ 7)) : Calls Tryd.prog 19 #[.int .i64 c] w (Rgs w (rangesF c)) := by
  have HE := Lib.hid (ranges_none c h)
  by_cases h1 : c < 1
  · go_enter Tryd.func19, Tryd.ntmps19
    go_wp2
    go_ret
    exact ⟨_, rfl, by rw [HE.out]; exact World.ownsRow_nil _ _ _ _, Below.refl _ _⟩
  · have h2 : 7 < c := by omega
    have h1' : decide (c < 1) = false := decide_eq_false h1
    go_enter Tryd.func19, Tryd.ntmps19
    go_wp2
    go_ret
    exact ⟨_, rfl, by rw [HE.out]; exact World.ownsRow_nil _ _ _ _, Below.refl _ _⟩

set_option maxRecDepth 100000 in
set_option maxHeartbeats 16000000 in
theorem rranges_some (c : Nat) (w : World) (h1 : 1 ≤ c) (h7 : c ≤ 7) : Calls Tryd.prog 19 #[.int .i64 c] w (Rgs w (rangesF c)) := by
  obtain ⟨i0, hi0, hz0, hz1, hz2⟩ := info_parts infoRange
  have d1 : decide ((c : Int) < 1) = false := by rw [decide_eq_false]; omega
  have d2 : decide (7 < (c : Int)) = false := by rw [decide_eq_false]; omega
  have HEND := Lib.hid (fun n => end_all c n h1 h7)
  go_enter Tryd.func19, Tryd.ntmps19
  go_wp2
  go_loopw [3, 4, 5] (fun v op x wr => ∃ (n : Nat) (O : List (Nat × Nat)) (b : Bool) (r : Nat), op = .bool b ∧ x = .int .i32 r ∧ Hid (iterN n (stepN c) s0 = (O, b, r)) ∧ Hid (wr.ownsRow w.heap.size 30 2 v O.length (cR (ci O)) ∧ Below w.heap.size w wr) ∧ r ≤ 1114113 ∧ O.length ≤ r ∧ (b = true → O ≠ [] ∧ 1 ≤ r)) (fun _ _ x _ => 1114113 - (intOf x).toNat)
  case atStart => exact ⟨0, [], false, 0, rfl, rfl, Lib.hid rfl, Lib.hid ⟨World.ownsRow_nil _ _ _ _, Below.refl _ _⟩, by omega, by simp, by simp⟩
  case round =>
    obtain ⟨n, O, b, r, rfl, rfl, HI, HO, hr, hol, hb⟩ := hrel
    by_cases hlt : r ≤ 1114112
    · have hbase : w.heap.size ≤ wr.heap.size := HO.out.2.size
      obtain ⟨z, hz⟩ : ∃ z, z = cat (r : Int) := ⟨_, rfl⟩
      have HZ := Lib.hid (show z = (lookN rowsN r : Int) by rw [hz, cat_cast])
      have HCAT := Lib.hid (fun u : World => rcat_any (r : Int) u)
      rw [← hz] at HCAT
      have HNX := Lib.hid (fun u : World => rnext_any (r : Int) u (by omega) (by omega))
      rw [rnx_cast] at HNX
      have hgt := rnxN_gt r
      have hle : rnxN r ≤ 1114113 := by have := rnx_le (r : Int) (by omega); rw [rnx_cast] at this; omega
      have hr32 : (r : Int) ≤ 1114112 := by omega
      have HIT := Lib.hid (show iterN (n + 1) (stepN c) s0 = stepN c (O, b, r) by rw [iter_succ, HI.out])
      generalize hq : rnxN r = q at HNX hgt hle
      have HQ := Lib.hid hq
      clear hz hq
      by_cases hr0 : r < 1114112
      · have hrl : (r : Int) < 1114112 := by omega
        have HBL := Lib.hid (show Nat.blt r 1114112 = true by simpa [Nat.blt_eq] using hr0)
        by_cases hzc : z = (c : Int)
        · have hzc' : (z == (c : Int)) = true := by simpa using hzc
          have HBE := Lib.hid (show Nat.beq (lookN rowsN r) c = true by have := HZ.out; rw [Nat.beq_eq]; omega)
          clear hzc hr0
          cases b with
          | false =>
            go_wp2_with (first | (go_at_call 15; refine (HCAT.out _).mono ?_; rintro e w' ⟨rfl, rfl⟩) | (at_builtin; refine wpList_append_rd _ rfl (.tmp 28) (.tmp 31) _ rfl w.heap.size 30 i0 _ 2 8 Tryd.underlying27 hi0 hz0 hz1 hz2 rfl (by decide) _ O.length (cR (ci O)) rfl (HO.out.1.alloc _) _ (some ⟨wr.heap.size, 0, none⟩) 1 1 [.int .i32 r, .int .i32 0] rfl rfl (rd_new _ _ [.int .i32 r, .int .i32 0] _ rfl) (cR_one [((r : Int), 0)]) (by unfold maxLen; omega) (by omega) (by simp; omega) ?_; intro v6 w6 hown6 hgr6 _; have HO6 := Lib.hid (And.intro hown6 (Below.grown (HO.out.2.alloc hbase (.cells #[.int .i32 r, .int .i32 0] 30)) hgr6 (by simp; omega) (fun y hy => (HO.out.1.lt y hy).1))); clear hown6 hgr6) | (go_at_call 33; refine (HNX.out _).mono ?_; rintro e w7 ⟨rfl, hb7⟩; have HB7 := Lib.hid hb7; clear hb7))
            go_roundw
            case rel => exact ⟨n + 1, O ++ [(r, 0)], true, q, rfl, rfl, Lib.hid (by rw [HIT.out, ← HQ.out]; simp only [stepN, HBL.out, HBE.out]; rfl), Lib.hid ⟨by rw [show ci (O ++ [(r, 0)]) = ci O ++ [((r : Int), 0)] by simp [ci], cR_append, List.length_append]; exact own_below HO6.out.1 HB7.out, HO6.out.2.trans (HB7.out.mono HO6.out.2.size)⟩, hle, by rw [List.length_append, List.length_singleton]; omega, fun _ => ⟨by simp, by omega⟩⟩
            case measure => simp [intOf]; omega
          | true =>
            go_wp2_with (first | (go_at_call 15; refine (HCAT.out _).mono ?_; rintro e w' ⟨rfl, rfl⟩) | (go_at_call 33; refine (HNX.out _).mono ?_; rintro e w7 ⟨rfl, hb7⟩; have HB7 := Lib.hid hb7; clear hb7))
            go_roundw
            case rel => exact ⟨n + 1, O, true, q, rfl, rfl, Lib.hid (by rw [HIT.out, ← HQ.out]; simp only [stepN, HBL.out, HBE.out]; rfl), Lib.hid ⟨own_below HO.out.1 HB7.out, HO.out.2.trans (HB7.out.mono hbase)⟩, hle, by omega, fun h => ⟨(hb trivial).1, by omega⟩⟩
            case measure => simp [intOf]; omega
        · have hzc' : (z == (c : Int)) = false := by simpa using hzc
          have HBE := Lib.hid (show (Nat.blt r 1114112 && Nat.beq (lookN rowsN r) c) = false by rw [Bool.and_eq_false_iff]; right; rw [← Bool.not_eq_true, Nat.beq_eq]; have := HZ.out; omega)
          clear hzc hr0
          cases b with
          | false =>
            go_wp2_with (first | (go_at_call 15; refine (HCAT.out _).mono ?_; rintro e w' ⟨rfl, rfl⟩) | (go_at_call 33; refine (HNX.out _).mono ?_; rintro e w7 ⟨rfl, hb7⟩; have HB7 := Lib.hid hb7; clear hb7))
            go_roundw
            case rel => exact ⟨n + 1, O, false, q, rfl, rfl, Lib.hid (by rw [HIT.out, ← HQ.out]; simp only [stepN, HBE.out]; rfl), Lib.hid ⟨own_below HO.out.1 HB7.out, HO.out.2.trans (HB7.out.mono hbase)⟩, hle, by omega, by simp⟩
            case measure => simp [intOf]; omega
          | true =>
            obtain ⟨hne, hr1⟩ := hb rfl
            obtain ⟨P, ax, rfl⟩ : ∃ P ax, O = P ++ [ax] := by
              rcases List.eq_nil_or_concat O with h | ⟨P, ax, h⟩
              · exact absurd h hne
              · exact ⟨P, ax, by rw [h, List.concat_eq_append]⟩
            obtain ⟨a, x⟩ := ax
            rw [List.length_append, List.length_singleton] at HO hol
            obtain ⟨g, cap, rfl⟩ := ownsRow_succ HO.out.1
            have HCI := Lib.hid (show ∀ y : Nat, ci (P ++ [(a, y)]) = ci P ++ [((a : Int), (y : Int))] from fun y => by simp [ci])
            have HLP := Lib.hid (show (ci P).length = P.length by simp [ci])
            have hfz := HO.out.1.frozenAt (P.length * 2 + 1)
            have hce : wr.cell? ⟨g, P.length * 2 + 1, none⟩ = some (.int .i32 x) := by
              rw [HO.out.1.cellAt _ (by omega), HCI.out, cR_append, List.getElem?_append_right (by rw [cR_len, HLP.out]; omega), cR_len, HLP.out, show P.length * 2 + 1 - P.length * 2 = 1 from by omega]
              rfl
            have hwr : wrap32 ((r : Int) - 1) = (r : Int) - 1 := IntWalk.wrap32_in _ (by omega)
            have hst := HO.out.1.stored (P.length * 2 + 1) (.int .i32 ((r : Int) - 1))
            have HST2 := Lib.hid (show (wr.setCell ⟨g, P.length * 2 + 1, none⟩ (.int .i32 ((r : Int) - 1))).ownsRow w.heap.size 30 2 (.slice (some ⟨g, 0, none⟩) (P.length + 1) cap) (P ++ [(a, r - 1)]).length (cR (ci (P ++ [(a, r - 1)]))) by
              have h := hst.1
              rw [HCI.out, show P.length * 2 + 1 = (ci P).length * 2 + 1 by rw [HLP.out], cR_set, HLP.out] at h
              rw [List.length_append, List.length_singleton, HCI.out, show ((r - 1 : Nat) : Int) = (r : Int) - 1 from by omega]
              exact h)
            have hg := Lib.hid (HO.out.1.lt g rfl).1
            clear hst
            go_wp2_with (first | (go_at_call 15; refine (HCAT.out _).mono ?_; rintro e w' ⟨rfl, rfl⟩) | (go_at_call 33; refine (HNX.out _).mono ?_; rintro e w7 ⟨rfl, hb7⟩; have HB7 := Lib.hid hb7; clear hb7))
            go_roundw
            case rel => exact ⟨n + 1, P ++ [(a, r - 1)], false, q, rfl, rfl, Lib.hid (by rw [HIT.out, ← HQ.out]; simp only [stepN, HBE.out, Bool.not_false, Bool.and_true, cond_true, setL_last]), Lib.hid ⟨own_below HST2.out HB7.out, (HO.out.2.setCell (p := ⟨g, P.length * 2 + 1, none⟩) hg.out _).trans (HB7.out.mono (by simpa using hbase))⟩, hle, by rw [List.length_append, List.length_singleton]; omega, by simp⟩
            case measure => simp [intOf]; omega
      · have hrl : ¬ ((r : Int) < 1114112) := by omega
        have HBE := Lib.hid (show (Nat.blt r 1114112 && Nat.beq (lookN rowsN r) c) = false by rw [Bool.and_eq_false_iff]; left; rw [← Bool.not_eq_true, Nat.blt_eq]; exact hr0)
        clear hr0 HCAT hlt
        cases b with
        | false =>
          go_wp2_with (go_at_call 33; refine (HNX.out _).mono ?_; rintro e w7 ⟨rfl, hb7⟩; have HB7 := Lib.hid hb7; clear hb7)
          go_roundw
          case rel => exact ⟨n + 1, O, false, q, rfl, rfl, Lib.hid (by rw [HIT.out, ← HQ.out]; simp only [stepN, HBE.out]; rfl), Lib.hid ⟨own_below HO.out.1 HB7.out, HO.out.2.trans (HB7.out.mono hbase)⟩, hle, by omega, by simp⟩
          case measure => simp [intOf]; omega
        | true =>
          obtain ⟨hne, hr1⟩ := hb rfl
          obtain ⟨P, ax, rfl⟩ : ∃ P ax, O = P ++ [ax] := by
            rcases List.eq_nil_or_concat O with h | ⟨P, ax, h⟩
            · exact absurd h hne
            · exact ⟨P, ax, by rw [h, List.concat_eq_append]⟩
          obtain ⟨a, x⟩ := ax
          rw [List.length_append, List.length_singleton] at HO hol
          obtain ⟨g, cap, rfl⟩ := ownsRow_succ HO.out.1
          have HCI := Lib.hid (show ∀ y : Nat, ci (P ++ [(a, y)]) = ci P ++ [((a : Int), (y : Int))] from fun y => by simp [ci])
          have HLP := Lib.hid (show (ci P).length = P.length by simp [ci])
          have hfz := HO.out.1.frozenAt (P.length * 2 + 1)
          have hce : wr.cell? ⟨g, P.length * 2 + 1, none⟩ = some (.int .i32 x) := by
            rw [HO.out.1.cellAt _ (by omega), HCI.out, cR_append, List.getElem?_append_right (by rw [cR_len, HLP.out]; omega), cR_len, HLP.out, show P.length * 2 + 1 - P.length * 2 = 1 from by omega]
            rfl
          have hwr : wrap32 ((r : Int) - 1) = (r : Int) - 1 := IntWalk.wrap32_in _ (by omega)
          have hst := HO.out.1.stored (P.length * 2 + 1) (.int .i32 ((r : Int) - 1))
          have HST2 := Lib.hid (show (wr.setCell ⟨g, P.length * 2 + 1, none⟩ (.int .i32 ((r : Int) - 1))).ownsRow w.heap.size 30 2 (.slice (some ⟨g, 0, none⟩) (P.length + 1) cap) (P ++ [(a, r - 1)]).length (cR (ci (P ++ [(a, r - 1)]))) by
            have h := hst.1
            rw [HCI.out, show P.length * 2 + 1 = (ci P).length * 2 + 1 by rw [HLP.out], cR_set, HLP.out] at h
            rw [List.length_append, List.length_singleton, HCI.out, show ((r - 1 : Nat) : Int) = (r : Int) - 1 from by omega]
            exact h)
          have hg := Lib.hid (HO.out.1.lt g rfl).1
          clear hst
          go_wp2_with (go_at_call 33; refine (HNX.out _).mono ?_; rintro e w7 ⟨rfl, hb7⟩; have HB7 := Lib.hid hb7; clear hb7)
          go_roundw
          case rel => exact ⟨n + 1, P ++ [(a, r - 1)], false, q, rfl, rfl, Lib.hid (by rw [HIT.out, ← HQ.out]; simp only [stepN, HBE.out, Bool.not_false, Bool.and_true, cond_true, setL_last]), Lib.hid ⟨own_below HST2.out HB7.out, (HO.out.2.setCell (p := ⟨g, P.length * 2 + 1, none⟩) hg.out _).trans (HB7.out.mono (by simpa using hbase))⟩, hle, by rw [List.length_append, List.length_singleton]; omega, by simp⟩
          case measure => simp [intOf]; omega
    · have hre : r = 1114113 := by omega
      have HE := Lib.hid (show ci O = rangesF c by
        have := HEND.out n (by rw [HI.out]; exact hre)
        rw [HI.out] at this
        exact this)
      have HLL := Lib.hid (show O.length = (rangesF c).length by rw [← HE.out]; simp [ci])
      clear hre
      go_wp2
      go_ret
      exact ⟨_, rfl, by rw [← HLL.out, ← HE.out]; exact HO.out.1, HO.out.2⟩
theorem rranges_any (c : Int) (w : World) : Calls Tryd.prog 19 #[.int .i64 c] w (Rgs w (rangesF c)) := by
  by_cases h : 1 ≤ c ∧ c ≤ 7
  · have := rranges_some c.toNat w (by omega) (by omega)
    rwa [show ((c.toNat : Nat) : Int) = c from by omega] at this
  · exact rranges_none c w h
end Go.Proofs.YthpadpoomelhbaaDoor.Ucd
