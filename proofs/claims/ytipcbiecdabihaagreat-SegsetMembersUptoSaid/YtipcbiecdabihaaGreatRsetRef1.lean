/-
  CONTRACTS OF the document's Has and clipped.
-/
import Derived.Test.YtipcbiecdabihaaGreatRsetHas
namespace Go.Proofs.YtipcbiecdabihaaGreat.Rset
set_option maxRecDepth 100000
open Go.RowKit
open Utf (Rd Blk wpList_append_rd own_ne)

set_option maxHeartbeats 4000000 in
theorem rhas_any (A : Option Addr) (l : List Rg) (n c : Nat) (r : Int) (w : World) (ha : Rd w w.heap.size A (rgs l)) (hn : l.length = n) (hn1 : n ≤ 1099511627776) :
    Calls Tryz.prog 40 #[.slice A n c, .int .i32 r] w fun e w' => e = .returned (.bool (has l r)) ∧ w = w' := by
  suffices H : Calls Tryz.prog 40 #[.slice A n c, .int .i32 r] w (fun e w' => Hid (e = .returned (.bool (has l r)) ∧ w = w')) from H.mono fun e w' h => h.out
  have HA := Lib.hid ha; have HN := Lib.hid hn
  clear ha hn
  go_enter Tryz.func40, Tryz.ntmps40
  go_wp2_with fail
  go_loopw [5] (fun i wr => ∃ k : Nat, k ≤ n ∧ i = .int .i64 k ∧ Hid (has (l.take k) r = false) ∧ Hid (w = wr)) (fun i _ => n - (intOf i).toNat)
  case atStart => exact ⟨0, Nat.zero_le _, rfl, Lib.hid (has_nil r), Lib.hid rfl⟩
  case round =>
    obtain ⟨k, hk, rfl, HT, HW⟩ := hrel
    obtain rfl := HW.out
    by_cases hlt : k < n
    · have hkl : k < l.length := by rw [HN.out]; exact hlt
      obtain ⟨b, o, rfl, hb⟩ := rd_form_rg HA.out (by omega)
      obtain ⟨c1, c2⟩ := rd_rg HA.out hkl
      have HTK := Lib.hid (show has (l.take (k + 1)) r = (has (l.take k) r || (decide (0 ≤ r) && decide (r ≤ 1114111) && (decide (l[k].1 ≤ r) && decide (r ≤ l[k].2)))) from by
        unfold has; rw [anyIn_take l r k hkl, Bool.and_or_distrib_left]; rfl)
      have HON := Lib.hid (fun (h1 : inR r = true) (h2 : inn l[k] r = true) => show has l r = true by unfold has; rw [h1, anyIn_of_get hkl h2]; rfl)
      generalize l[k] = q at *
      obtain ⟨x1, x2⟩ := q
      dsimp only at *
      clear hkl
      by_cases h0 : 0 ≤ r
      · have d0 : decide (0 ≤ r) = true := decide_eq_true h0
        clear h0
        by_cases h1 : r ≤ 1114111
        · have d1 : decide (r ≤ 1114111) = true := decide_eq_true h1
          clear h1
          by_cases h2 : x1 ≤ r
          · have d2 : decide (x1 ≤ r) = true := decide_eq_true h2
            clear h2
            by_cases h3 : r ≤ x2
            · have d3 : decide (r ≤ x2) = true := decide_eq_true h3
              clear h3
              have HE := Lib.hid (HON.out (inR_iff.2 ⟨of_decide_eq_true d0, of_decide_eq_true d1⟩) (inn_iff.2 ⟨of_decide_eq_true d2, of_decide_eq_true d3⟩))
              clear HTK
              go_wp2_with fail
              go_ret
              exact Lib.hid ⟨ret_bool HE.out.symm, rfl⟩
            · have d3 : decide (r ≤ x2) = false := decide_eq_false h3
              have HE := Lib.hid (show has (l.take (k + 1)) r = false by rw [HTK.out, HT.out, d0, d1, d2, d3]; simp)
              clear h3 HTK
              go_wp2_with fail
              go_roundw
              case rel => exact ⟨k + 1, by omega, by go_num, HE, Lib.hid trivial⟩
              case measure => simp [intOf]; omega
          · have d2 : decide (x1 ≤ r) = false := decide_eq_false h2
            have HE := Lib.hid (show has (l.take (k + 1)) r = false by rw [HTK.out, HT.out, d0, d1, d2]; simp)
            clear h2 HTK
            go_wp2_with fail
            go_roundw
            case rel => exact ⟨k + 1, by omega, by go_num, HE, Lib.hid trivial⟩
            case measure => simp [intOf]; omega
        · have d1 : decide (r ≤ 1114111) = false := decide_eq_false h1
          have HE := Lib.hid (show has (l.take (k + 1)) r = false by rw [HTK.out, HT.out, d0, d1]; simp)
          clear h1 HTK
          go_wp2_with fail
          go_roundw
          case rel => exact ⟨k + 1, by omega, by go_num, HE, Lib.hid trivial⟩
          case measure => simp [intOf]; omega
      · have d0 : decide (0 ≤ r) = false := decide_eq_false h0
        have HE := Lib.hid (show has (l.take (k + 1)) r = false by rw [HTK.out, HT.out, d0]; simp)
        clear h0 HTK
        go_wp2_with fail
        go_roundw
        case rel => exact ⟨k + 1, by omega, by go_num, HE, Lib.hid trivial⟩
        case measure => simp [intOf]; omega
    · have HE := Lib.hid (show has l r = false by
        have := HT.out
        rwa [List.take_of_length_le (by have := HN.out; omega)] at this)
      go_wp2_with fail
      go_ret
      exact Lib.hid ⟨ret_bool HE.out.symm, rfl⟩

set_option maxHeartbeats 4000000 in
theorem clipped_any (A : Option Addr) (l : List Rg) (n c : Nat) (w : World) (ha : Rd w w.heap.size A (rgs l)) (hn : l.length = n) (hn1 : n ≤ 1073741824) :
    Calls Tryz.prog 45 #[.slice A n c] w (Own w (clipF l)) := by
  obtain ⟨i0, hi, hz0, hz1, hz2⟩ := info_parts infoRg
  have HA := Lib.hid ha; have HN := Lib.hid hn
  clear ha hn
  go_enter Tryz.func45, Tryz.ntmps45
  go_wp2_with fail
  go_loopw [3, 4] (fun s i wr => ∃ (k : Nat) (v : Value), k ≤ n ∧ i = .int .i64 k ∧ s = v ∧ Hid (wr.ownsRow w.heap.size 38 2 v (clipF (l.take k)).length (rgs (clipF (l.take k))) ∧ Below w.heap.size w wr)) (fun _ i _ => n - (intOf i).toNat)
  case atStart => exact ⟨0, _, Nat.zero_le _, rfl, rfl, World.ownsRow_nil _ _ _ _, Below.refl _ _⟩
  case round =>
    obtain ⟨k, v, hk, rfl, rfl, HI⟩ := hrel
    by_cases hlt : k < n
    · have hkl : k < l.length := by rw [HN.out]; exact hlt
      have hR2 := HA.out.below HI.out.2
      obtain ⟨b, o, rfl, hb⟩ := rd_form_rg hR2 (by omega)
      obtain ⟨c1, c2⟩ := rd_rg hR2 hkl
      have HTK := Lib.hid (clipF_take l k hkl)
      have HLEN := Lib.hid (show (clipF (l.take k)).length ≤ 1073741824 by have := clipF_len (l.take k); rw [List.length_take] at this; have := HN.out; omega)
      have HSZ := Lib.hid HI.out.2.size
      generalize l[k] = q at *
      obtain ⟨x1, x2⟩ := q
      dsimp only at *
      clear hkl hR2
      by_cases h0 : x1 < 0
      · have d0 : decide (x1 < 0) = true := decide_eq_true h0
        by_cases h1 : 1114111 < x2
        · have d1 : decide (1114111 < x2) = true := decide_eq_true h1
          have HE := Lib.hid (show clipF (l.take (k + 1)) = clipF (l.take k) ++ [(0, 1114111)] by rw [HTK.out]; unfold clip; rw [if_pos (by simp only []; omega), show max x1 0 = 0 by omega, show min x2 1114111 = 1114111 by omega])
          clear HTK
          obtain ⟨CL, hCL⟩ : ∃ CL, CL = clipF (l.take k) := ⟨_, rfl⟩
          rw [← hCL] at HE HLEN HI
          clear hCL
          go_wp2_with (at_builtin; refine wpList_append_rd _ rfl (.tmp 29) (.tmp 31) _ rfl w.heap.size 38 i0 _ 2 8 Tryz.underlying22 hi hz0 hz1 hz2 rfl (by decide) u3 CL.length (rgs CL) rfl (by first | exact (HI.out.1.alloc _).alloc _ | skip) _ (some ⟨wr.heap.size + 1, 0, none⟩) 1 1 (rgs [(0, 1114111)]) rfl rfl (rd_new _ _ (rgs [(0, 1114111)]) _ (by simp)) (rgs_one _) (by have := HLEN.out; unfold maxLen; omega) (by have := HLEN.out; omega) (by have := HSZ.out; simp; omega) ?_; intro v6 w6 hown6 hgr6 _)
          have HN6 : Hid (w6.ownsRow w.heap.size 38 2 v6 (clipF (l.take (k + 1))).length (rgs (clipF (l.take (k + 1)))) ∧ Below w.heap.size w w6) := by
            rw [HE.out, rgs_append, List.length_append]
            exact ⟨hown6, Below.grown (((HI.out.2.alloc HSZ.out _).alloc (by have := HSZ.out; simp; omega) _)) hgr6 (by have := HSZ.out; simp; omega) (fun y hy => (HI.out.1.lt y hy).1)⟩
          clear hown6 hgr6
          go_roundw
          case rel => exact ⟨k + 1, _, by omega, by go_num, rfl, HN6⟩
          case measure => simp [intOf]; omega
        · have d1 : decide (1114111 < x2) = false := decide_eq_false h1
          by_cases h2 : (0 : Int) ≤ x2
          · have d2 : decide ((0 : Int) ≤ x2) = true := decide_eq_true h2
            have HE := Lib.hid (show clipF (l.take (k + 1)) = clipF (l.take k) ++ [(0, x2)] by rw [HTK.out]; unfold clip; rw [if_pos (by simp only []; omega), show max x1 0 = 0 by omega, show min x2 1114111 = x2 by omega])
            clear HTK
            obtain ⟨CL, hCL⟩ : ∃ CL, CL = clipF (l.take k) := ⟨_, rfl⟩
            rw [← hCL] at HE HLEN HI
            clear hCL
            go_wp2_with (at_builtin; refine wpList_append_rd _ rfl (.tmp 29) (.tmp 31) _ rfl w.heap.size 38 i0 _ 2 8 Tryz.underlying22 hi hz0 hz1 hz2 rfl (by decide) u3 CL.length (rgs CL) rfl (by first | exact (HI.out.1.alloc _).alloc _ | skip) _ (some ⟨wr.heap.size + 1, 0, none⟩) 1 1 (rgs [(0, x2)]) rfl rfl (rd_new _ _ (rgs [(0, x2)]) _ (by simp)) (rgs_one _) (by have := HLEN.out; unfold maxLen; omega) (by have := HLEN.out; omega) (by have := HSZ.out; simp; omega) ?_; intro v6 w6 hown6 hgr6 _)
            have HN6 : Hid (w6.ownsRow w.heap.size 38 2 v6 (clipF (l.take (k + 1))).length (rgs (clipF (l.take (k + 1)))) ∧ Below w.heap.size w w6) := by
              rw [HE.out, rgs_append, List.length_append]
              exact ⟨hown6, Below.grown (((HI.out.2.alloc HSZ.out _).alloc (by have := HSZ.out; simp; omega) _)) hgr6 (by have := HSZ.out; simp; omega) (fun y hy => (HI.out.1.lt y hy).1)⟩
            clear hown6 hgr6
            go_roundw
            case rel => exact ⟨k + 1, _, by omega, by go_num, rfl, HN6⟩
            case measure => simp [intOf]; omega
          · have d2 : decide ((0 : Int) ≤ x2) = false := decide_eq_false h2
            have HE := Lib.hid (show clipF (l.take (k + 1)) = clipF (l.take k) by rw [HTK.out]; unfold clip; rw [if_neg (by simp only []; omega), List.append_nil])
            clear HTK
            go_wp2_with fail
            have HN6 : Hid (∀ W, Below wr.heap.size wr W → W.ownsRow w.heap.size 38 2 u3 (clipF (l.take (k + 1))).length (rgs (clipF (l.take (k + 1)))) ∧ Below w.heap.size w W) := fun W hb => by
              rw [HE.out]
              exact ⟨own_below HI.out.1 hb, HI.out.2.trans (hb.mono HSZ.out)⟩
            go_roundw
            case rel => exact ⟨k + 1, _, by omega, by go_num, rfl, HN6.out _ (by first | exact (Below.refl _ _).alloc (Nat.le_refl _) _ | skip)⟩
            case measure => simp [intOf]; omega
      · have d0 : decide (x1 < 0) = false := decide_eq_false h0
        by_cases h1 : 1114111 < x2
        · have d1 : decide (1114111 < x2) = true := decide_eq_true h1
          by_cases h2 : x1 ≤ 1114111
          · have d2 : decide (x1 ≤ 1114111) = true := decide_eq_true h2
            have HE := Lib.hid (show clipF (l.take (k + 1)) = clipF (l.take k) ++ [(x1, 1114111)] by rw [HTK.out]; unfold clip; rw [if_pos (by simp only []; omega), show max x1 0 = x1 by omega, show min x2 1114111 = 1114111 by omega])
            clear HTK
            obtain ⟨CL, hCL⟩ : ∃ CL, CL = clipF (l.take k) := ⟨_, rfl⟩
            rw [← hCL] at HE HLEN HI
            clear hCL
            go_wp2_with (at_builtin; refine wpList_append_rd _ rfl (.tmp 29) (.tmp 31) _ rfl w.heap.size 38 i0 _ 2 8 Tryz.underlying22 hi hz0 hz1 hz2 rfl (by decide) u3 CL.length (rgs CL) rfl (by first | exact (HI.out.1.alloc _).alloc _ | skip) _ (some ⟨wr.heap.size + 1, 0, none⟩) 1 1 (rgs [(x1, 1114111)]) rfl rfl (rd_new _ _ (rgs [(x1, 1114111)]) _ (by simp)) (rgs_one _) (by have := HLEN.out; unfold maxLen; omega) (by have := HLEN.out; omega) (by have := HSZ.out; simp; omega) ?_; intro v6 w6 hown6 hgr6 _)
            have HN6 : Hid (w6.ownsRow w.heap.size 38 2 v6 (clipF (l.take (k + 1))).length (rgs (clipF (l.take (k + 1)))) ∧ Below w.heap.size w w6) := by
              rw [HE.out, rgs_append, List.length_append]
              exact ⟨hown6, Below.grown (((HI.out.2.alloc HSZ.out _).alloc (by have := HSZ.out; simp; omega) _)) hgr6 (by have := HSZ.out; simp; omega) (fun y hy => (HI.out.1.lt y hy).1)⟩
            clear hown6 hgr6
            go_roundw
            case rel => exact ⟨k + 1, _, by omega, by go_num, rfl, HN6⟩
            case measure => simp [intOf]; omega
          · have d2 : decide (x1 ≤ 1114111) = false := decide_eq_false h2
            have HE := Lib.hid (show clipF (l.take (k + 1)) = clipF (l.take k) by rw [HTK.out]; unfold clip; rw [if_neg (by simp only []; omega), List.append_nil])
            clear HTK
            go_wp2_with fail
            have HN6 : Hid (∀ W, Below wr.heap.size wr W → W.ownsRow w.heap.size 38 2 u3 (clipF (l.take (k + 1))).length (rgs (clipF (l.take (k + 1)))) ∧ Below w.heap.size w W) := fun W hb => by
              rw [HE.out]
              exact ⟨own_below HI.out.1 hb, HI.out.2.trans (hb.mono HSZ.out)⟩
            go_roundw
            case rel => exact ⟨k + 1, _, by omega, by go_num, rfl, HN6.out _ (by first | exact (Below.refl _ _).alloc (Nat.le_refl _) _ | skip)⟩
            case measure => simp [intOf]; omega
        · have d1 : decide (1114111 < x2) = false := decide_eq_false h1
          by_cases h2 : x1 ≤ x2
          · have d2 : decide (x1 ≤ x2) = true := decide_eq_true h2
            have HE := Lib.hid (show clipF (l.take (k + 1)) = clipF (l.take k) ++ [(x1, x2)] by rw [HTK.out]; unfold clip; rw [if_pos (by simp only []; omega), show max x1 0 = x1 by omega, show min x2 1114111 = x2 by omega])
            clear HTK
            obtain ⟨CL, hCL⟩ : ∃ CL, CL = clipF (l.take k) := ⟨_, rfl⟩
            rw [← hCL] at HE HLEN HI
            clear hCL
            go_wp2_with (at_builtin; refine wpList_append_rd _ rfl (.tmp 29) (.tmp 31) _ rfl w.heap.size 38 i0 _ 2 8 Tryz.underlying22 hi hz0 hz1 hz2 rfl (by decide) u3 CL.length (rgs CL) rfl (by first | exact (HI.out.1.alloc _).alloc _ | skip) _ (some ⟨wr.heap.size + 1, 0, none⟩) 1 1 (rgs [(x1, x2)]) rfl rfl (rd_new _ _ (rgs [(x1, x2)]) _ (by simp)) (rgs_one _) (by have := HLEN.out; unfold maxLen; omega) (by have := HLEN.out; omega) (by have := HSZ.out; simp; omega) ?_; intro v6 w6 hown6 hgr6 _)
            have HN6 : Hid (w6.ownsRow w.heap.size 38 2 v6 (clipF (l.take (k + 1))).length (rgs (clipF (l.take (k + 1)))) ∧ Below w.heap.size w w6) := by
              rw [HE.out, rgs_append, List.length_append]
              exact ⟨hown6, Below.grown (((HI.out.2.alloc HSZ.out _).alloc (by have := HSZ.out; simp; omega) _)) hgr6 (by have := HSZ.out; simp; omega) (fun y hy => (HI.out.1.lt y hy).1)⟩
            clear hown6 hgr6
            go_roundw
            case rel => exact ⟨k + 1, _, by omega, by go_num, rfl, HN6⟩
            case measure => simp [intOf]; omega
          · have d2 : decide (x1 ≤ x2) = false := decide_eq_false h2
            have HE := Lib.hid (show clipF (l.take (k + 1)) = clipF (l.take k) by rw [HTK.out]; unfold clip; rw [if_neg (by simp only []; omega), List.append_nil])
            clear HTK
            go_wp2_with fail
            have HN6 : Hid (∀ W, Below wr.heap.size wr W → W.ownsRow w.heap.size 38 2 u3 (clipF (l.take (k + 1))).length (rgs (clipF (l.take (k + 1)))) ∧ Below w.heap.size w W) := fun W hb => by
              rw [HE.out]
              exact ⟨own_below HI.out.1 hb, HI.out.2.trans (hb.mono HSZ.out)⟩
            go_roundw
            case rel => exact ⟨k + 1, _, by omega, by go_num, rfl, HN6.out _ (by first | exact (Below.refl _ _).alloc (Nat.le_refl _) _ | skip)⟩
            case measure => simp [intOf]; omega
    · have HE := Lib.hid (show clipF (l.take k) = clipF l by rw [List.take_of_length_le (by have := HN.out; omega)])
      have HO : Hid (wr.ownsRow w.heap.size 38 2 u3 (clipF l).length (rgs (clipF l)) ∧ Below w.heap.size w wr) := by
        have h := HI.out
        rw [HE.out] at h
        exact h
      go_wp2_with fail
      go_ret
      exact ⟨_, rfl, HO.out.1, HO.out.2⟩
end Go.Proofs.YtipcbiecdabihaaGreat.Rset
