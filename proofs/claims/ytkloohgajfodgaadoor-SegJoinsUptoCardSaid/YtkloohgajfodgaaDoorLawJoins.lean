/-
  Whatever bytes there are: two texts, of which the first ends whole and the second begins with a code point that opens, have together the segments of both. Conditions: the arguments hold at most 1048576 values; the package's tables are laid as the program's text lays them (tied).
-/
import Derived.Test.YtkloohgajfodgaaDoorNormOpens
import Derived.Test.YtkloohgajfodgaaDoorSegFixed
namespace Go.Proofs.YtkloohgajfodgaaDoor.LawSegJoins
open Go.ChangeShapes Go.WideShapes Go.ChangeAt Go.RowKit
open Utf hiding infoI32 rd_new own_form rdec_any below_drewN new_any write_any close_any
open Ucd hiding grow same Told
open Norm hiding new_any write_any close_any pending_any pending_nil write_nil write_closed close_nil fixed_any write_at close_at
open Seg

theorem own_mt (u : World) (base g : Nat) (hb : base ≤ u.heap.size) (hg : g = u.heap.size) : (u.alloc (.cells #[] 5)).ownsRow base 5 1 (.slice (some ⟨g, 0, none⟩) 0 0) 0 [] := by
  subst hg
  exact ⟨rfl, .inr ⟨u.heap.size, 0, #[], rfl, hb, heap_alloc_new u _, Nat.le_refl _, by simp [maxLen], by simp, by simp⟩⟩
set_option maxHeartbeats 8000000 in
set_option maxRecDepth 100000 in
theorem walk (A : Option Addr) (l : List UInt8) (n c : Nat) (B : Option Addr) (m : List UInt8) (k d : Nat) (w : World) (hL : Laid w) (hr : Rd w w.heap.size A (bys l)) (hn : l.length = n)
    (hs : Rd w w.heap.size B (bys m)) (hk : m.length = k) (hd : k ≤ d) (hdm : d ≤ 9223372036854775807) (hsm : n + k ≤ 1048576) :
    Calls Tryd.prog 9 #[.slice A n c, .slice B k d] w (Law w) := by
  obtain ⟨i0, hi, hz0, hz1, hz2⟩ := info_parts Utf.infoU8
  obtain ⟨i1, hi', hy0, hy1, hy2⟩ := info_parts infoStr
  have HF := Lib.hid (fixed_any w hL)
  have HL := Lib.hid hL
  have HR := Lib.hid hr
  have HS := Lib.hid hs
  have HN := Lib.hid hn
  have HK := Lib.hid hk
  have HRN := Lib.hid (fun (u : World) (h : Rd u u.heap.size B (bys m)) => rrunes_any B m k d u h hk (by omega))
  have HTB := Lib.hid (fun (u : World) (hu : Laid u) (h : Rd u u.heap.size B (bys m)) => Seg.texts_any m B k d u hu h hk hd hdm (by omega))
  have HTA := Lib.hid (fun (A' : Option Addr) (c' : Nat) (h1 : n + 1 ≤ c') (h2 : c' ≤ 9223372036854775807) (u : World) (hu : Laid u) (h : Rd u u.heap.size A' (bys (l ++ [120]))) => Seg.texts_any (l ++ [120]) A' (n + 1) c' u hu h (by rw [List.length_append, hn]; rfl) h1 h2 (by omega))
  have HTC := Lib.hid (fun (A' : Option Addr) (c' : Nat) (h1 : n + 1 + k ≤ c') (h2 : c' ≤ 9223372036854775807) (u : World) (hu : Laid u) (h : Rd u u.heap.size A' (bys (l ++ [120] ++ m))) => Seg.texts_any (l ++ [120] ++ m) A' (n + 1 + k) c' u hu h (by rw [List.length_append, List.length_append, hn, hk]; rfl) h1 h2 (by omega))
  have hjn := texts_join l m 120 (by decide)
  have hla : (texts (l ++ [120])).length ≤ n + 1 := by unfold texts; rw [List.length_map]; have := grp_len false (l ++ [120]); rw [List.length_append, hn] at this; exact this
  have hlb : (texts m).length ≤ k := by unfold texts; rw [List.length_map, ← hk]; exact grp_len false m
  have hlc : (texts (l ++ [120] ++ m)).length ≤ n + 1 + k := by unfold texts; rw [List.length_map]; have := grp_len false (l ++ [120] ++ m); rw [List.length_append, List.length_append, hn, hk] at this; exact this
  have hrl := runes_len m
  rw [hk] at hrl
  have HJ := Lib.hid hjn
  generalize texts (l ++ [120] ++ m) = TC at HTC HJ hlc
  generalize texts (l ++ [120]) = TA at HTA HJ hla
  generalize texts m = TB at HTB HJ hlb
  generalize runesF m = R at HRN HJ hrl
  obtain ⟨rl, hrl2⟩ : ∃ rl, rl = R.length := ⟨_, rfl⟩
  rw [← hrl2] at hrl
  have HRL := Lib.hid hrl2
  obtain ⟨ta, hta⟩ : ∃ ta, ta = TA.length := ⟨_, rfl⟩
  rw [← hta] at hla
  have HTAL := Lib.hid hta
  obtain ⟨tb, htb⟩ : ∃ tb, tb = TB.length := ⟨_, rfl⟩
  rw [← htb] at hlb
  have HTBL := Lib.hid htb
  have hsz := hL.size
  clear hL hr hs hn hk hd hjn hrl2 hta htb
  go_enter Tryd.func9, Tryd.ntmps9
  go_wp2_with fail
  refine HF.out.mono ?_
  rintro e w1 ⟨rfl, hb1⟩
  have HB1 := Lib.hid hb1
  clear hb1 HF
  go_wp2_with fail
  refine (HRN.out w1 ((HS.out.below HB1.out).more HB1.out.size)).mono ?_
  rintro e w2 ⟨v2, rfl, ho2, hb2⟩
  rw [← HRL.out] at ho2
  obtain ⟨A2, c2, rfl, _, _, hr2⟩ := own_form ho2
  have HB2 := Lib.hid (HB1.out.trans (hb2.mono HB1.out.size))
  have HR2 := Lib.hid hr2
  have hs2 := HB2.out.size
  clear ho2 hr2 hb2 HRN
  by_cases hrr : 0 < rl
  · obtain ⟨x, t, hxt⟩ : ∃ x t, R = x :: t := by
      cases R with
      | nil => have := HRL.out; simp at this; omega
      | cons x t => exact ⟨x, t, rfl⟩
    obtain ⟨b, o, rfl, hbl⟩ := HR2.out.form (by rw [nums_len, ← HRL.out]; exact hrr)
    have hx2 : w2.cell? ⟨b, o, none⟩ = some (.int .i32 x) := by
      have h := HR2.out.num (k := 0) (by rw [← HRL.out]; exact hrr)
      simp only [Nat.add_zero] at h
      rw [h]
      subst hxt
      rfl
    have hd1 : decide (0 < rl) = true := decide_eq_true hrr
    have hd2 : decide ((0 : Int) < (rl : Int)) = true := decide_eq_true (by omega)
    cases hop : opn x with
    | false =>
      have HOPN := Lib.hid (fun u : World => ropens_any x u)
      rw [hop] at HOPN
      clear hop hxt HJ
      go_wp2_with (first
        | (at_builtin; refine wpList_append_rd _ rfl (.tmp 10) (.tmp 11) _ rfl w2.heap.size 5 i0 _ 1 1 Tryd.underlying22 hi hz0 hz1 hz2 rfl (by decide) (.slice (some ⟨w2.heap.size, 0, none⟩) 0 0) 0 [] rfl (own_mt w2 w2.heap.size w2.heap.size (Nat.le_refl _) rfl) w.heap.size A n c (bys l) rfl (by rw [bys_len, HN.out, Nat.mul_one]) ((HR.out.below HB2.out).alloc hs2 _) (bys_one _) (by unfold maxLen; omega) (by omega) (by simp) ?_; intro v3 w3 hown3 hgr3 hat3; simp only [Nat.zero_add, List.nil_append] at hown3; obtain ⟨A3, c3, rfl, _⟩ := own_form hown3; have hs3 := hgr3.size; have HO3 := Lib.hid hown3; have HB23 := Lib.hid (((Below.refl w2.heap.size w2).alloc (Nat.le_refl _) (.cells #[] 5)).grown hgr3 (by simp) (fun g hg => by injection hg with hg; simp at hg; omega)); clear hown3 hgr3 hat3)
        | (at_builtin; refine wpList_append_rd _ rfl (.tmp 12) (.tmp 13) _ rfl w2.heap.size 5 i0 _ 1 1 Tryd.underlying22 hi hz0 hz1 hz2 rfl (by decide) (.slice A3 n c3) n (bys l) rfl (HO3.out.alloc _) _ (some ⟨w3.heap.size, 0, none⟩) 1 1 [.int .u8 120] rfl rfl (Utf.rd_new _ _ [.int .u8 120] _ rfl) (by simp [Value.oneCell']) (by unfold maxLen; omega) (by omega) (by simp at hs3 ⊢; omega) ?_; intro v4 w4 hown4 hgr4 hat4; have hown4' : w4.ownsRow w2.heap.size 5 1 v4 (n + 1) (bys (l ++ [120])) := (by rw [bys_append]; exact hown4); obtain ⟨A4, c4, rfl, hc4, hcm4, hr4⟩ := own_form hown4'; have HB24 := Lib.hid ((HB23.out.alloc (by simp at hs3; omega) (.cells #[.int .u8 120] 5)).grown hgr4 (by simp at hs3 ⊢; omega) (fun g hg => (HO3.out.lt g hg).1)); have HR4 := Lib.hid hr4; have HC4 := Lib.hid hc4; have hx4 : w4.cell? ⟨b, o, none⟩ = some (.int .i32 x) := (HB24.out.cell (p := ⟨b, o, none⟩) hbl).trans hx2; clear hown4 hown4' hgr4 hat4 hr4 hc4)
        | (go_at_call 28; refine (HOPN.out w4).mono ?_; rintro e w5 ⟨rfl, hb5⟩; have HB25 := Lib.hid (HB24.out.trans (hb5.mono HB24.out.size)); clear hb5))
      go_ret
      exact ⟨rfl, HB2.out.trans (HB25.out.mono HB2.out.size)⟩
    | true =>
      have HOPN := Lib.hid (fun u : World => ropens_any x u)
      rw [hop] at HOPN
      have HJX := Lib.hid (HJ.out (fun r t' h => by rw [hxt] at h; injection h with h1 _; rw [← h1]; exact hop))
      clear hop hxt HJ
      go_wp2_with (first
        | (at_builtin; refine wpList_append_rd _ rfl (.tmp 10) (.tmp 11) _ rfl w2.heap.size 5 i0 _ 1 1 Tryd.underlying22 hi hz0 hz1 hz2 rfl (by decide) (.slice (some ⟨w2.heap.size, 0, none⟩) 0 0) 0 [] rfl (own_mt w2 w2.heap.size w2.heap.size (Nat.le_refl _) rfl) w.heap.size A n c (bys l) rfl (by rw [bys_len, HN.out, Nat.mul_one]) ((HR.out.below HB2.out).alloc hs2 _) (bys_one _) (by unfold maxLen; omega) (by omega) (by simp) ?_; intro v3 w3 hown3 hgr3 hat3; simp only [Nat.zero_add, List.nil_append] at hown3; obtain ⟨A3, c3, rfl, _⟩ := own_form hown3; have hs3 := hgr3.size; have HO3 := Lib.hid hown3; have HB23 := Lib.hid (((Below.refl w2.heap.size w2).alloc (Nat.le_refl _) (.cells #[] 5)).grown hgr3 (by simp) (fun g hg => by injection hg with hg; simp at hg; omega)); clear hown3 hgr3 hat3)
        | (at_builtin; refine wpList_append_rd _ rfl (.tmp 12) (.tmp 13) _ rfl w2.heap.size 5 i0 _ 1 1 Tryd.underlying22 hi hz0 hz1 hz2 rfl (by decide) (.slice A3 n c3) n (bys l) rfl (HO3.out.alloc _) _ (some ⟨w3.heap.size, 0, none⟩) 1 1 [.int .u8 120] rfl rfl (Utf.rd_new _ _ [.int .u8 120] _ rfl) (by simp [Value.oneCell']) (by unfold maxLen; omega) (by omega) (by simp at hs3 ⊢; omega) ?_; intro v4 w4 hown4 hgr4 hat4; have hown4' : w4.ownsRow w2.heap.size 5 1 v4 (n + 1) (bys (l ++ [120])) := (by rw [bys_append]; exact hown4); obtain ⟨A4, c4, rfl, hc4, hcm4, hr4⟩ := own_form hown4'; have HB24 := Lib.hid ((HB23.out.alloc (by simp at hs3; omega) (.cells #[.int .u8 120] 5)).grown hgr4 (by simp at hs3 ⊢; omega) (fun g hg => (HO3.out.lt g hg).1)); have HR4 := Lib.hid hr4; have HC4 := Lib.hid hc4; have hx4 : w4.cell? ⟨b, o, none⟩ = some (.int .i32 x) := (HB24.out.cell (p := ⟨b, o, none⟩) hbl).trans hx2; clear hown4 hown4' hgr4 hat4 hr4 hc4)
        | (go_at_call 28; refine (HOPN.out w4).mono ?_; rintro e w5 ⟨rfl, hb5⟩; have HB25 := Lib.hid (HB24.out.trans (hb5.mono HB24.out.size)); have HBW := Lib.hid (HB2.out.trans (HB25.out.mono HB2.out.size)); have R4Z := Lib.hid ((HR4.out.below hb5).more hb5.size); clear hb5)
        | (at_builtin; refine wpList_append_rd _ rfl (.tmp 25) (.tmp 26) _ rfl w5.heap.size 5 i0 _ 1 1 Tryd.underlying22 hi hz0 hz1 hz2 rfl (by decide) (.slice (some ⟨w5.heap.size, 0, none⟩) 0 0) 0 [] rfl (own_mt w5 w5.heap.size w5.heap.size (Nat.le_refl _) rfl) w5.heap.size A4 (n + 1) c4 (bys (l ++ [120])) rfl (by rw [bys_len, List.length_append, HN.out, List.length_singleton, Nat.mul_one]) (R4Z.out.alloc (Nat.le_refl _) _) (bys_one _) (by unfold maxLen; omega) (by omega) (by simp) ?_; intro v6 w6 hown6 hgr6 hat6; simp only [Nat.zero_add, List.nil_append] at hown6; obtain ⟨A6, c6, rfl, _⟩ := own_form hown6; have HO6 := Lib.hid hown6; have HB6 := Lib.hid (((Below.refl w5.heap.size w5).alloc (Nat.le_refl _) (.cells #[] 5)).grown hgr6 (by simp) (fun g hg => by injection hg with hg; simp at hg; omega)); clear hown6 hgr6 hat6)
        | (at_builtin; refine wpList_append_rd _ rfl (.tmp 27) (.tmp 28) _ rfl w5.heap.size 5 i0 _ 1 1 Tryd.underlying22 hi hz0 hz1 hz2 rfl (by decide) (.slice A6 (n + 1) c6) (n + 1) (bys (l ++ [120])) rfl HO6.out w.heap.size B k d (bys m) rfl (by rw [bys_len, HK.out, Nat.mul_one]) (HS.out.below (HBW.out.trans (HB6.out.mono HBW.out.size))) (bys_one _) (by unfold maxLen; omega) (by omega) HB6.out.size ?_; intro v7 w7 hown7 hgr7 hat7; have hown7' : w7.ownsRow w5.heap.size 5 1 v7 (n + 1 + k) (bys (l ++ [120] ++ m)) := (by rw [bys_append]; exact hown7); obtain ⟨A7, c7, rfl, hc7, hcm7, hr7⟩ := own_form hown7'; have HB7 := Lib.hid (HB6.out.grown hgr7 HB6.out.size (fun g hg => (HO6.out.lt g hg).1)); have HR7 := Lib.hid hr7; have HC7 := Lib.hid hc7; clear hown7 hown7' hgr7 hat7 hr7 hc7))
      have HBW7 := Lib.hid (HBW.out.trans (HB7.out.mono HBW.out.size))
      refine (HTC.out A7 c7 HC7.out hcm7 w7 (HL.out.next HBW7.out) HR7.out).mono ?_
      rintro e w8 ⟨v8, rfl, ho8, hb8⟩
      rw [HJX.out, List.length_append, ← HTAL.out, ← HTBL.out] at ho8
      obtain ⟨A8, c8, rfl, _, _, hr8⟩ := own_form ho8
      have HB8 := Lib.hid (HBW7.out.trans (hb8.mono HBW7.out.size))
      have R48 := Lib.hid ((R4Z.out.below (HB7.out.trans (hb8.mono HB7.out.size))).more (Nat.le_trans HB7.out.size hb8.size))
      have HR8 := Lib.hid hr8
      clear ho8 hr8 hb8
      go_wp2_with fail
      refine (HTA.out A4 c4 HC4.out hcm4 w8 (HL.out.next HB8.out) R48.out).mono ?_
      rintro e w9 ⟨v9, rfl, ho9, hb9⟩
      rw [← HTAL.out] at ho9
      obtain ⟨A9, c9, rfl, _⟩ := own_form ho9
      have HB9 := Lib.hid (HB8.out.trans (hb9.mono HB8.out.size))
      have HO9 := Lib.hid ho9
      have H89 := Lib.hid hb9
      clear ho9 hb9
      go_wp2_with fail
      refine (HTB.out w9 (HL.out.next HB9.out) ((HS.out.below HB9.out).more HB9.out.size)).mono ?_
      rintro e w10 ⟨v10, rfl, ho10, hb10⟩
      rw [← HTBL.out] at ho10
      obtain ⟨A10, c10, rfl, _, _, hr10⟩ := own_form ho10
      have H810 := Lib.hid (H89.out.trans (hb10.mono H89.out.size))
      have HO910 := Lib.hid (Ucd.own_below HO9.out hb10)
      have HR10 := Lib.hid hr10
      have hs810 := H810.out.size
      clear ho10 hr10 hb10
      go_wp2_with (at_builtin; refine wpList_append_rd _ rfl (.tmp 32) (.tmp 34) _ rfl w8.heap.size 9 i1 _ 1 16 Tryd.underlying30 hi' hy0 hy1 hy2 rfl (by decide) (.slice A9 ta c9) ta (strs TA) rfl HO910.out _ A10 tb c10 (strs TB) rfl (by rw [strs_len, ← HTBL.out, Nat.mul_one]) HR10.out (strs_one _) (by unfold maxLen; omega) (by omega) hs810 ?_; intro v11 w11 hown11 hgr11 hat11; have hown11' : w11.ownsRow w8.heap.size 9 1 v11 (ta + tb) (strs (TA ++ TB)) := (by rw [strs_append]; exact hown11); obtain ⟨A11, c11, rfl, _, _, hr11⟩ := own_form hown11'; have H811 := Lib.hid (H810.out.grown hgr11 hs810 (fun g hg => (HO910.out.lt g hg).1)); have HR11 := Lib.hid hr11; clear hown11 hown11' hgr11 hat11 hr11)
      have HB11 := Lib.hid (HB8.out.trans (H811.out.mono HB8.out.size))
      have HR811 := Lib.hid ((HR8.out.below H811.out).more H811.out.size)
      refine (sameTexts_any A8 A11 (TA ++ TB) (TA ++ TB) (ta + tb) (ta + tb) c8 c11 w11 HR811.out HR11.out (by rw [List.length_append, ← HTAL.out, ← HTBL.out]) (by rw [List.length_append, ← HTAL.out, ← HTBL.out]) (by omega) (by omega)).mono ?_
      rintro e w12 ⟨rfl, k12, hw12⟩
      have HB12 := Lib.hid (show Below w.heap.size w w12 by rw [hw12]; exact below_drewN HB11.out k12)
      rw [show sameB (TA ++ TB) (TA ++ TB) = true from decide_eq_true rfl]
      clear hw12
      go_wp2_with fail
      go_ret
      exact ⟨rfl, HB12.out⟩
  · have hR0 : R = [] := by
      cases R with
      | nil => rfl
      | cons x t => have := HRL.out; simp at this; omega
    have hd1 : decide (0 < rl) = false := decide_eq_false hrr
    have hd2 : decide ((0 : Int) < (rl : Int)) = false := decide_eq_false (by omega)
    have HJX := Lib.hid (HJ.out (fun r t' h => by rw [hR0] at h; cases h))
    clear hR0 HJ
    go_wp2_with (first
      | (at_builtin; refine wpList_append_rd _ rfl (.tmp 10) (.tmp 11) _ rfl w2.heap.size 5 i0 _ 1 1 Tryd.underlying22 hi hz0 hz1 hz2 rfl (by decide) (.slice (some ⟨w2.heap.size, 0, none⟩) 0 0) 0 [] rfl (own_mt w2 w2.heap.size w2.heap.size (Nat.le_refl _) rfl) w.heap.size A n c (bys l) rfl (by rw [bys_len, HN.out, Nat.mul_one]) ((HR.out.below HB2.out).alloc hs2 _) (bys_one _) (by unfold maxLen; omega) (by omega) (by simp) ?_; intro v3 w3 hown3 hgr3 hat3; simp only [Nat.zero_add, List.nil_append] at hown3; obtain ⟨A3, c3, rfl, _⟩ := own_form hown3; have hs3 := hgr3.size; have HO3 := Lib.hid hown3; have HB23 := Lib.hid (((Below.refl w2.heap.size w2).alloc (Nat.le_refl _) (.cells #[] 5)).grown hgr3 (by simp) (fun g hg => by injection hg with hg; simp at hg; omega)); clear hown3 hgr3 hat3)
      | (at_builtin; refine wpList_append_rd _ rfl (.tmp 12) (.tmp 13) _ rfl w2.heap.size 5 i0 _ 1 1 Tryd.underlying22 hi hz0 hz1 hz2 rfl (by decide) (.slice A3 n c3) n (bys l) rfl (HO3.out.alloc _) _ (some ⟨w3.heap.size, 0, none⟩) 1 1 [.int .u8 120] rfl rfl (Utf.rd_new _ _ [.int .u8 120] _ rfl) (by simp [Value.oneCell']) (by unfold maxLen; omega) (by omega) (by simp at hs3 ⊢; omega) ?_; intro v4 w4 hown4 hgr4 hat4; have hown4' : w4.ownsRow w2.heap.size 5 1 v4 (n + 1) (bys (l ++ [120])) := (by rw [bys_append]; exact hown4); obtain ⟨A4, c4, rfl, hc4, hcm4, hr4⟩ := own_form hown4'; have HB24 := Lib.hid ((HB23.out.alloc (by simp at hs3; omega) (.cells #[.int .u8 120] 5)).grown hgr4 (by simp at hs3 ⊢; omega) (fun g hg => (HO3.out.lt g hg).1)); have HR4 := Lib.hid hr4; have HC4 := Lib.hid hc4; have HBW := Lib.hid (HB2.out.trans (HB24.out.mono HB2.out.size)); have R4Z := Lib.hid HR4.out; clear hown4 hown4' hgr4 hat4 hr4 hc4)
      | (at_builtin; refine wpList_append_rd _ rfl (.tmp 25) (.tmp 26) _ rfl w4.heap.size 5 i0 _ 1 1 Tryd.underlying22 hi hz0 hz1 hz2 rfl (by decide) (.slice (some ⟨w4.heap.size, 0, none⟩) 0 0) 0 [] rfl (own_mt w4 w4.heap.size w4.heap.size (Nat.le_refl _) rfl) w4.heap.size A4 (n + 1) c4 (bys (l ++ [120])) rfl (by rw [bys_len, List.length_append, HN.out, List.length_singleton, Nat.mul_one]) (R4Z.out.alloc (Nat.le_refl _) _) (bys_one _) (by unfold maxLen; omega) (by omega) (by simp) ?_; intro v6 w6 hown6 hgr6 hat6; simp only [Nat.zero_add, List.nil_append] at hown6; obtain ⟨A6, c6, rfl, _⟩ := own_form hown6; have HO6 := Lib.hid hown6; have HB6 := Lib.hid (((Below.refl w4.heap.size w4).alloc (Nat.le_refl _) (.cells #[] 5)).grown hgr6 (by simp) (fun g hg => by injection hg with hg; simp at hg; omega)); clear hown6 hgr6 hat6)
      | (at_builtin; refine wpList_append_rd _ rfl (.tmp 27) (.tmp 28) _ rfl w4.heap.size 5 i0 _ 1 1 Tryd.underlying22 hi hz0 hz1 hz2 rfl (by decide) (.slice A6 (n + 1) c6) (n + 1) (bys (l ++ [120])) rfl HO6.out w.heap.size B k d (bys m) rfl (by rw [bys_len, HK.out, Nat.mul_one]) (HS.out.below (HBW.out.trans (HB6.out.mono HBW.out.size))) (bys_one _) (by unfold maxLen; omega) (by omega) HB6.out.size ?_; intro v7 w7 hown7 hgr7 hat7; have hown7' : w7.ownsRow w4.heap.size 5 1 v7 (n + 1 + k) (bys (l ++ [120] ++ m)) := (by rw [bys_append]; exact hown7); obtain ⟨A7, c7, rfl, hc7, hcm7, hr7⟩ := own_form hown7'; have HB7 := Lib.hid (HB6.out.grown hgr7 HB6.out.size (fun g hg => (HO6.out.lt g hg).1)); have HR7 := Lib.hid hr7; have HC7 := Lib.hid hc7; clear hown7 hown7' hgr7 hat7 hr7 hc7))
    have HBW7 := Lib.hid (HBW.out.trans (HB7.out.mono HBW.out.size))
    refine (HTC.out A7 c7 HC7.out hcm7 w7 (HL.out.next HBW7.out) HR7.out).mono ?_
    rintro e w8 ⟨v8, rfl, ho8, hb8⟩
    rw [HJX.out, List.length_append, ← HTAL.out, ← HTBL.out] at ho8
    obtain ⟨A8, c8, rfl, _, _, hr8⟩ := own_form ho8
    have HB8 := Lib.hid (HBW7.out.trans (hb8.mono HBW7.out.size))
    have R48 := Lib.hid ((R4Z.out.below (HB7.out.trans (hb8.mono HB7.out.size))).more (Nat.le_trans HB7.out.size hb8.size))
    have HR8 := Lib.hid hr8
    clear ho8 hr8 hb8
    go_wp2_with fail
    refine (HTA.out A4 c4 HC4.out hcm4 w8 (HL.out.next HB8.out) R48.out).mono ?_
    rintro e w9 ⟨v9, rfl, ho9, hb9⟩
    rw [← HTAL.out] at ho9
    obtain ⟨A9, c9, rfl, _⟩ := own_form ho9
    have HB9 := Lib.hid (HB8.out.trans (hb9.mono HB8.out.size))
    have HO9 := Lib.hid ho9
    have H89 := Lib.hid hb9
    clear ho9 hb9
    go_wp2_with fail
    refine (HTB.out w9 (HL.out.next HB9.out) ((HS.out.below HB9.out).more HB9.out.size)).mono ?_
    rintro e w10 ⟨v10, rfl, ho10, hb10⟩
    rw [← HTBL.out] at ho10
    obtain ⟨A10, c10, rfl, _, _, hr10⟩ := own_form ho10
    have H810 := Lib.hid (H89.out.trans (hb10.mono H89.out.size))
    have HO910 := Lib.hid (Ucd.own_below HO9.out hb10)
    have HR10 := Lib.hid hr10
    have hs810 := H810.out.size
    clear ho10 hr10 hb10
    go_wp2_with (at_builtin; refine wpList_append_rd _ rfl (.tmp 32) (.tmp 34) _ rfl w8.heap.size 9 i1 _ 1 16 Tryd.underlying30 hi' hy0 hy1 hy2 rfl (by decide) (.slice A9 ta c9) ta (strs TA) rfl HO910.out _ A10 tb c10 (strs TB) rfl (by rw [strs_len, ← HTBL.out, Nat.mul_one]) HR10.out (strs_one _) (by unfold maxLen; omega) (by omega) hs810 ?_; intro v11 w11 hown11 hgr11 hat11; have hown11' : w11.ownsRow w8.heap.size 9 1 v11 (ta + tb) (strs (TA ++ TB)) := (by rw [strs_append]; exact hown11); obtain ⟨A11, c11, rfl, _, _, hr11⟩ := own_form hown11'; have H811 := Lib.hid (H810.out.grown hgr11 hs810 (fun g hg => (HO910.out.lt g hg).1)); have HR11 := Lib.hid hr11; clear hown11 hown11' hgr11 hat11 hr11)
    have HB11 := Lib.hid (HB8.out.trans (H811.out.mono HB8.out.size))
    have HR811 := Lib.hid ((HR8.out.below H811.out).more H811.out.size)
    refine (sameTexts_any A8 A11 (TA ++ TB) (TA ++ TB) (ta + tb) (ta + tb) c8 c11 w11 HR811.out HR11.out (by rw [List.length_append, ← HTAL.out, ← HTBL.out]) (by rw [List.length_append, ← HTAL.out, ← HTBL.out]) (by omega) (by omega)).mono ?_
    rintro e w12 ⟨rfl, k12, hw12⟩
    have HB12 := Lib.hid (show Below w.heap.size w w12 by rw [hw12]; exact below_drewN HB11.out k12)
    rw [show sameB (TA ++ TB) (TA ++ TB) = true from decide_eq_true rfl]
    clear hw12
    go_wp2_with fail
    go_ret
    exact ⟨rfl, HB12.out⟩

set_option maxRecDepth 100000 in
theorem contract (H : Type) (enc : TypeId × Value → H) (W : World) (base : Nat) (args : Array Value) (ds gs : List (DataW H)) (before : List MemPlace)
    (hval : ∀ (j : Nat) t v, Tryd.f9.params[j]? = some t → args[j]? = some v → Value.okWide Tryd.prog W .any base t v)
    (hW : DataW.Whole enc Tryd.prog Tryd.f9.params.toList Rows.segJoinsSpec.vars false W args.toList ds gs before) (hLL : laidMetH Tryd.prog Rows.segJoinsUptoRow.laid W) (hk : Rows.uptoSmall H (ds ++ gs) = true) :
    Calls Tryd.prog 9 args W fun e W' => ∃ v, e = .returned v ∧ Rows.segJoinsSpec.post enc Tryd.prog Tryd.f9 false true false false W args v W' := by
  have hL : Laid W := laid_of hLL
  have hW' := hW
  obtain ⟨p, q, hA0, hV, rfl, hfz, hnd⟩ := hW
  have hA : DataW.TrodAll enc Tryd.prog W 0 (fun _ => true) true Tryd.f9.params.toList args.toList ds p := hA0
  rw [Tryd.params9] at hA hval
  obtain ⟨v0, vs0, d0, ds0, p0, q0, hargs, rfl, rfl, h0, r0⟩ := trodAll_cons hA
  obtain ⟨v1, vs1, d1, ds1, p1, q1, rfl, rfl, rfl, h1, r1⟩ := trodAll_cons r0
  obtain ⟨rfl, rfl, rfl⟩ := trodAll_nil r1
  obtain rfl : args = #[v0, v1] := by cases args; simp_all
  obtain ⟨rfl, rfl⟩ := trodVars_none hV
  obtain ⟨a0, len0, cap0, rfl⟩ := okWide_slice Tryd.underlying22 (hval 0 22 v0 rfl rfl)
  have k0 := h0
  have lt0 : ∀ x ∈ p0, x.block < W.heap.size := by obtain ⟨m, hm⟩ := k0; exact DataW.trod_lt m _ _ _ hm
  obtain ⟨l0, hl0, hc0, hm0, hr0, hb0⟩ := open_bytes h0
  obtain ⟨a1, len1, cap1, rfl⟩ := okWide_slice Tryd.underlying22 (hval 1 22 v1 rfl rfl)
  have k1 := h1
  have lt1 : ∀ x ∈ p1, x.block < W.heap.size := by obtain ⟨m, hm⟩ := k1; exact DataW.trod_lt m _ _ _ hm
  obtain ⟨l1, hl1, hc1, hm1, hr1, hb1⟩ := open_bytes h1
  have hbd := bulk_bound hk
  simp only [List.append_nil, Rows.uptoBulkAll] at hbd
  clear hA0
  refine (walk a0 l0 len0 cap0 a1 l1 len1 cap1 W hL hr0 hl0 hr1 hl1 hc1 hm1 (by omega)).mono fun e W' ⟨he, bel⟩ => ?_
  subst he
  exact ⟨_, rfl, _, _, _, [], _, [], hW', trodAll_mk1 (shut_bool Tryd.underlying4 _), (trodAll_cons_mk (Below.trod laidOut (by kernel_rfl) (of_decide_eq_true (by kernel_rfl)) k0 bel lt0) (trodAll_cons_mk (Below.trod laidOut (by kernel_rfl) (of_decide_eq_true (by kernel_rfl)) k1 bel lt1) trodAll_mk0)), rfl, bel.frame _, fun h => by cases h⟩

set_option maxRecDepth 100000 in
theorem laid_met (os : Os) : laidMet Tryd.prog Rows.segJoinsUptoRow.laid ((laidWorld os).forCall (fun _ _ => 0) ⟨#[], #[.slice none 0 0, .slice none 0 0], []⟩).memory :=
  laidMet_of_run' 8 (by kernel_rfl) (by kernel_rfl)
set_option maxRecDepth 100000 in
theorem reads (os : Os) {H : Type} (enc : TypeId × Value → H) : ∃ places, DataW.whole enc Tryd.prog ((laidWorld os).forCall (fun _ _ => 0) ⟨#[], #[.slice none 0 0, .slice none 0 0], []⟩).memory Tryd.f9.params.toList Rows.segJoinsSpec.vars false (#[.slice none 0 0, .slice none 0 0] : Array Value).toList 8 = some ([.nil, .nil], [], places) :=
  ⟨[], by kernel_rfl⟩

set_option maxRecDepth 100000 in
theorem lifted (os : Os) (started : os.Started) (H : Type) (enc : TypeId × Value → H) (F : Stop.Interp) :
    ReturnsInHanded {} Tryd.checked os 9 .any ((Rows.OpenSpec.upto Rows.segJoinsSpec).preRow enc Tryd.prog Tryd.f9 Rows.segJoinsUptoRow.domain false Rows.segJoinsUptoRow.laid) (((Rows.OpenSpec.upto Rows.segJoinsSpec).at F).post enc Tryd.prog Tryd.f9 false true false false) := by
  obtain ⟨places, hx⟩ := reads os enc
  refine returnsInHanded_of_row (C := Tryd.checked) (s := Rows.OpenSpec.upto Rows.segJoinsSpec) own started (by kernel_rfl) Tryd.func9
    (witness_row_at (enc := enc) (C := Tryd.checked) false (laidWorld os) #[.slice none 0 0, .slice none 0 0] rfl (by kernel_rfl) (by kernel_rfl) (by kernel_rfl)
      (OpenSpec.preRow_of_cond 8 hx (by kernel_rfl) (fun k hk => by cases hk; kernel_rfl) (by kernel_rfl) (laid_met os))) ?_
  intro W base args ds gs before hval hW _ hcond _ hL _ _
  exact contract H enc W base args ds gs before hval hW hL (hcond _ rfl)

set_option maxRecDepth 100000 in
theorem said : Rows.SegJoinsUptoSaid :=
  OpenClaim.holds_of_cond 9 Tryd.f9 rfl rfl rfl rfl rfl rfl rfl ⟨rfl, rfl, rfl, rfl, rfl⟩ rfl rfl rfl rfl rfl (by kernel_rfl) Tryd.func9 (by kernel_rfl)
    (of_decide_eq_true (by kernel_rfl)) (by unfold Func.isWrapper; first | (rw [if_pos (by decide +kernel)]; kernel_rfl) | (rw [if_neg (by decide +kernel)]; exact ⟨rfl, rfl⟩))
    (fun os started H enc _ F => by rw [OpenClaim.pre_eq_preRow]; exact lifted os started H enc F)

set_option maxRecDepth 100000 in
/-- no parameter wants a stand-in; the program's own looks are off -/
theorem plain (f : FuncId) (fn : Func) (hf : Tryd.pinned.checked.prog.funcNamed Rows.segJoinsUptoRow.func = some f) (hfn : Tryd.pinned.checked.prog.funcs[f]? = some fn) :
    false = Tryd.pinned.checked.prog.looks [] ∧ ∀ (j : Nat) t, fn.params[j]? = some t → Tryd.pinned.checked.prog.wantsStandIn t = false := by
  obtain rfl : f = 9 := Option.some.inj ((show Tryd.prog.funcNamed Rows.segJoinsUptoRow.func = some 9 by kernel_rfl).symm.trans hf) |>.symm
  obtain rfl : fn = Tryd.f9 := (Option.some.inj (Tryd.func9.symm.trans hfn)).symm
  refine ⟨by kernel_rfl, fun j t ht => ?_⟩
  rw [Tryd.params9] at ht
  have hm := Array.mem_of_getElem? ht
  simp only [List.mem_toArray, List.mem_cons, List.not_mem_nil, or_false] at hm
  rcases hm with rfl | rfl
  all_goals first | exact (show Tryd.prog.wantsStandIn 22 = false by kernel_rfl)

set_option maxRecDepth 100000 in
/-- THE STATEMENT -/
theorem proved : Rows.SegJoinsUptoCardSaid :=
  Claim7.holds_tied_plain_at .later [] _ _ _ _ said (fun _ h => by cases h) (by kernel_rfl) (fun _ h => by cases h) segJoinsUpto_row_tie rfl ⟨rfl, rfl⟩ (by kernel_rfl) rfl plain (by kernel_rfl)
end Go.Proofs.YtkloohgajfodgaaDoor.LawSegJoins
