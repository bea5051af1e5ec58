/-
  Whatever numbers and bytes there are (the arguments of bulk at most 1048576): code points are read back from their bytes; the widths fill the bytes; what was well-formed is written as it was. Conditions: the given bound on the arguments' bulk.
-/
import Derived.Test.YtginlfofijbpjaaUtfOpen
import Derived.Test.YtginlfofijbpjaaUtfMath3
import Derived.Deep.RegionHeld3
import Derived.BigQuiet
namespace Go.Proofs.Ytginlfofijbpjaa.LawUtfBack
open Go.ChangeShapes Go.WideShapes Go.ChangeAt Go.RowKit Utf

theorem below_of_drew {B : Nat} {u v : World} (h : Below B u.drew v) : Below B u v := ⟨h.os, h.tape, h.output, h.size, h.block⟩
theorem valid_q (r : Int) (b : Bool) (h : vld r = b) (w : World) : Calls Try.prog 14 #[.int .i32 r] w fun e w' => e = .returned (.bool b) ∧ w' = w :=
  (valid_any r w).mono fun e w' ⟨he, hw⟩ => ⟨by rw [he, h], hw.symm⟩

theorem str_eq (pc : List UInt8) : ((⟨pc.toArray⟩ : ByteArray).toList == [239, 191, 189]) = decide (pc = bad3) := by
  rw [ByteArray.toList_mk, Bool.eq_iff_iff, decide_eq_true_eq, beq_iff_eq]; rfl
theorem str_same (x y : List UInt8) : ((⟨x.toArray⟩ : ByteArray).toList == (⟨y.toArray⟩ : ByteArray).toList) = decide (x = y) := by
  rw [ByteArray.toList_mk, ByteArray.toList_mk, Bool.eq_iff_iff]; simp
set_option maxRecDepth 100000 in
set_option maxHeartbeats 8000000 in
theorem walk (A : Option Addr) (l : List Int) (n c : Nat) (B : Option Addr) (b : List UInt8) (m d : Nat) (w : World) (hr : Rd w w.heap.size A (nums l)) (hn : l.length = n)
    (hs : Rd w w.heap.size B (bys b)) (hm : b.length = m) (hd : m ≤ d) (hdm : d ≤ 9223372036854775807) (hb : n ≤ 1048576) (hb2 : m ≤ 1048576) :
    Calls Try.prog 6 #[.slice A n c, .slice B m d] w (Law w) := by
  obtain ⟨i0, hi, hz0, hz1, hz2⟩ := info_parts infoI32
  obtain ⟨hd1, hd2⟩ := dec_enc l 0
  have hel := enc_le l
  rw [hn] at hd1 hel
  obtain ⟨P, hP⟩ : ∃ P, P = dec false 0 (enc l) := ⟨_, rfl⟩
  obtain ⟨L, hL⟩ : ∃ L, L = enc l := ⟨_, rfl⟩
  obtain ⟨lL, hlL⟩ : ∃ k, L.length = k := ⟨_, rfl⟩
  rw [← hP] at hd1 hd2
  rw [← hL, hlL] at hel
  have HP := Lib.hid hP; have HL := Lib.hid hL; have HLL := Lib.hid hlL; have HD1 := Lib.hid hd1; have HD2 := Lib.hid hd2; have HN := Lib.hid hn; have HM := Lib.hid hm
  clear hP hL hlL hd1 hd2 hn hm
  obtain ⟨H, hH⟩ : ∃ H, H = w.heap.size := ⟨_, rfl⟩
  rw [← hH] at hr hs
  have HH := Lib.hid hH
  clear hH
  go_enter Try.func6, Try.ntmps6
  go_wp2_with fail
  refine (fixed_any _).mono ?_
  rintro e w1 hf
  obtain ⟨rfl, hb1⟩ := hf.out
  rw [← HH.out] at hb1
  have hs1 : H ≤ w1.heap.size := by have := hb1.size; rw [HH.out]; exact this
  clear hf
  go_wp2_with fail
  refine (encode_any A l n c w1 ((hr.below hb1).more hs1) HN.out (by omega)).mono ?_
  rintro e w2 ⟨v2, rfl, hown2, hb2'⟩
  rw [← HL.out, HLL.out] at hown2
  obtain ⟨A2, c2, rfl, hc2, hcm2, hr2⟩ := own_form hown2
  have hbw2 : Below H w w2 := hb1.trans (hb2'.mono hs1)
  clear hown2 hb2' hb1
  go_wp2_with fail
  refine (decode_any A2 L lL c2 w2 hr2 HLL.out hc2 hcm2 (by omega)).mono ?_
  rintro e w3 ⟨v3, rfl, hown3, hb3⟩
  have hpe : dec false 0 L = P := by rw [HP.out, HL.out]
  rw [hpe, HD1.out] at hown3
  obtain ⟨A3, c3, rfl, hc3, hcm3, hr3⟩ := own_form hown3
  have hbw3 : Below H w w3 := hbw2.trans (hb3.mono (by have := hbw2.size; rw [HH.out]; exact this))
  have hs3 : H ≤ w3.heap.size := by have := hbw3.size; rw [HH.out]; exact this
  clear hown3 hb3 hpe hr2 hbw2
  go_wp2_with fail
  go_loopw [24] (fun i wr => ∃ k : Nat, k ≤ n ∧ i = .int .i64 k ∧ Below w3.heap.size w3 wr) (fun i _ => n - (intOf i).toNat)
  case atStart => exact ⟨0, Nat.zero_le _, rfl, Below.refl _ _⟩
  case round =>
    obtain ⟨wo, rfl⟩ : ∃ wo : World, wo = wr := ⟨_, rfl⟩
    obtain ⟨k, hk, rfl, hbr⟩ := hrel
    by_cases hlt : k < n
    · have hkl : k < l.length := by rw [HN.out]; exact hlt
      have hkp : k < P.length := by rw [HD1.out]; exact hlt
      obtain ⟨b1, o1, rfl, hb1l⟩ := hr.form (by rw [nums_len]; omega)
      obtain ⟨b3, o3, rfl, hb3l⟩ := hr3.form (by rw [pts_len]; omega)
      have hcell : wo.cell? ⟨b1, o1 + k, none⟩ = some (.int .i32 l[k]) := ((hr.below hbw3).more hs3 |>.below hbr).num hkl
      have hpc : wo.cell? ⟨b3, o3 + k * 3, none⟩ = some (.int .i32 P[k].r) := ((hr3.below hbr).pt hkp).1
      have hpr : P[k].r = fix l[k] := by
        have := HD2.out k hkl
        rw [List.getElem?_eq_getElem hkp] at this
        simpa using this
      rw [hpr] at hpc
      obtain ⟨r, hr'⟩ : ∃ r, r = l[k] := ⟨_, rfl⟩
      rw [← hr'] at hcell hpc
      clear hr' hkl hkp hpr
      cases hv : vld r with
      | true =>
        obtain ⟨q, rfl, hf, hq⟩ := fix_valid hv
        rw [hf] at hpc
        have HV := Lib.hid hv
        have e1 : ((q : Int) != (q : Int)) = false := by simp
        clear hv hf hq
        go_wp2_with fail
        go_quiet (fail)
        go_wp2
        go_roundw
        case rel => exact ⟨k + 1, by omega, by go_num, below_drewN hbr _⟩
        case measure => simp [intOf]; omega
      | false =>
        rw [fix_not hv] at hpc
        have hne : ¬ r = 65533 := by rintro rfl; revert hv; decide
        have e1 : ((65533 : Int) != r) = true := by simp; exact fun h => hne h.symm
        have HV := Lib.hid hv
        clear hv hne
        go_wp2_with fail
        go_quiet ((go_at_call 14; exact Calls.quiet_of_same (valid_q r false HV.out _)))
        go_wp2
        go_roundw
        case rel => exact ⟨k + 1, by omega, by go_num, below_drewN hbr _⟩
        case measure => simp [intOf]; omega
    · have hbwo : Below H w wo := hbw3.trans (hbr.mono hs3)
      have hso : H ≤ wo.heap.size := by have := hbwo.size; rw [HH.out]; exact this
      clear hr3 hbr hbw3 hr
      go_wp2_with fail
      refine (decode_any B b m d wo ((hs.below hbwo).more hso) HM.out hd hdm (by omega)).mono ?_
      rintro e w4 ⟨v4, rfl, hown4, hb4⟩
      have hq0 := dec_len_le false b 0
      rw [HM.out] at hq0
      obtain ⟨Q, hQ⟩ : ∃ Q, Q = dec false 0 b := ⟨_, rfl⟩
      obtain ⟨N, hN⟩ : ∃ N, Q.length = N := ⟨_, rfl⟩
      rw [← hQ, hN] at hown4 hq0
      obtain ⟨A4, c4, rfl, hc4, hcm4, hr4⟩ := own_form hown4
      have hbw4 : Below H w w4 := hbwo.trans (hb4.mono hso)
      have hs4 : H ≤ w4.heap.size := by have := hbw4.size; rw [HH.out]; exact this
      have HQ := Lib.hid hQ; have HNQ := Lib.hid hN
      clear hown4 hb4 hbwo hQ hN
      go_wp2_with fail
      go_loopw [7, 8, 9, 58] (fun at_ wh rv i wr => ∃ (k a : Nat) (o : Bool) (rs : List Int), k ≤ N ∧ a ≤ m ∧ at_ = .int .i64 a ∧ wh = .bool o ∧ i = .int .i64 k ∧ wr.ownsRow w4.heap.size 21 1 rv rs.length (nums rs) ∧ rs.length ≤ k ∧
          Hid (Q.drop k = dec false a (b.drop a)) ∧ Hid (WholeB b a rs o) ∧ Below w4.heap.size w4 wr) (fun _ _ _ i _ => N - (intOf i).toNat)
      case atStart => exact ⟨0, 0, true, [], Nat.zero_le _, Nat.zero_le _, rfl, rfl, rfl, World.ownsRow_nil _ _ _ _, Nat.le_refl _, Lib.hid (by rw [List.drop_zero, List.drop_zero]; exact HQ.out), Lib.hid (whole_start b), Below.refl _ _⟩
      case round =>
        clear hk hlt
        obtain ⟨k, a, o, rs, hk, ha, rfl, rfl, rfl, hown, hrk, HDR, HW, hbr⟩ := hrel
        have hbw5 : Below H w wr := hbw4.trans (hbr.mono hs4)
        have hs5 : H ≤ wr.heap.size := by have := hbw5.size; rw [HH.out]; exact this
        have hsz := hbr.size
        by_cases hlt : k < N
        · have hkq : k < Q.length := by rw [HNQ.out]; exact hlt
          have hne : b.drop a ≠ [] := by
            intro e
            have h := HDR.out
            rw [e, dec_nil] at h
            have := congrArg List.length h
            rw [List.length_drop, HNQ.out, List.length_nil] at this
            omega
          have hst := HDR.out
          rw [dec_step false a hne (by simp), List.drop_eq_getElem_cons hkq] at hst
          injection hst with hq hst
          rw [List.drop_drop] at hst
          obtain ⟨b4, o4, rfl, hb4l⟩ := hr4.form (by rw [pts_len]; omega)
          obtain ⟨p1, p2, p3⟩ := (hr4.below hbr).pt hkq
          rw [hq] at p1 p2 p3
          simp only at p1 p2 p3
          have hpt := vld_pt (rune_pt hne)
          have hw1 := wid_pos hne
          have hw2 := wid_le (b.drop a)
          have hw4 := wid_four (b.drop a)
          rw [List.length_drop, HM.out] at hw2
          have hws := whole_step HW.out hne
          have hrl := rune_lt (b.drop a)
          obtain ⟨bb, ob, rfl, hbbl⟩ := hs.form (by rw [bys_len, HM.out]; omega)
          have hpl : ((b.drop a).take (wid (b.drop a))).length = wid (b.drop a) := by rw [List.length_take, List.length_drop, HM.out]; omega
          have hrp : Rd wr H (some ⟨bb, ob + a, none⟩) (bys ((b.drop a).take (wid (b.drop a)))) := by
            have h := ((hs.below hbw5).drop_ a).take_ (wid (b.drop a))
            rwa [bys_drop, bys_take] at h
          obtain ⟨W, hWe⟩ : ∃ W, W = wid (b.drop a) := ⟨_, rfl⟩
          obtain ⟨R, hRe⟩ : ∃ R, R = rune (b.drop a) := ⟨_, rfl⟩
          rw [← hWe] at p3 hst hw1 hw2 hw4 hws hpl hrp
          rw [← hRe] at p1 hws hrl hpt
          obtain ⟨pc, hpc⟩ : ∃ pc, pc = (b.drop a).take W := ⟨_, rfl⟩
          rw [← hpc] at hws hpl hrp
          obtain ⟨hV, _⟩ := hpt
          have hR2 : (R = 65533) ↔ ((R : Int) = 65533) := by omega
          obtain ⟨ρ, hρ⟩ : ∃ ρ : Int, ρ = (R : Int) := ⟨_, rfl⟩
          rw [← hρ] at p1 hV hR2 hws
          have hsb : ((⟨pc.toArray⟩ : ByteArray).toList == [239, 191, 189]) = decide (pc = bad3) := str_eq pc
          obtain ⟨S, hS⟩ : ∃ S : ByteArray, S = ⟨pc.toArray⟩ := ⟨_, rfl⟩
          have hcv : (convert 22 9 (.slice (some ⟨bb, ob + a, none⟩) W (d - a))).run Try.prog (wr.alloc (.cells #[.int .i32 ρ, .int .i64 a, .int .i64 W] 37)) = .ok (.string S) (wr.alloc (.cells #[.int .i32 ρ, .int .i64 a, .int .i64 W] 37)) := by
            rw [hS]; exact conv_rd (hrp.alloc hs5 _) hpl
          rw [← hS] at hsb
          have HST := Lib.hid hst; have HWS := Lib.hid hws; have HV := Lib.hid hV
          have had : a < d := by omega
          clear hWe hRe hpc hρ hS hrp hpl hq hst hws hV hne HDR HW hkq hrl
          have hcase : (o = false) ∨ (o = true ∧ ¬ ρ = 65533) ∨ (o = true ∧ ρ = 65533 ∧ pc = bad3) ∨ (o = true ∧ ρ = 65533 ∧ ¬ pc = bad3) := by
            cases o
            · exact .inl rfl
            · by_cases h1 : ρ = 65533
              · by_cases h2 : pc = bad3
                · exact .inr (.inr (.inl ⟨rfl, h1, h2⟩))
                · exact .inr (.inr (.inr ⟨rfl, h1, h2⟩))
              · exact .inr (.inl ⟨rfl, h1⟩)
          have hrl1 : rs.length + 1 ≤ 1048577 := by omega
          rcases hcase with rfl | ⟨rfl, h1⟩ | ⟨rfl, rfl, h1⟩ | ⟨rfl, rfl, h1⟩
          · have HW' : Hid (WholeB b (a + W) (rs ++ [ρ]) false) := Lib.hid (by have := HWS.out; simpa using this)
            clear HWS hsb hcv hR2
            go_wp2_with (first
              | (go_at_call 14; refine (valid_any _ _).mono ?_; rintro e w' ⟨rfl, rfl⟩; rw [HV.out])
              | (at_builtin; refine wpList_append_rd _ rfl (.tmp 103) (.tmp 106) _ rfl w4.heap.size 21 i0 _ 1 4 Try.underlying29 hi hz0 hz1 hz2 rfl (by decide) _ rs.length (nums rs) rfl ((hown.alloc _).alloc _) _ (some ⟨wr.heap.size + 1, 0, none⟩) 1 1 [.int .i32 ρ] rfl rfl (rd_new _ _ [.int .i32 ρ] _ (by simp)) (nums_one [ρ]) (by unfold maxLen; omega) (by omega) (by simp; omega) ?_; intro v6 w6 hown6 hgr6 hat6))
            go_roundw
            case rel => exact ⟨k + 1, a + W, false, rs ++ [ρ], by omega, by omega, by go_num, rfl, by go_num, by rw [nums_append, List.length_append]; exact hown6, by simp; omega, HST, HW', ((hbr.alloc hsz _).alloc (by simp; omega) _).grown hgr6 (by simp; omega) (fun g hg => (hown.lt g hg).1)⟩
            case measure => simp [intOf]; omega
          · have hR : ¬ R = 65533 := fun h => h1 (hR2.1 h)
            have HW' : Hid (WholeB b (a + W) (rs ++ [ρ]) true) := Lib.hid (by have := HWS.out; simpa [hR] using this)
            have hne1 : (ρ != 65533) = true := by simpa using h1
            clear HWS hsb hcv hR2 hR h1
            go_wp2_with (first
              | (go_at_call 14; refine (valid_any _ _).mono ?_; rintro e w' ⟨rfl, rfl⟩; rw [HV.out])
              | (at_builtin; refine wpList_append_rd _ rfl (.tmp 103) (.tmp 106) _ rfl w4.heap.size 21 i0 _ 1 4 Try.underlying29 hi hz0 hz1 hz2 rfl (by decide) _ rs.length (nums rs) rfl ((hown.alloc _).alloc _) _ (some ⟨wr.heap.size + 1, 0, none⟩) 1 1 [.int .i32 ρ] rfl rfl (rd_new _ _ [.int .i32 ρ] _ (by simp)) (nums_one [ρ]) (by unfold maxLen; omega) (by omega) (by simp; omega) ?_; intro v6 w6 hown6 hgr6 hat6))
            go_roundw
            case rel => exact ⟨k + 1, a + W, true, rs ++ [ρ], by omega, by omega, by go_num, rfl, by go_num, by rw [nums_append, List.length_append]; exact hown6, by simp; omega, HST, HW', ((hbr.alloc hsz _).alloc (by simp; omega) _).grown hgr6 (by simp; omega) (fun g hg => (hown.lt g hg).1)⟩
            case measure => simp [intOf]; omega
          · have hR : R = 65533 := hR2.2 rfl
            have HW' : Hid (WholeB b (a + W) (rs ++ [65533]) true) := Lib.hid (by have := HWS.out; simpa [hR, h1] using this)
            rw [decide_eq_true h1] at hsb
            clear HWS hR2 hR h1
            go_wp2_with (first
              | (go_at_call 14; refine (valid_any _ _).mono ?_; rintro e w' ⟨rfl, rfl⟩; rw [HV.out])
              | (at_builtin; refine wpList_append_rd _ rfl (.tmp 103) (.tmp 106) _ rfl w4.heap.size 21 i0 _ 1 4 Try.underlying29 hi hz0 hz1 hz2 rfl (by decide) _ rs.length (nums rs) rfl ((hown.alloc _).alloc _) _ (some ⟨wr.heap.size + 1, 0, none⟩) 1 1 [.int .i32 65533] rfl rfl (rd_new _ _ [.int .i32 65533] _ (by simp)) (nums_one [65533]) (by unfold maxLen; omega) (by omega) (by simp; omega) ?_; intro v6 w6 hown6 hgr6 hat6))
            go_roundw
            case rel => exact ⟨k + 1, a + W, true, rs ++ [65533], by omega, by omega, by go_num, rfl, by go_num, by rw [nums_append, List.length_append]; exact hown6, by simp; omega, HST, HW', ((hbr.alloc hsz _).alloc (by simp; omega) _).grown hgr6 (by simp; omega) (fun g hg => (hown.lt g hg).1)⟩
            case measure => simp [intOf]; omega
          · have hR : R = 65533 := hR2.2 rfl
            have HW' : Hid (WholeB b (a + W) (rs ++ [65533]) false) := Lib.hid (by have := HWS.out; simpa [hR, h1] using this)
            rw [decide_eq_false h1] at hsb
            clear HWS hR2 hR h1
            go_wp2_with (first
              | (go_at_call 14; refine (valid_any _ _).mono ?_; rintro e w' ⟨rfl, rfl⟩; rw [HV.out])
              | (at_builtin; refine wpList_append_rd _ rfl (.tmp 103) (.tmp 106) _ rfl w4.heap.size 21 i0 _ 1 4 Try.underlying29 hi hz0 hz1 hz2 rfl (by decide) _ rs.length (nums rs) rfl ((hown.alloc _).alloc _) _ (some ⟨wr.heap.size + 1, 0, none⟩) 1 1 [.int .i32 65533] rfl rfl (rd_new _ _ [.int .i32 65533] _ (by simp)) (nums_one [65533]) (by unfold maxLen; omega) (by omega) (by simp; omega) ?_; intro v6 w6 hown6 hgr6 hat6))
            go_roundw
            case rel => exact ⟨k + 1, a + W, false, rs ++ [65533], by omega, by omega, by go_num, rfl, by go_num, by rw [nums_append, List.length_append]; exact hown6, by simp; omega, HST, HW', ((hbr.alloc hsz _).alloc (by simp; omega) _).grown hgr6 (by simp; omega) (fun g hg => (hown.lt g hg).1)⟩
            case measure => simp [intOf]; omega
        · have hkn : k = N := by omega
          have ham : a = m := by
            have h := HDR.out
            rw [List.drop_eq_nil_of_le (by rw [HNQ.out]; omega)] at h
            by_cases hne : b.drop a = []
            · have := congrArg List.length hne
              rw [List.length_drop, HM.out, List.length_nil] at this
              omega
            · rw [dec_step false a hne (by simp)] at h
              cases h
          have HAM := Lib.hid ham
          have hwe := HW.out
          rw [ham, ← HM.out] at hwe
          have hwe2 := whole_end hwe
          have hse : ((⟨(enc rs).toArray⟩ : ByteArray).toList == (⟨b.toArray⟩ : ByteArray).toList) = o := by
            rw [str_same, Bool.eq_iff_iff, decide_eq_true_eq]; exact hwe2
          obtain ⟨S1, hS1⟩ : ∃ S : ByteArray, S = ⟨(enc rs).toArray⟩ := ⟨_, rfl⟩
          obtain ⟨S2, hS2⟩ : ∃ S : ByteArray, S = ⟨b.toArray⟩ := ⟨_, rfl⟩
          rw [← hS1, ← hS2] at hse
          obtain ⟨Ar, cr, rfl, hcr, hcmr, hrr⟩ := own_form hown
          have hbd5 := (hs.below hbw5)
          have hcb0 := conv_rd (n := m) (c := d) hbd5 HM.out
          have hcb1 := conv_rd (n := m) (c := d) hbd5.drew HM.out
          rw [← hS2] at hcb0 hcb1
          have heq : ((a : Int) == (m : Int)) = true := by simp; omega
          have hoo : (o == o) = true := by simp
          have HS1 := Lib.hid hS1; have HS2 := Lib.hid hS2
          have hrs : 4 * rs.length ≤ 140737488355320 := by omega
          clear hkn ham hwe hwe2 hown HW HDR hS1 hS2
          go_wp2_with fail
          refine wp_region_held_drew (S := fun w' => (convert 22 9 (.slice B m d)).run Try.prog w' = .ok (.string S2) w') (by kernel_rfl) hcb1 (fun hHeld => ?_)
          refine wpAnyH_take (i := 0) (oi := _) (v := ?_) rfl (by kernel_rfl) (by kernel_rfl) (by kernel_rfl) (fun _ _ _ h => h) (Or.inl ⟨by rfl, ?_⟩) (by assumption) ?_
          rotate_left
          · (intro w hSw; (try dsimp only at hSw); go_simp <;> with_reducible rfl)
          simp only [List.getElem_toArray, List.getElem_cons_zero, Act.put, List.setIfInBounds_toArray, List.set_cons_zero, List.set_cons_succ]
          refine wpAnyH_take (i := 1) (oi := _) (v := ?_) rfl (by kernel_rfl) (by kernel_rfl) (by kernel_rfl) (fun _ _ _ h => h) (Or.inl ⟨by rfl, ?_⟩) (by assumption) ?_
          rotate_left
          · (intro w hSw; (try dsimp only at hSw); go_simp <;> with_reducible rfl)
          simp only [List.getElem_toArray, List.getElem_cons_succ, List.getElem_cons_zero, Act.put, List.setIfInBounds_toArray, List.set_cons_zero, List.set_cons_succ]
          refine wpAnyH_take (i := 2) (oi := _) (v := ?_) rfl (by kernel_rfl) (by kernel_rfl) (by kernel_rfl) (fun _ _ _ h => h) (Or.inl ⟨by rfl, ?_⟩) (by assumption) ?_
          rotate_left
          · (intro w hSw; (try dsimp only at hSw); go_simp <;> with_reducible rfl)
          simp only [List.getElem_toArray, List.getElem_cons_succ, List.getElem_cons_zero, Act.put, List.setIfInBounds_toArray, List.set_cons_zero, List.set_cons_succ]
          refine wpAnyH_take (i := 3) (oi := _) (v := ?_) rfl (by kernel_rfl) (by kernel_rfl) (by kernel_rfl) (fun _ _ _ h => h) (Or.inl ⟨by rfl, ?_⟩) (by assumption) ?_
          rotate_left
          · (intro w hSw; (try dsimp only at hSw); go_simp <;> with_reducible rfl)
          simp only [List.getElem_toArray, List.getElem_cons_succ, List.getElem_cons_zero, Act.put, List.setIfInBounds_toArray, List.set_cons_zero, List.set_cons_succ]
          refine wpAnyH_take (i := 4) (oi := _) (v := ?_) rfl (by kernel_rfl) (by kernel_rfl) (by kernel_rfl) (fun _ _ _ h => h) (Or.inl ⟨by rfl, ?_⟩) (by assumption) ?_
          rotate_left
          · (intro w hSw; (try dsimp only at hSw); go_simp <;> with_reducible rfl)
          simp only [List.getElem_toArray, List.getElem_cons_succ, List.getElem_cons_zero, Act.put, List.setIfInBounds_toArray, List.set_cons_zero, List.set_cons_succ]
          refine wpAnyH_take (i := 5) (oi := _) (v := ?_) rfl (by kernel_rfl) (by kernel_rfl) (by kernel_rfl) (fun _ _ _ h => h) (Or.inl ⟨by rfl, ?_⟩) (by assumption) ?_
          rotate_left
          · (intro w hSw; (try dsimp only at hSw); go_simp <;> with_reducible rfl)
          simp only [List.getElem_toArray, List.getElem_cons_succ, List.getElem_cons_zero, Act.put, List.setIfInBounds_toArray, List.set_cons_zero, List.set_cons_succ]
          refine wpAnyH_take (i := 8) (oi := _) (v := ?_) rfl (by kernel_rfl) (by kernel_rfl) (by kernel_rfl) (fun _ _ _ h => h) (Or.inl ⟨by rfl, ?_⟩) (by assumption) ?_
          rotate_left
          · (intro w hSw; (try dsimp only at hSw); go_simp <;> with_reducible rfl)
          simp only [List.getElem_toArray, List.getElem_cons_succ, List.getElem_cons_zero, Act.put, List.setIfInBounds_toArray, List.set_cons_zero, List.set_cons_succ]
          refine wpAnyH_take (i := 9) (oi := _) (v := ?_) rfl (by kernel_rfl) (by kernel_rfl) (by kernel_rfl) (fun _ _ _ h => h) (Or.inl ⟨by rfl, ?_⟩) (by assumption) ?_
          rotate_left
          · (intro w hSw; (try dsimp only at hSw); go_simp <;> with_reducible rfl)
          simp only [List.getElem_toArray, List.getElem_cons_succ, List.getElem_cons_zero, Act.put, List.setIfInBounds_toArray, List.set_cons_zero, List.set_cons_succ]
          refine wpAnyH_take (i := 11) (oi := _) (v := ?_) rfl (by kernel_rfl) (by kernel_rfl) (by kernel_rfl) (fun _ _ _ h => h) (Or.inl ⟨by rfl, ?_⟩) (by assumption) ?_
          rotate_left
          · (intro w hSw; (try dsimp only at hSw); go_simp <;> with_reducible rfl)
          simp only [List.getElem_toArray, List.getElem_cons_succ, List.getElem_cons_zero, Act.put, List.setIfInBounds_toArray, List.set_cons_zero, List.set_cons_succ]
          refine wpAnyH_ready (rs := [6]) (by kernel_rfl) (by simp) (AllReadyH.cons rfl (fun K hK => ?_) AllReadyH.nil)
          go_simp
          go_at_call 16
          refine (encode_any Ar rs rs.length cr _ hrr.drew rfl hrs).mono ?_
          rintro e w6 ⟨v6, rfl, hown6, hb6⟩
          obtain ⟨A6, c6, rfl, _, _, hr6⟩ := own_form hown6
          have hcv6 := conv_rd (n := (enc rs).length) (c := c6) hr6 rfl
          have hcb6 := conv_rd (n := m) (c := d) ((hbd5.more hs5).below (below_of_drew hb6)) HM.out
          rw [← HS1.out] at hcv6
          rw [← HS2.out] at hcb6
          refine hK.out _ _ hcb6 (fun hHeld2 => ?_)
          clear hK K hHeld
          have hHeld := hHeld2
          clear hHeld2
          refine wpAnyH_ready (rs := [7]) (by kernel_rfl) (by simp) (AllReadyH.cons rfl (fun K hK => ?_) AllReadyH.nil)
          go_simp
          refine hK.out _ _ hcb6 (fun hHeld2 => ?_)
          clear hK K hHeld
          have hHeld := hHeld2
          clear hHeld2
          refine wpAnyH_take (i := 10) (oi := _) (v := ?_) rfl (by kernel_rfl) (by kernel_rfl) (by kernel_rfl) (fun _ _ _ h => h) (Or.inl ⟨by rfl, ?_⟩) (by assumption) ?_
          rotate_left
          · (intro w hSw; (try dsimp only at hSw); go_simp <;> with_reducible rfl)
          simp only [List.getElem_toArray, List.getElem_cons_succ, List.getElem_cons_zero, Act.put, List.setIfInBounds_toArray, List.set_cons_zero, List.set_cons_succ]
          refine wpAnyH_take (i := 12) (oi := _) (v := ?_) rfl (by kernel_rfl) (by kernel_rfl) (by kernel_rfl) (fun _ _ _ h => h) (Or.inl ⟨by rfl, ?_⟩) (by assumption) ?_
          rotate_left
          · (intro w hSw; (try dsimp only at hSw); go_simp <;> with_reducible rfl)
          simp only [List.getElem_toArray, List.getElem_cons_succ, List.getElem_cons_zero, Act.put, List.setIfInBounds_toArray, List.set_cons_zero, List.set_cons_succ]
          refine wpAnyH_take (i := 13) (oi := _) (v := ?_) rfl (by kernel_rfl) (by kernel_rfl) (by kernel_rfl) (fun _ _ _ h => h) (Or.inl ⟨by rfl, ?_⟩) (by assumption) ?_
          rotate_left
          · (intro w hSw; (try dsimp only at hSw); go_simp <;> with_reducible rfl)
          simp only [List.getElem_toArray, List.getElem_cons_succ, List.getElem_cons_zero, Act.put, List.setIfInBounds_toArray, List.set_cons_zero, List.set_cons_succ]
          refine wpAnyH_take (i := 14) (oi := _) (v := ?_) rfl (by kernel_rfl) (by kernel_rfl) (by kernel_rfl) (fun _ _ _ h => h) (Or.inl ⟨by rfl, ?_⟩) (by assumption) ?_
          rotate_left
          · (intro w hSw; (try dsimp only at hSw); go_simp <;> with_reducible rfl)
          simp only [List.getElem_toArray, List.getElem_cons_succ, List.getElem_cons_zero, Act.put, List.setIfInBounds_toArray, List.set_cons_zero, List.set_cons_succ]
          refine wpAnyH_done (by kernel_rfl) ?_ _
          go_wp2
          go_ret
          exact ⟨rfl, by rw [← HH.out]; exact hbw5.trans ((below_of_drew hb6).mono hs5)⟩

theorem contract (H : Type) (enc : TypeId × Value → H) (W : World) (base : Nat) (args : Array Value) (ds gs : List (DataW H)) (before : List MemPlace)
    (hval : ∀ (j : Nat) t v, Try.f6.params[j]? = some t → args[j]? = some v → Value.okWide Try.prog W .any base t v)
    (hW : DataW.Whole enc Try.prog Try.f6.params.toList Rows.utfBackSpec.vars false W args.toList ds gs before) (hk : Rows.uptoSmall H (ds ++ gs) = true) :
    Calls Try.prog 6 args W fun e W' => ∃ v, e = .returned v ∧ Rows.utfBackSpec.post enc Try.prog Try.f6 false true false false W args v W' := by
  have hW' := hW
  obtain ⟨p, q, hA0, hV, rfl, hfz, hnd⟩ := hW
  have hA : DataW.TrodAll enc Try.prog W 0 (fun _ => true) true Try.f6.params.toList args.toList ds p := hA0
  rw [Try.params6] at hA hval
  obtain ⟨v0, vs0, d0, ds0, p0, q0, hargs, rfl, rfl, h0, r0⟩ := trodAll_cons hA
  obtain ⟨v1, vs1, d1, ds1, p1, q1, rfl, rfl, rfl, h1, r1⟩ := trodAll_cons r0
  obtain ⟨rfl, rfl, rfl⟩ := trodAll_nil r1
  obtain rfl : args = #[v0, v1] := by cases args; simp_all
  obtain ⟨rfl, rfl⟩ := trodVars_none hV
  obtain ⟨a0, len0, cap0, rfl⟩ := okWide_slice Try.underlying29 (hval 0 29 v0 rfl rfl)
  have k0 := h0
  have lt0 : ∀ x ∈ p0, x.block < W.heap.size := by obtain ⟨m, hm⟩ := k0; exact DataW.trod_lt m _ _ _ hm
  obtain ⟨l0, hl0, hc0, hm0, hw0, hr0, hb0, hd0⟩ := open_nums h0
  obtain ⟨a1, len1, cap1, rfl⟩ := okWide_slice Try.underlying22 (hval 1 22 v1 rfl rfl)
  have k1 := h1
  have lt1 : ∀ x ∈ p1, x.block < W.heap.size := by obtain ⟨m, hm⟩ := k1; exact DataW.trod_lt m _ _ _ hm
  obtain ⟨l1, hl1, hc1, hm1, hr1, hb1⟩ := open_bytes h1
  have hbd := bulk_bound hk
  simp only [List.append_nil, Rows.uptoBulkAll] at hbd
  clear hA0
  refine (walk a0 l0 len0 cap0 a1 l1 len1 cap1 W hr0 hl0 hr1 hl1 hc1 hm1 (by omega) (by omega)).mono fun e W' ⟨he, bel⟩ => ?_
  subst he
  exact ⟨_, rfl, _, _, _, [], _, [], hW', trodAll_mk1 (shut_bool Try.underlying4 _), (trodAll_cons_mk (Below.trod laidOut (by kernel_rfl) (of_decide_eq_true (by kernel_rfl)) k0 bel lt0) (trodAll_cons_mk (Below.trod laidOut (by kernel_rfl) (of_decide_eq_true (by kernel_rfl)) k1 bel lt1) trodAll_mk0)), rfl, bel.frame _, fun h => by cases h⟩

set_option maxRecDepth 100000 in
theorem lifted (os : Os) (started : os.Started) (H : Type) (enc : TypeId × Value → H) (F : Stop.Interp) :
    ReturnsInHanded {} Try.checked os 6 .any ((Rows.OpenSpec.upto Rows.utfBackSpec).pre6 enc Try.prog Try.f6 Rows.utfBackUptoRow.domain false) (((Rows.OpenSpec.upto Rows.utfBackSpec).at F).post enc Try.prog Try.f6 false true false false) := by
  refine returnsInHanded_of_cond (C := Try.checked) (s := Rows.OpenSpec.upto Rows.utfBackSpec) (k := Rows.uptoSmall) rfl own started (by kernel_rfl) Try.func6
    (OpenSpec.witness (enc := enc) (C := Try.checked) (s := Rows.OpenSpec.upto Rows.utfBackSpec) (k := Rows.uptoSmall) rfl false ⟨#[], #[.slice none 0 0, .slice none 0 0], []⟩ 8 (by kernel_rfl) (by kernel_rfl) (by kernel_rfl)
      (x := ([.nil, .nil], [], [])) (by kernel_rfl) rfl (by kernel_rfl)) ?_
  intro W base args ds gs before hval hW _ hk _
  exact contract H enc W base args ds gs before hval hW hk

/-- THE STATEMENT -/
theorem proved : Rows.UtfBackUptoSaid :=
  OpenClaim.holds_of_cond 6 Try.f6 rfl rfl rfl rfl rfl rfl rfl ⟨rfl, rfl, rfl, rfl, rfl⟩ rfl rfl rfl rfl rfl (by kernel_rfl) Try.func6 (by kernel_rfl)
    (of_decide_eq_true (by kernel_rfl)) (by unfold Func.isWrapper; first | (rw [if_pos (by decide +kernel)]; kernel_rfl) | (rw [if_neg (by decide +kernel)]; exact ⟨rfl, rfl⟩))
    (fun os started H enc _ F => lifted os started H enc F)
end Go.Proofs.Ytginlfofijbpjaa.LawUtfBack
