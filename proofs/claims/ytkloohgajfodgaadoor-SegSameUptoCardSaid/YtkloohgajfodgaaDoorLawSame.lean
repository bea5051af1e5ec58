/-
  Whatever bytes there are: texts are equivalent just where their segments' Texts are the same; the raw pieces are equivalent, then. Conditions: the arguments hold at most 1048576 values; the package's tables are laid as the program's text lays them (tied).
-/
import Derived.Test.YtkloohgajfodgaaDoorNormOpens
import Derived.Test.YtkloohgajfodgaaDoorSegFixed
import Derived.Test.YtkloohgajfodgaaDoorSegDoc
namespace Go.Proofs.YtkloohgajfodgaaDoor.LawSegSame
open Go.ChangeShapes Go.WideShapes Go.ChangeAt Go.RowKit
open Utf hiding infoI32 rd_new own_form rdec_any below_drewN new_any write_any close_any
open Ucd hiding grow same Told
open Norm hiding new_any write_any close_any pending_any pending_nil write_nil write_closed close_nil fixed_any write_at close_at
open Seg

theorem rd_conv (w : World) (s : ByteArray) (cap : Nat) (t : TypeId) (fr : Nat × Nat) (u : World) (hu : u = w.drew.alloc (.cells (bytesRow s cap) t fr)) : Rd u u.heap.size (some ⟨w.heap.size, 0, none⟩) (bys s.data.toList) ∧ Below w.heap.size w u := rd_str w s cap t fr u hu
set_option maxHeartbeats 16000000 in
set_option maxRecDepth 100000 in
theorem walk (A : Option Addr) (a : List UInt8) (n c : Nat) (B : Option Addr) (b : List UInt8) (m d : Nat) (w : World) (hL : Laid w) (hr : Rd w w.heap.size A (bys a)) (hn : a.length = n) (hc : n ≤ c) (hcm : c ≤ 9223372036854775807)
    (hs : Rd w w.heap.size B (bys b)) (hm : b.length = m) (hd : m ≤ d) (hdm : d ≤ 9223372036854775807) (hsm : n + m ≤ 1048576) :
    Calls Tryd.prog 6 #[.slice A n c, .slice B m d] w (Law w) := by
  have HF := Lib.hid (fixed_any w hL)
  have HL := Lib.hid hL
  have HR := Lib.hid hr
  have HS := Lib.hid hs
  have HN := Lib.hid hn
  have HM := Lib.hid hm
  have HC := Lib.hid hc
  have HD := Lib.hid hd
  have HRA := Lib.hid (fun (u : World) (h : Rd u u.heap.size A (bys a)) => rtext_any A a n c u h hn (by omega))
  have HRB := Lib.hid (fun (u : World) (h : Rd u u.heap.size B (bys b)) => rtext_any B b m d u h hm (by omega))
  have HTA := Lib.hid (fun (u : World) (hu : Laid u) (h : Rd u u.heap.size A (bys a)) => Seg.texts_any a A n c u hu h hn hc hcm (by omega))
  have HTB := Lib.hid (fun (u : World) (hu : Laid u) (h : Rd u u.heap.size B (bys b)) => Seg.texts_any b B m d u hu h hm hd hdm (by omega))
  have HSAB := Lib.hid (fun (u : World) (hu : Laid u) (h1 : Rd u u.heap.size A (bys a)) (h2 : Rd u u.heap.size B (bys b)) => Seg.same_any a b A B n c m d u hu h1 h2 hn hc hcm hm hd hdm (by omega) (by omega))
  have HSAA := Lib.hid (fun (u : World) (hu : Laid u) (h1 : Rd u u.heap.size A (bys a)) => Seg.same_any a a A A n c n c u hu h1 h1 hn hc hcm hn hc hcm (by omega) (by omega))
  rw [show sameT a a = true from decide_eq_true rfl] at HSAA
  have HAA := Lib.hid (fun (u : World) (h : Rd u u.heap.size A (bys a)) => all_any A a n c u h hn (by omega))
  have HAB := Lib.hid (fun (u : World) (h : Rd u u.heap.size B (bys b)) => all_any B b m d u h hm (by omega))
  have htl : (textF a).length ≤ 12 * n := by
    have h1 := enc_le (normal (runesF a)); have h2 := fulls_len (runesF a); have h3 := runes_len a
    rw [normal_len] at h1
    unfold textF; omega
  have hsab : sameB (texts a) (texts b) = sameT a b := by
    unfold sameB sameT
    rw [Bool.eq_iff_iff, decide_eq_true_iff, decide_eq_true_iff]
    exact texts_eq a b
  have hcmp : ((⟨(textF a).toArray⟩ : ByteArray).toList == (⟨(textF b).toArray⟩ : ByteArray).toList) = sameT a b := by
    by_cases h : textF a = textF b
    · rw [h]; unfold sameT; rw [decide_eq_true h]; simp
    · rw [str_ne h]; unfold sameT; rw [decide_eq_false h]
  have HTT := Lib.hid (show sameT a b = true → texts a = texts b from fun h => (texts_eq a b).2 (of_decide_eq_true h))
  have hnt : sameT a (textF a) = true := by unfold sameT; rw [text_text]; exact decide_eq_true rfl
  have HPA := Lib.hid (fun (k : Nat) (hk : k < (grp (dec false 0 a)).length) => piece_at a hk)
  have HPB := Lib.hid (fun (k : Nat) (hk : k < (grp (dec false 0 b)).length) => piece_at b hk)
  have HXA := Lib.hid (show texts a = (grp (dec false 0 a)).map says from rfl)
  have HXB := Lib.hid (show texts b = (grp (dec false 0 b)).map says from rfl)
  have hga := grp_len false a
  have hgb := grp_len false b
  rw [hn] at hga
  rw [hm] at hgb
  generalize grp (dec false 0 a) = Ga at HPA HXA HAA hga
  generalize grp (dec false 0 b) = Gb at HPB HXB HAB hgb
  have HTN := Lib.hid (fun (A' : Option Addr) (c' : Nat) (h1 : (textF a).length ≤ c') (h2 : c' ≤ 9223372036854775807) (u : World) (hu : Laid u) (h : Rd u u.heap.size A' (bys (textF a))) => Seg.texts_any (textF a) A' (textF a).length c' u hu h rfl h1 h2 (by omega))
  rw [texts_text] at HTN
  have HSN := Lib.hid (fun (A' : Option Addr) (c' : Nat) (h1 : (textF a).length ≤ c') (h2 : c' ≤ 9223372036854775807) (u : World) (hu : Laid u) (h0 : Rd u u.heap.size A (bys a)) (h : Rd u u.heap.size A' (bys (textF a))) => Seg.same_any a (textF a) A A' n c (textF a).length c' u hu h0 h hn hc hcm rfl h1 h2 (by omega) (by omega))
  rw [hnt] at HSN
  have HSAY := Lib.hid (fun (x y : List UInt8) (h : textF x = textF y) => show sameT x y = true from decide_eq_true h)
  generalize sameT a b = sm at HSAB hsab hcmp HTT
  obtain ⟨S1, hS1⟩ : ∃ S : ByteArray, S = ⟨(textF a).toArray⟩ := ⟨_, rfl⟩
  obtain ⟨S2, hS2⟩ : ∃ S : ByteArray, S = ⟨(textF b).toArray⟩ := ⟨_, rfl⟩
  rw [← hS1, ← hS2] at hcmp
  rw [← hS1] at HRA
  rw [← hS2] at HRB
  have hS1d : S1.data.toList = textF a := by rw [hS1]
  have hS1s : S1.size = (textF a).length := by rw [hS1]; show (textF a).toArray.size = _; rw [List.size_toArray]
  obtain ⟨N, hN⟩ : ∃ N, N = textF a := ⟨_, rfl⟩
  rw [← hN] at HTN HSN htl hS1d hS1s
  have HS1 := Lib.hid hS1d
  have HSAB2 := Lib.hid hsab
  generalize texts a = TA at HTA HTN HXA HTT HSAB2
  generalize texts b = TB at HTB HXB HTT HSAB2
  have hXl : TA.length ≤ 1048576 := by rw [HXA.out, List.length_map]; omega
  have hYl : TB.length ≤ 1048576 := by rw [HXB.out, List.length_map]; omega
  obtain ⟨ta, hta⟩ : ∃ ta, ta = TA.length := ⟨_, rfl⟩
  obtain ⟨tb, htb⟩ : ∃ tb, tb = TB.length := ⟨_, rfl⟩
  rw [← hta] at hXl
  rw [← htb] at hYl
  have HTAL := Lib.hid hta
  have HTBL := Lib.hid htb
  obtain ⟨ga, hga2⟩ : ∃ ga, ga = Ga.length := ⟨_, rfl⟩
  obtain ⟨gb, hgb2⟩ : ∃ gb, gb = Gb.length := ⟨_, rfl⟩
  rw [← hga2] at hga
  rw [← hgb2] at hgb
  have HGA := Lib.hid hga2
  have HGB := Lib.hid hgb2
  have hbb : (sm != sm) = false := by cases sm <;> rfl
  have HAAB := Lib.hid (show sameB TA TA = true from decide_eq_true rfl)
  have HS1S := Lib.hid hS1s
  have hszb : S1.size ≤ 34359738368 := by omega
  clear hL hr hs hn hm hc hd hsab hnt hS1 hS2 hN hta htb hga2 hgb2 hS1d hS1s
  go_enter Tryd.func6, Tryd.ntmps6
  go_wp2_with fail
  refine HF.out.mono ?_
  rintro e w1 ⟨rfl, hb1⟩
  have HB1 := Lib.hid hb1
  clear hb1 HF
  go_wp2_with fail
  refine (HRA.out w1 ((HR.out.below HB1.out).more HB1.out.size)).mono ?_
  rintro e w2 ⟨rfl, hb2⟩
  have HB2 := Lib.hid (HB1.out.trans (hb2.mono HB1.out.size))
  clear hb2
  go_wp2_with fail
  refine (HRB.out w2 ((HS.out.below HB2.out).more HB2.out.size)).mono ?_
  rintro e w3 ⟨rfl, hb3⟩
  have HB3 := Lib.hid (HB2.out.trans (hb3.mono HB2.out.size))
  clear hb3 HRB
  go_wp2_with fail
  refine (HTA.out w3 (HL.out.next HB3.out) ((HR.out.below HB3.out).more HB3.out.size)).mono ?_
  rintro e w4 ⟨v4, rfl, ho4, hb4⟩
  rw [← HTAL.out] at ho4
  obtain ⟨A4, c4, rfl, _, _, hr4⟩ := own_form ho4
  have HB4 := Lib.hid (HB3.out.trans (hb4.mono HB3.out.size))
  have HR4 := Lib.hid hr4
  clear ho4 hr4 hb4 hcmp HTA
  go_wp2_with fail
  refine (HTB.out w4 (HL.out.next HB4.out) ((HS.out.below HB4.out).more HB4.out.size)).mono ?_
  rintro e w5 ⟨v5, rfl, ho5, hb5⟩
  rw [← HTBL.out] at ho5
  obtain ⟨A5, c5, rfl, _, _, hr5⟩ := own_form ho5
  have HB5 := Lib.hid (HB4.out.trans (hb5.mono HB4.out.size))
  have HR5 := Lib.hid hr5
  have HR45 := Lib.hid ((HR4.out.below hb5).more hb5.size)
  clear ho5 hr5 hb5 HR4 HTB
  go_wp2_with fail
  refine (HSAB.out w5 (HL.out.next HB5.out) ((HR.out.below HB5.out).more HB5.out.size) ((HS.out.below HB5.out).more HB5.out.size)).mono ?_
  rintro e w6 ⟨rfl, hb6⟩
  have HB6 := Lib.hid (HB5.out.trans (hb6.mono HB5.out.size))
  have HR46 := Lib.hid ((HR45.out.below hb6).more hb6.size)
  have HR56 := Lib.hid ((HR5.out.below hb6).more hb6.size)
  clear hb6 HR45 HR5 HSAB
  go_wp2_with fail
  refine (sameTexts_any A4 A5 TA TB ta tb c4 c5 w6 HR46.out HR56.out HTAL.out.symm HTBL.out.symm (by omega) (by omega)).mono ?_
  rintro e w7 ⟨rfl, k7, hw7⟩
  have HB7 := Lib.hid (show Below w.heap.size w w7 by rw [hw7]; exact below_drewN HB6.out k7)
  have HR47 := Lib.hid (show Rd w7 w7.heap.size A4 (strs TA) by rw [hw7]; exact HR46.out.drewN k7)
  rw [HSAB2.out]
  clear hw7 HR46 HR56
  go_wp2_with fail
  refine (HSAA.out w7 (HL.out.next HB7.out) ((HR.out.below HB7.out).more HB7.out.size)).mono ?_
  rintro e w8 ⟨rfl, hb8⟩
  have HB8 := Lib.hid (HB7.out.trans (hb8.mono HB7.out.size))
  have HR48 := Lib.hid ((HR47.out.below hb8).more hb8.size)
  clear hb8 HR47 HSAA
  go_wp2_with fail
  refine (HRA.out w8 ((HR.out.below HB8.out).more HB8.out.size)).mono ?_
  rintro e w9 ⟨rfl, hb9⟩
  have HB9 := Lib.hid (HB8.out.trans (hb9.mono HB8.out.size))
  have HR49 := Lib.hid ((HR48.out.below hb9).more hb9.size)
  clear hb9 HR48 HRA
  have hcv := run_bytes_of_string (P := Tryd.prog) w9 9 22 5 S1 Tryd.underlying9 Tryd.underlying22 Tryd.underlying5
  have hge := grownCap_ge w9 S1.size 0 5
  have hle := grownCap_le_maxLen w9 S1.size 0 5 (by unfold maxLen; omega)
  generalize grownCap w9 S1.size 0 5 = cap at hcv hge hle
  unfold maxLen at hle
  obtain ⟨u9, hu9⟩ : ∃ u, u = w9.drew.alloc (.cells (bytesRow S1 cap) 5 ((bytesRow S1 cap).size, (bytesRow S1 cap).size + 1)) := ⟨_, rfl⟩
  rw [← hu9] at hcv
  obtain ⟨hrd9, hbl9⟩ := rd_conv w9 S1 cap _ _ u9 hu9
  rw [HS1.out] at hrd9
  obtain ⟨nl, hnl⟩ : ∃ nl, nl = N.length := ⟨_, rfl⟩
  have HNL := Lib.hid hnl
  rw [HS1S.out, ← hnl] at hcv hge
  rw [← hnl] at HTN HSN
  have HRN := Lib.hid hrd9
  have HB10 := Lib.hid (HB9.out.trans (hbl9.mono HB9.out.size))
  have HR410 := Lib.hid ((HR49.out.below hbl9).more hbl9.size)
  clear hu9 hrd9 hbl9 hnl HR49
  go_wp2_with fail
  refine (HSN.out (some ⟨w9.heap.size, 0, none⟩) cap hge (by omega) u9 (HL.out.next HB10.out) ((HR.out.below HB10.out).more HB10.out.size) HRN.out).mono ?_
  rintro e w11 ⟨rfl, hb11⟩
  have HB11 := Lib.hid (HB10.out.trans (hb11.mono HB10.out.size))
  have HR411 := Lib.hid ((HR410.out.below hb11).more hb11.size)
  have HRN11 := Lib.hid ((HRN.out.below hb11).more hb11.size)
  clear hb11 HR410 HRN hcv HSN
  go_wp2_with fail
  refine (HTN.out (some ⟨w9.heap.size, 0, none⟩) cap hge (by omega) w11 (HL.out.next HB11.out) HRN11.out).mono ?_
  rintro e w12 ⟨v12, rfl, ho12, hb12⟩
  rw [← HTAL.out] at ho12
  obtain ⟨A12, c12, rfl, _, _, hr12⟩ := own_form ho12
  have HB12 := Lib.hid (HB11.out.trans (hb12.mono HB11.out.size))
  have HR12 := Lib.hid hr12
  have HR412 := Lib.hid ((HR411.out.below hb12).more hb12.size)
  clear ho12 hr12 hb12 HR411 HRN11 HTN hge hle
  go_wp2_with fail
  refine (sameTexts_any A12 A4 TA TA ta ta c12 c4 w12 HR12.out HR412.out HTAL.out.symm HTAL.out.symm (by omega) (by omega)).mono ?_
  rintro e w13 ⟨rfl, k13, hw13⟩
  have HB13 := Lib.hid (show Below w.heap.size w w13 by rw [hw13]; exact below_drewN HB12.out k13)
  rw [HAAB.out]
  clear hw13 HR12 HR412
  go_wp2_with fail
  refine (HAA.out w13 ((HR.out.below HB13.out).more HB13.out.size)).mono ?_
  rintro e w14 ⟨v14, rfl, ho14, hb14⟩
  rw [List.length_map, ← HGA.out] at ho14
  obtain ⟨A14, c14, rfl, _, _, hr14⟩ := own_form ho14
  have HB14 := Lib.hid (HB13.out.trans (hb14.mono HB13.out.size))
  have HR14 := Lib.hid hr14
  clear ho14 hr14 hb14 HAA
  go_wp2_with fail
  refine (HAB.out w14 ((HS.out.below HB14.out).more HB14.out.size)).mono ?_
  rintro e w15 ⟨v15, rfl, ho15, hb15⟩
  rw [List.length_map, ← HGB.out] at ho15
  obtain ⟨A15, c15, rfl, _, _, hr15⟩ := own_form ho15
  have HB15 := Lib.hid (HB14.out.trans (hb15.mono HB14.out.size))
  have HR15 := Lib.hid hr15
  have HR145 := Lib.hid ((HR14.out.below hb15).more hb15.size)
  clear ho15 hr15 hb15 HAB HR14
  go_wp2_with fail
  cases sm with
  | false =>
    go_loopw [11] (fun vi wr => vi = .int .i64 0 ∧ wr = w15) (fun _ _ => 0)
    case atStart => exact ⟨rfl, rfl⟩
    case round =>
      obtain ⟨rfl, rfl⟩ := hrel
      have HBX := Lib.hid HB15.out
      by_cases h0 : 0 < ga
      · have hd0 : decide (0 < ga) = true := decide_eq_true h0
        have hd1 : decide ((0 : Int) < (ga : Int)) = true := decide_eq_true (by omega)
        go_wp2_with fail
        go_ret
        exact ⟨rfl, HBX.out⟩
      · have hd0 : decide (0 < ga) = false := decide_eq_false h0
        have hd1 : decide ((0 : Int) < (ga : Int)) = false := decide_eq_false (by omega)
        go_wp2_with fail
        go_ret
        exact ⟨rfl, HBX.out⟩
  | true =>
  have htt := HTT.out (by first | trivial | rfl)
  rw [HXA.out, HXB.out] at htt
  have HGL := Lib.hid (show ga = gb by have := congrArg List.length htt; rw [List.length_map, List.length_map, ← HGA.out, ← HGB.out] at this; exact this)
  have HSY := Lib.hid (fun (k : Nat) (h1 : k < Ga.length) (h2 : k < Gb.length) => show says Ga[k] = says Gb[k] by
    have := congrArg (fun t => t[k]?) htt
    simp only [List.getElem?_map, List.getElem?_eq_getElem h1, List.getElem?_eq_getElem h2, Option.map_some, Option.some.injEq] at this
    exact this)
  clear htt
  go_loopw [11] (fun vi wr => ∃ k : Nat, k ≤ ga ∧ vi = .int .i64 k ∧ Hid (Below w15.heap.size w15 wr)) (fun vi _ => ga - (intOf vi).toNat)
  case atStart => exact ⟨0, Nat.zero_le _, rfl, Lib.hid (Below.refl _ _)⟩
  case round =>
    obtain ⟨k, hk, rfl, HB⟩ := hrel
    by_cases hlt : k < ga
    · have hkl : k < Ga.length := by rw [← HGA.out]; exact hlt
      have hkb : k < gb := by rw [← HGL.out]; exact hlt
      have hkm : k < Gb.length := by rw [← HGB.out]; exact hkb
      obtain ⟨bl, ol, rfl, hbl⟩ := HR145.out.form (by rw [sgs_len, List.length_map]; omega)
      obtain ⟨bm, om, rfl, hbm⟩ := HR15.out.form (by rw [sgs_len, List.length_map]; omega)
      obtain ⟨p1, p2, p3⟩ := Rd_sg (k := k) (HR145.out.below HB.out) (by rw [List.length_map]; exact hkl)
      obtain ⟨q1, q2, q3⟩ := Rd_sg (k := k) (HR15.out.below HB.out) (by rw [List.length_map]; exact hkm)
      rw [List.getElem_map] at p1 p2 p3 q1 q2 q3
      obtain ⟨e1, e2, e3, e4, e5⟩ := HPA.out k hkl
      obtain ⟨f1, f2, f3, f4, f5⟩ := HPB.out k hkm
      change wr.cell? ⟨bl, ol + k * 3 + 1, none⟩ = some (.int .i64 (beg Ga[k])) at p2
      change wr.cell? ⟨bl, ol + k * 3 + 2, none⟩ = some (.int .i64 (fin Ga[k])) at p3
      change wr.cell? ⟨bm, om + k * 3 + 1, none⟩ = some (.int .i64 (beg Gb[k])) at q2
      change wr.cell? ⟨bm, om + k * 3 + 2, none⟩ = some (.int .i64 (fin Gb[k])) at q3
      rw [e1] at p2
      rw [e2] at p3
      rw [f1] at q2
      rw [f2] at q3
      rw [HN.out] at e4
      rw [HM.out] at f4
      obtain ⟨s1, hs1⟩ : ∃ s, s = ww (Ga.take k).flatten := ⟨_, rfl⟩
      obtain ⟨s2, hs2⟩ : ∃ s, s = ww (Ga.take (k + 1)).flatten := ⟨_, rfl⟩
      obtain ⟨r1, hr1⟩ : ∃ s, s = ww (Gb.take k).flatten := ⟨_, rfl⟩
      obtain ⟨r2, hr2⟩ : ∃ s, s = ww (Gb.take (k + 1)).flatten := ⟨_, rfl⟩
      rw [← hs1] at p2 e3 e5
      rw [← hs2] at p3 e3 e4 e5
      rw [← hr1] at q2 f3 f5
      rw [← hr2] at q3 f3 f4 f5
      have hsy : enc (normal (runs Ga[k])) = enc (normal (runs Gb[k])) := by
        have h := HSY.out k hkl hkm
        have h2 : (enc (normal (runs Ga[k]))).toArray = (enc (normal (runs Gb[k]))).toArray := congrArg ByteArray.data h
        exact List.toArray_inj h2
      have HBW := Lib.hid (HB15.out.trans (HB.out.mono HB15.out.size))
      obtain ⟨A', hsl, hrp⟩ := bytes_cut (HR.out.below HBW.out) HN.out e3 e4 HC.out
      obtain ⟨B', hsl2, hrq⟩ := bytes_cut (HS.out.below HBW.out) HM.out f3 f4 HD.out
      have HSM := Lib.hid (fun (u : World) (hu : Laid u) (h1 : Rd u u.heap.size A' (bys ((a.drop s1).take (s2 - s1)))) (h2 : Rd u u.heap.size B' (bys ((b.drop r1).take (r2 - r1)))) => Seg.same_any _ _ A' B' (s2 - s1) (c - s1) (r2 - r1) (d - r1) u hu h1 h2 (by rw [List.length_take, List.length_drop, HN.out]; omega) (by have := HC.out; omega) (by omega) (by rw [List.length_take, List.length_drop, HM.out]; omega) (by have := HD.out; omega) (by omega) (by omega) (by omega))
      rw [HSAY.out _ _ (by rw [e5, f5, hsy])] at HSM
      have HLD := Lib.hid (show Laid wr.drew from (HL.out.next HBW.out).drew)
      have HRA := Lib.hid (show Rd wr.drew wr.drew.heap.size A' (bys ((a.drop s1).take (s2 - s1))) from (hrp.more HBW.out.size).drew)
      have HRB := Lib.hid (show Rd wr.drew wr.drew.heap.size B' (bys ((b.drop r1).take (r2 - r1))) from (hrq.more HBW.out.size).drew)
      have hbl := Nat.lt_of_lt_of_le hbl HB.out.size
      have hbm := Nat.lt_of_lt_of_le hbm HB.out.size
      clear hkl hkm e1 e2 e5 f1 f2 f5 hs1 hs2 hr1 hr2 hsy hrp hrq p1 q1
      go_wp2_with fail
      refine wp_region_held_drew (S := fun u => u.cell? ⟨bl, ol + k * 3 + 1, none⟩ = some (.int .i64 (s1 : Int)) ∧ u.cell? ⟨bl, ol + k * 3 + 2, none⟩ = some (.int .i64 (s2 : Int)) ∧ u.cell? ⟨bm, om + k * 3 + 1, none⟩ = some (.int .i64 (r1 : Int)) ∧ u.cell? ⟨bm, om + k * 3 + 2, none⟩ = some (.int .i64 (r2 : Int))) (by kernel_rfl) ⟨p2, p3, q2, q3⟩ (fun hHeld => ?_)
      refine wpAnyH_take (i := 0) (oi := _) (v := ?_) rfl (by kernel_rfl) (by kernel_rfl) (by kernel_rfl) (fun _ _ _ h => h) (Or.inl ⟨by rfl, ?_⟩) (by assumption) ?_
      rotate_left
      · (intro w hSw; (try dsimp only at hSw); (try obtain ⟨s1_, s2_, s3_, s4_⟩ := hSw); go_simp <;> with_reducible rfl)
      simp only [List.getElem_toArray, List.getElem_cons_zero, Act.put, List.setIfInBounds_toArray, List.set_cons_zero, List.set_cons_succ]
      refine wpAnyH_take (i := 1) (oi := _) (v := ?_) rfl (by kernel_rfl) (by kernel_rfl) (by kernel_rfl) (fun _ _ _ h => h) (Or.inl ⟨by rfl, ?_⟩) (by assumption) ?_
      rotate_left
      · (intro w hSw; (try dsimp only at hSw); (try obtain ⟨s1_, s2_, s3_, s4_⟩ := hSw); go_simp <;> with_reducible rfl)
      simp only [List.getElem_toArray, List.getElem_cons_succ, List.getElem_cons_zero, Act.put, List.setIfInBounds_toArray, List.set_cons_zero, List.set_cons_succ]
      refine wpAnyH_take (i := 2) (oi := _) (v := ?_) rfl (by kernel_rfl) (by kernel_rfl) (by kernel_rfl) (fun _ _ _ h => h) (Or.inl ⟨by rfl, ?_⟩) (by assumption) ?_
      rotate_left
      · (intro w hSw; (try dsimp only at hSw); (try obtain ⟨s1_, s2_, s3_, s4_⟩ := hSw); go_simp <;> with_reducible rfl)
      simp only [List.getElem_toArray, List.getElem_cons_succ, List.getElem_cons_zero, Act.put, List.setIfInBounds_toArray, List.set_cons_zero, List.set_cons_succ]
      refine wpAnyH_take (i := 3) (oi := _) (v := ?_) rfl (by kernel_rfl) (by kernel_rfl) (by kernel_rfl) (fun _ _ _ h => h) (Or.inl ⟨by rfl, ?_⟩) (by assumption) ?_
      rotate_left
      · (intro w hSw; (try dsimp only at hSw); (try obtain ⟨s1_, s2_, s3_, s4_⟩ := hSw); go_simp <;> with_reducible rfl)
      simp only [List.getElem_toArray, List.getElem_cons_succ, List.getElem_cons_zero, Act.put, List.setIfInBounds_toArray, List.set_cons_zero, List.set_cons_succ]
      refine wpAnyH_take (i := 4) (oi := _) (v := ?_) rfl (by kernel_rfl) (by kernel_rfl) (by kernel_rfl) (fun _ _ _ h => h) (Or.inl ⟨by rfl, ?_⟩) (by assumption) ?_
      rotate_left
      · (intro w hSw; (try dsimp only at hSw); (try obtain ⟨s1_, s2_, s3_, s4_⟩ := hSw); go_simp <;> with_reducible rfl)
      simp only [List.getElem_toArray, List.getElem_cons_succ, List.getElem_cons_zero, Act.put, List.setIfInBounds_toArray, List.set_cons_zero, List.set_cons_succ]
      refine wpAnyH_take (i := 5) (oi := _) (v := ?_) rfl (by kernel_rfl) (by kernel_rfl) (by kernel_rfl) (fun _ _ _ h => h) (Or.inl ⟨by rfl, ?_⟩) (by assumption) ?_
      rotate_left
      · (intro w hSw; (try dsimp only at hSw); (try obtain ⟨s1_, s2_, s3_, s4_⟩ := hSw); go_simp <;> with_reducible rfl)
      simp only [List.getElem_toArray, List.getElem_cons_succ, List.getElem_cons_zero, Act.put, List.setIfInBounds_toArray, List.set_cons_zero, List.set_cons_succ]
      refine wpAnyH_take (i := 6) (oi := _) (v := ?_) rfl (by kernel_rfl) (by kernel_rfl) (by kernel_rfl) (fun _ _ _ h => h) (Or.inl ⟨by rfl, ?_⟩) (by assumption) ?_
      rotate_left
      · (intro w hSw; (try dsimp only at hSw); (try obtain ⟨s1_, s2_, s3_, s4_⟩ := hSw); go_simp <;> with_reducible rfl)
      simp only [List.getElem_toArray, List.getElem_cons_succ, List.getElem_cons_zero, Act.put, List.setIfInBounds_toArray, List.set_cons_zero, List.set_cons_succ]
      refine wpAnyH_take (i := 7) (oi := _) (v := ?_) rfl (by kernel_rfl) (by kernel_rfl) (by kernel_rfl) (fun _ _ _ h => h) (Or.inl ⟨by rfl, ?_⟩) (by assumption) ?_
      rotate_left
      · (intro w hSw; (try dsimp only at hSw); (try obtain ⟨s1_, s2_, s3_, s4_⟩ := hSw); go_simp <;> with_reducible rfl)
      simp only [List.getElem_toArray, List.getElem_cons_succ, List.getElem_cons_zero, Act.put, List.setIfInBounds_toArray, List.set_cons_zero, List.set_cons_succ]
      refine wpAnyH_take (i := 8) (oi := _) (v := ?_) rfl (by kernel_rfl) (by kernel_rfl) (by kernel_rfl) (fun _ _ _ h => h) (Or.inl ⟨by rfl, ?_⟩) (by assumption) ?_
      rotate_left
      · (intro w hSw; (try dsimp only at hSw); (try obtain ⟨s1_, s2_, s3_, s4_⟩ := hSw); go_simp <;> with_reducible rfl)
      simp only [List.getElem_toArray, List.getElem_cons_succ, List.getElem_cons_zero, Act.put, List.setIfInBounds_toArray, List.set_cons_zero, List.set_cons_succ]
      refine wpAnyH_take (i := 9) (oi := _) (v := ?_) rfl (by kernel_rfl) (by kernel_rfl) (by kernel_rfl) (fun _ _ _ h => h) (Or.inl ⟨by rfl, ?_⟩) (by assumption) ?_
      rotate_left
      · (intro w hSw; (try dsimp only at hSw); (try obtain ⟨s1_, s2_, s3_, s4_⟩ := hSw); go_simp <;> with_reducible rfl)
      simp only [List.getElem_toArray, List.getElem_cons_succ, List.getElem_cons_zero, Act.put, List.setIfInBounds_toArray, List.set_cons_zero, List.set_cons_succ]
      refine wpAnyH_take (i := 10) (oi := _) (v := ?_) rfl (by kernel_rfl) (by kernel_rfl) (by kernel_rfl) (fun _ _ _ h => h) (Or.inl ⟨by rfl, ?_⟩) (by assumption) ?_
      rotate_left
      · (intro w hSw; (try dsimp only at hSw); (try obtain ⟨s1_, s2_, s3_, s4_⟩ := hSw); go_simp <;> with_reducible rfl)
      simp only [List.getElem_toArray, List.getElem_cons_succ, List.getElem_cons_zero, Act.put, List.setIfInBounds_toArray, List.set_cons_zero, List.set_cons_succ]
      refine wpAnyH_take (i := 11) (oi := _) (v := ?_) rfl (by kernel_rfl) (by kernel_rfl) (by kernel_rfl) (fun _ _ _ h => h) (Or.inl ⟨by rfl, ?_⟩) (by assumption) ?_
      rotate_left
      · (intro w hSw; (try dsimp only at hSw); (try obtain ⟨s1_, s2_, s3_, s4_⟩ := hSw); go_simp <;> with_reducible rfl)
      simp only [List.getElem_toArray, List.getElem_cons_succ, List.getElem_cons_zero, Act.put, List.setIfInBounds_toArray, List.set_cons_zero, List.set_cons_succ]
      refine wpAnyH_take (i := 12) (oi := _) (v := ?_) rfl (by kernel_rfl) (by kernel_rfl) (by kernel_rfl) (fun _ _ _ h => h) (Or.inl ⟨by rfl, ?_⟩) (by assumption) ?_
      rotate_left
      · (intro w hSw; (try dsimp only at hSw); (try obtain ⟨s1_, s2_, s3_, s4_⟩ := hSw); go_simp <;> with_reducible rfl)
      simp only [List.getElem_toArray, List.getElem_cons_succ, List.getElem_cons_zero, Act.put, List.setIfInBounds_toArray, List.set_cons_zero, List.set_cons_succ]
      refine wpAnyH_take (i := 13) (oi := _) (v := ?_) rfl (by kernel_rfl) (by kernel_rfl) (by kernel_rfl) (fun _ _ _ h => h) (Or.inl ⟨by rfl, ?_⟩) (by assumption) ?_
      rotate_left
      · (intro w hSw; (try dsimp only at hSw); (try obtain ⟨s1_, s2_, s3_, s4_⟩ := hSw); go_simp <;> with_reducible rfl)
      simp only [List.getElem_toArray, List.getElem_cons_succ, List.getElem_cons_zero, Act.put, List.setIfInBounds_toArray, List.set_cons_zero, List.set_cons_succ]
      refine wpAnyH_take (i := 14) (oi := _) (v := ?_) rfl (by kernel_rfl) (by kernel_rfl) (by kernel_rfl) (fun _ _ _ h => h) (Or.inl ⟨by rfl, ?_⟩) (by assumption) ?_
      rotate_left
      · (intro w hSw; (try dsimp only at hSw); (try obtain ⟨s1_, s2_, s3_, s4_⟩ := hSw); go_simp <;> with_reducible rfl)
      simp only [List.getElem_toArray, List.getElem_cons_succ, List.getElem_cons_zero, Act.put, List.setIfInBounds_toArray, List.set_cons_zero, List.set_cons_succ]
      refine wpAnyH_take (i := 15) (oi := _) (v := ?_) rfl (by kernel_rfl) (by kernel_rfl) (by kernel_rfl) (fun _ _ _ h => h) (Or.inl ⟨by rfl, ?_⟩) (by assumption) ?_
      rotate_left
      · (intro w hSw; (try dsimp only at hSw); (try obtain ⟨s1_, s2_, s3_, s4_⟩ := hSw); go_simp <;> with_reducible rfl)
      simp only [List.getElem_toArray, List.getElem_cons_succ, List.getElem_cons_zero, Act.put, List.setIfInBounds_toArray, List.set_cons_zero, List.set_cons_succ]
      refine wpAnyH_take (i := 16) (oi := _) (v := ?_) rfl (by kernel_rfl) (by kernel_rfl) (by kernel_rfl) (fun _ _ _ h => h) (Or.inl ⟨by rfl, ?_⟩) (by assumption) ?_
      rotate_left
      · (intro w hSw; (try dsimp only at hSw); (try obtain ⟨s1_, s2_, s3_, s4_⟩ := hSw); go_simp <;> with_reducible rfl)
      simp only [List.getElem_toArray, List.getElem_cons_succ, List.getElem_cons_zero, Act.put, List.setIfInBounds_toArray, List.set_cons_zero, List.set_cons_succ]
      refine wpAnyH_take (i := 17) (oi := _) (v := ?_) rfl (by kernel_rfl) (by kernel_rfl) (by kernel_rfl) (fun _ _ _ h => h) (Or.inl ⟨by rfl, ?_⟩) (by assumption) ?_
      rotate_left
      · (intro w hSw; (try dsimp only at hSw); (try obtain ⟨s1_, s2_, s3_, s4_⟩ := hSw); go_simp <;> with_reducible rfl)
      simp only [List.getElem_toArray, List.getElem_cons_succ, List.getElem_cons_zero, Act.put, List.setIfInBounds_toArray, List.set_cons_zero, List.set_cons_succ]
      refine wpAnyH_take (i := 18) (oi := _) (v := ?_) rfl (by kernel_rfl) (by kernel_rfl) (by kernel_rfl) (fun _ _ _ h => h) (Or.inl ⟨by rfl, ?_⟩) (by assumption) ?_
      rotate_left
      · (intro w hSw; (try dsimp only at hSw); (try obtain ⟨s1_, s2_, s3_, s4_⟩ := hSw); go_simp <;> with_reducible rfl)
      simp only [List.getElem_toArray, List.getElem_cons_succ, List.getElem_cons_zero, Act.put, List.setIfInBounds_toArray, List.set_cons_zero, List.set_cons_succ]
      refine wpAnyH_take (i := 19) (oi := _) (v := ?_) rfl (by kernel_rfl) (by kernel_rfl) (by kernel_rfl) (fun _ _ _ h => h) (Or.inl ⟨by rfl, ?_⟩) (by assumption) ?_
      rotate_left
      · (intro w hSw; (try dsimp only at hSw); (try obtain ⟨s1_, s2_, s3_, s4_⟩ := hSw); go_simp <;> with_reducible rfl)
      simp only [List.getElem_toArray, List.getElem_cons_succ, List.getElem_cons_zero, Act.put, List.setIfInBounds_toArray, List.set_cons_zero, List.set_cons_succ]
      refine wpAnyH_take (i := 20) (oi := _) (v := ?_) rfl (by kernel_rfl) (by kernel_rfl) (by kernel_rfl) (fun _ _ _ h => h) (Or.inl ⟨by rfl, ?_⟩) (by assumption) ?_
      rotate_left
      · (intro w hSw; (try dsimp only at hSw); (try obtain ⟨s1_, s2_, s3_, s4_⟩ := hSw); go_simp <;> with_reducible rfl)
      simp only [List.getElem_toArray, List.getElem_cons_succ, List.getElem_cons_zero, Act.put, List.setIfInBounds_toArray, List.set_cons_zero, List.set_cons_succ]
      refine wpAnyH_take (i := 21) (oi := _) (v := ?_) rfl (by kernel_rfl) (by kernel_rfl) (by kernel_rfl) (fun _ _ _ h => h) (Or.inl ⟨by rfl, ?_⟩) (by assumption) ?_
      rotate_left
      · (intro w hSw; (try dsimp only at hSw); (try obtain ⟨s1_, s2_, s3_, s4_⟩ := hSw); go_simp <;> with_reducible rfl)
      simp only [List.getElem_toArray, List.getElem_cons_succ, List.getElem_cons_zero, Act.put, List.setIfInBounds_toArray, List.set_cons_zero, List.set_cons_succ]
      refine wpAnyH_take (i := 22) (oi := _) (v := ?_) rfl (by kernel_rfl) (by kernel_rfl) (by kernel_rfl) (fun _ _ _ h => h) (Or.inl ⟨by rfl, ?_⟩) (by assumption) ?_
      rotate_left
      · (intro w hSw; (try dsimp only at hSw); (try obtain ⟨s1_, s2_, s3_, s4_⟩ := hSw); go_simp <;> with_reducible rfl)
      simp only [List.getElem_toArray, List.getElem_cons_succ, List.getElem_cons_zero, Act.put, List.setIfInBounds_toArray, List.set_cons_zero, List.set_cons_succ]
      refine wpAnyH_take (i := 23) (oi := _) (v := ?_) rfl (by kernel_rfl) (by kernel_rfl) (by kernel_rfl) (fun _ _ _ h => h) (Or.inl ⟨by rfl, ?_⟩) (by assumption) ?_
      rotate_left
      · (intro w hSw; (try dsimp only at hSw); (try obtain ⟨s1_, s2_, s3_, s4_⟩ := hSw); go_simp <;> with_reducible rfl)
      simp only [List.getElem_toArray, List.getElem_cons_succ, List.getElem_cons_zero, Act.put, List.setIfInBounds_toArray, List.set_cons_zero, List.set_cons_succ]
      refine wpAnyH_ready (rs := [24]) (by kernel_rfl) (by simp) (AllReadyH.cons rfl (fun K hK => ?_) AllReadyH.nil)
      go_simp
      go_at_call 26
      refine (HSM.out _ HLD.out HRA.out HRB.out).mono ?_
      rintro e5 w5 ⟨rfl, hb5⟩
      have HB5x := Lib.hid (show Below wr.heap.size wr w5 from (Below.refl _ _).drew.trans hb5)
      have hs5 : w5.cell? ⟨bl, ol + k * 3 + 1, none⟩ = some (.int .i64 (s1 : Int)) ∧ w5.cell? ⟨bl, ol + k * 3 + 2, none⟩ = some (.int .i64 (s2 : Int)) ∧ w5.cell? ⟨bm, om + k * 3 + 1, none⟩ = some (.int .i64 (r1 : Int)) ∧ w5.cell? ⟨bm, om + k * 3 + 2, none⟩ = some (.int .i64 (r2 : Int)) := ⟨(HB5x.out.cell (p := ⟨bl, ol + k * 3 + 1, none⟩) hbl).trans p2, (HB5x.out.cell (p := ⟨bl, ol + k * 3 + 2, none⟩) hbl).trans p3, (HB5x.out.cell (p := ⟨bm, om + k * 3 + 1, none⟩) hbm).trans q2, (HB5x.out.cell (p := ⟨bm, om + k * 3 + 2, none⟩) hbm).trans q3⟩
      clear hb5
      refine hK.out _ _ hs5 (fun hHeld2 => ?_)
      clear hK K hHeld
      have hHeld := hHeld2
      clear hHeld2
      refine wpAnyH_take (i := 25) (oi := _) (v := ?_) rfl (by kernel_rfl) (by kernel_rfl) (by kernel_rfl) (fun _ _ _ h => h) (Or.inl ⟨by rfl, ?_⟩) (by assumption) ?_
      rotate_left
      · (intro w hSw; (try dsimp only at hSw); (try obtain ⟨s1_, s2_, s3_, s4_⟩ := hSw); go_simp <;> with_reducible rfl)
      simp only [List.getElem_toArray, List.getElem_cons_succ, List.getElem_cons_zero, Act.put, List.setIfInBounds_toArray, List.set_cons_zero, List.set_cons_succ]
      refine wpAnyH_done (by kernel_rfl) ?_ _
      clear p2 p3 q2 q3 hHeld hs5
      have HB6x := Lib.hid (HB.out.trans (HB5x.out.mono HB.out.size))
      go_wp2_with fail
      go_roundw
      case rel => exact ⟨k + 1, by omega, by go_num, HB6x⟩
      case measure => simp [intOf]; omega
    · have HBW := Lib.hid (HB15.out.trans (HB.out.mono HB15.out.size))
      go_wp2_with fail
      go_ret
      exact ⟨rfl, HBW.out⟩

set_option maxRecDepth 100000 in
theorem contract (H : Type) (enc : TypeId × Value → H) (W : World) (base : Nat) (args : Array Value) (ds gs : List (DataW H)) (before : List MemPlace)
    (hval : ∀ (j : Nat) t v, Tryd.f6.params[j]? = some t → args[j]? = some v → Value.okWide Tryd.prog W .any base t v)
    (hW : DataW.Whole enc Tryd.prog Tryd.f6.params.toList Rows.segSameSpec.vars false W args.toList ds gs before) (hLL : laidMetH Tryd.prog Rows.segSameUptoRow.laid W) (hk : Rows.uptoSmall H (ds ++ gs) = true) :
    Calls Tryd.prog 6 args W fun e W' => ∃ v, e = .returned v ∧ Rows.segSameSpec.post enc Tryd.prog Tryd.f6 false true false false W args v W' := by
  have hL : Laid W := laid_of hLL
  have hW' := hW
  obtain ⟨p, q, hA0, hV, rfl, hfz, hnd⟩ := hW
  have hA : DataW.TrodAll enc Tryd.prog W 0 (fun _ => true) true Tryd.f6.params.toList args.toList ds p := hA0
  rw [Tryd.params6] at hA hval
  obtain ⟨v0, vs0, d0, ds0, p0, q0, hargs, rfl, rfl, h0, r0⟩ := trodAll_cons hA
  obtain ⟨v1, vs1, d1, ds1, p1, q1, rfl, rfl, rfl, h1, r1⟩ := trodAll_cons r0
  obtain ⟨rfl, rfl, rfl⟩ := trodAll_nil r1
  obtain rfl : args = #[v0, v1] := by cases args; simp_all
  obtain ⟨rfl, rfl⟩ := trodVars_none hV
  obtain ⟨a0, len0, cap0, rfl⟩ := okWide_slice Tryd.underlying22 (hval 0 22 v0 rfl rfl)
  have k0 := h0
  have lt0 : ∀ x ∈ p0, x.block < W.heap.size := by obtain ⟨m, hm⟩ := k0; exact DataW.trod_lt m _ _ _ hm
  obtain ⟨l0, hl0, hc0, hm0, hr0, hb0⟩ := open_bytes h0
  obtain ⟨a1, len1, cap1, rfl⟩ := okWide_slice Tryd.underlying22 (hval 1 22 v1 rfl rfl)
  have k1 := h1
  have lt1 : ∀ x ∈ p1, x.block < W.heap.size := by obtain ⟨m, hm⟩ := k1; exact DataW.trod_lt m _ _ _ hm
  obtain ⟨l1, hl1, hc1, hm1, hr1, hb1⟩ := open_bytes h1
  have hbd := bulk_bound hk
  simp only [List.append_nil, Rows.uptoBulkAll] at hbd
  clear hA0
  refine (walk a0 l0 len0 cap0 a1 l1 len1 cap1 W hL hr0 hl0 hc0 hm0 hr1 hl1 hc1 hm1 (by omega)).mono fun e W' ⟨he, bel⟩ => ?_
  subst he
  exact ⟨_, rfl, _, _, _, [], _, [], hW', trodAll_mk1 (shut_bool Tryd.underlying4 _), (trodAll_cons_mk (Below.trod laidOut (by kernel_rfl) (of_decide_eq_true (by kernel_rfl)) k0 bel lt0) (trodAll_cons_mk (Below.trod laidOut (by kernel_rfl) (of_decide_eq_true (by kernel_rfl)) k1 bel lt1) trodAll_mk0)), rfl, bel.frame _, fun h => by cases h⟩

set_option maxRecDepth 100000 in
theorem laid_met (os : Os) : laidMet Tryd.prog Rows.segSameUptoRow.laid ((laidWorld os).forCall (fun _ _ => 0) ⟨#[], #[.slice none 0 0, .slice none 0 0], []⟩).memory :=
  laidMet_of_run' 8 (by kernel_rfl) (by kernel_rfl)
set_option maxRecDepth 100000 in
theorem reads (os : Os) {H : Type} (enc : TypeId × Value → H) : ∃ places, DataW.whole enc Tryd.prog ((laidWorld os).forCall (fun _ _ => 0) ⟨#[], #[.slice none 0 0, .slice none 0 0], []⟩).memory Tryd.f6.params.toList Rows.segSameSpec.vars false (#[.slice none 0 0, .slice none 0 0] : Array Value).toList 8 = some ([.nil, .nil], [], places) :=
  ⟨[], by kernel_rfl⟩

set_option maxRecDepth 100000 in
theorem lifted (os : Os) (started : os.Started) (H : Type) (enc : TypeId × Value → H) (F : Stop.Interp) :
    ReturnsInHanded {} Tryd.checked os 6 .any ((Rows.OpenSpec.upto Rows.segSameSpec).preRow enc Tryd.prog Tryd.f6 Rows.segSameUptoRow.domain false Rows.segSameUptoRow.laid) (((Rows.OpenSpec.upto Rows.segSameSpec).at F).post enc Tryd.prog Tryd.f6 false true false false) := by
  obtain ⟨places, hx⟩ := reads os enc
  refine returnsInHanded_of_row (C := Tryd.checked) (s := Rows.OpenSpec.upto Rows.segSameSpec) own started (by kernel_rfl) Tryd.func6
    (witness_row_at (enc := enc) (C := Tryd.checked) false (laidWorld os) #[.slice none 0 0, .slice none 0 0] rfl (by kernel_rfl) (by kernel_rfl) (by kernel_rfl)
      (OpenSpec.preRow_of_cond 8 hx (by kernel_rfl) (fun k hk => by cases hk; kernel_rfl) (by kernel_rfl) (laid_met os))) ?_
  intro W base args ds gs before hval hW _ hcond _ hL _ _
  exact contract H enc W base args ds gs before hval hW hL (hcond _ rfl)

set_option maxRecDepth 100000 in
theorem said : Rows.SegSameUptoSaid :=
  OpenClaim.holds_of_cond 6 Tryd.f6 rfl rfl rfl rfl rfl rfl rfl ⟨rfl, rfl, rfl, rfl, rfl⟩ rfl rfl rfl rfl rfl (by kernel_rfl) Tryd.func6 (by kernel_rfl)
    (of_decide_eq_true (by kernel_rfl)) (by unfold Func.isWrapper; first | (rw [if_pos (by decide +kernel)]; kernel_rfl) | (rw [if_neg (by decide +kernel)]; exact ⟨rfl, rfl⟩))
    (fun os started H enc _ F => by rw [OpenClaim.pre_eq_preRow]; exact lifted os started H enc F)

set_option maxRecDepth 100000 in
/-- no parameter wants a stand-in; the program's own looks are off -/
theorem plain (f : FuncId) (fn : Func) (hf : Tryd.pinned.checked.prog.funcNamed Rows.segSameUptoRow.func = some f) (hfn : Tryd.pinned.checked.prog.funcs[f]? = some fn) :
    false = Tryd.pinned.checked.prog.looks [] ∧ ∀ (j : Nat) t, fn.params[j]? = some t → Tryd.pinned.checked.prog.wantsStandIn t = false := by
  obtain rfl : f = 6 := Option.some.inj ((show Tryd.prog.funcNamed Rows.segSameUptoRow.func = some 6 by kernel_rfl).symm.trans hf) |>.symm
  obtain rfl : fn = Tryd.f6 := (Option.some.inj (Tryd.func6.symm.trans hfn)).symm
  refine ⟨by kernel_rfl, fun j t ht => ?_⟩
  rw [Tryd.params6] at ht
  have hm := Array.mem_of_getElem? ht
  simp only [List.mem_toArray, List.mem_cons, List.not_mem_nil, or_false] at hm
  rcases hm with rfl | rfl
  all_goals first | exact (show Tryd.prog.wantsStandIn 22 = false by kernel_rfl)

set_option maxRecDepth 100000 in
/-- THE STATEMENT -/
theorem proved : Rows.SegSameUptoCardSaid :=
  Claim7.holds_tied_plain_at .later [] _ _ _ _ said (fun _ h => by cases h) (by kernel_rfl) (fun _ h => by cases h) segSameUpto_row_tie rfl ⟨rfl, rfl⟩ (by kernel_rfl) rfl plain (by kernel_rfl)
end Go.Proofs.YtkloohgajfodgaaDoor.LawSegSame
