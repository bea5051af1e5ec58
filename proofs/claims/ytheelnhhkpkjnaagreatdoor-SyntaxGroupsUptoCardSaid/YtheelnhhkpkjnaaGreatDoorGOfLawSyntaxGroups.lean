/-
  SyntaxGroups answers true, and leaves its arguments as they were, for all bytes that hold together at most 1048576 values, from every memory in which the variables that the row lists hold what it says: a pattern in brackets has the same steps; two with a bar between are either, one behind the other both.
-/
import Derived.Test.YtheelnhhkpkjnaaGreatDoorG40
import Derived.Test.YtheelnhhkpkjnaaGreatDoorG41
namespace Go.Proofs.YtheelnhhkpkjnaaGreatDoor.LawSyntaxGroups
open Go.ChangeShapes Go.WideShapes Go.ChangeAt Go.RowKit
open Utf (Rd bys bys_len open_bytes laidOut own bulk_bound)
open Ucd (Laid)
open Rset (Ret own_form)
open Sset (St Tx txs ArgT ArgR normS none_)
open Syn
set_option maxHeartbeats 32000000 in
set_option maxRecDepth 100000 in
theorem walk (A : Option Addr) (a : List UInt8) (n c : Nat) (B : Option Addr) (b : List UInt8) (m d : Nat) (w : World) (hL : Laid w) (hr : Rd w w.heap.size A (bys a)) (hn : a.length = n) (hc : n ≤ c) (hcm : c ≤ 9223372036854775807)
  (hs : Rd w w.heap.size B (bys b)) (hm : b.length = m) (hd : m ≤ d) (hdm : d ≤ 9223372036854775807) (hsm : n + m ≤ 1048576) :
  Calls Tryz.prog 7 #[.slice A n c, .slice B m d] w (Ret w (.bool true)) := by
 have HF := Lib.hid (fixed_any w hL)
 have HL := Lib.hid hL
 have HR := Lib.hid hr
 have HS := Lib.hid hs
 have HN := Lib.hid hn
 have HM := Lib.hid hm
 have HPA := Lib.hid (fun (u : World) (hu : Laid u) (h : Rd u u.heap.size A (bys a)) => parse_uni a A n c u hu h hn hc hcm (by omega))
 have HPB := Lib.hid (fun (u : World) (hu : Laid u) (h : Rd u u.heap.size B (bys b)) => parse_uni b B m d u hu h hm hd hdm (by omega))
 have HCA := Lib.hid (fun (u : World) (h : Rd u u.heap.size A (bys a)) => clings_any A a n c u h hn (by omega))
 have HCB := Lib.hid (fun (u : World) (h : Rd u u.heap.size B (bys b)) => clings_any B b m d u h hm (by omega))
 clear hL hr hs hn hm hc hd
 go_enter Tryz.func7, Tryz.ntmps7
 go_wp2_with fail
 refine HF.out.mono ?_
 rintro e w1 ⟨rfl, hb1⟩
 have HB1 := Lib.hid hb1
 clear hb1 HF
 go_wp2_with fail
 refine (HPA.out w1 (HL.out.next HB1.out) ((HR.out.below HB1.out).more HB1.out.size)).mono ?_
 rintro e w2 ⟨A1, n1, c1, k1, E1, rfl, hu1, hb2⟩
 have HB2 := Lib.hid (HB1.out.trans (hb2.mono HB1.out.size))
 have HU1 := Lib.hid hu1
 clear hb2 hu1 HPA
 go_wp2_with fail
 refine (HPB.out w2 (HL.out.next HB2.out) ((HS.out.below HB2.out).more HB2.out.size)).mono ?_
 rintro e w3 ⟨A2, n2, c2, k2, E2, rfl, hu2, hb3⟩
 have HB3 := Lib.hid (HB2.out.trans (hb3.mono HB2.out.size))
 have HU2 := Lib.hid hu2
 have HB23 := Lib.hid hb3
 clear hb3 hu2 HPB
 by_cases e1 : E1 = 0
 ·subst e1
  by_cases e2 : E2 = 0
  ·subst e2
   obtain ⟨L1, V1, hp1, hl1, hg1⟩ : ∃ L V, parseF theE a = .ok L ∧ L.length = n1 ∧ Got w2 w1.heap.size A1 n1 c1 V L := by
    rcases HU1.out with ⟨h, _⟩ | ⟨_, h⟩
    ·exact absurd rfl h
    ·exact h
   obtain ⟨L2, V2, hp2, hl2, hg2⟩ : ∃ L V, parseF theE b = .ok L ∧ L.length = n2 ∧ Got w3 w2.heap.size A2 n2 c2 V L := by
    rcases HU2.out with ⟨h, _⟩ | ⟨_, h⟩
    ·exact absurd rfl h
    ·exact h
   have HG1 := Lib.hid (hg1.next HB23.out)
   have HG2 := Lib.hid hg2
   have HP1 := Lib.hid hp1; have HP2 := Lib.hid hp2
   have HL1 := Lib.hid hl1; have HL2 := Lib.hid hl2
   have hn1 := hg1.sm; have hn2 := hg2.sm
   clear hg1 hg2 hp1 hp2 hl1 hl2 HU1 HU2 HB23
   have HC1 := Lib.hid (HCA.out w3 ((HR.out.below HB3.out).more HB3.out.size))
   have HO1 := Lib.hid (show clg a = false → Opens a from clg_opens)
   have HO2 := Lib.hid (show clg b = false → Opens b from clg_opens)
   clear HCA
   generalize clg a = z1 at HC1 HO1
   cases z1 with
   | true =>
    go_wp2_with fail
    refine HC1.out.mono ?_
    rintro e w4 ⟨rfl, hb4⟩
    have HB4 := Lib.hid (HB3.out.trans (hb4.mono HB3.out.size))
    clear hb4
    go_wp2_with fail
    go_ret
    exact ⟨rfl, HB4.out⟩
   | false =>
    go_wp2_with fail
    refine HC1.out.mono ?_
    rintro e w4 ⟨rfl, hb4⟩
    have HB4 := Lib.hid (HB3.out.trans (hb4.mono HB3.out.size))
    replace HG1 := Lib.hid (HG1.out.next hb4)
    replace HG2 := Lib.hid (HG2.out.next hb4)
    have HC2 := Lib.hid (HCB.out w4 ((HS.out.below HB4.out).more HB4.out.size))
    clear hb4 HCB HC1
    generalize clg b = z2 at HC2 HO2
    cases z2 with
    | true =>
     go_wp2_with fail
     refine HC2.out.mono ?_
     rintro e w5 ⟨rfl, hb5⟩
     have HB5 := Lib.hid (HB4.out.trans (hb5.mono HB4.out.size))
     clear hb5
     go_wp2_with fail
     go_ret
     exact ⟨rfl, HB5.out⟩
    | false =>
     go_wp2_with fail
     refine HC2.out.mono ?_
     rintro e w5 ⟨rfl, hb5⟩
     have HB5 := Lib.hid (HB4.out.trans (hb5.mono HB4.out.size))
     replace HG1 := Lib.hid (HG1.out.next hb5)
     replace HG2 := Lib.hid (HG2.out.next hb5)
     clear hb5 HC2
     have HOA := Lib.hid (HO1.out trivial)
     have HOB := Lib.hid (HO2.out trivial)
     clear HO1 HO2
     by_cases hlong : 3000 < n + m
     ·have hd1 : decide ((3000 : Int) < (n : Int) + (m : Int)) = true := decide_eq_true (by omega)
      have hd2 : ¬ ((n : Int) + (m : Int) ≤ 3000) := by omega
      go_wp2_with fail
      go_ret
      exact ⟨rfl, HB5.out⟩
     ·have hd2 : (n : Int) + (m : Int) ≤ 3000 := by omega
      have hd1 : decide ((3000 : Int) < (n : Int) + (m : Int)) = false := decide_eq_false (by omega)
      have hn3 : n ≤ 3000 := by omega
      have hm3 : m ≤ 3000 := by omega
      obtain ⟨SA, hSA⟩ : ∃ S : ByteArray, S = ⟨a.toArray⟩ := ⟨_, rfl⟩
      obtain ⟨SB, hSB⟩ : ∃ S : ByteArray, S = ⟨b.toArray⟩ := ⟨_, rfl⟩
      have tA : SA.toList = a := by rw [hSA]; exact Sset.mk_toList a
      have tB : SB.toList = b := by rw [hSB]; exact Sset.mk_toList b
      have tl : a.length ≤ 3000 := by rw [HN.out]; exact hn3
      have tm : b.length ≤ 3000 := by rw [HM.out]; exact hm3
      obtain ⟨X1, x1, y1⟩ := cat_str ⟨#[40]⟩ SA [40] a (Sset.mk_toList [40]) tA (by decide) (by omega)
      obtain ⟨X2, x2, y2⟩ := cat_str X1 ⟨#[41]⟩ _ [41] x1 (Sset.mk_toList [41]) (by simp; omega) (by decide)
      obtain ⟨X3, x3, y3⟩ := cat_str X1 ⟨#[41, 124, 40]⟩ _ [41, 124, 40] x1 (Sset.mk_toList [41, 124, 40]) (by simp; omega) (by decide)
      obtain ⟨X4, x4, y4⟩ := cat_str X3 SB _ b x3 tB (by simp; omega) (by omega)
      obtain ⟨X5, x5, y5⟩ := cat_str X4 ⟨#[41]⟩ _ [41] x4 (Sset.mk_toList [41]) (by simp; omega) (by decide)
      obtain ⟨X6, x6, y6⟩ := cat_str X1 ⟨#[41, 40]⟩ _ [41, 40] x1 (Sset.mk_toList [41, 40]) (by simp; omega) (by decide)
      obtain ⟨X7, x7, y7⟩ := cat_str X6 SB _ b x6 tB (by simp; omega) (by omega)
      obtain ⟨X8, x8, y8⟩ := cat_str X7 ⟨#[41]⟩ _ [41] x7 (Sset.mk_toList [41]) (by simp; omega) (by decide)
      have x2' : X2.toList = 40 :: (a ++ [41]) := by rw [x2]; simp
      have x5' : X5.toList = 40 :: (a ++ 41 :: 124 :: 40 :: (b ++ [41])) := by rw [x5]; simp
      have x8' : X8.toList = 40 :: (a ++ 41 :: 40 :: (b ++ [41])) := by rw [x8]; simp
      have T2 := Lib.hid x2'; have T5 := Lib.hid x5'; have T8 := Lib.hid x8'
      have q2 : (40 :: (a ++ [41])).length = n + 2 := by simp [HN.out]
      have q5 : (40 :: (a ++ 41 :: 124 :: 40 :: (b ++ [41]))).length = n + m + 5 := by simp [HN.out, HM.out]; omega
      have q8 : (40 :: (a ++ 41 :: 40 :: (b ++ [41]))).length = n + m + 4 := by simp [HN.out, HM.out]; omega
      have Q2 := Lib.hid q2; have Q5 := Lib.hid q5; have Q8 := Lib.hid q8
      have ST2 := Lib.hid (parse_group theE HP1.out HOA.out (by rw [HN.out]; omega))
      have ST5 := Lib.hid (parse_bar theE HP1.out HP2.out HOA.out HOB.out (by rw [HN.out, HM.out]; omega))
      have ST8 := Lib.hid (parse_both theE HP1.out HP2.out HOA.out HOB.out (by rw [HN.out, HM.out]; omega))
      have hca := Lib.hid (fun (u : World) (h : Below w.heap.size w u) => Sset.conv_rd (c := c) (HR.out.below h) HN.out)
      have hcb := Lib.hid (fun (u : World) (h : Below w.heap.size w u) => Sset.conv_rd (c := d) (HS.out.below h) HM.out)
      have h1 : (convert 25 9 (.slice A n c)).run Tryz.prog w5 = .ok (.string SA) w5 := by rw [hSA]; exact hca.out w5 HB5.out
      obtain ⟨g6, C6, w6, hcv6, hr6, hb6, hC6, hCm6⟩ := Sset.conv_str w5 X2 _ T2.out _ Q2.out (by omega)
      have HB6 := Lib.hid (HB5.out.trans (hb6.mono HB5.out.size))
      replace HG1 := Lib.hid (HG1.out.next hb6)
      replace HG2 := Lib.hid (HG2.out.next hb6)
      have HPX := Lib.hid (parse_uni _ _ _ C6 w6 (HL.out.next HB6.out) hr6 Q2.out hC6 hCm6 (by omega))
      have HSA := Lib.hid hSA; have HSB := Lib.hid hSB
      clear hr6 hb6 x1 x2 x3 x4 x5 x6 x7 x8 x2' x5' x8' q2 q5 q8 hSA hSB tA tB tl tm hlong
      go_wp2_with fail
      refine HPX.out.mono ?_
      rintro e w7 ⟨AX, nx, cx, kx, EX, rfl, hux, hb7⟩
      have HB7 := Lib.hid (HB6.out.trans (hb7.mono HB6.out.size))
      replace HG1 := Lib.hid (HG1.out.next hb7)
      replace HG2 := Lib.hid (HG2.out.next hb7)
      have HX := Lib.hid (hux.steps ST2.out)
      clear hux hb7 HPX hcv6 h1 hC6 hCm6 ST2
      have h1 : (convert 25 9 (.slice A n c)).run Tryz.prog w7 = .ok (.string SA) w7 := by rw [HSA.out]; exact hca.out w7 HB7.out
      have h2 : (convert 25 9 (.slice B m d)).run Tryz.prog w7 = .ok (.string SB) w7 := by rw [HSB.out]; exact hcb.out w7 HB7.out
      obtain ⟨g8, C8, w8, hcv8, hr8, hb8, hC8, hCm8⟩ := Sset.conv_str w7 X5 _ T5.out _ Q5.out (by omega)
      have HB8 := Lib.hid (HB7.out.trans (hb8.mono HB7.out.size))
      have HB78 := Lib.hid hb8
      replace HG1 := Lib.hid (HG1.out.next hb8)
      replace HG2 := Lib.hid (HG2.out.next hb8)
      have HPY := Lib.hid (parse_uni _ _ _ C8 w8 (HL.out.next HB8.out) hr8 Q5.out hC8 hCm8 (by omega))
      clear hr8 hb8
      go_wp2_with fail
      refine HPY.out.mono ?_
      rintro e w9 ⟨AY, ny, cy, ky, EY, rfl, huy, hb9⟩
      have HB9 := Lib.hid (HB8.out.trans (hb9.mono HB8.out.size))
      have HB79 := Lib.hid (HB78.out.trans (hb9.mono HB78.out.size))
      replace HG1 := Lib.hid (HG1.out.next hb9)
      replace HG2 := Lib.hid (HG2.out.next hb9)
      have HY := Lib.hid (huy.steps ST5.out)
      clear huy hb9 HPY hcv8 h1 h2 hC8 hCm8 ST5
      have h1 : (convert 25 9 (.slice A n c)).run Tryz.prog w9 = .ok (.string SA) w9 := by rw [HSA.out]; exact hca.out w9 HB9.out
      have h2 : (convert 25 9 (.slice B m d)).run Tryz.prog w9 = .ok (.string SB) w9 := by rw [HSB.out]; exact hcb.out w9 HB9.out
      obtain ⟨ga, Ca, wa, hcva, hra, hba, hCa, hCma⟩ := Sset.conv_str w9 X8 _ T8.out _ Q8.out (by omega)
      have HBA := Lib.hid (HB9.out.trans (hba.mono HB9.out.size))
      have HB9A := Lib.hid hba
      replace HG1 := Lib.hid (HG1.out.next hba)
      replace HG2 := Lib.hid (HG2.out.next hba)
      have HPZ := Lib.hid (parse_uni _ _ _ Ca wa (HL.out.next HBA.out) hra Q8.out hCa hCma (by omega))
      clear hra hba
      go_wp2_with fail
      refine HPZ.out.mono ?_
      rintro e wz ⟨AZ, nz, cz, kz, EZ, rfl, huz, hbz⟩
      have HBZ := Lib.hid (HBA.out.trans (hbz.mono HBA.out.size))
      have HB9Z := Lib.hid (HB9A.out.trans (hbz.mono HB9A.out.size))
      have HB7Z := Lib.hid (HB79.out.trans (HB9Z.out.mono HB79.out.size))
      replace HG1 := Lib.hid (HG1.out.next hbz)
      replace HG2 := Lib.hid (HG2.out.next hbz)
      have HZ := Lib.hid (huz.steps ST8.out)
      clear huz hbz HPZ hcva h1 h2 hCa hCma ST8 y1 y2 y3 y4 y5 y6 y7 y8
      rcases HX.out with rfl | ⟨rfl, VX, hlx, hgx⟩
      ·go_wp2_with fail
       go_ret
       exact ⟨rfl, HBZ.out⟩
      ·rcases HY.out with rfl | ⟨rfl, VY, hly, hgy⟩
       ·go_wp2_with fail
        go_ret
        exact ⟨rfl, HBZ.out⟩
       ·rcases HZ.out with rfl | ⟨rfl, VZ, hlz, hgz⟩
        ·go_wp2_with fail
         go_ret
         exact ⟨rfl, HBZ.out⟩
        ·have GX := Lib.hid (hgx.next HB7Z.out)
         have GY := Lib.hid (hgy.next HB9Z.out)
         have GZ := Lib.hid hgz
         clear hgx hgy hgz hlx hly hlz HX HY HZ
         obtain ⟨i0, hi, hz0, hz1, hz2⟩ := info_parts infoNode
         have hlx := GX.out.len2; have hly := GY.out.len2; have hlz := GZ.out.len2
         have HLX := Lib.hid hlx; have HLY := Lib.hid hly; have HLZ := Lib.hid hlz
         clear hlx hly hlz
         have hnx := GX.out.sm; have hny := GY.out.sm; have hnz := GZ.out.sm
         go_wp2_with (first
          | (at_builtin; refine Utf.wpList_append_rd _ rfl (.tmp 105) (.tmp 106) _ rfl wz.heap.size 41 i0 _ 6 96 Tryz.underlying22 hi hz0 hz1 hz2 rfl (by decide) (.slice (some ⟨wz.heap.size, 0, none⟩) 0 0) 0 [] rfl (NR.mt wz wz.heap.size (Nat.le_refl _)).own _ A1 n1 c1 (nvs V1) rfl (by rw [nvs_len, HG1.out.len]) (HG1.out.rd.alloc (Nat.le_refl _) _) (nvs_ones V1) (by unfold maxLen; omega) (by omega) (by simp) ?_; intro v3 w3 hown3 hgr3 _; simp only [Nat.zero_add, List.nil_append] at hown3; have hb3 := ((Below.refl wz.heap.size wz).alloc (Nat.le_refl _) (.cells #[] 41)).grown hgr3 (by simp) (fun g hg => by injection hg with hg; simp at hg; omega); have HB3' := Lib.hid hb3; have HO3 := Lib.hid hown3; obtain ⟨A3, c3, rfl, _⟩ := own_form hown3; clear hown3 hgr3 hb3)
          | (at_builtin; refine Utf.wpList_append_rd _ rfl (.tmp 107) (.tmp 108) _ rfl wz.heap.size 41 i0 _ 6 96 Tryz.underlying22 hi hz0 hz1 hz2 rfl (by decide) (.slice A3 n1 c3) n1 (nvs V1) rfl HO3.out _ A2 n2 c2 (nvs V2) rfl (by rw [nvs_len, HG2.out.len]) (HG2.out.rd.below HB3'.out) (nvs_ones V2) (by unfold maxLen; omega) (by omega) HB3'.out.size ?_; intro v4 w4 hown4 hgr4 _; obtain ⟨A4, c4, rfl, _⟩ := own_form hown4; have hb4 := HB3'.out.grown hgr4 HB3'.out.size (fun g hg => (HO3.out.lt g hg).1); have HB4' := Lib.hid hb4; have HR4 := Lib.hid (NR.app HG1.out.len HG1.out.len2 HG2.out.len HG2.out.len2 HG1.out.arg.means HG2.out.arg.means (.inl hb4) hown4); clear hown4 hgr4 hb4 HO3 HB3'))
         have HS1 := Lib.hid (rnsame_any AX A1 VX V1 L1 L1 nx n1 cx c1 w4 (GX.out.next HB4'.out).arg (HG1.out.next HB4'.out).arg)
         rw [decide_eq_true (rfl : L1 = L1)] at HS1
         refine HS1.out.mono ?_
         rintro e w5s ⟨rfl, hb5⟩
         have HR5 := Lib.hid (HR4.out.next hb5)
         have HB5s := Lib.hid (HB4'.out.trans (hb5.mono HB4'.out.size))
         clear hb5 HS1 HR4
         go_wp2_with (first
          | (at_builtin; refine wpList_append_rdg _ (by rfl) (.tmp 127) (.tmp 128) _ rfl w5s.heap.size 41 i0 _ 6 96 Tryz.underlying22 hi hz0 hz1 hz2 rfl (by decide) (.slice (some ⟨w5s.heap.size, 0, none⟩) 0 0) 0 [] rfl (NR.mt w5s w5s.heap.size (Nat.le_refl _)).own _ A4 (n1 + n2) c4 (nvs (V1 ++ V2)) rfl (by rw [nvs_len, HR5.out.len]) ((Rd.of_own HR5.out.own).alloc (Nat.le_refl _) _) (nvs_ones _) (by unfold maxLen; omega) (by omega) (by simp) ?_; intro v6 w6s hown6 hgr6 _; simp only [Nat.zero_add, List.nil_append] at hown6; have hb6 := ((Below.refl w5s.heap.size w5s).alloc (Nat.le_refl _) (.cells #[] 41)).grown hgr6 (by simp) (fun g hg => by injection hg with hg; simp at hg; omega); have HB6' := Lib.hid hb6; have HO6 := Lib.hid hown6; obtain ⟨A6, c6, rfl, _⟩ := own_form hown6; clear hown6 hgr6 hb6)
          | (at_builtin; refine wpList_append_rdg _ (by rfl) (.tmp 129) (.tmp 131) _ rfl w5s.heap.size 41 i0 _ 6 96 Tryz.underlying22 hi hz0 hz1 hz2 rfl (by decide) (.slice A6 (n1 + n2) c6) (n1 + n2) (nvs (V1 ++ V2)) rfl (Rset.own_below HO6.out ((Below.refl _ _).alloc (Nat.le_refl _) _)) _ (some ⟨w6s.heap.size, 0, none⟩) 1 1 (nvs [⟨6, none, 0, 0, none, 0, 0, none, 0, 0, 0, 0⟩]) rfl rfl (Utf.rd_new _ _ (nvs [⟨6, none, 0, 0, none, 0, 0, none, 0, 0, 0, 0⟩]) _ rfl) (nvs_ones _) (by unfold maxLen; omega) (by omega) (by have := HB6'.out.size; simp; omega) ?_; intro v7 w7s hown7 hgr7 _; obtain ⟨A7, c7, rfl, _⟩ := own_form hown7; have hb7 := ((HB6'.out.alloc HB6'.out.size _).grown hgr7 (by have := HB6'.out.size; simp; omega) (fun g hg => (HO6.out.lt g hg).1)); have HB7' := Lib.hid hb7; have HR7 := Lib.hid (NR.app HR5.out.len HR5.out.len2 (m := 1) (U := [⟨6, none, 0, 0, none, 0, 0, none, 0, 0, 0, 0⟩]) (k := [nd 6]) rfl rfl HR5.out.means (fun i h1 h2 => by have hi0 : i = 0 := (by simp at h1; omega); subst hi0; exact means_plain w5s 6) (.inl hb7) hown7); clear hown7 hgr7 hb7 HO6 HB6'))
         have HBZ7 := Lib.hid (HB5s.out.trans (HB7'.out.mono HB5s.out.size))
         have HR57 := Lib.hid (HR5.out.next HB7'.out)
         have HS2 := Lib.hid (rnsame_any AY A7 VY _ _ _ ny (n1 + n2 + 1) cy c7 w7s (GY.out.next HBZ7.out).arg ⟨Rd.of_own HR7.out.own, HR7.out.len, HR7.out.len2, HR7.out.means, by omega⟩)
         rw [decide_eq_true (rfl : L1 ++ L2 ++ [nd 6] = L1 ++ L2 ++ [nd 6])] at HS2
         refine HS2.out.mono ?_
         rintro e w8s ⟨rfl, hb8⟩
         have HR8 := Lib.hid (HR57.out.next hb8)
         have HBZ8 := Lib.hid (HBZ7.out.trans (hb8.mono HBZ7.out.size))
         clear hb8 HS2 HR57 HR5 HR7 HB5s HB7' HBZ7
         go_wp2_with (at_builtin; refine wpList_append_rdg _ (by rfl) (.tmp 137) (.tmp 139) _ rfl wz.heap.size 41 i0 _ 6 96 Tryz.underlying22 hi hz0 hz1 hz2 rfl (by decide) (.slice A4 (n1 + n2) c4) (n1 + n2) (nvs (V1 ++ V2)) rfl (Rset.own_below HR8.out.own ((Below.refl _ _).alloc (Nat.le_refl _) _)) _ (some ⟨w8s.heap.size, 0, none⟩) 1 1 (nvs [⟨5, none, 0, 0, none, 0, 0, none, 0, 0, 0, 0⟩]) rfl rfl (Utf.rd_new _ _ (nvs [⟨5, none, 0, 0, none, 0, 0, none, 0, 0, 0, 0⟩]) _ rfl) (nvs_ones _) (by unfold maxLen; omega) (by omega) (by have := HBZ8.out.size; simp; omega) ?_; intro v9 w9s hown9 hgr9 _; obtain ⟨A9, c9, rfl, _⟩ := own_form hown9; have hb9 := ((HBZ8.out.alloc HBZ8.out.size _).grown hgr9 (by have := HBZ8.out.size; simp; omega) (fun g hg => (HR8.out.own.lt g hg).1)); have HB9' := Lib.hid hb9; have HR9 := Lib.hid (NR.app (w := wz) (k := [nd 5]) (by rw [List.length_append, HG1.out.len, HG2.out.len]) (by rw [List.length_append, HG1.out.len2, HG2.out.len2]) (m := 1) (U := [⟨5, none, 0, 0, none, 0, 0, none, 0, 0, 0, 0⟩]) rfl rfl (means_two HG1.out HG2.out) (fun i h1 h2 => by have hi0 : i = 0 := (by simp at h1; omega); subst hi0; exact means_plain wz 5) (.inl hb9) hown9); clear hown9 hgr9 hb9)
         have HS3 := Lib.hid (rnsame_any AZ A9 VZ _ _ _ nz (n1 + n2 + 1) cz c9 w9s (GZ.out.next HB9'.out).arg ⟨Rd.of_own HR9.out.own, HR9.out.len, HR9.out.len2, HR9.out.means, by omega⟩)
         rw [decide_eq_true (rfl : L1 ++ L2 ++ [nd 5] = L1 ++ L2 ++ [nd 5])] at HS3
         refine HS3.out.mono ?_
         rintro e wA ⟨rfl, hbA⟩
         have HBF := Lib.hid (HBZ.out.trans ((HB9'.out.trans (hbA.mono HB9'.out.size)).mono HBZ.out.size))
         clear hbA HS3
         go_wp2_with fail
         go_ret
         exact ⟨rfl, HBF.out⟩
  ·have e2' : (E2 == 0) = false := beq_eq_false_iff_ne.2 e2
   have e2'' : (E2 != 0) = true := bne_iff_ne.2 e2
   go_wp2_with fail
   go_ret
   exact ⟨rfl, HB3.out⟩
 ·have e1' : (E1 == 0) = false := beq_eq_false_iff_ne.2 e1
  have e1'' : (E1 != 0) = true := bne_iff_ne.2 e1
  go_wp2_with fail
  go_ret
  exact ⟨rfl, HB3.out⟩
set_option maxRecDepth 100000 in
theorem contract (H : Type) (enc : TypeId × Value → H) (W : World) (base : Nat) (args : Array Value) (ds gs : List (DataW H)) (before : List MemPlace)
  (hval : ∀ (j : Nat) t v, Tryz.f7.params[j]? = some t → args[j]? = some v → Value.okWide Tryz.prog W .any base t v)
  (hW : DataW.Whole enc Tryz.prog Tryz.f7.params.toList Rows.syntaxGroupsSpec.vars false W args.toList ds gs before) (hLL : laidMetH Tryz.prog Rows.syntaxGroupsUptoRow.laid W) (hk : Rows.uptoSmall H (ds ++ gs) = true) :
  Calls Tryz.prog 7 args W fun e W' => ∃ v, e = .returned v ∧ Rows.syntaxGroupsSpec.post enc Tryz.prog Tryz.f7 false true false false W args v W' := by
 have hL : Laid W := laid_of hLL
 have hW' := hW
 obtain ⟨p, q, hA0, hV, rfl, hfz, hnd⟩ := hW
 have hA : DataW.TrodAll enc Tryz.prog W 0 (fun _ => true) true Tryz.f7.params.toList args.toList ds p := hA0
 rw [Tryz.params7] at hA hval
 obtain ⟨v0, vs0, d0, ds0, p0, q0, hargs, rfl, rfl, h0, r0⟩ := trodAll_cons hA
 obtain ⟨v1, vs1, d1, ds1, p1, q1, rfl, rfl, rfl, h1, r1⟩ := trodAll_cons r0
 obtain ⟨rfl, rfl, rfl⟩ := trodAll_nil r1
 obtain rfl : args = #[v0, v1] := by cases args; simp_all
 obtain ⟨rfl, rfl⟩ := trodVars_none hV
 obtain ⟨a0, len0, cap0, rfl⟩ := okWide_slice Tryz.underlying25 (hval 0 25 v0 rfl rfl)
 have k0 := h0
 have lt0 : ∀ x ∈ p0, x.block < W.heap.size := by obtain ⟨m, hm⟩ := k0; exact DataW.trod_lt m _ _ _ hm
 obtain ⟨l0, hl0, hc0, hm0, hr0, hb0⟩ := open_bytes h0
 obtain ⟨a1, len1, cap1, rfl⟩ := okWide_slice Tryz.underlying25 (hval 1 25 v1 rfl rfl)
 have k1 := h1
 have lt1 : ∀ x ∈ p1, x.block < W.heap.size := by obtain ⟨m, hm⟩ := k1; exact DataW.trod_lt m _ _ _ hm
 obtain ⟨l1, hl1, hc1, hm1, hr1, hb1⟩ := open_bytes h1
 have hbd := bulk_bound hk
 simp only [List.append_nil, Rows.uptoBulkAll] at hbd
 clear hA0
 refine (walk a0 l0 len0 cap0 a1 l1 len1 cap1 W hL hr0 hl0 hc0 hm0 hr1 hl1 hc1 hm1 (by omega)).mono fun e W' ⟨he, bel⟩ => ?_
 subst he
 exact ⟨_, rfl, _, _, _, [], _, [], hW', trodAll_mk1 (shut_bool Tryz.underlying4 _), (trodAll_cons_mk (Below.trod laidOut (by kernel_rfl) (of_decide_eq_true (by kernel_rfl)) k0 bel lt0) (trodAll_cons_mk (Below.trod laidOut (by kernel_rfl) (of_decide_eq_true (by kernel_rfl)) k1 bel lt1) trodAll_mk0)), rfl, bel.frame _, fun h => by cases h⟩
set_option maxRecDepth 100000 in
theorem laid_met (os : Os) : laidMet Tryz.prog Rows.syntaxGroupsUptoRow.laid ((laidWorld os).forCall (fun _ _ => 0) ⟨#[], #[.slice none 0 0, .slice none 0 0], []⟩).memory :=
 Syn.laid_met os _
set_option maxRecDepth 100000 in
theorem reads (os : Os) {H : Type} (enc : TypeId × Value → H) : ∃ places, DataW.whole enc Tryz.prog ((laidWorld os).forCall (fun _ _ => 0) ⟨#[], #[.slice none 0 0, .slice none 0 0], []⟩).memory Tryz.f7.params.toList Rows.syntaxGroupsSpec.vars false (#[.slice none 0 0, .slice none 0 0] : Array Value).toList 8 = some ([.nil, .nil], [], places) :=
 ⟨[], by kernel_rfl⟩
set_option maxRecDepth 100000 in
theorem lifted (os : Os) (started : os.Started) (H : Type) (enc : TypeId × Value → H) (F : Stop.Interp) :
  ReturnsInHanded {} Tryz.checked os 7 .any ((Rows.OpenSpec.upto Rows.syntaxGroupsSpec).preRow enc Tryz.prog Tryz.f7 Rows.syntaxGroupsUptoRow.domain false Rows.syntaxGroupsUptoRow.laid) (((Rows.OpenSpec.upto Rows.syntaxGroupsSpec).at F).post enc Tryz.prog Tryz.f7 false true false false) := by
 obtain ⟨places, hx⟩ := reads os enc
 refine returnsInHanded_of_row (C := Tryz.checked) (s := Rows.OpenSpec.upto Rows.syntaxGroupsSpec) own started (by kernel_rfl) Tryz.func7
  (witness_row_shaped (enc := enc) (C := Tryz.checked) false (laidWorld os) #[.slice none 0 0, .slice none 0 0] (World.laidAll_os _ _ _) (World.shaped_of_ZipB (by kernel_rfl) (by kernel_rfl)) (by kernel_rfl)
   (OpenSpec.preRow_of_cond 8 hx (by kernel_rfl) (fun k hk => by cases hk; kernel_rfl) (by kernel_rfl) (laid_met os))) ?_
 intro W base args ds gs before hval hW _ hcond _ hL _ _
 exact contract H enc W base args ds gs before hval hW hL (hcond _ rfl)
set_option maxRecDepth 100000 in
theorem said : Rows.SyntaxGroupsUptoSaid :=
 OpenClaim.holds_of_cond 7 Tryz.f7 rfl rfl rfl rfl rfl rfl rfl ⟨rfl, rfl, rfl, rfl, rfl⟩ rfl rfl rfl rfl rfl (by kernel_rfl) Tryz.func7 (by kernel_rfl)
  (of_decide_eq_true (by kernel_rfl)) (by unfold Func.isWrapper; first | (rw [if_pos (by decide +kernel)]; kernel_rfl) | (rw [if_neg (by decide +kernel)]; exact ⟨rfl, rfl⟩))
  (fun os started H enc _ F => by rw [OpenClaim.pre_eq_preRow]; exact lifted os started H enc F)
set_option maxRecDepth 100000 in
theorem plain (f : FuncId) (fn : Func) (hf : Tryz.pinned.checked.prog.funcNamed Rows.syntaxGroupsUptoRow.func = some f) (hfn : Tryz.pinned.checked.prog.funcs[f]? = some fn) :
  true = Tryz.pinned.checked.prog.looks [] ∧ ∀ (j : Nat) t, fn.params[j]? = some t → Tryz.pinned.checked.prog.wantsStandIn t = false := by
 obtain rfl : f = 7 := Option.some.inj ((show Tryz.prog.funcNamed Rows.syntaxGroupsUptoRow.func = some 7 by kernel_rfl).symm.trans hf) |>.symm
 obtain rfl : fn = Tryz.f7 := (Option.some.inj (Tryz.func7.symm.trans hfn)).symm
 refine ⟨by kernel_rfl, fun j t ht => ?_⟩
 rw [Tryz.params7] at ht
 have hm := Array.mem_of_getElem? ht
 simp only [List.mem_toArray, List.mem_cons, List.not_mem_nil, or_false] at hm
 rcases hm with rfl | rfl
 all_goals first | exact (show Tryz.prog.wantsStandIn 25 = false by kernel_rfl)
set_option maxRecDepth 100000 in
theorem proved : Rows.SyntaxGroupsUptoCardSaid :=
 Claim7.holds_tied_plain_at .later [] _ _ _ _ said (fun _ h => by cases h) (by kernel_rfl) (fun _ h => by cases h) syntaxGroupsUpto_row_tie rfl ⟨rfl, rfl⟩ (by kernel_rfl) rfl plain (by kernel_rfl)
end Go.Proofs.YtheelnhhkpkjnaaGreatDoor.LawSyntaxGroups
