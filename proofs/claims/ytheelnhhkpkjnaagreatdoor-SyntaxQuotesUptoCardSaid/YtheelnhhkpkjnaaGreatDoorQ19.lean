/-
  Texts of stage 7, part 19.
-/
import Derived.Deep.DeepCutAuto
import Derived.Deep.RegionHeld3
import Derived.Deep.RegionLaw
import Derived.BigQuiet
import Derived.Test.YtheelnhhkpkjnaaGreatDoorQ3
import Derived.Test.YtheelnhhkpkjnaaGreatDoorQ11
import Derived.Test.YtheelnhhkpkjnaaGreatDoorQ13
import Derived.Test.YtheelnhhkpkjnaaGreatDoorQ15
import Derived.Test.YtheelnhhkpkjnaaGreatDoorQ17
import Derived.Test.YtheelnhhkpkjnaaGreatDoorQ18
namespace Go.Proofs.YtheelnhhkpkjnaaGreatDoor.Sset
open Go.RowKit
open Utf (Rd Blk bys bys_len pts pts_len nums nums_len nums_append nums_one dec enc wpList_append_rd own_ne Pts)
open Rset
set_option maxRecDepth 100000
def OwnN (B : Nat) (w : World) (l : List Int) (e : Ending) (w' : World) : Prop := ∃ v, e = .returned v ∧ w'.ownsRow B 21 1 v l.length (nums l) ∧ Below B w w'
set_option maxHeartbeats 4000000 in
theorem rrunes_any (A : Option Addr) (l : List UInt8) (m c : Nat) (w : World) (hr : Rd w w.heap.size A (bys l)) (hm : l.length = m) (hb : m ≤ 34359738368) :
  Calls Tryz.prog 28 #[.slice A m c] w (OwnN w.heap.size w (rns l)) := by
 obtain ⟨i0, hi, hz0, hz1, hz2⟩ := info_parts infoI32
 have HD := Lib.hid (Utf.rdec_any A l m c false w hr hm (by omega))
 have hl := Utf.dec_len_le false l 0
 rw [hm] at hl
 have HE := Lib.hid (show rns l = (dec false 0 l).map fun q => (q.r : Int) from rfl)
 generalize dec false 0 l = ps at HD HE hl
 obtain ⟨B0, hB0⟩ : ∃ B0, B0 = w.heap.size := ⟨_, rfl⟩
 have HB0 := Lib.hid hB0
 rw [HE.out, ← hB0]
 clear hr hm hB0
 go_enter Tryz.func28, Tryz.ntmps28
 go_wp2_with fail
 refine HD.out.mono ?_
 rintro e w1 ⟨v, rfl, ho, hb1⟩
 rw [← HB0.out] at ho hb1
 obtain ⟨A1, c1, rfl, _, _, hr1⟩ := own_form ho
 have HR1 := Lib.hid hr1
 have HB1 := Lib.hid hb1
 obtain ⟨n, hn⟩ : ∃ n, n = ps.length := ⟨_, rfl⟩
 rw [← hn] at hl ⊢
 have HN := Lib.hid hn
 have HW1 := Lib.hid (show B0 ≤ w1.heap.size by have := hb1.size; have := HB0.out; omega)
 clear ho hb1 hr1 hn HD
 go_wp2_with fail
 go_loopw [3, 5] (fun vo i wr => ∃ k : Nat, k ≤ n ∧ i = .int .i64 k ∧ Hid (wr.ownsRow w1.heap.size 21 1 vo ((ps.take k).map fun q => (q.r : Int)).length (nums ((ps.take k).map fun q => (q.r : Int)))) ∧ Hid (Below w1.heap.size w1 wr)) (fun _ i _ => n - (intOf i).toNat)
 case atStart => exact ⟨0, Nat.zero_le _, rfl, Lib.hid (World.ownsRow_nil _ _ _ _), Lib.hid (Below.refl _ _)⟩
 case round =>
  obtain ⟨k, hk, rfl, HO, HB⟩ := hrel
  by_cases hlt : k < n
  ·have hkl : k < ps.length := by rw [← HN.out]; exact hlt
   obtain ⟨b, o, rfl, hbl⟩ := HR1.out.form (by rw [pts_len]; omega)
   obtain ⟨p1, p2, p3⟩ := (HR1.out.below HB.out).pt hkl
   clear p2 p3
   have HT := Lib.hid (show (ps.take (k + 1)).map (fun q => (q.r : Int)) = (ps.take k).map (fun q => (q.r : Int)) ++ [(ps[k].r : Int)] by rw [List.take_succ_eq_append_getElem hkl, List.map_append]; rfl)
   have hlen : ((ps.take k).map fun q => (q.r : Int)).length = k := by rw [List.length_map, List.length_take]; omega
   generalize (ps.take k).map (fun q => (q.r : Int)) = L at HO HT hlen
   have hbw := HB.out.size
   rw [hlen] at HO
   have HLN := Lib.hid hlen
   obtain ⟨x, hx⟩ : ∃ x : Int, x = (ps[k].r : Int) := ⟨_, rfl⟩
   rw [← hx] at p1 HT
   have hbk : k ≤ 34359738368 := by omega
   clear hkl hx hlen hbl
   go_wp2_with (at_builtin; refine wpList_append_rd _ rfl (.tmp 14) (.tmp 20) _ rfl w1.heap.size 21 i0 _ 1 4 Tryz.underlying54 hi hz0 hz1 hz2 rfl (by decide) u3 k (nums L) rfl (HO.out.alloc _) _ (some ⟨wr.heap.size, 0, none⟩) 1 1 [.int .i32 x] rfl rfl (rd_new _ _ [.int .i32 x] _ (by simp)) (nums_one [x]) (by unfold maxLen; omega) (by omega) (by simp; omega) ?_; intro v6 w6 hown6 hgr6 _)
   have HO6 := Lib.hid (show w6.ownsRow w1.heap.size 21 1 v6 ((ps.take (k + 1)).map fun q => (q.r : Int)).length (nums ((ps.take (k + 1)).map fun q => (q.r : Int))) by
    rw [HT.out, List.length_append, HLN.out, nums_append]; exact hown6)
   have HB6 := Lib.hid ((HB.out.alloc hbw _).grown hgr6 (by simp; omega) (fun g hg => (HO.out.lt g hg).1))
   clear hown6 hgr6 HO HT
   go_roundw
   case rel => exact ⟨k + 1, by omega, by go_num, HO6, HB6⟩
   case measure => simp [intOf]; omega
  ·have HXT := Lib.hid (show ps.take k = ps by rw [List.take_of_length_le (by rw [← HN.out]; omega)])
   rw [HXT.out] at HO
   go_wp2
   go_ret
   exact ⟨u3, rfl, own_mono HO.out HW1.out, HB1.out.trans (HB.out.mono HW1.out)⟩
theorem bne_ba {x y : Tx} (h : x ≠ y) : ((ba x).toList == (ba y).toList) = false := by rw [ba_list, ba_list, beq_eq_false_iff_ne]; exact h
theorem take_succ_tx {a b : List Tx} {k : Nat} (ha : k < a.length) (hb : k < b.length) (h : a.take k = b.take k) (e : a[k] = b[k]) : a.take (k + 1) = b.take (k + 1) := by
 rw [List.take_succ_eq_append_getElem ha, List.take_succ_eq_append_getElem hb, h, e]
set_option maxHeartbeats 2000000 in
theorem rsameT_any (A B : Option Addr) (a b : List Tx) (n m c d : Nat) (w : World) (ha : Rd w w.heap.size A (txs a)) (hb : Rd w w.heap.size B (txs b)) (hn : a.length = n) (hm : b.length = m) (hn1 : n ≤ 1099511627776) (hm1 : m ≤ 1099511627776) :
  Calls Tryz.prog 39 #[.slice A n c, .slice B m d] w fun e w' => e = .returned (.bool (decide (a = b))) ∧ ∃ k, w' = w.drewN k := by
 suffices H : Calls Tryz.prog 39 #[.slice A n c, .slice B m d] w (fun e w' => Hid (e = .returned (.bool (decide (a = b))) ∧ ∃ k, w' = w.drewN k)) from H.mono fun e w' h => h.out
 obtain ⟨S, hS⟩ : ∃ S, S = decide (a = b) := ⟨_, rfl⟩
 rw [← hS]
 have HSD := Lib.hid hS
 clear hS
 by_cases hnm : n = m
 ·subst hnm
  have HN := Lib.hid hn; have HM := Lib.hid hm
  clear hn hm
  go_enter Tryz.func39, Tryz.ntmps39
  go_wp2_with fail
  go_loopw [5] (fun i wr => ∃ k j : Nat, k ≤ n ∧ i = .int .i64 k ∧ Hid (a.take k = b.take k) ∧ Hid (wr = w.drewN j)) (fun i _ => n - (intOf i).toNat)
  case atStart => exact ⟨0, 0, Nat.zero_le _, rfl, Lib.hid rfl, Lib.hid rfl⟩
  case round =>
   obtain ⟨k, j, hk, rfl, HT, HJ⟩ := hrel
   by_cases hlt : k < n
   ·have hka : k < a.length := by rw [HN.out]; exact hlt
    have hkb : k < b.length := by rw [HM.out]; exact hlt
    obtain ⟨b1, o1, rfl, _⟩ := rd_form_tx ha (by omega)
    obtain ⟨b2, o2, rfl, _⟩ := rd_form_tx hb (by omega)
    have hwr : ∀ p : Addr, wr.cell? p = w.cell? p := fun p => by rw [HJ.out]; rfl
    have a1 : _ = some (Value.string (ba a[k])) := rd_tx ha hka
    have b1' : _ = some (Value.string (ba b[k])) := rd_tx hb hkb
    rw [← hwr] at a1 b1'
    have HTS := Lib.hid (take_succ_tx hka hkb HT.out)
    have HNE := Lib.hid (show a[k] ≠ b[k] → S = false from fun h => by rw [HSD.out, decide_eq_false_iff_not]; rintro rfl; exact h rfl)
    clear hwr HT
    by_cases hxy : a[k] = b[k]
    ·have HR := Lib.hid (HTS.out hxy)
     rw [hxy] at a1
     generalize ba b[k] = X at a1 b1'
     clear hxy HTS HNE hka hkb
     have he1 : (X.toList == X.toList) = true := by simp
     have he2 : (X.toList != X.toList) = false := by simp
     go_wp2_with fail
     go_quiet (fail)
     go_wp2
     go_roundw
     case rel => exact ⟨k + 1, _, by omega, by go_num, HR, Lib.hid (by rw [HJ.out, World.drewN_drewN])⟩
     case measure => simp [intOf]; omega
    ·have he1 := bne_ba hxy
     have HF := Lib.hid (HNE.out hxy)
     generalize ba a[k] = X at a1 he1
     generalize ba b[k] = Y at b1' he1
     have he2 : (X.toList != Y.toList) = true := by rw [bne, he1]; rfl
     clear hxy HTS HNE hka hkb
     go_wp2_with fail
     go_quiet (fail)
     go_wp2
     go_ret
     exact Lib.hid ⟨by rw [HF.out]; rfl, _, by rw [HJ.out, World.drewN_drewN]⟩
   ·have HF := Lib.hid (show S = true by
     have := HT.out
     rw [List.take_of_length_le (by have := HN.out; omega), List.take_of_length_le (by have := HM.out; omega)] at this
     rw [HSD.out]; exact decide_eq_true this)
    go_wp2_with fail
    go_ret
    exact Lib.hid ⟨by rw [HF.out]; rfl, _, HJ.out⟩
 ·have hs : S = false := by rw [HSD.out, decide_eq_false_iff_not]; rintro rfl; exact hnm (hn.symm.trans hm)
  have HS := Lib.hid hs
  have hne : ((n : Int) == (m : Int)) = false := by simp; omega
  have hne2 : ((n : Int) != (m : Int)) = true := by simp; omega
  clear hs hn hm hnm
  go_enter Tryz.func39, Tryz.ntmps39
  go_wp2
  go_ret
  exact Lib.hid ⟨by rw [HS.out]; rfl, 0, rfl⟩
set_option maxHeartbeats 2000000 in
theorem rssame_any (A1 A2 A3 B1 B2 B3 : Option Addr) (n1 c1 n2 c2 n3 c3 m1 d1 m2 d2 m3 d3 : Nat) (a b : St) (w : World) (h : Has3 w A1 n1 A2 n2 A3 n3 a) (k : Has3 w B1 m1 B2 m2 B3 m3 b) :
  Calls Tryz.prog 20 #[.agg #[.slice A1 n1 c1, .slice A2 n2 c2, .slice A3 n3 c3], .agg #[.slice B1 m1 d1, .slice B2 m2 d2, .slice B3 m3 d3]] w (Ret w (.bool (decide (a = b)))) := by
 obtain ⟨W0, hW0⟩ : ∃ W0, W0 = (w.alloc (.cells #[.slice A1 n1 c1, .slice A2 n2 c2, .slice A3 n3 c3] 39)).alloc (.cells #[.slice B1 m1 d1, .slice B2 m2 d2, .slice B3 m3 d3] 39) := ⟨_, rfl⟩
 obtain ⟨g, hg⟩ : ∃ g, g = w.heap.size := ⟨_, rfl⟩
 have hb0 : Below w.heap.size w W0 := by rw [hW0]; exact ((Below.refl _ _).alloc (Nat.le_refl _) _).alloc (by simp) _
 have k0 : BlkS W0 g (.slice A1 n1 c1) (.slice A2 n2 c2) (.slice A3 n3 c3) := by rw [hW0, hg]; exact (BlkS.new w _ _ _).alloc _
 have k1 : BlkS W0 (g + 1) (.slice B1 m1 d1) (.slice B2 m2 d2) (.slice B3 m3 d3) := by
  have := BlkS.new (w.alloc (.cells #[.slice A1 n1 c1, .slice A2 n2 c2, .slice A3 n3 c3] 39)) (.slice B1 m1 d1) (.slice B2 m2 d2) (.slice B3 m3 d3)
  rw [hW0, hg]; simpa using this
 have h0 := h.next hb0
 have h1 := k.next hb0
 have dw : ∀ q, Below W0.heap.size W0 (W0.drewN q) := fun q => below_drewN (Below.refl _ _) q
 have HS := Lib.hid (show ∀ q, Calls Tryz.prog 38 #[.slice A1 n1 c1, .slice B1 m1 d1] (W0.drewN q) (fun e w' => e = .returned (.bool (eqL a.s b.s)) ∧ ∃ k, w' = (W0.drewN q).drewN k) from fun q => same_any A1 B1 a.s b.s n1 m1 c1 d1 _ (h0.s.next (dw q)).rd (h1.s.next (dw q)).rd h0.s.len h1.s.len (by have := h0.s.sm; omega) (by have := h1.s.sm; omega))
 have HM := Lib.hid (show ∀ q, Calls Tryz.prog 38 #[.slice A2 n2 c2, .slice B2 m2 d2] (W0.drewN q) (fun e w' => e = .returned (.bool (eqL a.m b.m)) ∧ ∃ k, w' = (W0.drewN q).drewN k) from fun q => same_any A2 B2 a.m b.m n2 m2 c2 d2 _ (h0.m.next (dw q)).rd (h1.m.next (dw q)).rd h0.m.len h1.m.len (by have := h0.m.sm; omega) (by have := h1.m.sm; omega))
 have HO := Lib.hid (show ∀ q, Calls Tryz.prog 39 #[.slice A3 n3 c3, .slice B3 m3 d3] (W0.drewN q) (fun e w' => e = .returned (.bool (decide (a.o = b.o))) ∧ ∃ k, w' = (W0.drewN q).drewN k) from fun q => rsameT_any A3 B3 a.o b.o n3 m3 c3 d3 _ (h0.o.next (dw q)).rd (h1.o.next (dw q)).rd h0.o.len h1.o.len (by have := h0.o.sm; omega) (by have := h1.o.sm; omega))
 have HE := Lib.hid (st_eq a b)
 have HK0 := Lib.hid k0; have HK1 := Lib.hid k1
 have HW := Lib.hid hW0; have HG := Lib.hid hg; have HB0 := Lib.hid hb0
 have HDQ := Lib.hid (show ∀ q, Below w.heap.size w (W0.drewN q) from fun q => below_drewN hb0 q)
 clear h k hW0 hg hb0 k0 k1 h0 h1 dw
 rw [HE.out]
 generalize eqL a.s b.s = p1 at HS ⊢
 generalize eqL a.m b.m = p2 at HM ⊢
 generalize decide (a.o = b.o) = p3 at HO ⊢
 have x0 := HK0.out.c0; have y0 := HK1.out.c0
 go_enter Tryz.func20, Tryz.ntmps20
 go_wp2_with fail
 rw [← HW.out, ← HG.out]
 go_wp2_with fail
 refine (HS.out 0).mono ?_
 rintro e w1 ⟨rfl, q1, rfl⟩
 rw [World.drewN_drewN, Nat.zero_add]
 have x1 : (W0.drewN q1).cell? ⟨g, 1, none⟩ = some (.slice A2 n2 c2) := HK0.out.c1
 have y1 : (W0.drewN q1).cell? ⟨g + 1, 1, none⟩ = some (.slice B2 m2 d2) := HK1.out.c1
 clear x0 y0
 cases p1 with
 | false =>
  go_wp2_with fail
  go_ret
  exact ⟨rfl, HDQ.out _⟩
 | true =>
  go_wp2_with fail
  refine (HM.out _).mono ?_
  rintro e w2 ⟨rfl, q2, rfl⟩
  rw [World.drewN_drewN]
  clear x1 y1
  have x2 : (W0.drewN (q1 + q2)).cell? ⟨g, 2, none⟩ = some (.slice A3 n3 c3) := HK0.out.c2
  have y2 : (W0.drewN (q1 + q2)).cell? ⟨g + 1, 2, none⟩ = some (.slice B3 m3 d3) := HK1.out.c2
  cases p2 with
  | false =>
   go_wp2_with fail
   go_ret
   exact ⟨rfl, HDQ.out _⟩
  | true =>
   go_wp2_with fail
   refine (HO.out _).mono ?_
   rintro e w3 ⟨rfl, q3, rfl⟩
   rw [World.drewN_drewN]
   clear x2 y2
   go_wp2_with fail
   go_ret
   exact ⟨rfl, HDQ.out _⟩
theorem rns_len (x : Tx) : (rns x).length ≤ x.length := by unfold rns pnts; rw [List.length_map]; exact Utf.dec_len_le false x 0
set_option maxHeartbeats 4000000 in
theorem good_any (X : ByteArray) (x : Tx) (hX : X.toList = x) (hl : x.length ≤ 1073741824) (w : World) :
  Calls Tryz.prog 40 #[.string X] w (Ret w (.bool (good x))) := by
 obtain ⟨n, hn⟩ : ∃ n, x.length = n := ⟨_, rfl⟩
 obtain ⟨g, C, W1, hcv, hr1, hb1, hC1, hC2⟩ := conv_str w X x hX n hn (by omega)
 have HR := Lib.hid (rrunes_any (some ⟨g, 0, none⟩) x n C W1 hr1 hn (by omega))
 have HB1 := Lib.hid hb1
 have hrl := rns_len x
 have HG := Lib.hid (show good x = decide (enc (rns x) = x) from rfl)
 have HX := Lib.hid hX
 rw [hn] at hrl
 have hn2 : n ≤ 1073741824 := by omega
 rw [HG.out]
 clear hr1 hb1 hC1 hC2 hX hl hn
 generalize rns x = L at *
 go_enter Tryz.func40, Tryz.ntmps40
 go_wp2_with fail
 refine HR.out.mono ?_
 rintro e w2 ⟨v2, rfl, o2, b2⟩
 obtain ⟨A2, c2, rfl, _, _, r2⟩ := own_form o2
 have HB2 := Lib.hid (HB1.out.trans (b2.mono HB1.out.size))
 have HE := Lib.hid (Utf.rencode_any A2 L L.length c2 w2 r2 rfl (by omega))
 obtain ⟨ln, hln⟩ : ∃ ln, ln = L.length := ⟨_, rfl⟩
 rw [← hln] at HE ⊢
 clear o2 b2 r2 hln HR
 go_wp2_with fail
 refine HE.out.mono ?_
 rintro e w3 ⟨v3, rfl, o3, b3⟩
 obtain ⟨A3, c3, rfl, _, _, r3⟩ := own_form o3
 have hcv := conv_rd (c := c3) r3 rfl
 have HB3 := Lib.hid (HB2.out.trans (b3.mono HB2.out.size))
 obtain ⟨Y, hY⟩ : ∃ Y : ByteArray, Y = ⟨(enc L).toArray⟩ := ⟨_, rfl⟩
 rw [← hY] at hcv
 have HY := Lib.hid (show Y.toList = enc L by rw [hY, mk_toList])
 obtain ⟨le, hle⟩ : ∃ le, le = (enc L).length := ⟨_, rfl⟩
 rw [← hle] at hcv ⊢
 clear o3 b3 r3 hY HE hle
 go_wp2_with fail
 go_ret
 refine ⟨ret_bool ?_, HB3.out⟩
 rw [HY.out, HX.out, Bool.eq_iff_iff]
 simp
end Go.Proofs.YtheelnhhkpkjnaaGreatDoor.Sset
namespace Go.Proofs.YtheelnhhkpkjnaaGreatDoor.Sset
open Go.RowKit
open Utf (Rd Blk)
open Rset
set_option maxRecDepth 100000
theorem ofS_o (x : Tx) : (∀ t ∈ (ofS x).o, t = x) ∧ (ofS x).o.length ≤ 1 := by
 unfold ofS
 split
 ·exact ⟨fun t h => by simp [onesS] at h, Nat.zero_le _⟩
 ·exact ⟨fun t h => List.mem_singleton.1 ((rise_mem [x] t).1 (List.mem_filter.1 h).1), normS_len ⟨[], [], [x]⟩⟩
theorem short_uni2 {a b : St} (h : Short a.o) (k : Short b.o) : Short (uni2 a b).o := short_meet (a := notS (normS a)) (b := notS (normS b)) (short_norm h) (short_norm k)
section
variable {w : World} {A1 A2 A3 B1 B2 B3 : Option Addr} {n1 n2 n3 m1 m2 m3 : Nat} {a b : St}
theorem r_union (c1 c2 c3 d1 d2 d3 : Nat) (h : Has3 w A1 n1 A2 n2 A3 n3 a) (k : Has3 w B1 m1 B2 m2 B3 m3 b) (hsm : n3 + m3 ≤ 1073741824) : Calls Tryz.prog 201 #[.agg #[.slice A1 n1 c1, .slice A2 n2 c2, .slice A3 n3 c3], .agg #[.slice B1 m1 d1, .slice B2 m2 d2, .slice B3 m3 d3]] w (ResO w (uni2 a b)) :=
 (sunion_any A1 A2 A3 B1 B2 B3 n1 c1 n2 c2 n3 c3 m1 d1 m2 d2 m3 d3 a b w h k hsm).mono fun _ _ q => q.made (uni2_nm a b) (short_uni2 h.o.short k.o.short) (Nat.le_trans (uni2_len a b) (by have := h.o.len; have := k.o.len; omega))
theorem r_rsame (c1 c2 c3 d1 d2 d3 : Nat) (h : Has3 w A1 n1 A2 n2 A3 n3 a) (k : Has3 w B1 m1 B2 m2 B3 m3 b) {q : Bool} (e : decide (a = b) = q) : Calls Tryz.prog 20 #[.agg #[.slice A1 n1 c1, .slice A2 n2 c2, .slice A3 n3 c3], .agg #[.slice B1 m1 d1, .slice B2 m2 d2, .slice B3 m3 d3]] w (Ret w (.bool q)) :=
 e ▸ rssame_any A1 A2 A3 B1 B2 B3 n1 c1 n2 c2 n3 c3 m1 d1 m2 d2 m3 d3 a b w h k
theorem r_not2 (c1 c2 c3 : Nat) (h : Has3 w A1 n1 A2 n2 A3 n3 a) : Calls Tryz.prog 178 #[.agg #[.slice A1 n1 c1, .slice A2 n2 c2, .slice A3 n3 c3]] w (ResO w (not2 a)) :=
 (snot2_any A1 A2 A3 n1 c1 n2 c2 n3 c3 a w h).mono fun _ _ q => q.made (not2_nm a) (short_norm h.o.short) (Nat.le_trans (not2_len a) (by have := h.o.len; have := h.o.sm; omega))
theorem r_may (c1 c2 c3 : Nat) (h : Has3 w A1 n1 A2 n2 A3 n3 a) {q : Bool} (e : decide (normS a = a) = q) : Calls Tryz.prog 41 #[.agg #[.slice A1 n1 c1, .slice A2 n2 c2, .slice A3 n3 c3]] w (Ret w (.bool q)) := e ▸ smay_any A1 A2 A3 n1 c1 n2 c2 n3 c3 a w h
end
theorem short_nil : Short [] := fun t h => by simp at h
theorem r_of (X : ByteArray) (x : Tx) (hX : X.toList = x) (hl : x.length ≤ 1073741824) (w : World) : Calls Tryz.prog 148 #[.string X] w (ResO w (ofS x)) :=
 (sof_any X x hX hl w).mono fun _ _ q => q.made (ofS_nm x) (fun t ht => by rw [(ofS_o x).1 t ht]; exact hl) (Nat.le_trans (ofS_o x).2 (by omega))
theorem r_first (A : Option Addr) (l : List Rg) (n c : Nat) (w : World) (h : ArgR w A n l) : Calls Tryz.prog 146 #[.slice A n c] w (ResO w (firstS l)) :=
 (sfirst_any A l n c w h).mono fun _ _ q => q.made (firstS_nm l) short_nil (Nat.zero_le _)
theorem r_ones (A : Option Addr) (l : List Rg) (n c : Nat) (w : World) (h : ArgR w A n l) : Calls Tryz.prog 183 #[.slice A n c] w (ResO w (onesS l)) :=
 (sones_any A l n c w h).mono fun _ _ q => q.made (onesS_nm l) short_nil (Nat.zero_le _)
theorem r_all (w : World) : Calls Tryz.prog 143 #[] w (ResO w allS) :=
 (sall_any w).mono fun _ _ q => q.made allS_nm short_nil (Nat.zero_le _)
def eT : Tx := [101, 204, 129]
def xT : Tx := [101, 204, 130]
def eS : St := ⟨[], [], [eT]⟩
def az : List Rg := [(97, 122)]
theorem good_e : good eT = true := by decide +kernel
theorem good_x : good xT = true := by decide +kernel
theorem first_has (l : List Rg) (t : Tx) : hasS (firstS l) t = hasS ⟨l, l, []⟩ t := by
 unfold hasS memS firstS
 simp only [norm_has]
theorem m1 : hasS (firstS az) [101, 120] = true := by rw [first_has]; decide +kernel
theorem m2 : hasS (firstS az) [69] = false := by rw [first_has]; decide +kernel
theorem m3 : hasS (not2 eS) xT = true := by rw [not2_mem _ good_x]; decide +kernel
theorem m4 : hasS (not2 eS) eT = false := by rw [not2_mem _ good_e]; decide +kernel
theorem m5 : hasS (minus2 (firstS az) eS) [101] = true := by rw [minus2_mem _ _ (by decide +kernel), first_has]; decide +kernel
theorem notnot {a : St} : not2 (not2 a) = normS a := by
 refine st_ext (not2_nm _) (normS_nm a) (fun x => ?_) (fun x => ?_) (fun t => ?_)
 ·rw [not2_s, not2_s, normS_s]
  cases hx : inR x with
  | true => cases has a.s x <;> rfl
  | false => rw [has_out hx]; rfl
 ·rw [not2_m, not2_m, normS_m]
  cases hx : inR x with
  | true => cases has a.m x <;> rfl
  | false => rw [has_out hx]; rfl
 ·rw [not2_o, not2_o, normS_o, Bool.and_assoc, Bool.and_self]
theorem m9 : eqS (not2 (not2 eS)) eS = true := by
 unfold eqS
 rw [notnot, normS_id (normS_nm _), decide_eq_true_eq]
end Go.Proofs.YtheelnhhkpkjnaaGreatDoor.Sset
namespace Go.Proofs.YtheelnhhkpkjnaaGreatDoor.Syn
open Go.RowKit
open Utf (Rd Blk)
open Rset (Ret Rg own_form ret_bool)
open Sset (St Tx normS none_ Has3 ArgT ArgR r_rsame has3_none mk_toList)
set_option maxRecDepth 100000
set_option maxHeartbeats 8000000 in
theorem rsign_any (X : ByteArray) (x : Tx) (hX : X.toList = x) (w : World) : Calls Tryz.prog 16 #[.string X] w fun e w' => e = .returned (.bool (sgn x)) ∧ w' = w := by
 by_cases h : x ∈ signs
 ·have hs : sgn x = true := decide_eq_true h
  rw [hs]
  unfold signs at h
  simp only [List.mem_cons, List.not_mem_nil, or_false] at h
  rcases h with rfl | rfl | rfl | rfl | rfl | rfl | rfl | rfl | rfl | rfl | rfl | rfl | rfl | rfl <;>
   (go_enter Tryz.func16, Tryz.ntmps16; go_wp2_with fail; go_ret; exact ⟨rfl, rfl⟩)
 ·have hs : sgn x = false := decide_eq_false h
  rw [hs]
  unfold signs at h
  simp only [List.mem_cons, List.not_mem_nil, or_false, not_or] at h
  obtain ⟨h1, h2, h3, h4, h5, h6, h7, h8, h9, h10, h11, h12, h13, h14⟩ := h
  rw [← ne_eq, ← beq_eq_false_iff_ne] at h1 h2 h3 h4 h5 h6 h7 h8 h9 h10 h11 h12 h13 h14
  go_enter Tryz.func16, Tryz.ntmps16
  go_wp2_with fail
  go_ret
  exact ⟨rfl, rfl⟩
structure NV where
 k : Int
 A1 : Option Addr
 n1 : Nat
 c1 : Nat
 A2 : Option Addr
 n2 : Nat
 c2 : Nat
 A3 : Option Addr
 n3 : Nat
 c3 : Nat
 mn : Int
 mx : Int
def NV.row (v : NV) : List Value := [.int .i64 v.k, .slice v.A1 v.n1 v.c1, .slice v.A2 v.n2 v.c2, .slice v.A3 v.n3 v.c3, .int .i64 v.mn, .int .i64 v.mx]
def nvs (V : List NV) : List Value := V.flatMap NV.row
theorem nvs_len : ∀ V : List NV, (nvs V).length = V.length * 6
 | [] => rfl
 | v :: V => by
  show (v.row ++ nvs V).length = _
  rw [List.length_append, nvs_len V, List.length_cons]; show 6 + _ = _; omega
theorem nvs_get : ∀ (V : List NV) {k : Nat} (h : k < V.length) (j : Nat) (_ : j < 6), (nvs V)[k * 6 + j]? = V[k].row[j]?
 | v :: V, 0, _, j, hj => by
  show (v.row ++ nvs V)[0 * 6 + j]? = v.row[j]?
  rw [Nat.zero_mul, Nat.zero_add, List.getElem?_append_left (by show j < 6; exact hj)]
 | v :: V, k + 1, h, j, hj => by
  show (v.row ++ nvs V)[(k + 1) * 6 + j]? = (V[k]'(by simpa using h)).row[j]?
  rw [List.getElem?_append_right (by show 6 ≤ _; omega)]
  show (nvs V)[(k + 1) * 6 + j - 6]? = _
  rw [show (k + 1) * 6 + j - 6 = k * 6 + j by omega]
  exact nvs_get V (by simpa using h) j hj
structure Means (w : World) (v : NV) (n : Nd) : Prop where
 k : v.k = n.kind
 mn : v.mn = n.mn
 mx : v.mx = n.mx
 set : Has3 w v.A1 v.n1 v.A2 v.n2 v.A3 v.n3 n.set
theorem Means.next {w w' : World} {v : NV} {n : Nd} (h : Means w v n) (hb : Below w.heap.size w w') : Means w' v n := ⟨h.k, h.mn, h.mx, h.set.next hb⟩
structure ArgN (w : World) (A : Option Addr) (n : Nat) (V : List NV) (l : List Nd) : Prop where
 rd : Rd w w.heap.size A (nvs V)
 len : V.length = n
 len2 : l.length = n
 means : ∀ (i : Nat) (h : i < V.length) (h2 : i < l.length), Means w V[i] l[i]
 sm : n ≤ 1099511627776
theorem ArgN.next {w w' : World} {A : Option Addr} {n : Nat} {V : List NV} {l : List Nd} (h : ArgN w A n V l) (hb : Below w.heap.size w w') : ArgN w' A n V l :=
 ⟨(h.rd.below hb).more hb.size, h.len, h.len2, fun i h1 h2 => (h.means i h1 h2).next hb, h.sm⟩
theorem rd_nv {w : World} {B b o : Nat} {V : List NV} (h : Rd w B (some ⟨b, o, none⟩) (nvs V)) {k : Nat} (hk : k < V.length) :
  w.cell? ⟨b, o + k * 6, none⟩ = some (.int .i64 V[k].k) ∧ w.cell? ⟨b, o + k * 6 + 1, none⟩ = some (.slice V[k].A1 V[k].n1 V[k].c1) ∧ w.cell? ⟨b, o + k * 6 + 2, none⟩ = some (.slice V[k].A2 V[k].n2 V[k].c2) ∧
  w.cell? ⟨b, o + k * 6 + 3, none⟩ = some (.slice V[k].A3 V[k].n3 V[k].c3) ∧ w.cell? ⟨b, o + k * 6 + 4, none⟩ = some (.int .i64 V[k].mn) ∧ w.cell? ⟨b, o + k * 6 + 5, none⟩ = some (.int .i64 V[k].mx) := by
 obtain ⟨b', o', e, _, hc⟩ := h (by intro e; have := congrArg List.length e; rw [nvs_len] at this; simp at this; omega)
 simp only [Option.some.injEq, Addr.mk.injEq, and_true] at e
 obtain ⟨rfl, rfl⟩ := e
 have g := fun j hj v hv => hc (k * 6 + j) v (by rw [nvs_get V hk j hj]; exact hv)
 refine ⟨by have := g 0 (by omega) _ rfl; rwa [Nat.add_zero] at this, ?_, ?_, ?_, ?_, ?_⟩
 ·have := g 1 (by omega) _ rfl; rwa [← Nat.add_assoc] at this
 ·have := g 2 (by omega) _ rfl; rwa [← Nat.add_assoc] at this
 ·have := g 3 (by omega) _ rfl; rwa [← Nat.add_assoc] at this
 ·have := g 4 (by omega) _ rfl; rwa [← Nat.add_assoc] at this
 ·have := g 5 (by omega) _ rfl; rwa [← Nat.add_assoc] at this
theorem nv_form {w : World} {B : Nat} {A : Option Addr} {V : List NV} (h : Rd w B A (nvs V)) (hn : 0 < V.length) : ∃ b o, A = some ⟨b, o, none⟩ ∧ b < B := h.form (by rw [nvs_len]; omega)
end Go.Proofs.YtheelnhhkpkjnaaGreatDoor.Syn
namespace Go.Proofs.YtheelnhhkpkjnaaGreatDoor.Syn
open Go.RowKit
open Utf (Rd Blk)
open Rset (Ret Rg own_form ret_bool)
open Sset (St Tx normS none_ Has3 ArgT ArgR r_rsame has3_none mk_toList)
set_option maxRecDepth 100000
noncomputable def mayStep (h : Int) (n : Nd) : Option Int :=
 if n.kind = 7 then (if n.set = none_ ∧ 1 ≤ h ∧ 0 ≤ n.mn ∧ n.mn ≤ 64 ∧ n.mx ≤ 64 ∧ (n.mn ≤ n.mx ∨ n.mx = -1) then some h else none)
 else if n.mn ≠ 0 ∨ n.mx ≠ 0 then none
 else if n.kind = 2 then (if normS n.set = n.set then some (h + 1) else none)
 else if n.set ≠ none_ then none
 else if n.kind = 1 ∨ n.kind = 3 ∨ n.kind = 4 then some (h + 1)
 else if n.kind = 5 ∨ n.kind = 6 then (if 2 ≤ h then some (h - 1) else none)
 else none
noncomputable def mayL : Option Int → List Nd → Option Int
 | h, [] => h
 | none, _ => none
 | some h, n :: l => mayL (mayStep h n) l
noncomputable def mayF (l : List Nd) : Bool := decide (mayL (some 0) l = some 1)
theorem mayL_none : ∀ l : List Nd, mayL none l = none
 | [] => rfl
 | _ :: _ => rfl
theorem mayL_append : ∀ (l : List Nd) (h : Option Int) (n : Nd), mayL h (l ++ [n]) = match mayL h l with
  | some x => mayStep x n
  | none => none
 | [], some h, n => by show mayL (mayStep h n) [] = mayStep h n; cases mayStep h n <;> rfl
 | [], none, n => rfl
 | m :: l, none, n => by show mayL none (m :: (l ++ [n])) = _; rw [mayL_none, mayL_none]
 | m :: l, some h, n => by show mayL (mayStep h m) (l ++ [n]) = _; rw [mayL_append l (mayStep h m) n]; rfl
theorem mayL_split (l m : List Nd) : ∀ h, mayL h l = none → mayL h (l ++ m) = none := by
 induction l with
 | nil => intro h e; rw [show h = none from e]; exact mayL_none _
 | cons x l ih =>
  intro h e
  cases h with
  | none => exact mayL_none _
  | some h => exact ih _ e
theorem mayL_take {l : List Nd} {k : Nat} (hk : k < l.length) {h : Int} (e : mayL (some 0) (l.take k) = some h) : mayL (some 0) (l.take (k + 1)) = mayStep h l[k] := by
 rw [List.take_succ_eq_append_getElem hk, mayL_append, e]
theorem may_stop {l : List Nd} {k : Nat} (hk : k < l.length) {h : Int} (e : mayL (some 0) (l.take k) = some h) (hs : mayStep h l[k] = none) : mayF l = false := by
 have h1 := mayL_take hk e
 rw [hs] at h1
 have := mayL_split (l.take (k + 1)) (l.drop (k + 1)) _ h1
 rw [List.take_append_drop] at this
 unfold mayF
 rw [this]; rfl
end Go.Proofs.YtheelnhhkpkjnaaGreatDoor.Syn
namespace Go.Proofs.YtheelnhhkpkjnaaGreatDoor.Syn
open Go.RowKit
open Utf (Rd Blk)
open Rset (Ret)
open Sset (St Tx normS none_ Has3 BlkS r_may)
set_option maxRecDepth 100000
theorem none_iff (a : St) : a = none_ ↔ a.s = [] ∧ a.m = [] ∧ a.o = [] := by
 constructor
 ·rintro rfl; exact ⟨rfl, rfl, rfl⟩
 ·rintro ⟨h1, h2, h3⟩
  cases a
  simp only at h1 h2 h3
  subst h1 h2 h3
  rfl
set_option maxHeartbeats 4000000 in
theorem bare_any {A1 A2 A3 : Option Addr} {n1 c1 n2 c2 n3 c3 : Nat} {a : St} {w : World} (h : Has3 w A1 n1 A2 n2 A3 n3 a) :
  Calls Tryz.prog 42 #[.agg #[.slice A1 n1 c1, .slice A2 n2 c2, .slice A3 n3 c3]] w (Ret w (.bool (decide (a = none_)))) := by
 obtain ⟨b1, h1⟩ : ∃ b, b = ((n1 : Int) == 0) := ⟨_, rfl⟩
 obtain ⟨b2, h2⟩ : ∃ b, b = ((n2 : Int) == 0) := ⟨_, rfl⟩
 obtain ⟨b3, h3⟩ : ∃ b, b = ((n3 : Int) == 0) := ⟨_, rfl⟩
 have hv : decide (a = none_) = (b1 && b2 && b3) := by
  rw [h1, h2, h3, Bool.eq_iff_iff, decide_eq_true_eq, none_iff, Bool.and_eq_true, Bool.and_eq_true]
  have l1 := h.s.len; have l2 := h.m.len; have l3 := h.o.len
  constructor
  ·rintro ⟨e1, e2, e3⟩
   rw [e1] at l1; rw [e2] at l2; rw [e3] at l3
   simp at l1 l2 l3
   subst l1 l2 l3
   exact ⟨⟨rfl, rfl⟩, rfl⟩
  ·rintro ⟨⟨e1, e2⟩, e3⟩
   simp at e1 e2 e3
   exact ⟨List.eq_nil_of_length_eq_zero (by omega), List.eq_nil_of_length_eq_zero (by omega), List.eq_nil_of_length_eq_zero (by omega)⟩
 rw [hv]
 clear h hv
 obtain ⟨W, hW⟩ : ∃ W, W = w.alloc (.cells #[.slice A1 n1 c1, .slice A2 n2 c2, .slice A3 n3 c3] 39) := ⟨_, rfl⟩
 obtain ⟨g, hg⟩ : ∃ g, g = w.heap.size := ⟨_, rfl⟩
 have kb : BlkS W g (.slice A1 n1 c1) (.slice A2 n2 c2) (.slice A3 n3 c3) := by rw [hW, hg]; exact BlkS.new w _ _ _
 have x0 := kb.c0; have x1 := kb.c1; have x2 := kb.c2
 have HB := Lib.hid (show Below w.heap.size w W by rw [hW]; exact (Below.refl _ _).alloc (Nat.le_refl _) _)
 have HW := Lib.hid hW; have HG := Lib.hid hg
 have k1 := h1.symm; have k2 := h2.symm; have k3 := h3.symm
 clear h1 h2 h3 hW hg kb
 cases b1 with
 | false =>
  clear k2 k3
  rw [show (false && b2 && b3) = false from rfl]
  go_enter Tryz.func42, Tryz.ntmps42
  go_wp2_with fail
  rw [← HW.out, ← HG.out]
  go_wp2_with fail
  go_ret
  exact ⟨rfl, HB.out⟩
 | true =>
  cases b2 with
  | false =>
   clear k3
   rw [show (true && false && b3) = false from rfl]
   go_enter Tryz.func42, Tryz.ntmps42
   go_wp2_with fail
   rw [← HW.out, ← HG.out]
   go_wp2_with fail
   go_ret
   exact ⟨rfl, HB.out⟩
  | true =>
   rw [show (true && true && b3) = b3 from rfl]
   go_enter Tryz.func42, Tryz.ntmps42
   go_wp2_with fail
   rw [← HW.out, ← HG.out]
   go_wp2_with fail
   go_ret
   exact ⟨rfl, HB.out⟩
def oftF (a b : Int) : Bool := decide (0 ≤ a ∧ a ≤ 64 ∧ (b = -1 ∨ (a ≤ b ∧ b ≤ 64)))
set_option maxHeartbeats 4000000 in
theorem often_any (a b : Int) (w : World) : Calls Tryz.prog 43 #[.int .i64 a, .int .i64 b] w (Ret w (.bool (oftF a b))) := by
 have HF : ∀ z, (0 ≤ a ∧ a ≤ 64 ∧ (b = -1 ∨ (a ≤ b ∧ b ≤ 64)) ↔ z = true) → oftF a b = z := fun z h => by
  unfold oftF
  cases z with
  | false => exact decide_eq_false (fun e => Bool.noConfusion (h.1 e))
  | true => exact decide_eq_true (h.2 rfl)
 generalize oftF a b = r at HF
 by_cases c1 : a < 0
 ·obtain rfl := HF false ⟨fun e => by omega, fun e => Bool.noConfusion e⟩
  clear HF
  go_enter Tryz.func43, Tryz.ntmps43
  go_wp2_with fail
  go_ret
  exact ⟨rfl, Below.refl _ _⟩
 ·by_cases c2 : a ≤ 64
  ·by_cases c3 : b = -1
   ·obtain rfl := HF true ⟨fun _ => rfl, fun _ => ⟨by omega, c2, .inl c3⟩⟩
    subst c3
    clear HF
    go_enter Tryz.func43, Tryz.ntmps43
    go_wp2_with fail
    go_ret
    exact ⟨rfl, Below.refl _ _⟩
   ·have d3 : (b == -1) = false := by rw [beq_eq_false_iff_ne]; exact c3
    by_cases c4 : a ≤ b
    ·by_cases c5 : b ≤ 64
     ·obtain rfl := HF true ⟨fun _ => rfl, fun _ => ⟨by omega, c2, .inr ⟨c4, c5⟩⟩⟩
      clear HF
      go_enter Tryz.func43, Tryz.ntmps43
      go_wp2_with fail
      go_ret
      exact ⟨rfl, Below.refl _ _⟩
     ·obtain rfl := HF false ⟨fun e => by omega, fun e => Bool.noConfusion e⟩
      clear HF
      go_enter Tryz.func43, Tryz.ntmps43
      go_wp2_with fail
      go_ret
      exact ⟨rfl, Below.refl _ _⟩
    ·obtain rfl := HF false ⟨fun e => by omega, fun e => Bool.noConfusion e⟩
     clear HF
     go_enter Tryz.func43, Tryz.ntmps43
     go_wp2_with fail
     go_ret
     exact ⟨rfl, Below.refl _ _⟩
  ·obtain rfl := HF false ⟨fun e => by omega, fun e => Bool.noConfusion e⟩
   clear HF
   go_enter Tryz.func43, Tryz.ntmps43
   go_wp2_with fail
   go_ret
   exact ⟨rfl, Below.refl _ _⟩
def tkF (k : Int) : Int := if k = 5 ∨ k = 6 then 2 else if k = 7 then 1 else 0
set_option maxHeartbeats 4000000 in
theorem operands_any (k : Int) (w : World) : Calls Tryz.prog 23 #[.int .i64 k] w (Ret w (.int .i64 (tkF k))) := by
 by_cases k5 : k = 5
 ·subst k5
  rw [show tkF 5 = 2 from rfl]
  go_enter Tryz.func23, Tryz.ntmps23
  go_wp2_with fail
  go_ret
  exact ⟨rfl, Below.refl _ _⟩
 ·by_cases k6 : k = 6
  ·subst k6
   rw [show tkF 6 = 2 from rfl]
   go_enter Tryz.func23, Tryz.ntmps23
   go_wp2_with fail
   go_ret
   exact ⟨rfl, Below.refl _ _⟩
  ·by_cases k7 : k = 7
   ·subst k7
    rw [show tkF 7 = 1 from rfl]
    go_enter Tryz.func23, Tryz.ntmps23
    go_wp2_with fail
    go_ret
    exact ⟨rfl, Below.refl _ _⟩
   ·have d5 : (k == 5) = false := by rw [beq_eq_false_iff_ne]; exact k5
    have d6 : (k == 6) = false := by rw [beq_eq_false_iff_ne]; exact k6
    have d7 : (k == 7) = false := by rw [beq_eq_false_iff_ne]; exact k7
    rw [show tkF k = 0 from by unfold tkF; rw [if_neg (fun e => e.elim k5 k6), if_neg k7]]
    go_enter Tryz.func23, Tryz.ntmps23
    go_wp2_with fail
    go_ret
    exact ⟨rfl, Below.refl _ _⟩
def fitF (n : Nd) : Prop :=
 if n.kind = 2 then normS n.set = n.set ∧ n.mn = 0 ∧ n.mx = 0
 else if n.kind = 7 then n.set = none_ ∧ oftF n.mn n.mx = true
 else if n.kind = 1 ∨ n.kind = 3 ∨ n.kind = 4 ∨ n.kind = 5 ∨ n.kind = 6 then n.set = none_ ∧ n.mn = 0 ∧ n.mx = 0
 else False
noncomputable def fitB (n : Nd) : Bool := @decide (fitF n) (Classical.propDecidable _)
theorem fitB_of {n : Nd} {z : Bool} (h : fitF n ↔ z = true) : fitB n = z := by
 unfold fitB
 cases z with
 | false => exact @decide_eq_false _ (Classical.propDecidable _) (fun e => Bool.noConfusion (h.1 e))
 | true => exact @decide_eq_true _ (Classical.propDecidable _) (h.2 rfl)
theorem fit_2 (s : St) (a b : Int) : fitF ⟨2, s, a, b⟩ ↔ normS s = s ∧ a = 0 ∧ b = 0 := Iff.rfl
theorem fit_7 (s : St) (a b : Int) : fitF ⟨7, s, a, b⟩ ↔ s = none_ ∧ oftF a b = true := Iff.rfl
theorem fit_x {k : Int} (s : St) (a b : Int) (h : k = 1 ∨ k = 3 ∨ k = 4 ∨ k = 5 ∨ k = 6) : fitF ⟨k, s, a, b⟩ ↔ s = none_ ∧ a = 0 ∧ b = 0 := by
 unfold fitF
 rw [if_neg (by dsimp only; omega), if_neg (by dsimp only; omega), if_pos h]
theorem fit_no {k : Int} (s : St) (a b : Int) (h : ¬ (k = 1 ∨ k = 3 ∨ k = 4 ∨ k = 5 ∨ k = 6)) (h2 : k ≠ 2) (h7 : k ≠ 7) : ¬ fitF ⟨k, s, a, b⟩ := by
 unfold fitF
 rw [if_neg h2, if_neg h7, if_neg h]
 exact id
set_option maxHeartbeats 16000000 in
theorem fits_any {X1 X2 X3 : Option Addr} {x1 y1 x2 y2 x3 y3 : Nat} {vk vm vx : Int} {s : St} {w : World} (h : Has3 w X1 x1 X2 x2 X3 x3 s) :
  Calls Tryz.prog 24 #[.agg #[.int .i64 vk, .slice X1 x1 y1, .slice X2 x2 y2, .slice X3 x3 y3, .int .i64 vm, .int .i64 vx]] w (Ret w (.bool (fitB ⟨vk, s, vm, vx⟩))) := by
 obtain ⟨g, hg⟩ : ∃ g, g = w.heap.size := ⟨_, rfl⟩
 obtain ⟨U, hU⟩ : ∃ U, U = w.alloc (.cells #[.int .i64 vk, .slice X1 x1 y1, .slice X2 x2 y2, .slice X3 x3 y3, .int .i64 vm, .int .i64 vx] 41) := ⟨_, rfl⟩
 have HBX := Lib.hid (show Blk U g 41 [.int .i64 vk, .slice X1 x1 y1, .slice X2 x2 y2, .slice X3 x3 y3, .int .i64 vm, .int .i64 vx] from by rw [hU, hg]; exact Blk.new w _ _)
 have HS := Lib.hid (show Has3 U X1 x1 X2 x2 X3 x3 s from by rw [hU]; exact h.next ((Below.refl _ _).alloc (Nat.le_refl _) _))
 have HB := Lib.hid (show Below w.heap.size w U by rw [hU]; exact (Below.refl _ _).alloc (Nat.le_refl _) _)
 have HU := Lib.hid hU; have HG := Lib.hid hg
 clear hU hg h
 have HR := Lib.hid (show ∀ z : Bool, (fitF ⟨vk, s, vm, vx⟩ ↔ z = true) → fitB ⟨vk, s, vm, vx⟩ = z from fun z h => fitB_of h)
 generalize fitB ⟨vk, s, vm, vx⟩ = r at HR
 have q0 := HBX.out.cell 0; have q1 := HBX.out.cell 1; have q2 := HBX.out.cell 2; have q3 := HBX.out.cell 3; have q4 := HBX.out.cell 4; have q5 := HBX.out.cell 5
 by_cases k2 : vk = 2
 ·subst k2
  go_enter Tryz.func24, Tryz.ntmps24
  go_wp2_with fail
  rw [← HU.out, ← HG.out]
  go_wp2_with fail
  refine (r_may _ _ _ HS.out rfl).mono ?_
  rintro e u ⟨rfl, hb⟩
  clear q0 q1 q2 q3 q4 q5
  replace HBX := Lib.hid (HBX.out.below hb HBX.out.lt)
  replace HS := Lib.hid (HS.out.next hb)
  replace HB := Lib.hid (HB.out.trans (hb.mono HB.out.size))
  clear hb HU HG
  by_cases c : normS s = s
  ·rw [decide_eq_true c]
   by_cases c4 : vm = 0
   ·subst c4
    by_cases c5 : vx = 0
    ·subst c5
     obtain rfl := HR.out true ((fit_2 _ _ _).trans ⟨fun _ => rfl, fun _ => ⟨c, rfl, rfl⟩⟩)
     have q4 := HBX.out.cell 4; have q5 := HBX.out.cell 5
     clear HR c
     go_wp2_with fail
     go_ret
     exact ⟨rfl, HB.out⟩
    ·have d5 : (vx == 0) = false := by rw [beq_eq_false_iff_ne]; exact c5
     obtain rfl := HR.out false ((fit_2 _ _ _).trans ⟨fun e => absurd e.2.2 c5, fun e => Bool.noConfusion e⟩)
     have q4 := HBX.out.cell 4; have q5 := HBX.out.cell 5
     clear HR c
     go_wp2_with fail
     go_ret
     exact ⟨rfl, HB.out⟩
   ·have d4 : (vm == 0) = false := by rw [beq_eq_false_iff_ne]; exact c4
    obtain rfl := HR.out false ((fit_2 _ _ _).trans ⟨fun e => absurd e.2.1 c4, fun e => Bool.noConfusion e⟩)
    have q4 := HBX.out.cell 4; have q5 := HBX.out.cell 5
    clear HR c
    go_wp2_with fail
    go_ret
    exact ⟨rfl, HB.out⟩
  ·rw [decide_eq_false c]
   obtain rfl := HR.out false ((fit_2 _ _ _).trans ⟨fun e => absurd e.1 c, fun e => Bool.noConfusion e⟩)
   clear HR c
   go_wp2_with fail
   go_ret
   exact ⟨rfl, HB.out⟩
 ·by_cases k7 : vk = 7
  ·subst k7
   go_enter Tryz.func24, Tryz.ntmps24
   go_wp2_with fail
   rw [← HU.out, ← HG.out]
   go_wp2_with fail
   refine (bare_any HS.out).mono ?_
   rintro e u ⟨rfl, hb⟩
   clear q0 q1 q2 q3 q4 q5
   replace HBX := Lib.hid (HBX.out.below hb HBX.out.lt)
   replace HS := Lib.hid (HS.out.next hb)
   replace HB := Lib.hid (HB.out.trans (hb.mono HB.out.size))
   clear hb HU HG
   by_cases c : s = none_
   ·rw [decide_eq_true c]
    obtain rfl := HR.out (oftF vm vx) ((fit_7 _ _ _).trans ⟨fun e => e.2, fun e => ⟨c, e⟩⟩)
    have q4 := HBX.out.cell 4; have q5 := HBX.out.cell 5
    clear HR c
    go_wp2_with fail
    refine (often_any _ _ _).mono ?_
    rintro e u2 ⟨rfl, hb⟩
    replace HB := Lib.hid (HB.out.trans (hb.mono HB.out.size))
    clear hb
    go_wp2_with fail
    go_ret
    exact ⟨rfl, HB.out⟩
   ·rw [decide_eq_false c]
    obtain rfl := HR.out false ((fit_7 _ _ _).trans ⟨fun e => absurd e.1 c, fun e => Bool.noConfusion e⟩)
    clear HR c
    go_wp2_with fail
    go_ret
    exact ⟨rfl, HB.out⟩
  ·by_cases k1 : vk = 1
   ·subst k1
    go_enter Tryz.func24, Tryz.ntmps24
    go_wp2_with fail
    rw [← HU.out, ← HG.out]
    go_wp2_with fail
    refine (bare_any HS.out).mono ?_
    rintro e u ⟨rfl, hb⟩
    clear q0 q1 q2 q3 q4 q5
    replace HBX := Lib.hid (HBX.out.below hb HBX.out.lt)
    replace HS := Lib.hid (HS.out.next hb)
    replace HB := Lib.hid (HB.out.trans (hb.mono HB.out.size))
    clear hb HU HG
    by_cases c : s = none_
    ·rw [decide_eq_true c]
     by_cases c4 : vm = 0
     ·subst c4
      by_cases c5 : vx = 0
      ·subst c5
       obtain rfl := HR.out true ((fit_x _ _ _ (by omega)).trans ⟨fun _ => rfl, fun _ => ⟨c, rfl, rfl⟩⟩)
       have q4 := HBX.out.cell 4; have q5 := HBX.out.cell 5
       clear HR c
       go_wp2_with fail
       go_ret
       exact ⟨rfl, HB.out⟩
      ·have d5 : (vx == 0) = false := by rw [beq_eq_false_iff_ne]; exact c5
       obtain rfl := HR.out false ((fit_x _ _ _ (by omega)).trans ⟨fun e => absurd e.2.2 c5, fun e => Bool.noConfusion e⟩)
       have q4 := HBX.out.cell 4; have q5 := HBX.out.cell 5
       clear HR c
       go_wp2_with fail
       go_ret
       exact ⟨rfl, HB.out⟩
     ·have d4 : (vm == 0) = false := by rw [beq_eq_false_iff_ne]; exact c4
      obtain rfl := HR.out false ((fit_x _ _ _ (by omega)).trans ⟨fun e => absurd e.2.1 c4, fun e => Bool.noConfusion e⟩)
      have q4 := HBX.out.cell 4; have q5 := HBX.out.cell 5
      clear HR c
      go_wp2_with fail
      go_ret
      exact ⟨rfl, HB.out⟩
    ·rw [decide_eq_false c]
     obtain rfl := HR.out false ((fit_x _ _ _ (by omega)).trans ⟨fun e => absurd e.1 c, fun e => Bool.noConfusion e⟩)
     clear HR c
     go_wp2_with fail
     go_ret
     exact ⟨rfl, HB.out⟩
   ·by_cases k3 : vk = 3
    ·subst k3
     go_enter Tryz.func24, Tryz.ntmps24
     go_wp2_with fail
     rw [← HU.out, ← HG.out]
     go_wp2_with fail
     refine (bare_any HS.out).mono ?_
     rintro e u ⟨rfl, hb⟩
     clear q0 q1 q2 q3 q4 q5
     replace HBX := Lib.hid (HBX.out.below hb HBX.out.lt)
     replace HS := Lib.hid (HS.out.next hb)
     replace HB := Lib.hid (HB.out.trans (hb.mono HB.out.size))
     clear hb HU HG
     by_cases c : s = none_
     ·rw [decide_eq_true c]
      by_cases c4 : vm = 0
      ·subst c4
       by_cases c5 : vx = 0
       ·subst c5
        obtain rfl := HR.out true ((fit_x _ _ _ (by omega)).trans ⟨fun _ => rfl, fun _ => ⟨c, rfl, rfl⟩⟩)
        have q4 := HBX.out.cell 4; have q5 := HBX.out.cell 5
        clear HR c
        go_wp2_with fail
        go_ret
        exact ⟨rfl, HB.out⟩
       ·have d5 : (vx == 0) = false := by rw [beq_eq_false_iff_ne]; exact c5
        obtain rfl := HR.out false ((fit_x _ _ _ (by omega)).trans ⟨fun e => absurd e.2.2 c5, fun e => Bool.noConfusion e⟩)
        have q4 := HBX.out.cell 4; have q5 := HBX.out.cell 5
        clear HR c
        go_wp2_with fail
        go_ret
        exact ⟨rfl, HB.out⟩
      ·have d4 : (vm == 0) = false := by rw [beq_eq_false_iff_ne]; exact c4
       obtain rfl := HR.out false ((fit_x _ _ _ (by omega)).trans ⟨fun e => absurd e.2.1 c4, fun e => Bool.noConfusion e⟩)
       have q4 := HBX.out.cell 4; have q5 := HBX.out.cell 5
       clear HR c
       go_wp2_with fail
       go_ret
       exact ⟨rfl, HB.out⟩
     ·rw [decide_eq_false c]
      obtain rfl := HR.out false ((fit_x _ _ _ (by omega)).trans ⟨fun e => absurd e.1 c, fun e => Bool.noConfusion e⟩)
      clear HR c
      go_wp2_with fail
      go_ret
      exact ⟨rfl, HB.out⟩
    ·by_cases k4 : vk = 4
     ·subst k4
      go_enter Tryz.func24, Tryz.ntmps24
      go_wp2_with fail
      rw [← HU.out, ← HG.out]
      go_wp2_with fail
      refine (bare_any HS.out).mono ?_
      rintro e u ⟨rfl, hb⟩
      clear q0 q1 q2 q3 q4 q5
      replace HBX := Lib.hid (HBX.out.below hb HBX.out.lt)
      replace HS := Lib.hid (HS.out.next hb)
      replace HB := Lib.hid (HB.out.trans (hb.mono HB.out.size))
      clear hb HU HG
      by_cases c : s = none_
      ·rw [decide_eq_true c]
       by_cases c4 : vm = 0
       ·subst c4
        by_cases c5 : vx = 0
        ·subst c5
         obtain rfl := HR.out true ((fit_x _ _ _ (by omega)).trans ⟨fun _ => rfl, fun _ => ⟨c, rfl, rfl⟩⟩)
         have q4 := HBX.out.cell 4; have q5 := HBX.out.cell 5
         clear HR c
         go_wp2_with fail
         go_ret
         exact ⟨rfl, HB.out⟩
        ·have d5 : (vx == 0) = false := by rw [beq_eq_false_iff_ne]; exact c5
         obtain rfl := HR.out false ((fit_x _ _ _ (by omega)).trans ⟨fun e => absurd e.2.2 c5, fun e => Bool.noConfusion e⟩)
         have q4 := HBX.out.cell 4; have q5 := HBX.out.cell 5
         clear HR c
         go_wp2_with fail
         go_ret
         exact ⟨rfl, HB.out⟩
       ·have d4 : (vm == 0) = false := by rw [beq_eq_false_iff_ne]; exact c4
        obtain rfl := HR.out false ((fit_x _ _ _ (by omega)).trans ⟨fun e => absurd e.2.1 c4, fun e => Bool.noConfusion e⟩)
        have q4 := HBX.out.cell 4; have q5 := HBX.out.cell 5
        clear HR c
        go_wp2_with fail
        go_ret
        exact ⟨rfl, HB.out⟩
      ·rw [decide_eq_false c]
       obtain rfl := HR.out false ((fit_x _ _ _ (by omega)).trans ⟨fun e => absurd e.1 c, fun e => Bool.noConfusion e⟩)
       clear HR c
       go_wp2_with fail
       go_ret
       exact ⟨rfl, HB.out⟩
     ·by_cases k5 : vk = 5
      ·subst k5
       go_enter Tryz.func24, Tryz.ntmps24
       go_wp2_with fail
       rw [← HU.out, ← HG.out]
       go_wp2_with fail
       refine (bare_any HS.out).mono ?_
       rintro e u ⟨rfl, hb⟩
       clear q0 q1 q2 q3 q4 q5
       replace HBX := Lib.hid (HBX.out.below hb HBX.out.lt)
       replace HS := Lib.hid (HS.out.next hb)
       replace HB := Lib.hid (HB.out.trans (hb.mono HB.out.size))
       clear hb HU HG
       by_cases c : s = none_
       ·rw [decide_eq_true c]
        by_cases c4 : vm = 0
        ·subst c4
         by_cases c5 : vx = 0
         ·subst c5
          obtain rfl := HR.out true ((fit_x _ _ _ (by omega)).trans ⟨fun _ => rfl, fun _ => ⟨c, rfl, rfl⟩⟩)
          have q4 := HBX.out.cell 4; have q5 := HBX.out.cell 5
          clear HR c
          go_wp2_with fail
          go_ret
          exact ⟨rfl, HB.out⟩
         ·have d5 : (vx == 0) = false := by rw [beq_eq_false_iff_ne]; exact c5
          obtain rfl := HR.out false ((fit_x _ _ _ (by omega)).trans ⟨fun e => absurd e.2.2 c5, fun e => Bool.noConfusion e⟩)
          have q4 := HBX.out.cell 4; have q5 := HBX.out.cell 5
          clear HR c
          go_wp2_with fail
          go_ret
          exact ⟨rfl, HB.out⟩
        ·have d4 : (vm == 0) = false := by rw [beq_eq_false_iff_ne]; exact c4
         obtain rfl := HR.out false ((fit_x _ _ _ (by omega)).trans ⟨fun e => absurd e.2.1 c4, fun e => Bool.noConfusion e⟩)
         have q4 := HBX.out.cell 4; have q5 := HBX.out.cell 5
         clear HR c
         go_wp2_with fail
         go_ret
         exact ⟨rfl, HB.out⟩
       ·rw [decide_eq_false c]
        obtain rfl := HR.out false ((fit_x _ _ _ (by omega)).trans ⟨fun e => absurd e.1 c, fun e => Bool.noConfusion e⟩)
        clear HR c
        go_wp2_with fail
        go_ret
        exact ⟨rfl, HB.out⟩
      ·by_cases k6 : vk = 6
       ·subst k6
        go_enter Tryz.func24, Tryz.ntmps24
        go_wp2_with fail
        rw [← HU.out, ← HG.out]
        go_wp2_with fail
        refine (bare_any HS.out).mono ?_
        rintro e u ⟨rfl, hb⟩
        clear q0 q1 q2 q3 q4 q5
        replace HBX := Lib.hid (HBX.out.below hb HBX.out.lt)
        replace HS := Lib.hid (HS.out.next hb)
        replace HB := Lib.hid (HB.out.trans (hb.mono HB.out.size))
        clear hb HU HG
        by_cases c : s = none_
        ·rw [decide_eq_true c]
         by_cases c4 : vm = 0
         ·subst c4
          by_cases c5 : vx = 0
          ·subst c5
           obtain rfl := HR.out true ((fit_x _ _ _ (by omega)).trans ⟨fun _ => rfl, fun _ => ⟨c, rfl, rfl⟩⟩)
           have q4 := HBX.out.cell 4; have q5 := HBX.out.cell 5
           clear HR c
           go_wp2_with fail
           go_ret
           exact ⟨rfl, HB.out⟩
          ·have d5 : (vx == 0) = false := by rw [beq_eq_false_iff_ne]; exact c5
           obtain rfl := HR.out false ((fit_x _ _ _ (by omega)).trans ⟨fun e => absurd e.2.2 c5, fun e => Bool.noConfusion e⟩)
           have q4 := HBX.out.cell 4; have q5 := HBX.out.cell 5
           clear HR c
           go_wp2_with fail
           go_ret
           exact ⟨rfl, HB.out⟩
         ·have d4 : (vm == 0) = false := by rw [beq_eq_false_iff_ne]; exact c4
          obtain rfl := HR.out false ((fit_x _ _ _ (by omega)).trans ⟨fun e => absurd e.2.1 c4, fun e => Bool.noConfusion e⟩)
          have q4 := HBX.out.cell 4; have q5 := HBX.out.cell 5
          clear HR c
          go_wp2_with fail
          go_ret
          exact ⟨rfl, HB.out⟩
        ·rw [decide_eq_false c]
         obtain rfl := HR.out false ((fit_x _ _ _ (by omega)).trans ⟨fun e => absurd e.1 c, fun e => Bool.noConfusion e⟩)
         clear HR c
         go_wp2_with fail
         go_ret
         exact ⟨rfl, HB.out⟩
       ·have dd : (vk == 2) = false ∧ (vk == 7) = false ∧ (vk == 1) = false ∧ (vk == 3) = false ∧ (vk == 4) = false ∧ (vk == 5) = false ∧ (vk == 6) = false := by simp only [beq_eq_false_iff_ne]; exact ⟨k2, k7, k1, k3, k4, k5, k6⟩
        obtain ⟨e2, e7, e1, e3, e4, e5, e6⟩ := dd
        obtain rfl := HR.out false ⟨fun e => absurd e (fit_no _ _ _ (by omega) k2 k7), fun e => Bool.noConfusion e⟩
        clear HR
        go_enter Tryz.func24, Tryz.ntmps24
        go_wp2_with fail
        rw [← HU.out, ← HG.out]
        go_wp2_with fail
        go_ret
        exact ⟨rfl, HB.out⟩
theorem tk_pos (k : Int) : 0 ≤ tkF k ∧ tkF k ≤ 2 := by
 unfold tkF; repeat' split
 all_goals omega
theorem step_fit {h : Int} (hh : 0 ≤ h) (n : Nd) : mayStep h n = if tkF n.kind ≤ h then (if fitB n = true then some (h + (1 - tkF n.kind)) else none) else none := by
 obtain ⟨k, s, a, b⟩ := n
 have hf : fitB ⟨k, s, a, b⟩ = true ↔ fitF ⟨k, s, a, b⟩ := by unfold fitB; exact iff_of_eq (@decide_eq_true_eq _ (Classical.propDecidable _))
 unfold mayStep
 dsimp only
 by_cases k7 : k = 7
 ·subst k7
  rw [if_pos rfl, show tkF 7 = 1 from rfl]
  by_cases c : s = none_ ∧ 1 ≤ h ∧ 0 ≤ a ∧ a ≤ 64 ∧ b ≤ 64 ∧ (a ≤ b ∨ b = -1)
  ·rw [if_pos c, if_pos c.2.1, if_pos (hf.2 ((fit_7 _ _ _).2 ⟨c.1, by unfold oftF; rw [decide_eq_true_eq]; omega⟩))]
   congr 1; omega
  ·rw [if_neg c]
   by_cases c1 : 1 ≤ h
   ·rw [if_pos c1, if_neg]
    intro e
    have := (fit_7 _ _ _).1 (hf.1 e)
    unfold oftF at this
    rw [decide_eq_true_eq] at this
    obtain ⟨e1, e2⟩ := this
    exact c ⟨e1, by omega⟩
   ·rw [if_neg c1]
 ·rw [if_neg k7]
  by_cases k2 : k = 2
  ·subst k2
   rw [show tkF 2 = 0 from rfl, if_pos hh, if_pos rfl]
   by_cases c : a ≠ 0 ∨ b ≠ 0
   ·rw [if_pos c, if_neg]
    intro e
    have := (fit_2 _ _ _).1 (hf.1 e)
    omega
   ·rw [if_neg c]
    by_cases c1 : normS s = s
    ·rw [if_pos c1, if_pos (hf.2 ((fit_2 _ _ _).2 ⟨c1, by omega⟩))]; congr 1
    ·rw [if_neg c1, if_neg]
     intro e
     exact c1 ((fit_2 _ _ _).1 (hf.1 e)).1
  ·by_cases kx : k = 1 ∨ k = 3 ∨ k = 4 ∨ k = 5 ∨ k = 6
   ·have hx := hf.trans (fit_x s a b kx)
    by_cases c : a ≠ 0 ∨ b ≠ 0
    ·rw [if_pos c, if_neg (show ¬ fitB ⟨k, s, a, b⟩ = true by intro e; have := hx.1 e; omega)]
     split <;> rfl
    ·rw [if_neg c, if_neg k2]
     by_cases cs : s = none_
     ·rw [if_neg (by intro e; exact e cs), if_pos (hx.2 ⟨cs, by omega⟩)]
      rcases kx with rfl | rfl | rfl | rfl | rfl
      ·rw [if_pos (.inl rfl), show tkF 1 = 0 from rfl, if_pos hh]; congr 1
      ·rw [if_pos (.inr (.inl rfl)), show tkF 3 = 0 from rfl, if_pos hh]; congr 1
      ·rw [if_pos (.inr (.inr rfl)), show tkF 4 = 0 from rfl, if_pos hh]; congr 1
      ·rw [if_neg (by decide), if_pos (.inl rfl), show tkF 5 = 2 from rfl]
       have : h - 1 = h + (1 - 2) := by omega
       rw [this]
      ·rw [if_neg (by decide), if_pos (.inr rfl), show tkF 6 = 2 from rfl]
       have : h - 1 = h + (1 - 2) := by omega
       rw [this]
     ·rw [if_pos cs, if_neg (show ¬ fitB ⟨k, s, a, b⟩ = true from fun e => cs (hx.1 e).1)]
      split <;> rfl
   ·have hn : ¬ fitB ⟨k, s, a, b⟩ = true := fun e => fit_no s a b kx k2 k7 (hf.1 e)
    rw [if_neg hn, if_neg k2, if_neg (show ¬ (k = 1 ∨ k = 3 ∨ k = 4) by omega), if_neg (show ¬ (k = 5 ∨ k = 6) by omega)]
    repeat' split
    all_goals rfl
set_option maxHeartbeats 16000000 in
theorem may_any (A : Option Addr) (V : List NV) (l : List Nd) (n c : Nat) (w : World) (h : ArgN w A n V l) :
  Calls Tryz.prog 10 #[.slice A n c] w (Ret w (.bool (mayF l))) := by
 have H := Lib.hid h
 have hn := h.sm
 clear h
 go_enter Tryz.func10, Tryz.ntmps10
 go_wp2_with fail
 go_loopw [3, 9] (fun hv i wr => ∃ (k : Nat) (x : Int), k ≤ n ∧ hv = .int .i64 x ∧ i = .int .i64 k ∧ 0 ≤ x ∧ x ≤ k ∧ Hid (mayL (some 0) (l.take k) = some x) ∧ Hid (Below w.heap.size w wr)) (fun _ i _ => n - (intOf i).toNat)
 case atStart => exact ⟨0, 0, Nat.zero_le _, rfl, rfl, Int.le_refl _, Int.le_refl _, Lib.hid rfl, Lib.hid (Below.refl _ _)⟩
 case round =>
  obtain ⟨k, x, hk, rfl, rfl, hx0, hxk, HT, HB⟩ := hrel
  by_cases hlt : k < n
  ·have ha : k < l.length := by rw [H.out.len2]; exact hlt
   have hv : k < V.length := by rw [H.out.len]; exact hlt
   have H1 := H.out.next HB.out
   obtain ⟨p, o, rfl, _⟩ := nv_form H1.rd (by omega)
   have HM := Lib.hid (H1.means k hv ha)
   have HD := rd_nv H1.rd hv
   have HTK := Lib.hid (show mayL (some 0) (l.take (k + 1)) = mayStep x l[k] from mayL_take ha HT.out)
   have HNO := Lib.hid (show mayStep x l[k] = none → mayF l = false from may_stop ha HT.out)
   rw [step_fit hx0] at HTK HNO
   generalize V[k] = v at HM HD
   generalize l[k] = s at HM HTK HNO
   clear ha hv H1
   have e1 := HM.out.k; have e3 := HM.out.mn; have e5 := HM.out.mx
   obtain ⟨vk, X1, x1, y1, X2, x2, y2, X3, x3, y3, vm, vx⟩ := v
   dsimp only at e1 e3 e5 HD
   obtain ⟨sk, ss, sm, sx⟩ := s
   dsimp only at e1 e3 e5 HTK HNO
   subst e1 e3 e5
   obtain ⟨d0, d1, d2, d3, d4, d5⟩ := HD
   obtain ⟨gb, hgb⟩ : ∃ gb, gb = wr.heap.size := ⟨_, rfl⟩
   obtain ⟨U, hU⟩ : ∃ U, U = wr.alloc (.cells #[.int .i64 vk, .slice X1 x1 y1, .slice X2 x2 y2, .slice X3 x3 y3, .int .i64 vm, .int .i64 vx] 41) := ⟨_, rfl⟩
   have HBX := Lib.hid (show Blk U gb 41 [.int .i64 vk, .slice X1 x1 y1, .slice X2 x2 y2, .slice X3 x3 y3, .int .i64 vm, .int .i64 vx] from by rw [hU, hgb]; exact Blk.new wr _ _)
   have HS := Lib.hid (show Has3 U X1 x1 X2 x2 X3 x3 ss from by rw [hU]; exact HM.out.set.next ((Below.refl _ _).alloc (Nat.le_refl _) _))
   have HB2 := Lib.hid (show Below w.heap.size w U from by rw [hU]; exact HB.out.alloc HB.out.size _)
   have HU := Lib.hid hU; have HG := Lib.hid hgb
   clear hU hgb HM
   go_wp2_with fail
   rw [← HU.out, ← HG.out]
   clear HU HG d0 d1 d2 d3 d4 d5
   have q0 := HBX.out.cell 0
   go_wp2_with fail
   refine (operands_any _ _).mono ?_
   rintro e u ⟨rfl, hb⟩
   clear q0
   replace HBX := Lib.hid (HBX.out.below hb HBX.out.lt)
   replace HS := Lib.hid (HS.out.next hb)
   replace HB2 := Lib.hid (HB2.out.trans (hb.mono HB2.out.size))
   clear hb HB
   have ht := tk_pos vk
   obtain ⟨t, htk⟩ : ∃ t, tkF vk = t := ⟨_, rfl⟩
   rw [htk] at ht HTK HNO ⊢
   obtain ⟨t0, t2⟩ := ht
   by_cases hc : t ≤ x
   ·rw [if_pos hc] at HTK HNO
    have q0 := HBX.out.cell 0; have q1 := HBX.out.cell 1; have q2 := HBX.out.cell 2; have q3 := HBX.out.cell 3; have q4 := HBX.out.cell 4; have q5 := HBX.out.cell 5
    go_wp2_with fail
    refine (fits_any HS.out).mono ?_
    rintro e u2 ⟨rfl, hb⟩
    clear q0 q1 q2 q3 q4 q5
    replace HB2 := Lib.hid (HB2.out.trans (hb.mono HB2.out.size))
    clear hb
    generalize fitB ⟨vk, ss, vm, vx⟩ = z at HTK HNO ⊢
    cases z with
    | false =>
     have HF := Lib.hid (HNO.out rfl)
     go_wp2_with fail
     go_ret
     rw [HF.out]
     exact ⟨rfl, HB2.out⟩
    | true =>
     have HN := Lib.hid (show mayL (some 0) (l.take (k + 1)) = some (x + (1 - t)) from HTK.out)
     go_wp2_with fail
     go_roundw
     case rel => exact ⟨k + 1, x + (1 - t), by omega, by go_num, by go_num, by omega, by omega, HN, HB2⟩
     case measure => simp [intOf]; omega
   ·rw [if_neg hc] at HTK HNO
    have HF := Lib.hid (HNO.out rfl)
    go_wp2_with fail
    go_ret
    rw [HF.out]
    exact ⟨rfl, HB2.out⟩
  ·obtain rfl : k = n := by omega
   have HF := Lib.hid (show mayF l = decide (x = 1) from by
    have h := HT.out
    rw [List.take_of_length_le (by rw [H.out.len2]; exact Nat.le_refl _)] at h
    unfold mayF
    rw [h, decide_eq_decide]
    exact ⟨fun e => Option.some.inj e, fun e => by rw [e]⟩)
   by_cases h1 : x = 1
   ·subst h1
    go_wp2_with fail
    go_ret
    rw [HF.out]
    exact ⟨rfl, HB.out⟩
   ·have hd : decide (x = 1) = false := decide_eq_false h1
    have hd2 : (x == 1) = false := by rw [beq_eq_false_iff_ne]; exact h1
    go_wp2_with fail
    go_ret
    rw [HF.out, hd]
    exact ⟨rfl, HB.out⟩
end Go.Proofs.YtheelnhhkpkjnaaGreatDoor.Syn
namespace Go.Proofs.YtheelnhhkpkjnaaGreatDoor.Sset
open Go.RowKit
open Utf (Rd Blk bys bys_len nums nums_len)
open Rset
set_option maxRecDepth 100000
theorem fst_rns {x : Tx} {r : Int} (h : rns x = [r]) : fst x = r := by
 have hx : x ≠ [] := by rintro rfl; cases h
 unfold rns at h
 rw [pnts_cons hx, List.map_cons] at h
 injection h with h _
theorem rune_rgx {x : Tx} (h : x ≠ []) : 0 ≤ (Utf.rune x : Int) ∧ (Utf.rune x : Int) ≤ 1114111 := by
 have hh : Utf.rune x ≤ 1114111 := by
  unfold Utf.rune
  split
  ·rename_i hw
   exact (Utf.wf_piece h hw).1.1
  ·decide
 omega
theorem ofS_no {x : Tx} (h : rns x = [] ∨ good x = false) : ofS x = none_ := by
 have hk : okT x = false := by
  unfold okT
  rcases h with h | h
  ·have : (pnts x).length = 0 := by have := congrArg List.length h; unfold rns at this; simpa using this
   rw [this]; simp
  ·rw [h]; rfl
 have hg : (good x && decide ((pnts x).length = 1)) = false := by
  rcases h with h | h
  ·have : (pnts x).length = 0 := by have := congrArg List.length h; unfold rns at this; simpa using this
   rw [this]; simp
  ·rw [h]; rfl
 unfold ofS
 rw [hg, if_neg (by decide)]
 unfold normS none_
 have hr : (rise [x]).filter okT = [] := by
  rw [List.filter_eq_nil_iff]
  intro t ht
  have := List.mem_singleton.1 ((rise_mem [x] t).1 ht)
  rw [this, hk]; decide
 rw [hr]
 have hn : norm ([] : List Rg) = [] := norm_id Nm.nil
 rw [hn]
theorem ofS_one {x : Tx} {r : Int} (h : rns x = [r]) (hg : good x = true) (hr : 0 ≤ r ∧ r ≤ 1114111) : ofS x = ⟨[(r, r)], [], []⟩ := by
 have h1 : (pnts x).length = 1 := by have := congrArg List.length h; unfold rns at this; simpa using this
 unfold ofS
 rw [hg, h1, if_pos (by decide), fst_rns h]
 unfold onesS
 rw [norm_id (Nm.cons ⟨hr.1, Int.le_refl _, hr.2⟩ (by simp) Nm.nil)]
theorem ofS_many {x : Tx} (h : 2 ≤ (rns x).length) (hg : good x = true) : ofS x = ⟨[], [], [x]⟩ := by
 have h1 : 2 ≤ (pnts x).length := by unfold rns at h; simpa using h
 have hk : okT x = true := by unfold okT; rw [hg, decide_eq_true h1]; rfl
 unfold ofS
 rw [hg, decide_eq_false (by omega), if_neg (by decide)]
 refine normS_id ⟨Nm.nil, Nm.nil, ?_, fun t ht => by rw [List.mem_singleton.1 ht]; exact hk⟩
 exact List.pairwise_singleton _ _
set_option maxHeartbeats 8000000 in
theorem rof_any (X : ByteArray) (x : Tx) (hX : X.toList = x) (hl : x.length ≤ 1073741824) (w : World) :
  Calls Tryz.prog 21 #[.string X] w (OwnS w (ofS x)) := by
 obtain ⟨g, hg⟩ : ∃ g, g = w.heap.size := ⟨_, rfl⟩
 obtain ⟨W0, hW0⟩ : ∃ W0, W0 = w.alloc (.cells #[.slice none 0 0, .slice none 0 0, .slice none 0 0] 39) := ⟨_, rfl⟩
 have k0 : BlkS W0 g (.slice none 0 0) (.slice none 0 0) (.slice none 0 0) := by rw [hW0, hg]; exact BlkS.new w _ _ _
 have hb0 : Below w.heap.size w W0 := by rw [hW0]; exact (Below.refl _ _).alloc (Nat.le_refl _) _
 have HK := Lib.hid k0; have HW := Lib.hid hW0; have HG := Lib.hid hg; have HB0 := Lib.hid hb0; have HL := Lib.hid hl
 obtain ⟨n, hn⟩ : ∃ n, x.length = n := ⟨_, rfl⟩
 obtain ⟨gg, C, W1, hcv, hr1, hb1, _, _⟩ := conv_str W0 X x hX n hn (by omega)
 have HRR := Lib.hid (rrunes_any (some ⟨gg, 0, none⟩) x n C W1 hr1 hn (by omega))
 have HGD := Lib.hid (fun u => good_any X x hX hl u)
 have HXX := Lib.hid (toList_mk hX)
 have HB1 := Lib.hid hb1
 obtain ⟨L, hL⟩ : ∃ L, rns x = L := ⟨_, rfl⟩
 rw [hL] at HRR
 have HLL := Lib.hid hL
 clear hg hW0 hb0 k0 hX hl hr1 hb1 hn hL
 go_enter Tryz.func21, Tryz.ntmps21
 go_wp2_with fail
 rw [← HW.out, ← HG.out, hcv]
 go_wp2_with fail
 refine HRR.out.mono ?_
 rintro e w2 ⟨v2, rfl, o2, b2⟩
 have HG2 := Lib.hid (show ∀ b o N c, v2 = .slice (some ⟨b, o, none⟩) N c → g ≠ b from fun b o N c e => by
  have := (o2.lt b (by rw [e]; rfl)).1
  have h1 := HK.out.lt; have h2 := HB1.out.size
  omega)
 obtain ⟨A2, c2, rfl, _, _, r2⟩ := own_form o2
 have HR2 := Lib.hid r2
 have HB2 := Lib.hid (HB1.out.trans (b2.mono HB1.out.size))
 clear o2 b2 r2 HRR hcv
 have HZ := Lib.hid (HK.out.next HB2.out)
 have hs0 := HB0.out.size
 have HBW := Lib.hid (HB0.out.trans (HB2.out.mono hs0))
 have HGW := Lib.hid (show w.heap.size ≤ g from Nat.le_of_eq HG.out.symm)
 have d0 := HZ.out.c0; have d1 := HZ.out.c1; have d2 := HZ.out.c2; have f0 := HZ.out.fr 0; have f1 := HZ.out.fr 1; have f2 := HZ.out.fr 2
 by_cases h0 : L = []
 ·subst h0
  simp only [List.length_nil]
  go_wp2_with fail
  refine (HZ.out.put _ _ _).ret rfl rfl rfl ?_
  rw [ofS_no (.inl HLL.out)]
  exact OwnS.of (a := none_) (B1 := w.heap.size) (B2 := w.heap.size) (B3 := w.heap.size) HZ.out (World.ownsRow_nil _ _ _ _) (World.ownsRow_nil _ _ _ _) (World.ownsRow_nil _ _ _ _) HBW.out HGW.out (Nat.le_refl _) (Nat.le_refl _) (Nat.le_refl _)
 ·obtain ⟨N, hN⟩ : ∃ N, L.length = N := ⟨_, rfl⟩
  have hN0 : 0 < N := by rw [← hN]; exact List.length_pos_iff.2 h0
  rw [hN]
  clear d0 d1 d2 f0 f1 f2
  go_wp2_with fail
  refine (HGD.out _).mono ?_
  rintro e w3 ⟨rfl, b3⟩
  replace HR2 := Lib.hid ((HR2.out.below b3).more b3.size)
  replace HZ := Lib.hid (HZ.out.next b3)
  replace HBW := Lib.hid (HBW.out.trans (b3.mono HBW.out.size))
  clear b3
  have d0 := HZ.out.c0; have d1 := HZ.out.c1; have d2 := HZ.out.c2; have f0 := HZ.out.fr 0; have f1 := HZ.out.fr 1; have f2 := HZ.out.fr 2
  cases hgd : good x with
  | false =>
   go_wp2_with fail
   refine (HZ.out.put _ _ _).ret rfl rfl rfl ?_
   rw [ofS_no (.inr hgd)]
   exact OwnS.of (a := none_) (B1 := w.heap.size) (B2 := w.heap.size) (B3 := w.heap.size) HZ.out (World.ownsRow_nil _ _ _ _) (World.ownsRow_nil _ _ _ _) (World.ownsRow_nil _ _ _ _) HBW.out HGW.out (Nat.le_refl _) (Nat.le_refl _) (Nat.le_refl _)
  | true =>
   by_cases h1 : N = 1
   ·subst h1
    obtain ⟨r, hr⟩ := List.length_eq_one_iff.1 hN
    subst hr
    have hx : x ≠ [] := by rintro rfl; cases HLL.out
    have hrr : r = (Utf.rune x : Int) := by rw [← fst_rns HLL.out]; rfl
    have HRB := Lib.hid (show 0 ≤ r ∧ r ≤ 1114111 from by rw [hrr]; exact rune_rgx hx)
    have HOF := Lib.hid (ofS_one HLL.out hgd HRB.out)
    clear hrr
    obtain ⟨b, o, rfl, hbl⟩ := HR2.out.form (by rw [nums_len]; exact Nat.zero_lt_one)
    have p0 : w3.cell? ⟨b, o, none⟩ = some (.int .i32 r) := by
     have := HR2.out.num (k := 0) (by simp)
     simpa using this
    have hBL := Lib.hid hbl
    have HGB := Lib.hid (show g ≠ b from HG2.out b o _ _ rfl)
    go_wp2_with fail
    have HCE := Lib.hid (show ∀ u, Below w3.heap.size w3 u → u.cell? ⟨b, o, none⟩ = some (.int .i32 r) from fun u hu => (hu.cell (p := ⟨b, o, none⟩) hBL.out).trans p0)
    refine wp_region_held_drew (S := fun u => u.cell? ⟨b, o, none⟩ = some (.int .i32 r)) (by kernel_rfl) (HCE.out _ (Below.refl _ _).drew) (fun hHeld => ?_)
    refine wpAnyH_take (i := 0) (oi := _) (v := ?_) rfl (by kernel_rfl) (by kernel_rfl) (by kernel_rfl) (fun _ _ _ h => h) (Or.inl ⟨by rfl, ?_⟩) (by assumption) ?_
    rotate_left
    ·(intro w hSw; (try dsimp only at hSw); go_simp <;> with_reducible rfl)
    simp only [List.getElem_toArray, List.getElem_cons_zero, Act.put, List.setIfInBounds_toArray, List.set_cons_zero, List.set_cons_succ]
    refine wpAnyH_take (i := 1) (oi := _) (v := ?_) rfl (by kernel_rfl) (by kernel_rfl) (by kernel_rfl) (fun _ _ _ h => h) (Or.inl ⟨by rfl, ?_⟩) (by assumption) ?_
    rotate_left
    ·(intro w hSw; (try dsimp only at hSw); go_simp <;> with_reducible rfl)
    simp only [List.getElem_toArray, List.getElem_cons_succ, List.getElem_cons_zero, Act.put, List.setIfInBounds_toArray, List.set_cons_zero, List.set_cons_succ]
    refine wpAnyH_take (i := 2) (oi := _) (v := ?_) rfl (by kernel_rfl) (by kernel_rfl) (by kernel_rfl) (fun _ _ _ h => h) (Or.inl ⟨by rfl, ?_⟩) (by assumption) ?_
    rotate_left
    ·(intro w hSw; (try dsimp only at hSw); go_simp <;> with_reducible rfl)
    simp only [List.getElem_toArray, List.getElem_cons_succ, List.getElem_cons_zero, Act.put, List.setIfInBounds_toArray, List.set_cons_zero, List.set_cons_succ]
    refine wpAnyH_take (i := 3) (oi := _) (v := ?_) rfl (by kernel_rfl) (by kernel_rfl) (by kernel_rfl) (fun _ _ _ h => h) (Or.inl ⟨by rfl, ?_⟩) (by assumption) ?_
    rotate_left
    ·(intro w hSw; (try dsimp only at hSw); go_simp <;> with_reducible rfl)
    simp only [List.getElem_toArray, List.getElem_cons_succ, List.getElem_cons_zero, Act.put, List.setIfInBounds_toArray, List.set_cons_zero, List.set_cons_succ]
    refine wpAnyH_take (i := 4) (oi := _) (v := ?_) rfl (by kernel_rfl) (by kernel_rfl) (by kernel_rfl) (fun _ _ _ h => h) (Or.inl ⟨by rfl, ?_⟩) (by assumption) ?_
    rotate_left
    ·(intro w hSw; (try dsimp only at hSw); go_simp <;> with_reducible rfl)
    simp only [List.getElem_toArray, List.getElem_cons_succ, List.getElem_cons_zero, Act.put, List.setIfInBounds_toArray, List.set_cons_zero, List.set_cons_succ]
    refine wpAnyH_take (i := 5) (oi := _) (v := ?_) rfl (by kernel_rfl) (by kernel_rfl) (by kernel_rfl) (fun _ _ _ h => h) (Or.inl ⟨by rfl, ?_⟩) (by assumption) ?_
    rotate_left
    ·(intro w hSw; (try dsimp only at hSw); go_simp <;> with_reducible rfl)
    simp only [List.getElem_toArray, List.getElem_cons_succ, List.getElem_cons_zero, Act.put, List.setIfInBounds_toArray, List.set_cons_zero, List.set_cons_succ]
    refine wpAnyH_take (i := 6) (oi := _) (v := ?_) rfl (by kernel_rfl) (by kernel_rfl) (by kernel_rfl) (fun _ _ _ h => h) (Or.inl ⟨by rfl, ?_⟩) (by assumption) ?_
    rotate_left
    ·(intro w hSw; (try dsimp only at hSw); go_simp <;> with_reducible rfl)
    simp only [List.getElem_toArray, List.getElem_cons_succ, List.getElem_cons_zero, Act.put, List.setIfInBounds_toArray, List.set_cons_zero, List.set_cons_succ]
    refine wpAnyH_ready (rs := [7]) (by kernel_rfl) (by simp) (AllReadyH.cons rfl (fun K hK => ?_) AllReadyH.nil)
    have hba : Below w3.heap.size w3 ((w3.alloc (.cells #[.int .i32 r, .int .i32 r] 48)).drew) := ((Below.refl w3.heap.size w3).alloc (Nat.le_refl _) _).drew
    have HBA := Lib.hid hba
    have HO := Lib.hid (show ((w3.alloc (.cells #[.int .i32 r, .int .i32 r] 48)).drew).ownsRow w.heap.size 48 2 (.slice (some ⟨w3.heap.size, 0, none⟩) 1 1) 1 (rgs [(r, r)]) from ⟨rfl, .inr ⟨w3.heap.size, 1, #[.int .i32 r, .int .i32 r], rfl, HBW.out.size, heap_alloc_new w3 _, Nat.le_refl _, by simp [maxLen], rfl, rfl⟩⟩)
    have HZ4 := Lib.hid (HZ.out.next hba)
    clear hba d0 d1 d2 f0 f1 f2
    go_simp
    generalize ((w3.alloc (.cells #[.int .i32 r, .int .i32 r] 48)).drew) = w4 at *
    refine hK.out _ _ (HCE.out _ HBA.out) (fun hHeld2 => ?_)
    clear hK K hHeld
    have hHeld := hHeld2
    clear hHeld2
    refine wpAnyH_take (i := 8) (oi := _) (v := ?_) rfl (by kernel_rfl) (by kernel_rfl) (by kernel_rfl) (fun _ _ _ h => h) (Or.inl ⟨by rfl, ?_⟩) (by assumption) ?_
    rotate_left
    ·(intro w hSw; (try dsimp only at hSw); go_simp <;> with_reducible rfl)
    simp only [List.getElem_toArray, List.getElem_cons_succ, List.getElem_cons_zero, Act.put, List.setIfInBounds_toArray, List.set_cons_zero, List.set_cons_succ]
    refine wpAnyH_ready (rs := [9]) (by kernel_rfl) (by simp) (AllReadyH.cons rfl (fun K hK => ?_) AllReadyH.nil)
    have d0 := HZ4.out.c0; have d1 := HZ4.out.c1; have d2 := HZ4.out.c2; have f0 := HZ4.out.fr 0; have f1 := HZ4.out.fr 1; have f2 := HZ4.out.fr 2
    go_simp
    clear d0 d1 d2 f0 f1 f2
    refine hK.out _ _ ((World.cell?_of_block ((grown_put w4 g _ _ _).block b (Nat.lt_of_lt_of_le hBL.out HBA.out.size) (fun e => HGB.out (Option.some.inj e).symm))).trans (HCE.out _ HBA.out)) (fun hHeld2 => ?_)
    clear hK K hHeld
    have hHeld := hHeld2
    clear hHeld2
    refine wpAnyH_done (by kernel_rfl) ?_ _
    go_wp2_with fail
    refine (HZ4.out.put _ _ _).ret rfl rfl rfl ?_
    rw [HOF.out]
    exact OwnS.of (a := ⟨[(r, r)], [], []⟩) (B1 := w.heap.size) (B2 := w.heap.size) (B3 := w.heap.size) HZ4.out HO.out (World.ownsRow_nil _ _ _ _) (World.ownsRow_nil _ _ _ _) (HBW.out.trans (HBA.out.mono HBW.out.size)) HGW.out (Nat.le_refl _) (Nat.le_refl _) (Nat.le_refl _)
   ·have h1' : ((N : Int) == 1) = false := beq_eq_false_iff_ne.2 (by omega)
    have HOF := Lib.hid (ofS_many (by rw [HLL.out, hN]; omega) hgd)
    clear d0 d1 d2 f0 f1 f2
    have k3 := HZ.out.alloc (.cells #[.string X] 9)
    have hb3 : Below w3.heap.size w3 (w3.alloc (.cells #[.string X] 9)) := (Below.refl _ _).alloc (Nat.le_refl _) _
    have HO := Lib.hid (show (w3.alloc (.cells #[.string X] 9)).ownsRow w.heap.size 9 1 (.slice (some ⟨w3.heap.size, 0, none⟩) 1 1) 1 (txs [x]) from ⟨rfl, .inr ⟨w3.heap.size, 1, #[.string X], rfl, HBW.out.size, heap_alloc_new w3 _, Nat.le_refl _, by simp [maxLen], rfl, by rw [HXX.out]; rfl⟩⟩)
    have HZ4 := Lib.hid k3
    have HB4 := Lib.hid (HBW.out.trans (hb3.mono HBW.out.size))
    have d0 := k3.c0; have d1 := k3.c1; have d2 := k3.c2; have f0 := k3.fr 0; have f1 := k3.fr 1; have f2 := k3.fr 2
    clear k3 hb3
    go_wp2_with fail
    refine (HZ4.out.put _ _ _).ret rfl rfl rfl ?_
    rw [HOF.out]
    exact OwnS.of (a := ⟨[], [], [x]⟩) (B1 := w.heap.size) (B2 := w.heap.size) (B3 := w.heap.size) HZ4.out (World.ownsRow_nil _ _ _ _) (World.ownsRow_nil _ _ _ _) HO.out HB4.out HGW.out (Nat.le_refl _) (Nat.le_refl _) (Nat.le_refl _)
end Go.Proofs.YtheelnhhkpkjnaaGreatDoor.Sset
