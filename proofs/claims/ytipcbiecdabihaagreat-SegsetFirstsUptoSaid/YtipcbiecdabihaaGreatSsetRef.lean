/-
  CONTRACTS OF THE DOCUMENT's OWN ANSWERS: Runes, Good, SameTexts, Same, Has.
-/
import Derived.Test.YtipcbiecdabihaaGreatSsetAsk
import Derived.Test.YtipcbiecdabihaaGreatUtfRdec
import Derived.Test.YtipcbiecdabihaaGreatUtfEncAll
import Derived.Test.YtipcbiecdabihaaGreatRsetRef1
namespace Go.Proofs.YtipcbiecdabihaaGreat.Sset
open Go.RowKit
open Utf (Rd Blk bys bys_len pts pts_len nums nums_len nums_append nums_one dec enc wpList_append_rd own_ne Pts)
open Rset
set_option maxRecDepth 100000

/-- numbers that lie in memory of the call's own -/
def OwnN (B : Nat) (w : World) (l : List Int) (e : Ending) (w' : World) : Prop := ∃ v, e = .returned v ∧ w'.ownsRow B 21 1 v l.length (nums l) ∧ Below B w w'
set_option maxHeartbeats 4000000 in
theorem rrunes_any (A : Option Addr) (l : List UInt8) (m c : Nat) (w : World) (hr : Rd w w.heap.size A (bys l)) (hm : l.length = m) (hb : m ≤ 34359738368) :
    Calls Tryz.prog 29 #[.slice A m c] w (OwnN w.heap.size w (rns l)) := by
  obtain ⟨i0, hi, hz0, hz1, hz2⟩ := info_parts infoI32
  have HD := Lib.hid (Utf.rdec_any A l m c false w hr hm (by omega))
  have hl := Utf.dec_len_le false l 0
  rw [hm] at hl
  have HE := Lib.hid (show rns l = (dec false 0 l).map fun q => (q.r : Int) from rfl)
  generalize dec false 0 l = ps at HD HE hl
  obtain ⟨B0, hB0⟩ : ∃ B0, B0 = w.heap.size := ⟨_, rfl⟩
  have HB0 := Lib.hid hB0
  rw [HE.out, ← hB0]
  clear hr hm hB0
  go_enter Tryz.func29, Tryz.ntmps29
  go_wp2_with fail
  refine HD.out.mono ?_
  rintro e w1 ⟨v, rfl, ho, hb1⟩
  rw [← HB0.out] at ho hb1
  obtain ⟨A1, c1, rfl, _, _, hr1⟩ := own_form ho
  have HR1 := Lib.hid hr1
  have HB1 := Lib.hid hb1
  obtain ⟨n, hn⟩ : ∃ n, n = ps.length := ⟨_, rfl⟩
  rw [← hn] at hl ⊢
  have HN := Lib.hid hn
  have HW1 := Lib.hid (show B0 ≤ w1.heap.size by have := hb1.size; have := HB0.out; omega)
  clear ho hb1 hr1 hn HD
  go_wp2_with fail
  go_loopw [3, 5] (fun vo i wr => ∃ k : Nat, k ≤ n ∧ i = .int .i64 k ∧ Hid (wr.ownsRow w1.heap.size 21 1 vo ((ps.take k).map fun q => (q.r : Int)).length (nums ((ps.take k).map fun q => (q.r : Int)))) ∧ Hid (Below w1.heap.size w1 wr)) (fun _ i _ => n - (intOf i).toNat)
  case atStart => exact ⟨0, Nat.zero_le _, rfl, Lib.hid (World.ownsRow_nil _ _ _ _), Lib.hid (Below.refl _ _)⟩
  case round =>
    obtain ⟨k, hk, rfl, HO, HB⟩ := hrel
    by_cases hlt : k < n
    · have hkl : k < ps.length := by rw [← HN.out]; exact hlt
      obtain ⟨b, o, rfl, hbl⟩ := HR1.out.form (by rw [pts_len]; omega)
      obtain ⟨p1, p2, p3⟩ := (HR1.out.below HB.out).pt hkl
      clear p2 p3
      have HT := Lib.hid (show (ps.take (k + 1)).map (fun q => (q.r : Int)) = (ps.take k).map (fun q => (q.r : Int)) ++ [(ps[k].r : Int)] by rw [List.take_succ_eq_append_getElem hkl, List.map_append]; rfl)
      have hlen : ((ps.take k).map fun q => (q.r : Int)).length = k := by rw [List.length_map, List.length_take]; omega
      generalize (ps.take k).map (fun q => (q.r : Int)) = L at HO HT hlen
      have hbw := HB.out.size
      rw [hlen] at HO
      have HLN := Lib.hid hlen
      obtain ⟨x, hx⟩ : ∃ x : Int, x = (ps[k].r : Int) := ⟨_, rfl⟩
      rw [← hx] at p1 HT
      have hbk : k ≤ 34359738368 := by omega
      clear hkl hx hlen hbl
      go_wp2_with (at_builtin; refine wpList_append_rd _ rfl (.tmp 14) (.tmp 20) _ rfl w1.heap.size 21 i0 _ 1 4 Tryz.underlying44 hi hz0 hz1 hz2 rfl (by decide) u3 k (nums L) rfl (HO.out.alloc _) _ (some ⟨wr.heap.size, 0, none⟩) 1 1 [.int .i32 x] rfl rfl (rd_new _ _ [.int .i32 x] _ (by simp)) (nums_one [x]) (by unfold maxLen; omega) (by omega) (by simp; omega) ?_; intro v6 w6 hown6 hgr6 _)
      have HO6 := Lib.hid (show w6.ownsRow w1.heap.size 21 1 v6 ((ps.take (k + 1)).map fun q => (q.r : Int)).length (nums ((ps.take (k + 1)).map fun q => (q.r : Int))) by
        rw [HT.out, List.length_append, HLN.out, nums_append]; exact hown6)
      have HB6 := Lib.hid ((HB.out.alloc hbw _).grown hgr6 (by simp; omega) (fun g hg => (HO.out.lt g hg).1))
      clear hown6 hgr6 HO HT
      go_roundw
      case rel => exact ⟨k + 1, by omega, by go_num, HO6, HB6⟩
      case measure => simp [intOf]; omega
    · have HXT := Lib.hid (show ps.take k = ps by rw [List.take_of_length_le (by rw [← HN.out]; omega)])
      rw [HXT.out] at HO
      go_wp2
      go_ret
      exact ⟨u3, rfl, own_mono HO.out HW1.out, HB1.out.trans (HB.out.mono HW1.out)⟩


theorem bne_ba {x y : Tx} (h : x ≠ y) : ((ba x).toList == (ba y).toList) = false := by rw [ba_list, ba_list, beq_eq_false_iff_ne]; exact h
theorem take_succ_tx {a b : List Tx} {k : Nat} (ha : k < a.length) (hb : k < b.length) (h : a.take k = b.take k) (e : a[k] = b[k]) : a.take (k + 1) = b.take (k + 1) := by
  rw [List.take_succ_eq_append_getElem ha, List.take_succ_eq_append_getElem hb, h, e]
set_option maxHeartbeats 2000000 in
theorem rsameT_any (A B : Option Addr) (a b : List Tx) (n m c d : Nat) (w : World) (ha : Rd w w.heap.size A (txs a)) (hb : Rd w w.heap.size B (txs b)) (hn : a.length = n) (hm : b.length = m) (hn1 : n ≤ 1099511627776) (hm1 : m ≤ 1099511627776) :
    Calls Tryz.prog 41 #[.slice A n c, .slice B m d] w fun e w' => e = .returned (.bool (decide (a = b))) ∧ ∃ k, w' = w.drewN k := by
  suffices H : Calls Tryz.prog 41 #[.slice A n c, .slice B m d] w (fun e w' => Hid (e = .returned (.bool (decide (a = b))) ∧ ∃ k, w' = w.drewN k)) from H.mono fun e w' h => h.out
  obtain ⟨S, hS⟩ : ∃ S, S = decide (a = b) := ⟨_, rfl⟩
  rw [← hS]
  have HSD := Lib.hid hS
  clear hS
  by_cases hnm : n = m
  · subst hnm
    have HN := Lib.hid hn; have HM := Lib.hid hm
    clear hn hm
    go_enter Tryz.func41, Tryz.ntmps41
    go_wp2_with fail
    go_loopw [5] (fun i wr => ∃ k j : Nat, k ≤ n ∧ i = .int .i64 k ∧ Hid (a.take k = b.take k) ∧ Hid (wr = w.drewN j)) (fun i _ => n - (intOf i).toNat)
    case atStart => exact ⟨0, 0, Nat.zero_le _, rfl, Lib.hid rfl, Lib.hid rfl⟩
    case round =>
      obtain ⟨k, j, hk, rfl, HT, HJ⟩ := hrel
      by_cases hlt : k < n
      · have hka : k < a.length := by rw [HN.out]; exact hlt
        have hkb : k < b.length := by rw [HM.out]; exact hlt
        obtain ⟨b1, o1, rfl, _⟩ := rd_form_tx ha (by omega)
        obtain ⟨b2, o2, rfl, _⟩ := rd_form_tx hb (by omega)
        have hwr : ∀ p : Addr, wr.cell? p = w.cell? p := fun p => by rw [HJ.out]; rfl
        have a1 : _ = some (Value.string (ba a[k])) := rd_tx ha hka
        have b1' : _ = some (Value.string (ba b[k])) := rd_tx hb hkb
        rw [← hwr] at a1 b1'
        have HTS := Lib.hid (take_succ_tx hka hkb HT.out)
        have HNE := Lib.hid (show a[k] ≠ b[k] → S = false from fun h => by rw [HSD.out, decide_eq_false_iff_not]; rintro rfl; exact h rfl)
        clear hwr HT
        by_cases hxy : a[k] = b[k]
        · have HR := Lib.hid (HTS.out hxy)
          rw [hxy] at a1
          generalize ba b[k] = X at a1 b1'
          clear hxy HTS HNE hka hkb
          have he1 : (X.toList == X.toList) = true := by simp
          have he2 : (X.toList != X.toList) = false := by simp
          go_wp2_with fail
          go_quiet (fail)
          go_wp2
          go_roundw
          case rel => exact ⟨k + 1, _, by omega, by go_num, HR, Lib.hid (by rw [HJ.out, World.drewN_drewN])⟩
          case measure => simp [intOf]; omega
        · have he1 := bne_ba hxy
          have HF := Lib.hid (HNE.out hxy)
          generalize ba a[k] = X at a1 he1
          generalize ba b[k] = Y at b1' he1
          have he2 : (X.toList != Y.toList) = true := by rw [bne, he1]; rfl
          clear hxy HTS HNE hka hkb
          go_wp2_with fail
          go_quiet (fail)
          go_wp2
          go_ret
          exact Lib.hid ⟨by rw [HF.out]; rfl, _, by rw [HJ.out, World.drewN_drewN]⟩
      · have HF := Lib.hid (show S = true by
          have := HT.out
          rw [List.take_of_length_le (by have := HN.out; omega), List.take_of_length_le (by have := HM.out; omega)] at this
          rw [HSD.out]; exact decide_eq_true this)
        go_wp2_with fail
        go_ret
        exact Lib.hid ⟨by rw [HF.out]; rfl, _, HJ.out⟩
  · have hs : S = false := by rw [HSD.out, decide_eq_false_iff_not]; rintro rfl; exact hnm (hn.symm.trans hm)
    have HS := Lib.hid hs
    have hne : ((n : Int) == (m : Int)) = false := by simp; omega
    have hne2 : ((n : Int) != (m : Int)) = true := by simp; omega
    clear hs hn hm hnm
    go_enter Tryz.func41, Tryz.ntmps41
    go_wp2
    go_ret
    exact Lib.hid ⟨by rw [HS.out]; rfl, 0, rfl⟩

set_option maxHeartbeats 2000000 in
theorem rssame_any (A1 A2 A3 B1 B2 B3 : Option Addr) (n1 c1 n2 c2 n3 c3 m1 d1 m2 d2 m3 d3 : Nat) (a b : St) (w : World) (h : Has3 w A1 n1 A2 n2 A3 n3 a) (k : Has3 w B1 m1 B2 m2 B3 m3 b) :
    Calls Tryz.prog 18 #[.agg #[.slice A1 n1 c1, .slice A2 n2 c2, .slice A3 n3 c3], .agg #[.slice B1 m1 d1, .slice B2 m2 d2, .slice B3 m3 d3]] w (Ret w (.bool (decide (a = b)))) := by
  obtain ⟨W0, hW0⟩ : ∃ W0, W0 = (w.alloc (.cells #[.slice A1 n1 c1, .slice A2 n2 c2, .slice A3 n3 c3] 25)).alloc (.cells #[.slice B1 m1 d1, .slice B2 m2 d2, .slice B3 m3 d3] 25) := ⟨_, rfl⟩
  obtain ⟨g, hg⟩ : ∃ g, g = w.heap.size := ⟨_, rfl⟩
  have hb0 : Below w.heap.size w W0 := by rw [hW0]; exact ((Below.refl _ _).alloc (Nat.le_refl _) _).alloc (by simp) _
  have k0 : BlkS W0 g (.slice A1 n1 c1) (.slice A2 n2 c2) (.slice A3 n3 c3) := by rw [hW0, hg]; exact (BlkS.new w _ _ _).alloc _
  have k1 : BlkS W0 (g + 1) (.slice B1 m1 d1) (.slice B2 m2 d2) (.slice B3 m3 d3) := by
    have := BlkS.new (w.alloc (.cells #[.slice A1 n1 c1, .slice A2 n2 c2, .slice A3 n3 c3] 25)) (.slice B1 m1 d1) (.slice B2 m2 d2) (.slice B3 m3 d3)
    rw [hW0, hg]; simpa using this
  have h0 := h.next hb0
  have h1 := k.next hb0
  have dw : ∀ q, Below W0.heap.size W0 (W0.drewN q) := fun q => below_drewN (Below.refl _ _) q
  have HS := Lib.hid (show ∀ q, Calls Tryz.prog 24 #[.slice A1 n1 c1, .slice B1 m1 d1] (W0.drewN q) (fun e w' => e = .returned (.bool (eqL a.s b.s)) ∧ ∃ k, w' = (W0.drewN q).drewN k) from fun q => same_any A1 B1 a.s b.s n1 m1 c1 d1 _ (h0.s.next (dw q)).rd (h1.s.next (dw q)).rd h0.s.len h1.s.len (by have := h0.s.sm; omega) (by have := h1.s.sm; omega))
  have HM := Lib.hid (show ∀ q, Calls Tryz.prog 24 #[.slice A2 n2 c2, .slice B2 m2 d2] (W0.drewN q) (fun e w' => e = .returned (.bool (eqL a.m b.m)) ∧ ∃ k, w' = (W0.drewN q).drewN k) from fun q => same_any A2 B2 a.m b.m n2 m2 c2 d2 _ (h0.m.next (dw q)).rd (h1.m.next (dw q)).rd h0.m.len h1.m.len (by have := h0.m.sm; omega) (by have := h1.m.sm; omega))
  have HO := Lib.hid (show ∀ q, Calls Tryz.prog 41 #[.slice A3 n3 c3, .slice B3 m3 d3] (W0.drewN q) (fun e w' => e = .returned (.bool (decide (a.o = b.o))) ∧ ∃ k, w' = (W0.drewN q).drewN k) from fun q => rsameT_any A3 B3 a.o b.o n3 m3 c3 d3 _ (h0.o.next (dw q)).rd (h1.o.next (dw q)).rd h0.o.len h1.o.len (by have := h0.o.sm; omega) (by have := h1.o.sm; omega))
  have HE := Lib.hid (st_eq a b)
  have HK0 := Lib.hid k0; have HK1 := Lib.hid k1
  have HW := Lib.hid hW0; have HG := Lib.hid hg; have HB0 := Lib.hid hb0
  have HDQ := Lib.hid (show ∀ q, Below w.heap.size w (W0.drewN q) from fun q => below_drewN hb0 q)
  clear h k hW0 hg hb0 k0 k1 h0 h1 dw
  rw [HE.out]
  generalize eqL a.s b.s = p1 at HS ⊢
  generalize eqL a.m b.m = p2 at HM ⊢
  generalize decide (a.o = b.o) = p3 at HO ⊢
  have x0 := HK0.out.c0; have y0 := HK1.out.c0
  go_enter Tryz.func18, Tryz.ntmps18
  go_wp2_with fail
  rw [← HW.out, ← HG.out]
  go_wp2_with fail
  refine (HS.out 0).mono ?_
  rintro e w1 ⟨rfl, q1, rfl⟩
  rw [World.drewN_drewN, Nat.zero_add]
  have x1 : (W0.drewN q1).cell? ⟨g, 1, none⟩ = some (.slice A2 n2 c2) := HK0.out.c1
  have y1 : (W0.drewN q1).cell? ⟨g + 1, 1, none⟩ = some (.slice B2 m2 d2) := HK1.out.c1
  clear x0 y0
  cases p1 with
  | false =>
    go_wp2_with fail
    go_ret
    exact ⟨rfl, HDQ.out _⟩
  | true =>
    go_wp2_with fail
    refine (HM.out _).mono ?_
    rintro e w2 ⟨rfl, q2, rfl⟩
    rw [World.drewN_drewN]
    clear x1 y1
    have x2 : (W0.drewN (q1 + q2)).cell? ⟨g, 2, none⟩ = some (.slice A3 n3 c3) := HK0.out.c2
    have y2 : (W0.drewN (q1 + q2)).cell? ⟨g + 1, 2, none⟩ = some (.slice B3 m3 d3) := HK1.out.c2
    cases p2 with
    | false =>
      go_wp2_with fail
      go_ret
      exact ⟨rfl, HDQ.out _⟩
    | true =>
      go_wp2_with fail
      refine (HO.out _).mono ?_
      rintro e w3 ⟨rfl, q3, rfl⟩
      rw [World.drewN_drewN]
      clear x2 y2
      go_wp2_with fail
      go_ret
      exact ⟨rfl, HDQ.out _⟩

theorem rns_len (x : Tx) : (rns x).length ≤ x.length := by unfold rns pnts; rw [List.length_map]; exact Utf.dec_len_le false x 0
set_option maxHeartbeats 4000000 in
theorem good_any (X : ByteArray) (x : Tx) (hX : X.toList = x) (hl : x.length ≤ 1073741824) (w : World) :
    Calls Tryz.prog 16 #[.string X] w (Ret w (.bool (good x))) := by
  obtain ⟨n, hn⟩ : ∃ n, x.length = n := ⟨_, rfl⟩
  obtain ⟨g, C, W1, hcv, hr1, hb1, hC1, hC2⟩ := conv_str w X x hX n hn (by omega)
  have HR := Lib.hid (rrunes_any (some ⟨g, 0, none⟩) x n C W1 hr1 hn (by omega))
  have HB1 := Lib.hid hb1
  have hrl := rns_len x
  have HG := Lib.hid (show good x = decide (enc (rns x) = x) from rfl)
  have HX := Lib.hid hX
  rw [hn] at hrl
  have hn2 : n ≤ 1073741824 := by omega
  rw [HG.out]
  clear hr1 hb1 hC1 hC2 hX hl hn
  generalize rns x = L at *
  go_enter Tryz.func16, Tryz.ntmps16
  go_wp2_with fail
  refine HR.out.mono ?_
  rintro e w2 ⟨v2, rfl, o2, b2⟩
  obtain ⟨A2, c2, rfl, _, _, r2⟩ := own_form o2
  have HB2 := Lib.hid (HB1.out.trans (b2.mono HB1.out.size))
  have HE := Lib.hid (Utf.rencode_any A2 L L.length c2 w2 r2 rfl (by omega))
  obtain ⟨ln, hln⟩ : ∃ ln, ln = L.length := ⟨_, rfl⟩
  rw [← hln] at HE ⊢
  clear o2 b2 r2 hln HR
  go_wp2_with fail
  refine HE.out.mono ?_
  rintro e w3 ⟨v3, rfl, o3, b3⟩
  obtain ⟨A3, c3, rfl, _, _, r3⟩ := own_form o3
  have hcv := conv_rd (c := c3) r3 rfl
  have HB3 := Lib.hid (HB2.out.trans (b3.mono HB2.out.size))
  obtain ⟨Y, hY⟩ : ∃ Y : ByteArray, Y = ⟨(enc L).toArray⟩ := ⟨_, rfl⟩
  rw [← hY] at hcv
  have HY := Lib.hid (show Y.toList = enc L by rw [hY, mk_toList])
  obtain ⟨le, hle⟩ : ∃ le, le = (enc L).length := ⟨_, rfl⟩
  rw [← hle] at hcv ⊢
  clear o3 b3 r3 hY HE hle
  go_wp2_with fail
  go_ret
  refine ⟨ret_bool ?_, HB3.out⟩
  rw [HY.out, HX.out, Bool.eq_iff_iff]
  simp

end Go.Proofs.YtipcbiecdabihaaGreat.Sset
