/-
  CONTRACTS OF (*Former).Close, Normal, slices.Equal at numbers, Is, Same.
-/
import Derived.Test.YtochodombojamaaDoorNormWrite
namespace Go.Proofs.YtochodombojamaaDoor.Norm
open Go.Shelf Go.RowKit Go.Sort Utf
open Ucd hiding grow same Told

set_option maxHeartbeats 4000000 in
theorem close_any (base fb : Nat) (v : Value) (K : List Int) (cl : Bool) (w : World) (hL : Laid w) (hF : Fm w base fb v K cl) (hb : base ≤ w.heap.size) (hg : 2 < base) (hsm : K.length ≤ 1099511627776) :
    Calls Tryd.prog 16 #[.pointer (some ⟨fb, 0, none⟩)] w fun e w' => e = .returned v ∧ w'.ownsRow base 21 1 v K.length (nums (ord K)) ∧ Fm w' base fb (.slice none 0 0) [] true ∧ Chg w w' (Its fb v) := by
  obtain ⟨A, c, rfl, _⟩ := own_form hF.own
  have c0 := hF.blk.cell 0
  have c1 := hF.blk.cell 1
  have f0 := hF.blk.frozen 0
  have f1 := hF.blk.frozen 1
  simp only [List.getElem?_cons_succ, List.getElem?_cons_zero] at c0 c1
  have hne := hF.ne
  have hB1 := (hF.blk.set_ 0 (.slice none 0 0)).set_ 1 (.bool true)
  have hO1 := own_set (own_set hF.own hne (o := 0) (.slice none 0 0)) hne (o := 1) (.bool true)
  have hC1 := ((Chg.refl w (Its fb (.slice A K.length c))).setCell (p := ⟨fb, 0, none⟩) (.slice none 0 0) (.inl rfl)).setCell (p := ⟨fb, 1, none⟩) (.bool true) (.inl rfl)
  obtain ⟨w1, hw1⟩ : ∃ w1, w1 = (w.setCell ⟨fb, 0, none⟩ (.slice none 0 0)).setCell ⟨fb, 1, none⟩ (.bool true) := ⟨_, rfl⟩
  rw [← hw1] at hB1 hO1 hC1
  have hlow : ∀ i, i < base → ¬ Its fb (.slice A K.length c) i := fun i hi => hF.its hi
  have hL1 : Laid w1 := hL.below (hC1.below hb hlow) hg
  have hle := hF.le
  obtain ⟨k, hk⟩ : ∃ k, k = K.length := ⟨_, rfl⟩
  rw [← hk] at c0 hO1 hsm hne hC1 ⊢
  have HO := Lib.hid (order_from (t := 0) (A' := A) (c' := c) hO1 (Nat.zero_le _) (fun h => by
    obtain ⟨g, cap, hv, _⟩ := hO1.form h
    injection hv with h1
    exact ⟨g, h1, h1⟩) hL1 hg hsm)
  rw [Nat.sub_zero, List.take_zero, List.drop_zero, List.nil_append] at HO
  have HW := Lib.hid hw1
  have HB1 := Lib.hid hB1
  have HC1 := Lib.hid hC1
  have HNE := Lib.hid hne
  have HOO := Lib.hid hO1
  clear hF hL hL1 hB1 hO1 hC1 hlow hk hne
  go_enter Tryd.func16, Tryd.ntmps16
  go_wp2_with fail
  rw [← HW.out]
  refine HO.out.mono ?_
  rintro e w2 ⟨rfl, ho2, hg2⟩
  have HO2 := Lib.hid ho2
  have HG2 := Lib.hid hg2
  clear ho2 hg2 c0 c1 f0 f1
  go_wp2_with fail
  go_ret
  refine ⟨rfl, HO2.out, ⟨HB1.out.grown HG2.out (fun e => HNE.out e.symm), World.ownsRow_nil _ _ _ _, hle⟩, HC1.out.grown HG2.out fun i _ e => .inr e⟩

set_option maxHeartbeats 4000000 in
theorem normal_any (A : Option Addr) (l : List Int) (n c : Nat) (w : World) (hL : Laid w) (hr : Rd w w.heap.size A (nums l)) (hn : l.length = n) (hsm : n ≤ 34359738368) :
    Calls Tryd.prog 12 #[.slice A n c] w (Mine w.heap.size w (normal l)) := by
  obtain ⟨i0, hi, hz0, hz1, hz2⟩ := info_parts infoI32
  have hsz := hL.size
  obtain ⟨w1, hw1⟩ : ∃ w1, w1 = w.alloc (.cells #[.slice none 0 0, .bool false] 43) := ⟨_, rfl⟩
  have hL1 : Laid w1 := by rw [hw1]; exact hL.alloc _
  have hF1 : Fm w1 w.heap.size w.heap.size (.slice none 0 0) [] false := by rw [hw1]; exact new_fm w _ (Nat.le_refl _)
  have hr1 : Rd w1 w1.heap.size A (nums l) := by rw [hw1]; exact (hr.alloc (Nat.le_refl _) _).more (by simp)
  have hb1 : w.heap.size ≤ w1.heap.size := by rw [hw1]; simp
  have hB1 : Below w.heap.size w w1 := by rw [hw1]; exact (Below.refl _ _).alloc (Nat.le_refl _) _
  have hfl := fulls_len l
  rw [hn] at hfl
  have htl := told_pend_len [] (fulls l)
  rw [List.length_nil, Nat.zero_add] at htl
  have HWR := Lib.hid (write_any w.heap.size w.heap.size (.slice none 0 0) [] l A n c w1 hL1 hF1 marks_nil hr1 (fun _ _ _ h => by cases h) hn hb1 hsz (by simp; omega))
  have HW1 := Lib.hid hw1
  have HL1 := Lib.hid hL1
  have HB1 := Lib.hid hB1
  have HF1 := Lib.hid hF1
  have HE := Lib.hid (show normal l = told [] (fulls l) ++ ord (pend [] (fulls l)) from rfl)
  generalize told [] (fulls l) = T at *
  generalize pend [] (fulls l) = P at *
  have HTL := Lib.hid htl
  have HFL := Lib.hid hfl
  clear hL hr hn hw1 hL1 hF1 hr1 hB1 htl hfl
  have HBASE := Lib.hid hb1
  go_enter Tryd.func12, Tryd.ntmps12
  go_wp2_with fail
  refine (new_any w).mono ?_
  rintro e w1' ⟨rfl, hw⟩
  rw [← HW1.out] at hw
  subst hw
  go_wp2_with fail
  refine HWR.out.mono ?_
  rintro e w2 ⟨v2, v3, rfl, hF2, ho2, hc2, hn2, ha2, _⟩
  have hlow : ∀ i, i < w.heap.size → ¬ Its w.heap.size (.slice none 0 0) i := fun i hi => HF1.out.its hi
  have HL2 := Lib.hid (HL1.out.below (hc2.below HBASE.out hlow) hsz)
  have HB2 := Lib.hid (HB1.out.trans (hc2.below HBASE.out hlow))
  have HF2 := Lib.hid hF2
  have HO2 := Lib.hid ho2
  have HX2 := Lib.hid (show ∀ k, v2.ownBlock = some k → ¬ Its w.heap.size v3 k from fun k hk hi => by
    rcases hi with e | e
    · exact hn2 (e ▸ hk)
    · exact (ha2 k hk).1 e)
  have HV := Lib.hid hn2
  clear hF2 ho2 hc2 hn2 ha2 HWR
  go_wp2_with fail
  refine (close_any w.heap.size w.heap.size v3 P false w2 HL2.out HF2.out HB2.out.size hsz (by have := HTL.out; have := HFL.out; omega)).mono ?_
  rintro e w3 ⟨rfl, ho3, hF3, hc3⟩
  have HO3 := Lib.hid (own_keep HO2.out hc3 HX2.out)
  have HB3 := Lib.hid (HB2.out.trans (hc3.below HB2.out.size (fun i hi => HF2.out.its hi)))
  obtain ⟨A3, c3, rfl, _, _, hr3⟩ := own_form ho3
  have HR3 := Lib.hid hr3
  have hb3 := HB3.out.size
  clear ho3 hF3 hc3 hr3 HO2 HX2 HF2 HL2 hlow
  go_wp2_with (at_builtin; refine wpList_append_rd _ rfl (.tmp 9) (.tmp 11) _ rfl w.heap.size 21 i0 _ 1 4 Tryd.underlying22 hi hz0 hz1 hz2 rfl (by decide) v2 T.length (nums T) rfl HO3.out _ A3 P.length c3 (nums (ord P)) rfl (by rw [nums_len, ord_len, Nat.mul_one]) HR3.out (nums_one _) (by have := HTL.out; have := HFL.out; unfold maxLen; omega) (by have := HTL.out; have := HFL.out; omega) hb3 ?_; intro v6 w6 hown6 hgr6 _)
  go_ret
  refine ⟨v6, rfl, ?_, HB3.out.grown hgr6 hb3 fun k hk => (HO3.out.lt k hk).1⟩
  rw [HE.out, List.length_append, ord_len, nums_append]
  exact hown6

set_option maxHeartbeats 2000000 in
theorem equal_any (A B : Option Addr) (a b : List Int) (n m c d : Nat) (w : World) (ha : Rd w w.heap.size A (nums a)) (hb : Rd w w.heap.size B (nums b)) (hn : a.length = n) (hm : b.length = m) (hn1 : n ≤ 1099511627776) (hm1 : m ≤ 1099511627776) :
    Calls Tryd.prog 19 #[.slice A n c, .slice B m d] w fun e w' => e = .returned (.bool (Ucd.same a b)) ∧ ∃ k, w' = w.drewN k := by
  suffices H : Calls Tryd.prog 19 #[.slice A n c, .slice B m d] w (fun e w' => Hid (e = .returned (.bool (Ucd.same a b)) ∧ ∃ k, w' = w.drewN k)) from H.mono fun e w' h => h.out
  by_cases hnm : n = m
  · subst hnm
    have HN := Lib.hid hn; have HM := Lib.hid hm
    clear hn hm
    go_enter Tryd.func19, Tryd.ntmps19
    go_wp2
    go_loopw [13] (fun i wr => ∃ k j : Nat, k ≤ n ∧ i = .int .i64 k ∧ Hid (a.take k = b.take k) ∧ Hid (wr = w.drewN j)) (fun i _ => n - (intOf i).toNat)
    case atStart => exact ⟨0, 0, Nat.zero_le _, rfl, Lib.hid rfl, Lib.hid rfl⟩
    case round =>
      obtain ⟨k, j, hk, rfl, HT, HJ⟩ := hrel
      by_cases hlt : k < n
      · have hka : k < a.length := by rw [HN.out]; exact hlt
        have hkb : k < b.length := by rw [HM.out]; exact hlt
        obtain ⟨ba, oa, rfl, _⟩ := ha.form (by rw [nums_len]; omega)
        obtain ⟨bb, ob, rfl, _⟩ := hb.form (by rw [nums_len]; omega)
        have hwr : ∀ p : Addr, wr.cell? p = w.cell? p := fun p => by rw [HJ.out]; rfl
        have a1 := ha.num hka
        have b1 := hb.num hkb
        rw [← hwr] at a1 b1
        have HTS := Lib.hid (take_succ_eq hka hkb HT.out)
        have HNE := Lib.hid (show a[k] ≠ b[k] → Ucd.same a b = false from fun h => by unfold Ucd.same; rw [decide_eq_false]; rintro rfl; exact h rfl)
        obtain ⟨x, hx⟩ : ∃ x, x = a[k] := ⟨_, rfl⟩
        obtain ⟨y, hy⟩ : ∃ y, y = b[k] := ⟨_, rfl⟩
        rw [← hx] at a1 HTS HNE
        rw [← hy] at b1 HTS HNE
        clear hx hy hwr HT
        by_cases hxy : x = y
        · subst hxy
          go_wp2_with fail
          go_quiet (fail)
          go_wp2
          go_roundw
          case rel => exact ⟨k + 1, _, by omega, by go_num, Lib.hid (HTS.out trivial), Lib.hid (by rw [HJ.out, World.drewN_drewN])⟩
          case measure => simp [intOf]; omega
        · have hne : (x != y) = true := by simpa using hxy
          have HF := Lib.hid (HNE.out hxy)
          clear hxy
          go_wp2_with fail
          go_quiet (fail)
          go_wp2
          go_ret
          exact Lib.hid ⟨by rw [HF.out]; rfl, _, by rw [HJ.out, World.drewN_drewN]⟩
      · have hkn : k = n := by omega
        have HF := Lib.hid (show Ucd.same a b = true by
          have := HT.out
          rw [List.take_of_length_le (by have := HN.out; omega), List.take_of_length_le (by have := HM.out; omega)] at this
          unfold Ucd.same; exact decide_eq_true this)
        clear hkn
        go_wp2
        go_ret
        exact Lib.hid ⟨by rw [HF.out]; rfl, _, HJ.out⟩
  · have hs : Ucd.same a b = false := by unfold Ucd.same; rw [decide_eq_false]; rintro rfl; exact hnm (hn.symm.trans hm)
    have HS := Lib.hid hs
    have hne : ((n : Int) == (m : Int)) = false := by simp; omega
    have hne2 : ((n : Int) != (m : Int)) = true := by simp; omega
    clear hs hn hm hnm
    go_enter Tryd.func19, Tryd.ntmps19
    go_wp2
    go_ret
    exact Lib.hid ⟨by rw [HS.out]; rfl, 0, rfl⟩

theorem is_any (A : Option Addr) (l : List Int) (n c : Nat) (w : World) (hL : Laid w) (hr : Rd w w.heap.size A (nums l)) (hn : l.length = n) (hsm : n ≤ 34359738368) :
    Calls Tryd.prog 13 #[.slice A n c] w (Ret w (.bool (Ucd.same (normal l) l))) := by
  have HC := Lib.hid (normal_any A l n c w hL hr hn hsm)
  have HR := Lib.hid hr
  have HN := Lib.hid hn
  have HM := Lib.hid (show (normal l).length ≤ 1099511627776 by have := nf_len (fulls l); have := fulls_len l; unfold normal; omega)
  clear hL hr hn
  go_enter Tryd.func13, Tryd.ntmps13
  go_wp2_with fail
  refine HC.out.mono ?_
  rintro e w1 ⟨v, rfl, ho, hb⟩
  obtain ⟨A1, c1, rfl, _, _, hr1⟩ := own_form ho
  have HR1 := Lib.hid hr1
  have HB := Lib.hid hb
  have HR2 := Lib.hid ((HR.out.below hb).more hb.size)
  clear ho hb hr1
  go_wp2_with fail
  refine (equal_any A1 A (normal l) l _ n c1 c w1 HR1.out HR2.out rfl HN.out HM.out (by omega)).mono ?_
  rintro e w2 ⟨rfl, k, rfl⟩
  have HB2 := Lib.hid (below_drewN HB.out k)
  go_wp2_with fail
  go_ret
  exact ⟨rfl, HB2.out⟩
theorem same2_any (A B : Option Addr) (l m : List Int) (n k c d : Nat) (w : World) (hL : Laid w) (hr : Rd w w.heap.size A (nums l)) (hs : Rd w w.heap.size B (nums m)) (hn : l.length = n) (hk : m.length = k) (hsm : n ≤ 34359738368) (hsk : k ≤ 34359738368) :
    Calls Tryd.prog 7 #[.slice A n c, .slice B k d] w (Ret w (.bool (Ucd.same (normal l) (normal m)))) := by
  have HC := Lib.hid (normal_any A l n c w hL hr hn hsm)
  have HS := Lib.hid hs
  have HK := Lib.hid hk
  have HL := Lib.hid hL
  have HM := Lib.hid (show (normal l).length ≤ 1099511627776 by have := nf_len (fulls l); have := fulls_len l; unfold normal; omega)
  have HM2 := Lib.hid (show (normal m).length ≤ 1099511627776 by have := nf_len (fulls m); have := fulls_len m; unfold normal; omega)
  clear hL hr hn hs hk
  go_enter Tryd.func7, Tryd.ntmps7
  go_wp2_with fail
  refine HC.out.mono ?_
  rintro e w1 ⟨v, rfl, ho, hb⟩
  obtain ⟨A1, c1, rfl, _, _, hr1⟩ := own_form ho
  have HR1 := Lib.hid hr1
  have HB := Lib.hid hb
  have HS1 := Lib.hid ((HS.out.below hb).more hb.size)
  have HL1 := Lib.hid (HL.out.next hb)
  clear ho hb hr1
  go_wp2_with fail
  refine (normal_any B m k d w1 HL1.out HS1.out HK.out hsk).mono ?_
  rintro e w2 ⟨v, rfl, ho, hb⟩
  obtain ⟨A2, c2, rfl, _, _, hr2⟩ := own_form ho
  have HR2 := Lib.hid hr2
  have HB2 := Lib.hid (HB.out.trans (hb.mono HB.out.size))
  have HR12 := Lib.hid ((HR1.out.below hb).more hb.size)
  clear ho hb hr2
  go_wp2_with fail
  refine (equal_any A1 A2 (normal l) (normal m) _ _ c1 c2 w2 HR12.out HR2.out rfl rfl HM.out HM2.out).mono ?_
  rintro e w3 ⟨rfl, q, rfl⟩
  have HB3 := Lib.hid (below_drewN HB2.out q)
  go_wp2_with fail
  go_ret
  exact ⟨rfl, HB3.out⟩
end Go.Proofs.YtochodombojamaaDoor.Norm
