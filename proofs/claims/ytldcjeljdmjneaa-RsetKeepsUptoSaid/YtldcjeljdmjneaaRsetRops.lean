/-
  CONTRACTS OF the document's Not, Union, Meet and Minus.
-/
import Derived.Test.YtldcjeljdmjneaaRsetRnorm
namespace Go.Proofs.Ytldcjeljdmjneaa.Rset
set_option maxRecDepth 100000
open Go.RowKit
open Utf (Rd Blk wpList_append_rd own_ne)

theorem gp_at (s : List Rg) (i : Nat) (a : Int) (hi : i < s.length) : gp a (s.drop i) = (if a < s[i].1 then [(a, s[i].1 - 1)] else []) ++ gp (s[i].2 + 1) (s.drop (i + 1)) := by
  rw [List.drop_eq_getElem_cons hi]; rfl
theorem gp_end (a : Int) : gp a [] = if a ≤ 1114111 then [(a, 1114111)] else [] := rfl

set_option maxHeartbeats 8000000 in
theorem rnot_any (A : Option Addr) (l : List Rg) (n c : Nat) (w : World) (ha : Rd w w.heap.size A (rgs l)) (hn : l.length = n) (hn1 : n ≤ 1073741824) :
    Calls Try.prog 24 #[.slice A n c] w (Own w (compl l)) := by
  obtain ⟨i0, hi, hz0, hz1, hz2⟩ := info_parts infoRg
  have HC := Lib.hid (rnorm_any A l n c w ha hn hn1)
  have HM := Lib.hid (norm_nm l)
  have HE := Lib.hid (gp_compl l)
  clear ha hn hn1
  generalize norm l = s at *
  go_enter Try.func24, Try.ntmps24
  go_wp2_with fail
  refine HC.out.mono ?_
  rintro e W2 ⟨v1, rfl, ho1, hb1⟩
  obtain ⟨A2, c2, rfl, _, _, hr2⟩ := own_form ho1
  obtain ⟨N, hN⟩ : ∃ N, N = s.length := ⟨_, rfl⟩
  have hNs : N ≤ 557056 := by rw [hN]; exact nm_len HM.out
  have hMI : Hid (MI w.heap.size W2.heap.size w A2 none s [] [] (.slice none 0 0) W2) := ⟨World.ownsRow_nil _ _ _ _, hr2, rd_nil _ _ _, hb1, Nat.le_refl _⟩
  have HHE := Lib.hid hb1.size
  rw [← hN]
  have HN := Lib.hid hN
  clear ho1 hb1 hr2 hN HC
  go_wp2_with fail
  go_loopw [4, 5, 6] (fun ov av iv wr => ∃ (i : Nat) (v : Value) (O : List Rg) (a : Int), i ≤ N ∧ iv = .int .i64 i ∧ ov = v ∧ av = .int .i32 a ∧ (0 ≤ a ∧ a ≤ 1114112) ∧ Hid (O ++ gp a (s.drop i) = gp 0 s) ∧ Hid (O.length ≤ i) ∧ Hid (MI w.heap.size W2.heap.size w A2 none s [] O v wr)) (fun _ _ iv _ => N - (intOf iv).toNat)
  case atStart => exact ⟨0, _, [], 0, Nat.zero_le _, rfl, rfl, rfl, by omega, Lib.hid rfl, Lib.hid (Nat.le_refl _), hMI⟩
  case round =>
    obtain ⟨i, v, O, a, hi1, rfl, rfl, rfl, ha, HO, HOL, HI⟩ := hrel
    clear hMI
    by_cases hlt : i < N
    · have hil : i < s.length := by rw [← HN.out]; exact hlt
      obtain ⟨b, o, rfl, hb⟩ := rd_form_rg HI.out.rda (by omega)
      obtain ⟨d1, d2⟩ := rd_rg HI.out.rda hil
      have hbs : b < wr.heap.size := Nat.lt_of_lt_of_le hb HI.out.size
      have hbE := hb
      have HG := Lib.hid (gp_at s i a hil)
      have hv := HM.out.ok _ (List.getElem_mem hil)
      have HRD := Lib.hid (fun (W' : World) (h : Rd W' W2.heap.size (some ⟨b, o, none⟩) (rgs s)) => (rd_rg h hil).2)
      generalize s[i] = x at *
      obtain ⟨x1, x2⟩ := x
      dsimp only at *
      have e1 : IntKind.i32.wrap (x1 - 1) = x1 - 1 := IntWalk.i32_in _ (by omega)
      have e2 : IntKind.i32.wrap (x2 + 1) = x2 + 1 := IntWalk.i32_in _ (by omega)
      clear hil
      by_cases hgt : a < x1
      · have dgt : decide (a < x1) = true := decide_eq_true hgt
        have HO2 := Lib.hid (show (O ++ [(a, x1 - 1)]) ++ gp (x2 + 1) (s.drop (i + 1)) = gp 0 s by rw [← HO.out, HG.out, if_pos hgt, List.append_assoc])
        clear HG HO hgt
        go_wp2_with (at_builtin; refine wpList_append_rd _ rfl (.tmp 22) (.tmp 31) _ rfl W2.heap.size 26 i0 _ 2 8 Try.underlying22 hi hz0 hz1 hz2 rfl (by decide) u4 O.length (rgs O) rfl (HI.out.own.alloc _) _ (some ⟨wr.heap.size, 0, none⟩) 1 1 (rgs [(a, x1 - 1)]) rfl rfl (rd_new _ _ (rgs [(a, x1 - 1)]) _ (by simp)) (rgs_one _) (by have := HOL.out; unfold maxLen; omega) (by have := HOL.out; omega) (by have := HI.out.size; simp; omega) ?_; intro v6 w6 hown6 hgr6 _; have HN6 := Lib.hid (HI.out.next (R' := O ++ [(a, x1 - 1)]) ((grownBy_alloc wr _ _).trans hgr6) (by rw [rgs_append, List.length_append]; exact hown6) HHE.out); have d6 := HRD.out _ HN6.out.rda; clear hown6 hgr6)
        go_roundw
        case rel => exact ⟨i + 1, _, O ++ [(a, x1 - 1)], x2 + 1, by omega, by go_num, rfl, rfl, by omega, HO2, Lib.hid (by have := HOL.out; rw [List.length_append]; simp; omega), HN6⟩
        case measure => simp [intOf]; omega
      · have dgt : decide (a < x1) = false := decide_eq_false hgt
        have HO2 := Lib.hid (show O ++ gp (x2 + 1) (s.drop (i + 1)) = gp 0 s by rw [← HO.out, HG.out, if_neg hgt]; rfl)
        clear HG HO hgt
        go_wp2_with fail
        go_roundw
        case rel => exact ⟨i + 1, _, O, x2 + 1, by omega, by go_num, rfl, rfl, by omega, HO2, Lib.hid (by have := HOL.out; omega), HI⟩
        case measure => simp [intOf]; omega
    · have HO3 := Lib.hid (show O ++ (if a ≤ 1114111 then [(a, 1114111)] else []) = compl l by
        have h := HO.out
        rw [List.drop_of_length_le (by rw [← HN.out]; omega), gp_end] at h
        rw [h, HE.out])
      by_cases hle : a ≤ 1114111
      · have dle : decide (a ≤ 1114111) = true := decide_eq_true hle
        have HO4 := Lib.hid (show O ++ [(a, 1114111)] = compl l by rw [← HO3.out, if_pos hle])
        clear HO3 HO hle
        go_wp2_with (at_builtin; refine wpList_append_rd _ rfl (.tmp 41) (.tmp 44) _ rfl W2.heap.size 26 i0 _ 2 8 Try.underlying22 hi hz0 hz1 hz2 rfl (by decide) u4 O.length (rgs O) rfl (HI.out.own.alloc _) _ (some ⟨wr.heap.size, 0, none⟩) 1 1 (rgs [(a, 1114111)]) rfl rfl (rd_new _ _ (rgs [(a, 1114111)]) _ (by simp)) (rgs_one _) (by have := HOL.out; unfold maxLen; omega) (by have := HOL.out; omega) (by have := HI.out.size; simp; omega) ?_; intro v6 w6 hown6 hgr6 _; have HN6 := Lib.hid (HI.out.next (R' := O ++ [(a, 1114111)]) ((grownBy_alloc wr _ _).trans hgr6) (by rw [rgs_append, List.length_append]; exact hown6) HHE.out); clear hown6 hgr6)
        have HR : Hid (w6.ownsRow w.heap.size 26 2 v6 (compl l).length (rgs (compl l)) ∧ Below w.heap.size w w6) := by
          have h := HN6.out.own
          rw [HO4.out] at h
          exact ⟨own_mono h HHE.out, HN6.out.bel⟩
        go_ret
        exact ⟨_, rfl, HR.out.1, HR.out.2⟩
      · have dle : decide (a ≤ 1114111) = false := decide_eq_false hle
        have HO4 := Lib.hid (show O = compl l by rw [← HO3.out, if_neg hle, List.append_nil])
        have HR : Hid (wr.ownsRow w.heap.size 26 2 u4 (compl l).length (rgs (compl l)) ∧ Below w.heap.size w wr) := by
          have h := HI.out.own
          rw [HO4.out] at h
          exact ⟨own_mono h HHE.out, HI.out.bel⟩
        clear HO3 HO hle
        go_wp2_with fail
        go_ret
        exact ⟨_, rfl, HR.out.1, HR.out.2⟩

theorem norm_append (a b : List Rg) : norm (a ++ b) = uni a b := nl_congr fun x _ => has_append a b x
set_option maxHeartbeats 4000000 in
theorem runi_any (A B : Option Addr) (a b : List Rg) (n m c d : Nat) (w : World) (ha : Rd w w.heap.size A (rgs a)) (hb : Rd w w.heap.size B (rgs b)) (hn : a.length = n) (hm : b.length = m) (hsm : n + m ≤ 1073741824) :
    Calls Try.prog 18 #[.slice A n c, .slice B m d] w (Own w (uni a b)) := by
  obtain ⟨i0, hi, hz0, hz1, hz2⟩ := info_parts infoRg
  have hMI : Hid (MI w.heap.size w.heap.size w A B a b (a.take 0) (.slice none 0 0) w) := ⟨World.ownsRow_nil _ _ _ _, ha, hb, Below.refl _ _, Nat.le_refl _⟩
  have HN := Lib.hid hn; have HM := Lib.hid hm
  have HNA := Lib.hid (norm_append a b)
  clear ha hb hn hm
  go_enter Try.func18, Try.ntmps18
  go_wp2_with fail
  go_loopw [5, 6] (fun lv iv wr => ∃ (i : Nat) (v : Value), i ≤ n ∧ iv = .int .i64 i ∧ lv = v ∧ Hid (MI w.heap.size w.heap.size w A B a b (a.take i) v wr)) (fun _ iv _ => n - (intOf iv).toNat)
  case atStart => exact ⟨0, _, Nat.zero_le _, rfl, rfl, hMI⟩
  case round =>
    obtain ⟨i, v, hi1, rfl, rfl, HI⟩ := hrel
    clear hMI
    by_cases hlt : i < n
    · have hil : i < a.length := by rw [HN.out]; exact hlt
      obtain ⟨xb, xo, rfl, hb⟩ := rd_form_rg HI.out.rda (by omega)
      obtain ⟨d1, d2⟩ := rd_rg HI.out.rda hil
      have hbs : xb < wr.heap.size := Nat.lt_of_lt_of_le hb HI.out.size
      have HT := Lib.hid (List.take_succ_eq_append_getElem hil)
      have HLT := Lib.hid (show (a.take i).length = i by rw [List.length_take]; omega)
      generalize a[i] = x at *
      obtain ⟨x1, x2⟩ := x
      dsimp only at *
      clear hil
      go_wp2_with (at_builtin; refine wpList_append_rd _ rfl (.tmp 14) (.tmp 19) _ rfl w.heap.size 26 i0 _ 2 8 Try.underlying22 hi hz0 hz1 hz2 rfl (by decide) u5 (a.take i).length (rgs (a.take i)) rfl (HI.out.own.alloc _) _ (some ⟨wr.heap.size, 0, none⟩) 1 1 (rgs [(x1, x2)]) rfl rfl (rd_new _ _ (rgs [(x1, x2)]) _ (by simp)) (rgs_one _) (by rw [HLT.out]; unfold maxLen; omega) (by rw [HLT.out]; omega) (by have := HI.out.size; simp; omega) ?_; intro v6 w6 hown6 hgr6 _; have HN6 := Lib.hid (HI.out.next (R' := a.take (i + 1)) ((grownBy_alloc wr _ _).trans hgr6) (by rw [HT.out, rgs_append, List.length_append]; exact hown6) (Nat.le_refl _)); clear hown6 hgr6)
      go_roundw
      case rel => exact ⟨i + 1, _, by omega, by go_num, rfl, HN6⟩
      case measure => simp [intOf]; omega
    · have hMI2 : Hid (MI w.heap.size w.heap.size w A B a b (a ++ b.take 0) u5 wr) := by
        have h := HI.out
        rw [List.take_of_length_le (by rw [HN.out]; omega)] at h
        rw [List.take_zero, List.append_nil]; exact h
      clear HI
      go_wp2_with fail
      go_loopw [5, 7] (fun lv iv wr => ∃ (j : Nat) (v : Value), j ≤ m ∧ iv = .int .i64 j ∧ lv = v ∧ Hid (MI w.heap.size w.heap.size w A B a b (a ++ b.take j) v wr)) (fun _ iv _ => m - (intOf iv).toNat)
      case atStart => exact ⟨0, _, Nat.zero_le _, rfl, rfl, hMI2⟩
      case round =>
        obtain ⟨j, v, hj1, rfl, rfl, HI⟩ := hrel
        clear hMI2
        by_cases hlt2 : j < m
        · have hjl : j < b.length := by rw [HM.out]; exact hlt2
          obtain ⟨xb, xo, rfl, hb⟩ := rd_form_rg HI.out.rdb (by omega)
          obtain ⟨d1, d2⟩ := rd_rg HI.out.rdb hjl
          have hbs : xb < wr.heap.size := Nat.lt_of_lt_of_le hb HI.out.size
          have HT := Lib.hid (show a ++ b.take (j + 1) = (a ++ b.take j) ++ [b[j]] by rw [List.take_succ_eq_append_getElem hjl, List.append_assoc])
          have HLT := Lib.hid (show (a ++ b.take j).length = n + j by rw [List.length_append, List.length_take, HN.out]; omega)
          generalize b[j] = x at *
          obtain ⟨x1, x2⟩ := x
          dsimp only at *
          clear hjl
          go_wp2_with (at_builtin; refine wpList_append_rd _ rfl (.tmp 27) (.tmp 32) _ rfl w.heap.size 26 i0 _ 2 8 Try.underlying22 hi hz0 hz1 hz2 rfl (by decide) u5 (a ++ b.take j).length (rgs (a ++ b.take j)) rfl (HI.out.own.alloc _) _ (some ⟨wr.heap.size, 0, none⟩) 1 1 (rgs [(x1, x2)]) rfl rfl (rd_new _ _ (rgs [(x1, x2)]) _ (by simp)) (rgs_one _) (by rw [HLT.out]; unfold maxLen; omega) (by rw [HLT.out]; omega) (by have := HI.out.size; simp; omega) ?_; intro v6 w6 hown6 hgr6 _; have HN6 := Lib.hid (HI.out.next (R' := a ++ b.take (j + 1)) ((grownBy_alloc wr _ _).trans hgr6) (by rw [HT.out, rgs_append, List.length_append]; exact hown6) (Nat.le_refl _)); clear hown6 hgr6)
          go_roundw
          case rel => exact ⟨j + 1, _, by omega, by go_num, rfl, HN6⟩
          case measure => simp [intOf]; omega
        · have hMI3 : Hid (MI w.heap.size w.heap.size w A B a b (a ++ b) u5 wr) := by
            have h := HI.out
            rw [List.take_of_length_le (by rw [HM.out]; omega)] at h
            exact h
          clear HI
          have HLT := Lib.hid (show (a ++ b).length ≤ 1073741824 by rw [List.length_append, HN.out, HM.out]; omega)
          obtain ⟨A3, c3, hv3, _, _, hr3⟩ := own_form hMI3.out.own
          obtain ⟨q, hq⟩ : ∃ q, q = (a ++ b).length := ⟨_, rfl⟩
          rw [← hq] at hv3 HLT
          subst hv3
          have HC := Lib.hid (rnorm_any A3 (a ++ b) q c3 wr hr3 hq.symm HLT.out)
          rw [HNA.out] at HC
          clear hq
          have HBW := Lib.hid hMI3.out.bel
          clear hr3 hMI3
          go_wp2_with fail
          refine HC.out.mono ?_
          rintro e w1 ⟨v, rfl, ho, hb⟩
          have HR : Hid (w1.ownsRow w.heap.size 26 2 v (uni a b).length (rgs (uni a b)) ∧ Below w.heap.size w w1) := ⟨own_mono ho HBW.out.size, HBW.out.trans (hb.mono HBW.out.size)⟩
          clear ho hb
          go_wp2_with fail
          go_ret
          exact ⟨_, rfl, HR.out.1, HR.out.2⟩

theorem meet_not (a b : List Rg) : compl (uni (compl a) (compl b)) = meet a b := nl_congr fun x hx => by
  rw [uni_has, compl_has, compl_has, hx]; simp
theorem minus_not (a b : List Rg) : meet a (compl b) = minus a b := nl_congr fun x hx => by
  rw [compl_has, hx]; simp
set_option maxHeartbeats 1000000 in
theorem rmeet_any (A B : Option Addr) (a b : List Rg) (n m c d : Nat) (w : World) (ha : Rd w w.heap.size A (rgs a)) (hb : Rd w w.heap.size B (rgs b)) (hn : a.length = n) (hm : b.length = m) (hn1 : n ≤ 1073741824) (hm1 : m ≤ 1073741824) :
    Calls Try.prog 20 #[.slice A n c, .slice B m d] w (Own w (meet a b)) := by
  have HC := Lib.hid (rnot_any A a n c w ha hn hn1)
  have HB := Lib.hid hb; have HM := Lib.hid hm
  have HE := Lib.hid (meet_not a b)
  have L1 := Lib.hid (nm_len (nl_nm fun x => !has a x))
  have L2 := Lib.hid (nm_len (nl_nm fun x => !has b x))
  have L3 := Lib.hid (nm_len (nl_nm fun x => has (compl a) x || has (compl b) x))
  change Hid ((compl a).length ≤ 557056) at L1
  change Hid ((compl b).length ≤ 557056) at L2
  change Hid ((uni (compl a) (compl b)).length ≤ 557056) at L3
  clear ha hb hn hm hn1
  go_enter Try.func20, Try.ntmps20
  go_wp2_with fail
  refine HC.out.mono ?_
  rintro e w1 ⟨v, rfl, ho, hb⟩
  obtain ⟨A1, c1, rfl, _, _, hr1⟩ := own_form ho
  have HR1 := Lib.hid hr1
  have HB1 := Lib.hid hb
  have HC2 := Lib.hid (rnot_any B b m d w1 ((HB.out.below hb).more hb.size) HM.out hm1)
  clear ho hb hr1 HC
  go_wp2_with fail
  refine HC2.out.mono ?_
  rintro e w2 ⟨v, rfl, ho, hb⟩
  obtain ⟨A2, c2, rfl, _, _, hr2⟩ := own_form ho
  have HB2 := Lib.hid (HB1.out.trans (hb.mono HB1.out.size))
  have HC3 := Lib.hid (runi_any A1 A2 (compl a) (compl b) _ _ c1 c2 w2 ((HR1.out.below hb).more hb.size) hr2 rfl rfl (by have := L1.out; have := L2.out; omega))
  clear ho hb hr2 HC2
  go_wp2_with fail
  refine HC3.out.mono ?_
  rintro e w3 ⟨v, rfl, ho, hb⟩
  obtain ⟨A3, c3, rfl, _, _, hr3⟩ := own_form ho
  have HB3 := Lib.hid (HB2.out.trans (hb.mono HB2.out.size))
  have HC4 := Lib.hid (rnot_any A3 (uni (compl a) (compl b)) _ c3 w3 hr3 rfl (by have := L3.out; omega))
  rw [HE.out] at HC4
  clear ho hb hr3 HC3
  go_wp2_with fail
  refine HC4.out.mono ?_
  rintro e w4 ⟨v, rfl, ho, hb⟩
  have HR : Hid (w4.ownsRow w.heap.size 26 2 v (meet a b).length (rgs (meet a b)) ∧ Below w.heap.size w w4) := ⟨own_mono ho HB3.out.size, HB3.out.trans (hb.mono HB3.out.size)⟩
  clear ho hb HC4
  go_wp2_with fail
  go_ret
  exact ⟨_, rfl, HR.out.1, HR.out.2⟩
set_option maxHeartbeats 1000000 in
theorem rminus_any (A B : Option Addr) (a b : List Rg) (n m c d : Nat) (w : World) (ha : Rd w w.heap.size A (rgs a)) (hb : Rd w w.heap.size B (rgs b)) (hn : a.length = n) (hm : b.length = m) (hn1 : n ≤ 1073741824) (hm1 : m ≤ 1073741824) :
    Calls Try.prog 22 #[.slice A n c, .slice B m d] w (Own w (minus a b)) := by
  have HC := Lib.hid (rnot_any B b m d w hb hm hm1)
  have HA := Lib.hid ha; have HN := Lib.hid hn
  have HE := Lib.hid (minus_not a b)
  have L2 := Lib.hid (nm_len (nl_nm fun x => !has b x))
  change Hid ((compl b).length ≤ 557056) at L2
  clear ha hb hn hm hm1
  go_enter Try.func22, Try.ntmps22
  go_wp2_with fail
  refine HC.out.mono ?_
  rintro e w1 ⟨v, rfl, ho, hb⟩
  obtain ⟨A1, c1, rfl, _, _, hr1⟩ := own_form ho
  have HB1 := Lib.hid hb
  have HC2 := Lib.hid (rmeet_any A A1 a (compl b) n _ c c1 w1 ((HA.out.below hb).more hb.size) hr1 HN.out rfl hn1 (by have := L2.out; omega))
  rw [HE.out] at HC2
  clear ho hb hr1 HC
  go_wp2_with fail
  refine HC2.out.mono ?_
  rintro e w2 ⟨v, rfl, ho, hb⟩
  have HR : Hid (w2.ownsRow w.heap.size 26 2 v (minus a b).length (rgs (minus a b)) ∧ Below w.heap.size w w2) := ⟨own_mono ho HB1.out.size, HB1.out.trans (hb.mono HB1.out.size)⟩
  clear ho hb HC2
  go_wp2_with fail
  go_ret
  exact ⟨_, rfl, HR.out.1, HR.out.2⟩
end Go.Proofs.Ytldcjeljdmjneaa.Rset
