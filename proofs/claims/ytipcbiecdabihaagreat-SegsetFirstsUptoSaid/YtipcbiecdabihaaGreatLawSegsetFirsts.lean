/-
  Whatever ranges and texts there are: whether a set of first code points has a text hangs on its first code point alone; a set of ones has none of more. Conditions: the arguments hold together at most 1048576 values.
-/
import Derived.Test.YtipcbiecdabihaaGreatSsetFixed
import Derived.Test.YtipcbiecdabihaaGreatSsetOpen
import Derived.Test.YtipcbiecdabihaaGreatUtfMath3
namespace Go.Proofs.YtipcbiecdabihaaGreat.LawSegsetFirsts
open Go.ChangeShapes Go.WideShapes Go.ChangeAt Go.RowKit
open Utf (Rd Blk nums nums_len wpList_append_rd own_ne)
open Rset Sset
set_option maxRecDepth 100000

theorem nn_has (l : List Rg) (x : Tx) : hasS (not2 (firstS l)) x = (!hasS (firstS l) x && !decide (x = [])) := by
  by_cases h : x = []
  · subst h; rfl
  · have hr := (fst_ok h).2.2
    rw [decide_eq_false h, has_key _ x h, has_key _ x h]
    have h1 : isIn (not2 (firstS l)).o x = false := by rw [not2_o]; rfl
    have h2 : isIn (firstS l).o x = false := rfl
    rw [h1, h2, not2_m, not2_s, hr]
    have e1 : has (firstS l).m (fst x) = has l (fst x) := norm_has _ _
    have e2 : has (firstS l).s (fst x) = has l (fst x) := norm_has _ _
    rw [e1, e2]
    cases two x <;> cases has l (fst x) <;> rfl
theorem f_has (l : List Rg) (x : Tx) : hasS (firstS l) x = (!decide (x = []) && has l (fst x)) := by
  by_cases h : x = []
  · subst h; rfl
  · rw [decide_eq_false h, has_key _ x h]
    have h2 : isIn (firstS l).o x = false := rfl
    have e1 : has (firstS l).m (fst x) = has l (fst x) := norm_has _ _
    have e2 : has (firstS l).s (fst x) = has l (fst x) := norm_has _ _
    rw [h2, e1, e2]
    cases two x <;> cases has l (fst x) <;> rfl
theorem o_has (l : List Rg) (x : Tx) : hasS (onesS l) x = (!decide (x = []) && !two x && has l (fst x)) := by
  by_cases h : x = []
  · subst h; rfl
  · rw [decide_eq_false h, has_key _ x h]
    have h2 : isIn (onesS l).o x = false := rfl
    have e1 : has (onesS l).m (fst x) = false := has_nil _
    have e2 : has (onesS l).s (fst x) = has l (fst x) := norm_has _ _
    rw [h2, e1, e2]
    cases two x <;> cases has l (fst x) <;> rfl
/-- the first code point written out: one code point, the same -/
theorem one_back (x : Tx) (h : x ≠ []) : (Utf.enc [fst x]) ≠ [] ∧ two (Utf.enc [fst x]) = false ∧ fst (Utf.enc [fst x]) = fst x := by
  have hp := Utf.rune_pt h
  have e : Utf.enc [fst x] = Utf.encN (Utf.rune x) := by
    show Utf.encN (Utf.fix (Utf.rune x)) ++ [] = _
    rw [List.append_nil, (Utf.vld_pt hp).2]
  rw [e]
  obtain ⟨h1, h2, h3, h4⟩ := Utf.piece_enc hp []
  rw [List.append_nil] at h1 h2
  refine ⟨fun e => h4 (by rw [e]; rfl), ?_, ?_⟩
  · unfold two; rw [h1, decide_eq_false_iff_not]; omega
  · show ((Utf.rune (Utf.encN (Utf.rune x)) : Nat) : Int) = ((Utf.rune x : Nat) : Int)
    generalize Utf.rune x = q at h1 h2 h3
    unfold Utf.rune
    rw [if_pos (by rw [h1, h2]), h1, List.take_length, h3]
theorem back_has (l : List Rg) (x : Tx) (h : x ≠ []) : hasS (firstS l) (Utf.enc [fst x]) = hasS (firstS l) x := by
  obtain ⟨h1, _, h3⟩ := one_back x h
  rw [f_has, f_has, decide_eq_false h1, decide_eq_false h, h3]
theorem u_fo (l : List Rg) : eqS (uni2 (firstS l) (onesS l)) (firstS l) = true := by
  unfold eqS
  rw [decide_eq_true_eq, normS_id (uni2_nm _ _), normS_id (firstS_nm l)]
  refine st_ext (uni2_nm _ _) (firstS_nm l) (fun x => ?_) (fun x => ?_) (fun t => ?_)
  · rw [uni2_s]; show (has (norm l) x || has (norm l) x) = has (norm l) x; rw [Bool.or_self]
  · rw [uni2_m]; show (has (norm l) x || has [] x) = has (norm l) x; rw [has_nil, Bool.or_false]
  · rw [uni2_o]; show (okT t && (((has (norm l) (fst t) != false) || (has [] (fst t) != false)) != (has (norm l) (fst t) || has [] (fst t)))) = false
    rw [has_nil]; cases has (norm l) (fst t) <;> cases okT t <;> rfl
theorem m_fo (l : List Rg) : eqS (meet2 (firstS l) (onesS l)) (onesS l) = true := by
  unfold eqS
  rw [decide_eq_true_eq, normS_id (meet2_nm _ _), normS_id (onesS_nm l)]
  refine st_ext (meet2_nm _ _) (onesS_nm l) (fun x => ?_) (fun x => ?_) (fun t => ?_)
  · rw [meet2_s]; show (has (norm l) x && has (norm l) x) = has (norm l) x; rw [Bool.and_self]
  · rw [meet2_m]; show (has (norm l) x && has [] x) = has [] x; rw [has_nil, Bool.and_false]
  · rw [meet2_o]; show (okT t && (((has (norm l) (fst t) != false) && (has [] (fst t) != false)) != (has (norm l) (fst t) && has [] (fst t)))) = false
    rw [has_nil]; cases has (norm l) (fst t) <;> cases okT t <;> rfl

set_option maxHeartbeats 16000000 in
theorem walk (A B : Option Addr) (l : List Rg) (T : List Tx) (n m c d : Nat) (w : World) (hA : ArgR w A n l) (hB : ArgT w B m T) :
    Calls Tryz.prog 7 #[.slice A n c, .slice B m d] w (Law w) := by
  have HA := Lib.hid hA; have HT := Lib.hid hB
  have hm30 := hB.sm
  clear hA hB
  go_enter Tryz.func7, Tryz.ntmps7
  go_wp2_with fail
  refine (fixed_any _).mono ?_
  rintro e w0 ⟨rfl, hb0⟩
  have HB := Lib.hid hb0
  clear hb0
  go_wp2_with fail
  refine (r_first _ _ _ _ _ (HA.out.next HB.out)).mono ?_
  rintro e w1 ⟨F1, g1, h1, F2, g2, h2, F3, g3, h3, rfl, MF⟩
  have HB1 := Lib.hid (HB.out.trans (MF.bel.mono HB.out.size))
  have HF := Lib.hid MF.has
  clear MF
  go_wp2_with fail
  refine (r_ones _ _ _ _ _ (HA.out.next HB1.out)).mono ?_
  rintro e w2 ⟨O1, p1, q1, O2, p2, q2, O3, p3, q3, rfl, MO⟩
  have HB2 := Lib.hid (HB1.out.trans (MO.bel.mono HB1.out.size))
  have HF2 := Lib.hid (HF.out.next MO.bel)
  have HO2 := Lib.hid MO.has
  clear MO HF
  go_wp2_with fail
  obtain ⟨W3, hW3⟩ : ∃ W3, W3 = (w2.alloc (.cells #[.slice F1 g1 h1, .slice F2 g2 h2, .slice F3 g3 h3] 25)).alloc (.cells #[.slice O1 p1 q1, .slice O2 p2 q2, .slice O3 p3 q3] 25) := ⟨_, rfl⟩
  obtain ⟨gF, hgF⟩ : ∃ gF, gF = w2.heap.size := ⟨_, rfl⟩
  obtain ⟨gO, hgO⟩ : ∃ gO, gO = w2.heap.size + 1 := ⟨_, rfl⟩
  have XF := Lib.hid (show Bx W3 gF F1 g1 h1 F2 g2 h2 F3 g3 h3 (firstS l) from by rw [hW3, hgF]; exact (Bx.new HF2.out).next (below_new _ _))
  have XO := Lib.hid (show Bx W3 gO O1 p1 q1 O2 p2 q2 O3 p3 q3 (onesS l) from by
    have := Bx.new (c1 := q1) (c2 := q2) (c3 := q3) (HO2.out.next (below_new w2 (.cells #[.slice F1 g1 h1, .slice F2 g2 h2, .slice F3 g3 h3] 25)))
    rw [hW3, hgO]; simpa using this)
  have HB3 := Lib.hid (show Below w.heap.size w W3 from by rw [hW3]; exact (HB2.out.alloc HB2.out.size _).alloc (Nat.le_trans HB2.out.size (by simp)) _)
  have HW3 := Lib.hid hW3; have HGF := Lib.hid hgF; have HGO := Lib.hid hgO
  clear hW3 hgF hgO HF2 HO2 HB2 HB1 HB
  rw [← HW3.out, ← HGO.out, ← HGF.out]
  go_loopw [19] (fun i wr => ∃ k : Nat, k ≤ m ∧ i = .int .i64 k ∧ Hid (Bx wr gF F1 g1 h1 F2 g2 h2 F3 g3 h3 (firstS l)) ∧ Hid (Bx wr gO O1 p1 q1 O2 p2 q2 O3 p3 q3 (onesS l)) ∧ Hid (Below w.heap.size w wr)) (fun i _ => m - (intOf i).toNat)
  case atStart => exact ⟨0, Nat.zero_le _, rfl, XF, XO, HB3⟩
  case round =>
    obtain ⟨k, hk, rfl, XF, XO, HBR⟩ := hrel
    by_cases hlt : k < m
    · have hkl : k < T.length := by rw [HT.out.len]; exact hlt
      have hT2 := HT.out.next HBR.out
      obtain ⟨bt, ot, rfl, _⟩ := rd_form_tx hT2.rd (by omega)
      have c0 := rd_tx hT2.rd hkl
      have hxl := HT.out.short _ (List.getElem_mem hkl)
      obtain ⟨x, hx⟩ : ∃ x, x = T[k] := ⟨_, rfl⟩
      rw [← hx] at c0 hxl
      obtain ⟨X, hX⟩ : ∃ X : ByteArray, X = ⟨x.toArray⟩ := ⟨_, rfl⟩
      have cX : wr.cell? ⟨bt, ot + k, none⟩ = some (.string X) := by rw [c0, hX]
      have HX := Lib.hid (show X.toList = x by rw [hX, mk_toList])
      have HXL := Lib.hid hxl
      obtain ⟨nx, hnx⟩ : ∃ nx, x.length = nx := ⟨_, rfl⟩
      obtain ⟨gx, Cx, W4, hcv, hr4, hb4, _, _⟩ := conv_str wr X x HX.out nx hnx (by omega)
      have HRN := Lib.hid (rrunes_any (some ⟨gx, 0, none⟩) x nx Cx W4 hr4 hnx (by omega))
      have HB4 := Lib.hid hb4
      clear c0 hX hx hkl hT2 hxl hr4 hb4 hnx
      go_wp2_with fail
      refine HRN.out.mono ?_
      rintro e w4 ⟨v4, rfl, o4r, hb5⟩
      obtain ⟨A4, c4, rfl, hc4, _, r4⟩ := own_form o4r
      have hbb := HB4.out.trans (hb5.mono HB4.out.size)
      replace XF := Lib.hid (XF.out.next hbb); replace XO := Lib.hid (XO.out.next hbb)
      replace HBR := Lib.hid (HBR.out.trans (hbb.mono HBR.out.size))
      clear o4r hb5 hbb HB4 HRN hcv cX
      by_cases hne : x = []
      · subst hne
        have E1 := Lib.hid (show hasS (firstS l) [] = false from rfl)
        have E2 := Lib.hid (show hasS (onesS l) [] = false from rfl)
        have E3 := Lib.hid (show hasS (not2 (firstS l)) [] = false from rfl)
        rw [show (rns []).length = 0 from rfl]
        clear r4 hc4
        go_wp2_with fail
        refine wp_region_held_drew (S := fun _ => True) (by kernel_rfl) trivial (fun hHeld => ?_)
        have HQ0 := Lib.hid (show Below w4.heap.size w4 w4.drew from (Below.refl _ _).drew)
        refine wpAnyH_take (i := 0) (oi := _) (v := ?_) rfl (by kernel_rfl) (by kernel_rfl) (by kernel_rfl) (fun _ _ _ h => h) (Or.inl ⟨by rfl, ?_⟩) (by assumption) ?_
        rotate_left
        · (intro w hSw; (try dsimp only at hSw); go_simp <;> with_reducible rfl)
        simp only [List.getElem_toArray, List.getElem_cons_zero, Act.put, List.setIfInBounds_toArray, List.set_cons_zero, List.set_cons_succ]
        refine wpAnyH_take (i := 1) (oi := _) (v := ?_) rfl (by kernel_rfl) (by kernel_rfl) (by kernel_rfl) (fun _ _ _ h => h) (Or.inl ⟨by rfl, ?_⟩) (by assumption) ?_
        rotate_left
        · (intro w hSw; (try dsimp only at hSw); go_simp <;> with_reducible rfl)
        simp only [List.getElem_toArray, List.getElem_cons_succ, List.getElem_cons_zero, Act.put, List.setIfInBounds_toArray, List.set_cons_zero, List.set_cons_succ]
        refine wpAnyH_take (i := 2) (oi := _) (v := ?_) rfl (by kernel_rfl) (by kernel_rfl) (by kernel_rfl) (fun _ _ _ h => h) (Or.inl ⟨by rfl, ?_⟩) (by assumption) ?_
        rotate_left
        · (intro w hSw; (try dsimp only at hSw); go_simp <;> with_reducible rfl)
        simp only [List.getElem_toArray, List.getElem_cons_succ, List.getElem_cons_zero, Act.put, List.setIfInBounds_toArray, List.set_cons_zero, List.set_cons_succ]
        refine wpAnyH_take (i := 3) (oi := _) (v := ?_) rfl (by kernel_rfl) (by kernel_rfl) (by kernel_rfl) (fun _ _ _ h => h) (Or.inl ⟨by rfl, ?_⟩) (by assumption) ?_
        rotate_left
        · (intro w hSw; (try dsimp only at hSw); go_simp <;> with_reducible rfl)
        simp only [List.getElem_toArray, List.getElem_cons_succ, List.getElem_cons_zero, Act.put, List.setIfInBounds_toArray, List.set_cons_zero, List.set_cons_succ]
        refine wpAnyH_take (i := 4) (oi := _) (v := undef) rfl (by kernel_rfl) (by kernel_rfl) (by kernel_rfl) (fun _ _ _ h => h) (Or.inr ⟨by rfl, rfl⟩) (by assumption) ?_
        simp only [List.getElem_toArray, List.getElem_cons_succ, List.getElem_cons_zero, Act.put, List.setIfInBounds_toArray, List.set_cons_zero, List.set_cons_succ]
        refine wpAnyH_take (i := 5) (oi := _) (v := undef) rfl (by kernel_rfl) (by kernel_rfl) (by kernel_rfl) (fun _ _ _ h => h) (Or.inr ⟨by rfl, rfl⟩) (by assumption) ?_
        simp only [List.getElem_toArray, List.getElem_cons_succ, List.getElem_cons_zero, Act.put, List.setIfInBounds_toArray, List.set_cons_zero, List.set_cons_succ]
        refine wpAnyH_take (i := 6) (oi := _) (v := undef) rfl (by kernel_rfl) (by kernel_rfl) (by kernel_rfl) (fun _ _ _ h => h) (Or.inr ⟨by rfl, rfl⟩) (by assumption) ?_
        simp only [List.getElem_toArray, List.getElem_cons_succ, List.getElem_cons_zero, Act.put, List.setIfInBounds_toArray, List.set_cons_zero, List.set_cons_succ]
        refine wpAnyH_take (i := 7) (oi := _) (v := undef) rfl (by kernel_rfl) (by kernel_rfl) (by kernel_rfl) (fun _ _ _ h => h) (Or.inr ⟨by rfl, rfl⟩) (by assumption) ?_
        simp only [List.getElem_toArray, List.getElem_cons_succ, List.getElem_cons_zero, Act.put, List.setIfInBounds_toArray, List.set_cons_zero, List.set_cons_succ]
        refine wpAnyH_take (i := 8) (oi := _) (v := undef) rfl (by kernel_rfl) (by kernel_rfl) (by kernel_rfl) (fun _ _ _ h => h) (Or.inr ⟨by rfl, rfl⟩) (by assumption) ?_
        simp only [List.getElem_toArray, List.getElem_cons_succ, List.getElem_cons_zero, Act.put, List.setIfInBounds_toArray, List.set_cons_zero, List.set_cons_succ]
        refine wpAnyH_take (i := 9) (oi := _) (v := undef) rfl (by kernel_rfl) (by kernel_rfl) (by kernel_rfl) (fun _ _ _ h => h) (Or.inr ⟨by rfl, rfl⟩) (by assumption) ?_
        simp only [List.getElem_toArray, List.getElem_cons_succ, List.getElem_cons_zero, Act.put, List.setIfInBounds_toArray, List.set_cons_zero, List.set_cons_succ]
        refine wpAnyH_take (i := 10) (oi := _) (v := undef) rfl (by kernel_rfl) (by kernel_rfl) (by kernel_rfl) (fun _ _ _ h => h) (Or.inr ⟨by rfl, rfl⟩) (by assumption) ?_
        simp only [List.getElem_toArray, List.getElem_cons_succ, List.getElem_cons_zero, Act.put, List.setIfInBounds_toArray, List.set_cons_zero, List.set_cons_succ]
        refine wpAnyH_take (i := 11) (oi := _) (v := ?_) rfl (by kernel_rfl) (by kernel_rfl) (by kernel_rfl) (fun _ _ _ h => h) (Or.inl ⟨by rfl, ?_⟩) (by assumption) ?_
        rotate_left
        · (intro w hSw; (try dsimp only at hSw); go_simp <;> with_reducible rfl)
        simp only [List.getElem_toArray, List.getElem_cons_succ, List.getElem_cons_zero, Act.put, List.setIfInBounds_toArray, List.set_cons_zero, List.set_cons_succ]
        refine wpAnyH_take (i := 12) (oi := _) (v := ?_) rfl (by kernel_rfl) (by kernel_rfl) (by kernel_rfl) (fun _ _ _ h => h) (Or.inl ⟨by rfl, ?_⟩) (by assumption) ?_
        rotate_left
        · (intro w hSw; (try dsimp only at hSw); go_simp <;> with_reducible rfl)
        simp only [List.getElem_toArray, List.getElem_cons_succ, List.getElem_cons_zero, Act.put, List.setIfInBounds_toArray, List.set_cons_zero, List.set_cons_succ]
        refine wpAnyH_done (by kernel_rfl) ?_ _
        replace XF := Lib.hid (XF.out.next HQ0.out)
        replace XO := Lib.hid (XO.out.next HQ0.out)
        have HBW := Lib.hid (HBR.out.trans (HQ0.out.mono HBR.out.size))
        have l0 := XF.out.blk.c0; have l1 := XF.out.blk.c1; have l2 := XF.out.blk.c2
        go_wp2_with fail
        refine (r_has _ _ _ XF.out.has X _ HX.out HXL.out E1.out).mono ?_
        rintro e wa ⟨rfl, hb⟩
        clear l0 l1 l2
        replace XF := Lib.hid (XF.out.next hb); replace XO := Lib.hid (XO.out.next hb)
        replace HBW := Lib.hid (HBW.out.trans (hb.mono HBW.out.size))
        have l0 := XO.out.blk.c0; have l1 := XO.out.blk.c1; have l2 := XO.out.blk.c2
        clear hb
        go_wp2_with fail
        refine (r_has _ _ _ XO.out.has X _ HX.out HXL.out E2.out).mono ?_
        rintro e wb ⟨rfl, hb⟩
        clear l0 l1 l2
        replace XF := Lib.hid (XF.out.next hb); replace XO := Lib.hid (XO.out.next hb)
        replace HBW := Lib.hid (HBW.out.trans (hb.mono HBW.out.size))
        have l0 := XF.out.blk.c0; have l1 := XF.out.blk.c1; have l2 := XF.out.blk.c2
        clear hb
        go_wp2_with fail
        refine (r_not2 _ _ _ XF.out.has).mono ?_
        rintro e wc ⟨R1, s1, t1, R2, s2, t2, R3, s3, t3, rfl, MC⟩
        clear l0 l1 l2
        have HN := Lib.hid MC.has
        replace XF := Lib.hid (XF.out.next MC.bel); replace XO := Lib.hid (XO.out.next MC.bel)
        replace HBW := Lib.hid (HBW.out.trans (MC.bel.mono HBW.out.size))
        clear MC
        go_wp2_with fail
        refine (r_has _ _ _ HN.out X _ HX.out HXL.out E3.out).mono ?_
        rintro e wd ⟨rfl, hb⟩
        replace XF := Lib.hid (XF.out.next hb); replace XO := Lib.hid (XO.out.next hb)
        replace HBW := Lib.hid (HBW.out.trans (hb.mono HBW.out.size))
        clear hb
        go_wp2_with fail
        go_roundw
        case rel => exact ⟨k + 1, by omega, by go_num, XF, XO, HBW⟩
        case measure => simp [intOf]; omega
      · obtain ⟨b4, o4, rfl, hb4⟩ := r4.form (by rw [nums_len]; unfold rns; rw [pnts_cons hne]; simp)
        have HA4 := Lib.hid (HA.out.next HBR.out)
        have HRD := Lib.hid (show ∀ u, Below w4.heap.size w4 u → Rd u u.heap.size (some ⟨b4, o4, none⟩) (Utf.nums [fst x]) from fun u hu => by
          have h := ((r4.below hu).more hu.size).take_ 1
          have e : (Utf.nums (rns x)).take 1 = Utf.nums [fst x] := by unfold rns; rw [pnts_cons hne]; rfl
          rw [e] at h; exact h)
        have HLE := Lib.hid (show (Utf.enc [fst x]).length ≤ 1073741824 from by
          have h1 := (one_back x hne).1
          have e : Utf.enc [fst x] = Utf.encN (Utf.rune x) := by
            show Utf.encN (Utf.fix (Utf.rune x)) ++ [] = _
            rw [List.append_nil, (Utf.vld_pt (Utf.rune_pt hne)).2]
          rw [e]; unfold Utf.encN; repeat' split
          all_goals simp)
        obtain ⟨ib, hib⟩ : ∃ ib, hasS (firstS l) x = ib := ⟨_, rfl⟩
        have HIN := Lib.hid (show hasS (firstS l) (Utf.enc [fst x]) = ib from (back_has l x hne).trans hib)
        have E1 := Lib.hid hib
        have E2 := Lib.hid (show hasS (onesS l) x = (ib && !two x) from by rw [← hib, f_has, o_has]; cases decide (x = []) <;> cases two x <;> cases has l (fst x) <;> rfl)
        have E3 := Lib.hid (show hasS (not2 (firstS l)) x = !ib from by rw [nn_has, hib, decide_eq_false hne]; cases ib <;> rfl)
        have hlen : two x = decide (2 ≤ (rns x).length) := by unfold rns; rw [List.length_map, two_len x hne]
        have hl0 : 1 ≤ (rns x).length := by unfold rns; rw [pnts_cons hne]; simp
        generalize (rns x).length = q at *
        have hq1 : 0 < q := by omega
        have hq2 : (0 : Int) < (q : Int) := by omega
        have hsl : ∀ u : World, (Instr.slice 44 (.slice (some ⟨b4, o4, none⟩) q c4) none (some (.int .i64 1)) none).run Tryz.prog u = .ok (.slice (some ⟨b4, o4, none⟩) 1 c4) u := fun u => by
          have he : Tryz.prog.elem 44 = 21 := by simp [Program.elem, Tryz.underlying44]
          have hadd : (⟨b4, o4, none⟩ : Addr).add 0 = ⟨b4, o4, none⟩ := by unfold Addr.add; split <;> simp_all
          rw [run_slice_h u 44 (some ⟨b4, o4, none⟩) q c4 (by rw [he]; exact Tryz.underlying44) .i64 1 (by omega) (by omega), he, Tryz.sizeOf21]
          simp [Result.andThen, sliced, hadd]
        clear r4 hib hne
        have HNQ := Lib.hid hlen
        clear hlen
        go_wp2_with fail
        refine wp_region_held_drew (S := fun _ => True) (by kernel_rfl) trivial (fun hHeld => ?_)
        have HQ0 := Lib.hid (show Below w4.heap.size w4 w4.drew from (Below.refl _ _).drew)
        refine wpAnyH_take (i := 0) (oi := _) (v := ?_) rfl (by kernel_rfl) (by kernel_rfl) (by kernel_rfl) (fun _ _ _ h => h) (Or.inl ⟨by rfl, ?_⟩) (by assumption) ?_
        rotate_left
        · (intro w hSw; (try dsimp only at hSw); go_simp <;> with_reducible rfl)
        simp only [List.getElem_toArray, List.getElem_cons_zero, Act.put, List.setIfInBounds_toArray, List.set_cons_zero, List.set_cons_succ]
        refine wpAnyH_take (i := 1) (oi := _) (v := ?_) rfl (by kernel_rfl) (by kernel_rfl) (by kernel_rfl) (fun _ _ _ h => h) (Or.inl ⟨by rfl, ?_⟩) (by assumption) ?_
        rotate_left
        · (intro w hSw; (try dsimp only at hSw); go_simp <;> with_reducible rfl)
        simp only [List.getElem_toArray, List.getElem_cons_succ, List.getElem_cons_zero, Act.put, List.setIfInBounds_toArray, List.set_cons_zero, List.set_cons_succ]
        refine wpAnyH_take (i := 2) (oi := _) (v := ?_) rfl (by kernel_rfl) (by kernel_rfl) (by kernel_rfl) (fun _ _ _ h => h) (Or.inl ⟨by rfl, ?_⟩) (by assumption) ?_
        rotate_left
        · (intro w hSw; (try dsimp only at hSw); go_simp <;> with_reducible rfl)
        simp only [List.getElem_toArray, List.getElem_cons_succ, List.getElem_cons_zero, Act.put, List.setIfInBounds_toArray, List.set_cons_zero, List.set_cons_succ]
        refine wpAnyH_take (i := 3) (oi := _) (v := ?_) rfl (by kernel_rfl) (by kernel_rfl) (by kernel_rfl) (fun _ _ _ h => h) (Or.inl ⟨by rfl, ?_⟩) (by assumption) ?_
        rotate_left
        · (intro w hSw; (try dsimp only at hSw); go_simp <;> with_reducible rfl)
        simp only [List.getElem_toArray, List.getElem_cons_succ, List.getElem_cons_zero, Act.put, List.setIfInBounds_toArray, List.set_cons_zero, List.set_cons_succ]
        refine wpAnyH_take (i := 4) (oi := _) (v := ?_) rfl (by kernel_rfl) (by kernel_rfl) (by kernel_rfl) (fun _ _ _ h => h) (Or.inl ⟨by rfl, ?_⟩) (by assumption) ?_
        rotate_left
        · (intro w hSw; (try dsimp only at hSw); go_simp <;> with_reducible rfl)
        simp only [List.getElem_toArray, List.getElem_cons_succ, List.getElem_cons_zero, Act.put, List.setIfInBounds_toArray, List.set_cons_zero, List.set_cons_succ]
        refine wpAnyH_take (i := 6) (oi := _) (v := ?_) rfl (by kernel_rfl) (by kernel_rfl) (by kernel_rfl) (fun _ _ _ h => h) (Or.inl ⟨by rfl, ?_⟩) (by assumption) ?_
        rotate_left
        · (intro w hSw; (try dsimp only at hSw); go_simp <;> with_reducible rfl)
        simp only [List.getElem_toArray, List.getElem_cons_succ, List.getElem_cons_zero, Act.put, List.setIfInBounds_toArray, List.set_cons_zero, List.set_cons_succ]
        refine wpAnyH_take (i := 7) (oi := _) (v := ?_) rfl (by kernel_rfl) (by kernel_rfl) (by kernel_rfl) (fun _ _ _ h => h) (Or.inl ⟨by rfl, ?_⟩) (by assumption) ?_
        rotate_left
        · (intro w hSw; (try dsimp only at hSw); go_simp <;> with_reducible rfl)
        simp only [List.getElem_toArray, List.getElem_cons_succ, List.getElem_cons_zero, Act.put, List.setIfInBounds_toArray, List.set_cons_zero, List.set_cons_succ]
        refine wpAnyH_ready (rs := [5]) (by kernel_rfl) (by simp) (AllReadyH.cons rfl (fun K hK => ?_) AllReadyH.nil)
        go_simp
        refine (r_first _ _ _ _ _ (HA4.out.next HQ0.out)).mono ?_
        rintro e w5 ⟨R1, s1, t1, R2, s2, t2, R3, s3, t3, rfl, M5⟩
        have HQ5 := Lib.hid (HQ0.out.trans (M5.bel.mono HQ0.out.size))
        have HR := Lib.hid M5.has
        clear M5
        refine hK.out _ _ trivial (fun hHeld2 => ?_)
        clear hK K hHeld
        have hHeld := hHeld2
        clear hHeld2
        refine wpAnyH_ready (rs := [8]) (by kernel_rfl) (by simp) (AllReadyH.cons rfl (fun K hK => ?_) AllReadyH.nil)
        go_simp
        refine (Utf.rencode_any (some ⟨b4, o4, none⟩) [fst x] 1 _ w5 (HRD.out w5 HQ5.out) rfl (by omega)).mono ?_
        rintro e w6 ⟨v6, rfl, o6, hb6⟩
        obtain ⟨A6, c6, rfl, _, _, r6⟩ := own_form o6
        have hcv := conv_rd (c := c6) r6 rfl
        have HQ6 := Lib.hid (HQ5.out.trans (hb6.mono HQ5.out.size))
        replace HR := Lib.hid (HR.out.next hb6)
        obtain ⟨Y, hY⟩ : ∃ Y : ByteArray, Y = ⟨(Utf.enc [fst x]).toArray⟩ := ⟨_, rfl⟩
        rw [← hY] at hcv
        have HY := Lib.hid (show Y.toList = Utf.enc [fst x] by rw [hY, mk_toList])
        generalize (Utf.enc [fst x]).length = le at hcv ⊢
        clear o6 hb6 r6 hY
        refine hK.out _ _ trivial (fun hHeld2 => ?_)
        clear hK K hHeld
        have hHeld := hHeld2
        clear hHeld2
        refine wpAnyH_ready (rs := [9]) (by kernel_rfl) (by simp) (AllReadyH.cons rfl (fun K hK => ?_) AllReadyH.nil)
        go_simp
        clear hcv
        refine hK.out _ _ trivial (fun hHeld2 => ?_)
        clear hK K hHeld
        have hHeld := hHeld2
        clear hHeld2
        refine wpAnyH_ready (rs := [10]) (by kernel_rfl) (by simp) (AllReadyH.cons rfl (fun K hK => ?_) AllReadyH.nil)
        go_simp
        refine (r_has _ _ _ HR.out Y _ HY.out HLE.out HIN.out).mono ?_
        rintro e w7 ⟨rfl, hb7⟩
        have HQ7 := Lib.hid (HQ6.out.trans (hb7.mono HQ6.out.size))
        clear hb7
        refine hK.out _ _ trivial (fun hHeld2 => ?_)
        clear hK K hHeld
        have hHeld := hHeld2
        clear hHeld2
        refine wpAnyH_take (i := 11) (oi := _) (v := ?_) rfl (by kernel_rfl) (by kernel_rfl) (by kernel_rfl) (fun _ _ _ h => h) (Or.inl ⟨by rfl, ?_⟩) (by assumption) ?_
        rotate_left
        · (intro w hSw; (try dsimp only at hSw); go_simp <;> with_reducible rfl)
        simp only [List.getElem_toArray, List.getElem_cons_succ, List.getElem_cons_zero, Act.put, List.setIfInBounds_toArray, List.set_cons_zero, List.set_cons_succ]
        refine wpAnyH_take (i := 12) (oi := _) (v := ?_) rfl (by kernel_rfl) (by kernel_rfl) (by kernel_rfl) (fun _ _ _ h => h) (Or.inl ⟨by rfl, ?_⟩) (by assumption) ?_
        rotate_left
        · (intro w hSw; (try dsimp only at hSw); go_simp <;> with_reducible rfl)
        simp only [List.getElem_toArray, List.getElem_cons_succ, List.getElem_cons_zero, Act.put, List.setIfInBounds_toArray, List.set_cons_zero, List.set_cons_succ]
        refine wpAnyH_done (by kernel_rfl) ?_ _
        have HL3 : ((q : Int) == 1) = !two x := by
          rw [HNQ.out]
          by_cases h : 2 ≤ q
          · rw [decide_eq_true h, Bool.not_true, beq_eq_false_iff_ne]; omega
          · rw [decide_eq_false h, Bool.not_false, beq_iff_eq]; omega
        obtain ⟨tb, ht1, ht2⟩ : ∃ b : Bool, two x = b ∧ ((q : Int) == 1) = !b := ⟨two x, rfl, HL3⟩
        replace E2 := Lib.hid (show hasS (onesS l) x = (ib && !tb) from by rw [← ht1]; exact E2.out)
        clear ht1 HL3
        cases ib with
        | true =>
          cases tb with
          | true =>
            replace XF := Lib.hid (XF.out.next HQ7.out)
            replace XO := Lib.hid (XO.out.next HQ7.out)
            have HBW := Lib.hid (HBR.out.trans (HQ7.out.mono HBR.out.size))
            have l0 := XF.out.blk.c0; have l1 := XF.out.blk.c1; have l2 := XF.out.blk.c2
            go_wp2_with fail
            refine (r_has _ _ _ XF.out.has X _ HX.out HXL.out E1.out).mono ?_
            rintro e wa ⟨rfl, hb⟩
            clear l0 l1 l2
            replace XF := Lib.hid (XF.out.next hb); replace XO := Lib.hid (XO.out.next hb)
            replace HBW := Lib.hid (HBW.out.trans (hb.mono HBW.out.size))
            have l0 := XO.out.blk.c0; have l1 := XO.out.blk.c1; have l2 := XO.out.blk.c2
            clear hb
            go_wp2_with fail
            refine (r_has _ _ _ XO.out.has X _ HX.out HXL.out E2.out).mono ?_
            rintro e wb ⟨rfl, hb⟩
            clear l0 l1 l2
            replace XF := Lib.hid (XF.out.next hb); replace XO := Lib.hid (XO.out.next hb)
            replace HBW := Lib.hid (HBW.out.trans (hb.mono HBW.out.size))
            have l0 := XF.out.blk.c0; have l1 := XF.out.blk.c1; have l2 := XF.out.blk.c2
            clear hb
            go_wp2_with fail
            refine (r_not2 _ _ _ XF.out.has).mono ?_
            rintro e wc ⟨R1, s1, t1, R2, s2, t2, R3, s3, t3, rfl, MC⟩
            clear l0 l1 l2
            have HN := Lib.hid MC.has
            replace XF := Lib.hid (XF.out.next MC.bel); replace XO := Lib.hid (XO.out.next MC.bel)
            replace HBW := Lib.hid (HBW.out.trans (MC.bel.mono HBW.out.size))
            clear MC
            go_wp2_with fail
            refine (r_has _ _ _ HN.out X _ HX.out HXL.out E3.out).mono ?_
            rintro e wd ⟨rfl, hb⟩
            replace XF := Lib.hid (XF.out.next hb); replace XO := Lib.hid (XO.out.next hb)
            replace HBW := Lib.hid (HBW.out.trans (hb.mono HBW.out.size))
            clear hb
            go_wp2_with fail
            go_roundw
            case rel => exact ⟨k + 1, by omega, by go_num, XF, XO, HBW⟩
            case measure => simp [intOf]; omega
          | false =>
            replace XF := Lib.hid (XF.out.next HQ7.out)
            replace XO := Lib.hid (XO.out.next HQ7.out)
            have HBW := Lib.hid (HBR.out.trans (HQ7.out.mono HBR.out.size))
            have l0 := XF.out.blk.c0; have l1 := XF.out.blk.c1; have l2 := XF.out.blk.c2
            go_wp2_with fail
            refine (r_has _ _ _ XF.out.has X _ HX.out HXL.out E1.out).mono ?_
            rintro e wa ⟨rfl, hb⟩
            clear l0 l1 l2
            replace XF := Lib.hid (XF.out.next hb); replace XO := Lib.hid (XO.out.next hb)
            replace HBW := Lib.hid (HBW.out.trans (hb.mono HBW.out.size))
            have l0 := XO.out.blk.c0; have l1 := XO.out.blk.c1; have l2 := XO.out.blk.c2
            clear hb
            go_wp2_with fail
            refine (r_has _ _ _ XO.out.has X _ HX.out HXL.out E2.out).mono ?_
            rintro e wb ⟨rfl, hb⟩
            clear l0 l1 l2
            replace XF := Lib.hid (XF.out.next hb); replace XO := Lib.hid (XO.out.next hb)
            replace HBW := Lib.hid (HBW.out.trans (hb.mono HBW.out.size))
            have l0 := XF.out.blk.c0; have l1 := XF.out.blk.c1; have l2 := XF.out.blk.c2
            clear hb
            go_wp2_with fail
            refine (r_not2 _ _ _ XF.out.has).mono ?_
            rintro e wc ⟨R1, s1, t1, R2, s2, t2, R3, s3, t3, rfl, MC⟩
            clear l0 l1 l2
            have HN := Lib.hid MC.has
            replace XF := Lib.hid (XF.out.next MC.bel); replace XO := Lib.hid (XO.out.next MC.bel)
            replace HBW := Lib.hid (HBW.out.trans (MC.bel.mono HBW.out.size))
            clear MC
            go_wp2_with fail
            refine (r_has _ _ _ HN.out X _ HX.out HXL.out E3.out).mono ?_
            rintro e wd ⟨rfl, hb⟩
            replace XF := Lib.hid (XF.out.next hb); replace XO := Lib.hid (XO.out.next hb)
            replace HBW := Lib.hid (HBW.out.trans (hb.mono HBW.out.size))
            clear hb
            go_wp2_with fail
            go_roundw
            case rel => exact ⟨k + 1, by omega, by go_num, XF, XO, HBW⟩
            case measure => simp [intOf]; omega
        | false =>
          cases tb with
          | true =>
            replace XF := Lib.hid (XF.out.next HQ7.out)
            replace XO := Lib.hid (XO.out.next HQ7.out)
            have HBW := Lib.hid (HBR.out.trans (HQ7.out.mono HBR.out.size))
            have l0 := XF.out.blk.c0; have l1 := XF.out.blk.c1; have l2 := XF.out.blk.c2
            go_wp2_with fail
            refine (r_has _ _ _ XF.out.has X _ HX.out HXL.out E1.out).mono ?_
            rintro e wa ⟨rfl, hb⟩
            clear l0 l1 l2
            replace XF := Lib.hid (XF.out.next hb); replace XO := Lib.hid (XO.out.next hb)
            replace HBW := Lib.hid (HBW.out.trans (hb.mono HBW.out.size))
            have l0 := XO.out.blk.c0; have l1 := XO.out.blk.c1; have l2 := XO.out.blk.c2
            clear hb
            go_wp2_with fail
            refine (r_has _ _ _ XO.out.has X _ HX.out HXL.out E2.out).mono ?_
            rintro e wb ⟨rfl, hb⟩
            clear l0 l1 l2
            replace XF := Lib.hid (XF.out.next hb); replace XO := Lib.hid (XO.out.next hb)
            replace HBW := Lib.hid (HBW.out.trans (hb.mono HBW.out.size))
            have l0 := XF.out.blk.c0; have l1 := XF.out.blk.c1; have l2 := XF.out.blk.c2
            clear hb
            go_wp2_with fail
            refine (r_not2 _ _ _ XF.out.has).mono ?_
            rintro e wc ⟨R1, s1, t1, R2, s2, t2, R3, s3, t3, rfl, MC⟩
            clear l0 l1 l2
            have HN := Lib.hid MC.has
            replace XF := Lib.hid (XF.out.next MC.bel); replace XO := Lib.hid (XO.out.next MC.bel)
            replace HBW := Lib.hid (HBW.out.trans (MC.bel.mono HBW.out.size))
            clear MC
            go_wp2_with fail
            refine (r_has _ _ _ HN.out X _ HX.out HXL.out E3.out).mono ?_
            rintro e wd ⟨rfl, hb⟩
            replace XF := Lib.hid (XF.out.next hb); replace XO := Lib.hid (XO.out.next hb)
            replace HBW := Lib.hid (HBW.out.trans (hb.mono HBW.out.size))
            clear hb
            go_wp2_with fail
            go_roundw
            case rel => exact ⟨k + 1, by omega, by go_num, XF, XO, HBW⟩
            case measure => simp [intOf]; omega
          | false =>
            replace XF := Lib.hid (XF.out.next HQ7.out)
            replace XO := Lib.hid (XO.out.next HQ7.out)
            have HBW := Lib.hid (HBR.out.trans (HQ7.out.mono HBR.out.size))
            have l0 := XF.out.blk.c0; have l1 := XF.out.blk.c1; have l2 := XF.out.blk.c2
            go_wp2_with fail
            refine (r_has _ _ _ XF.out.has X _ HX.out HXL.out E1.out).mono ?_
            rintro e wa ⟨rfl, hb⟩
            clear l0 l1 l2
            replace XF := Lib.hid (XF.out.next hb); replace XO := Lib.hid (XO.out.next hb)
            replace HBW := Lib.hid (HBW.out.trans (hb.mono HBW.out.size))
            have l0 := XO.out.blk.c0; have l1 := XO.out.blk.c1; have l2 := XO.out.blk.c2
            clear hb
            go_wp2_with fail
            refine (r_has _ _ _ XO.out.has X _ HX.out HXL.out E2.out).mono ?_
            rintro e wb ⟨rfl, hb⟩
            clear l0 l1 l2
            replace XF := Lib.hid (XF.out.next hb); replace XO := Lib.hid (XO.out.next hb)
            replace HBW := Lib.hid (HBW.out.trans (hb.mono HBW.out.size))
            have l0 := XF.out.blk.c0; have l1 := XF.out.blk.c1; have l2 := XF.out.blk.c2
            clear hb
            go_wp2_with fail
            refine (r_not2 _ _ _ XF.out.has).mono ?_
            rintro e wc ⟨R1, s1, t1, R2, s2, t2, R3, s3, t3, rfl, MC⟩
            clear l0 l1 l2
            have HN := Lib.hid MC.has
            replace XF := Lib.hid (XF.out.next MC.bel); replace XO := Lib.hid (XO.out.next MC.bel)
            replace HBW := Lib.hid (HBW.out.trans (MC.bel.mono HBW.out.size))
            clear MC
            go_wp2_with fail
            refine (r_has _ _ _ HN.out X _ HX.out HXL.out E3.out).mono ?_
            rintro e wd ⟨rfl, hb⟩
            replace XF := Lib.hid (XF.out.next hb); replace XO := Lib.hid (XO.out.next hb)
            replace HBW := Lib.hid (HBW.out.trans (hb.mono HBW.out.size))
            clear hb
            go_wp2_with fail
            go_roundw
            case rel => exact ⟨k + 1, by omega, by go_num, XF, XO, HBW⟩
            case measure => simp [intOf]; omega
    · have l0 := XF.out.blk.c0; have l1 := XF.out.blk.c1; have l2 := XF.out.blk.c2
      have HSW := Lib.hid (show ∀ u, Below wr.heap.size wr u → u.cell? ⟨gF, 0, none⟩ = some (.slice F1 g1 h1) ∧ u.cell? ⟨gF, 1, none⟩ = some (.slice F2 g2 h2) ∧ u.cell? ⟨gF, 2, none⟩ = some (.slice F3 g3 h3) ∧ u.cell? ⟨gO, 0, none⟩ = some (.slice O1 p1 q1) ∧ u.cell? ⟨gO, 1, none⟩ = some (.slice O2 p2 q2) ∧ u.cell? ⟨gO, 2, none⟩ = some (.slice O3 p3 q3) from fun u hu => ⟨(XF.out.blk.next hu).c0, (XF.out.blk.next hu).c1, (XF.out.blk.next hu).c2, (XO.out.blk.next hu).c0, (XO.out.blk.next hu).c1, (XO.out.blk.next hu).c2⟩)
      have hlF := Lib.hid (show g3 = 0 from XF.out.has.o.len.symm)
      have hlO := Lib.hid (show p3 = 0 from XO.out.has.o.len.symm)
      clear l0 l1 l2
      go_wp2_with fail
      refine wp_region_held_drew (S := fun u => u.cell? ⟨gF, 0, none⟩ = some (.slice F1 g1 h1) ∧ u.cell? ⟨gF, 1, none⟩ = some (.slice F2 g2 h2) ∧ u.cell? ⟨gF, 2, none⟩ = some (.slice F3 g3 h3) ∧ u.cell? ⟨gO, 0, none⟩ = some (.slice O1 p1 q1) ∧ u.cell? ⟨gO, 1, none⟩ = some (.slice O2 p2 q2) ∧ u.cell? ⟨gO, 2, none⟩ = some (.slice O3 p3 q3)) (by kernel_rfl) (HSW.out _ (Below.refl _ _).drew) (fun hHeld => ?_)
      have HQ0 := Lib.hid (show Below wr.heap.size wr wr.drew from (Below.refl _ _).drew)
      refine wpAnyH_take (i := 0) (oi := _) (v := ?_) rfl (by kernel_rfl) (by kernel_rfl) (by kernel_rfl) (fun _ _ _ h => h) (Or.inl ⟨by rfl, ?_⟩) (by assumption) ?_
      rotate_left
      · (intro w hSw; (try dsimp only at hSw); (try obtain ⟨s1_, s2_, s3_, s4_, s5_, s6_⟩ := hSw); go_simp <;> with_reducible rfl)
      simp only [List.getElem_toArray, List.getElem_cons_zero, Act.put, List.setIfInBounds_toArray, List.set_cons_zero, List.set_cons_succ]
      refine wpAnyH_take (i := 1) (oi := _) (v := ?_) rfl (by kernel_rfl) (by kernel_rfl) (by kernel_rfl) (fun _ _ _ h => h) (Or.inl ⟨by rfl, ?_⟩) (by assumption) ?_
      rotate_left
      · (intro w hSw; (try dsimp only at hSw); (try obtain ⟨s1_, s2_, s3_, s4_, s5_, s6_⟩ := hSw); go_simp <;> with_reducible rfl)
      simp only [List.getElem_toArray, List.getElem_cons_succ, List.getElem_cons_zero, Act.put, List.setIfInBounds_toArray, List.set_cons_zero, List.set_cons_succ]
      refine wpAnyH_take (i := 3) (oi := _) (v := ?_) rfl (by kernel_rfl) (by kernel_rfl) (by kernel_rfl) (fun _ _ _ h => h) (Or.inl ⟨by rfl, ?_⟩) (by assumption) ?_
      rotate_left
      · (intro w hSw; (try dsimp only at hSw); (try obtain ⟨s1_, s2_, s3_, s4_, s5_, s6_⟩ := hSw); go_simp <;> with_reducible rfl)
      simp only [List.getElem_toArray, List.getElem_cons_succ, List.getElem_cons_zero, Act.put, List.setIfInBounds_toArray, List.set_cons_zero, List.set_cons_succ]
      refine wpAnyH_ready (rs := [2]) (by kernel_rfl) (by simp) (AllReadyH.cons rfl (fun K hK => ?_) AllReadyH.nil)
      go_simp
      refine (r_union _ _ _ _ _ _ (XF.out.next HQ0.out).has (XO.out.next HQ0.out).has (by have := hlF.out; have := hlO.out; omega)).mono ?_
      rintro e v1 ⟨S1, s1, t1, S2, s2, t2, S3, s3, t3, rfl, M⟩
      have XR := Lib.hid M.has
      have HQ1 := Lib.hid (HQ0.out.trans (M.bel.mono HQ0.out.size))
      clear M
      refine hK.out _ _ (HSW.out _ HQ1.out) (fun hHeld2 => ?_)
      clear hK K hHeld
      have hHeld := hHeld2
      clear hHeld2
      refine wpAnyH_ready (rs := [4]) (by kernel_rfl) (by simp) (AllReadyH.cons rfl (fun K hK => ?_) AllReadyH.nil)
      go_simp
      refine (r_equal _ _ _ _ _ _ XR.out (XF.out.next HQ1.out).has (by have h1 := XR.out.o.len; have h2 := uni2_len (firstS l) (onesS l); have h3 : (firstS l).o.length = 0 := rfl; have h4 : (onesS l).o.length = 0 := rfl; have := hlF.out; omega) (u_fo l)).mono ?_
      rintro e v2 ⟨rfl, hb⟩
      have HQ2 := Lib.hid (HQ1.out.trans (hb.mono HQ1.out.size))
      clear hb XR
      refine hK.out _ _ (HSW.out _ HQ2.out) (fun hHeld2 => ?_)
      clear hK K hHeld
      have hHeld := hHeld2
      clear hHeld2
      refine wpAnyH_take (i := 5) (oi := _) (v := ?_) rfl (by kernel_rfl) (by kernel_rfl) (by kernel_rfl) (fun _ _ _ h => h) (Or.inl ⟨by rfl, ?_⟩) (by assumption) ?_
      rotate_left
      · (intro w hSw; (try dsimp only at hSw); (try obtain ⟨s1_, s2_, s3_, s4_, s5_, s6_⟩ := hSw); go_simp <;> with_reducible rfl)
      simp only [List.getElem_toArray, List.getElem_cons_succ, List.getElem_cons_zero, Act.put, List.setIfInBounds_toArray, List.set_cons_zero, List.set_cons_succ]
      refine wpAnyH_take (i := 6) (oi := _) (v := ?_) rfl (by kernel_rfl) (by kernel_rfl) (by kernel_rfl) (fun _ _ _ h => h) (Or.inl ⟨by rfl, ?_⟩) (by assumption) ?_
      rotate_left
      · (intro w hSw; (try dsimp only at hSw); (try obtain ⟨s1_, s2_, s3_, s4_, s5_, s6_⟩ := hSw); go_simp <;> with_reducible rfl)
      simp only [List.getElem_toArray, List.getElem_cons_succ, List.getElem_cons_zero, Act.put, List.setIfInBounds_toArray, List.set_cons_zero, List.set_cons_succ]
      refine wpAnyH_take (i := 7) (oi := _) (v := ?_) rfl (by kernel_rfl) (by kernel_rfl) (by kernel_rfl) (fun _ _ _ h => h) (Or.inl ⟨by rfl, ?_⟩) (by assumption) ?_
      rotate_left
      · (intro w hSw; (try dsimp only at hSw); (try obtain ⟨s1_, s2_, s3_, s4_, s5_, s6_⟩ := hSw); go_simp <;> with_reducible rfl)
      simp only [List.getElem_toArray, List.getElem_cons_succ, List.getElem_cons_zero, Act.put, List.setIfInBounds_toArray, List.set_cons_zero, List.set_cons_succ]
      refine wpAnyH_take (i := 9) (oi := _) (v := ?_) rfl (by kernel_rfl) (by kernel_rfl) (by kernel_rfl) (fun _ _ _ h => h) (Or.inl ⟨by rfl, ?_⟩) (by assumption) ?_
      rotate_left
      · (intro w hSw; (try dsimp only at hSw); (try obtain ⟨s1_, s2_, s3_, s4_, s5_, s6_⟩ := hSw); go_simp <;> with_reducible rfl)
      simp only [List.getElem_toArray, List.getElem_cons_succ, List.getElem_cons_zero, Act.put, List.setIfInBounds_toArray, List.set_cons_zero, List.set_cons_succ]
      refine wpAnyH_ready (rs := [8]) (by kernel_rfl) (by simp) (AllReadyH.cons rfl (fun K hK => ?_) AllReadyH.nil)
      go_simp
      refine (r_meet2 _ _ _ _ _ _ (XF.out.next HQ2.out).has (XO.out.next HQ2.out).has (by have := hlF.out; have := hlO.out; omega)).mono ?_
      rintro e v3 ⟨S1, s1, t1, S2, s2, t2, S3, s3, t3, rfl, M⟩
      have XR := Lib.hid M.has
      have HQ3 := Lib.hid (HQ2.out.trans (M.bel.mono HQ2.out.size))
      clear M
      refine hK.out _ _ (HSW.out _ HQ3.out) (fun hHeld2 => ?_)
      clear hK K hHeld
      have hHeld := hHeld2
      clear hHeld2
      refine wpAnyH_ready (rs := [10]) (by kernel_rfl) (by simp) (AllReadyH.cons rfl (fun K hK => ?_) AllReadyH.nil)
      go_simp
      refine (r_equal _ _ _ _ _ _ XR.out (XO.out.next HQ3.out).has (by have h1 := XR.out.o.len; have h2 := meet2_len (firstS l) (onesS l); have h3 : (firstS l).o.length = 0 := rfl; have h4 : (onesS l).o.length = 0 := rfl; have := hlO.out; omega) (m_fo l)).mono ?_
      rintro e v4 ⟨rfl, hb⟩
      have HQ4 := Lib.hid (HQ3.out.trans (hb.mono HQ3.out.size))
      clear hb XR
      refine hK.out _ _ (HSW.out _ HQ4.out) (fun hHeld2 => ?_)
      clear hK K hHeld
      have hHeld := hHeld2
      clear hHeld2
      refine wpAnyH_take (i := 11) (oi := _) (v := ?_) rfl (by kernel_rfl) (by kernel_rfl) (by kernel_rfl) (fun _ _ _ h => h) (Or.inl ⟨by rfl, ?_⟩) (by assumption) ?_
      rotate_left
      · (intro w hSw; (try dsimp only at hSw); (try obtain ⟨s1_, s2_, s3_, s4_, s5_, s6_⟩ := hSw); go_simp <;> with_reducible rfl)
      simp only [List.getElem_toArray, List.getElem_cons_succ, List.getElem_cons_zero, Act.put, List.setIfInBounds_toArray, List.set_cons_zero, List.set_cons_succ]
      refine wpAnyH_take (i := 12) (oi := _) (v := ?_) rfl (by kernel_rfl) (by kernel_rfl) (by kernel_rfl) (fun _ _ _ h => h) (Or.inl ⟨by rfl, ?_⟩) (by assumption) ?_
      rotate_left
      · (intro w hSw; (try dsimp only at hSw); (try obtain ⟨s1_, s2_, s3_, s4_, s5_, s6_⟩ := hSw); go_simp <;> with_reducible rfl)
      simp only [List.getElem_toArray, List.getElem_cons_succ, List.getElem_cons_zero, Act.put, List.setIfInBounds_toArray, List.set_cons_zero, List.set_cons_succ]
      refine wpAnyH_done (by kernel_rfl) ?_ _
      go_wp2_with fail
      go_ret
      exact ⟨rfl, HBR.out.trans (HQ4.out.mono HBR.out.size)⟩

theorem contract (H : Type) (enc : TypeId × Value → H) (W : World) (base : Nat) (args : Array Value) (ds gs : List (DataW H)) (before : List MemPlace)
    (hval : ∀ (j : Nat) t v, Tryz.f7.params[j]? = some t → args[j]? = some v → Value.okWide Tryz.prog W .any base t v)
    (hW : DataW.Whole enc Tryz.prog Tryz.f7.params.toList Rows.segsetFirstsSpec.vars false W args.toList ds gs before) (hk : Rows.uptoSmall H (ds ++ gs) = true) :
    Calls Tryz.prog 7 args W fun e W' => ∃ v, e = .returned v ∧ Rows.segsetFirstsSpec.post enc Tryz.prog Tryz.f7 false true false false W args v W' := by
  have hW' := hW
  obtain ⟨p, q, hA0, hV, rfl, hfz, hnd⟩ := hW
  have hA : DataW.TrodAll enc Tryz.prog W 0 (fun _ => true) true Tryz.f7.params.toList args.toList ds p := hA0
  rw [Tryz.params7] at hA hval
  obtain ⟨v0, vs0, d0, ds0, p0, q0, hargs, rfl, rfl, h0, r0⟩ := trodAll_cons hA
  obtain ⟨v1, vs1, d1, ds1, p1, q1, rfl, rfl, rfl, h1, r1⟩ := trodAll_cons r0
  obtain ⟨rfl, rfl, rfl⟩ := trodAll_nil r1
  obtain rfl : args = #[v0, v1] := by cases args; simp_all
  obtain ⟨rfl, rfl⟩ := trodVars_none hV
  have hbd := bulk_bound hk
  simp only [List.append_nil, Rows.uptoBulkAll] at hbd
  have k0 := h0
  have lt0 : ∀ x ∈ p0, x.block < W.heap.size := by obtain ⟨m, hm⟩ := k0; exact DataW.trod_lt m _ _ _ hm
  obtain ⟨a0, len0, cap0, rfl⟩ := okWide_slice Tryz.underlying22 (hval 0 22 v0 rfl rfl)
  obtain ⟨l0, hl0, hc0, hm0, hf0, hr0, hb0⟩ := open_rgs h0
  have HR0 : ArgR W a0 len0 l0 := ⟨hr0, hl0, hf0, by omega⟩
  have k1 := h1
  have lt1 : ∀ x ∈ p1, x.block < W.heap.size := by obtain ⟨m, hm⟩ := k1; exact DataW.trod_lt m _ _ _ hm
  obtain ⟨a1, len1, cap1, rfl⟩ := okWide_slice Tryz.underlying23 (hval 1 23 v1 rfl rfl)
  obtain ⟨l1, hl1, hc1, hm1, hr1, ht1, hn1⟩ := open_texts h1
  have HT1 : ArgT W a1 len1 l1 := argT_texts hl1 hr1 ht1 hn1 (by omega)
  have bn1 : len1 ≤ 1048576 := by omega
  clear hA0
  refine (walk a0 a1 l0 l1 len0 len1 cap0 cap1 W HR0 HT1).mono fun e W' ⟨he, bel⟩ => ?_
  subst he
  exact ⟨_, rfl, _, _, _, [], _, [], hW', trodAll_mk1 (shut_bool Tryz.underlying4 _), (trodAll_cons_mk (Below.trod laidOut (by kernel_rfl) (of_decide_eq_true (by kernel_rfl)) k0 bel lt0) (trodAll_cons_mk (Below.trod laidOut (by kernel_rfl) (of_decide_eq_true (by kernel_rfl)) k1 bel lt1) trodAll_mk0)), rfl, bel.frame _, fun h => by cases h⟩

set_option maxRecDepth 100000 in
theorem lifted (os : Os) (started : os.Started) (H : Type) (enc : TypeId × Value → H) (F : Stop.Interp) :
    ReturnsInHanded {} Tryz.checked os 7 .any ((Rows.OpenSpec.upto Rows.segsetFirstsSpec).pre6 enc Tryz.prog Tryz.f7 Rows.segsetFirstsUptoRow.domain false) (((Rows.OpenSpec.upto Rows.segsetFirstsSpec).at F).post enc Tryz.prog Tryz.f7 false true false false) := by
  refine returnsInHanded_of_cond (C := Tryz.checked) (s := Rows.OpenSpec.upto Rows.segsetFirstsSpec) (k := Rows.uptoSmall) rfl own started (by kernel_rfl) Tryz.func7
    (OpenSpec.witness (enc := enc) (C := Tryz.checked) (s := Rows.OpenSpec.upto Rows.segsetFirstsSpec) (k := Rows.uptoSmall) rfl false ⟨#[], #[.slice none 0 0, .slice none 0 0], []⟩ 8 (by kernel_rfl) (by kernel_rfl) (by kernel_rfl)
      (x := ([.nil, .nil], [], [])) (by kernel_rfl) rfl (by kernel_rfl)) ?_
  intro W base args ds gs before hval hW _ hk _
  exact contract H enc W base args ds gs before hval hW hk

/-- THE STATEMENT -/
theorem proved : Rows.SegsetFirstsUptoSaid :=
  OpenClaim.holds_of_cond 7 Tryz.f7 rfl rfl rfl rfl rfl rfl rfl ⟨rfl, rfl, rfl, rfl, rfl⟩ rfl rfl rfl rfl rfl (by kernel_rfl) Tryz.func7 (by kernel_rfl)
    (of_decide_eq_true (by kernel_rfl)) (by unfold Func.isWrapper; first | (rw [if_pos (by decide +kernel)]; kernel_rfl) | (rw [if_neg (by decide +kernel)]; exact ⟨rfl, rfl⟩))
    (fun os started H enc _ F => lifted os started H enc F)
end Go.Proofs.YtipcbiecdabihaaGreat.LawSegsetFirsts
