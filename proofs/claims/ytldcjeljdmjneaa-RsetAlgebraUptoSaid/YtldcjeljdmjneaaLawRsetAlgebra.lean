/-
  Whatever three lists of ranges there are: the laws of sets hold of what rset tells. Conditions: the arguments hold together at most 1048576 values.
-/
import Derived.Test.YtldcjeljdmjneaaRsetFixed
namespace Go.Proofs.Ytldcjeljdmjneaa.LawRsetAlgebra
open Go.ChangeShapes Go.WideShapes Go.ChangeAt Go.RowKit
open Utf (Rd Blk nums nums_len nums_append nums_one nums_get wpList_append_rd own_ne)
open Rset
set_option maxRecDepth 100000

theorem eqs_of {x y : List Rg} (h : ∀ r, inR r = true → has x r = has y r) : eqs x y = true := decide_eq_true (norm_eq h)
theorem alg1 (a : List Rg) : eqs (compl (compl a)) a = true := eqs_of fun r hr => by rw [compl_has, compl_has, hr]; simp
theorem alg2 (a : List Rg) : eqL (compl (compl a)) (norm a) = true := decide_eq_true (nl_congr fun r hr => by rw [compl_has, hr]; simp)
theorem alg3 (a b : List Rg) : eqs (compl (uni a b)) (meet (compl a) (compl b)) = true := eqs_of fun r hr => by rw [compl_has, uni_has, meet_has, compl_has, compl_has, hr]; simp
theorem alg4 (a b : List Rg) : eqs (minus a b) (meet a (compl b)) = true := eqs_of fun r hr => by rw [minus_has, meet_has, compl_has, hr]; simp
theorem alg5 (a b d : List Rg) : eqs (uni (meet a b) d) (meet (uni a d) (uni b d)) = true := eqs_of fun r _ => by
  rw [uni_has, meet_has, meet_has, uni_has, uni_has]
  cases has a r <;> cases has b r <;> cases has d r <;> rfl
theorem alg6 (a b : List Rg) : eqs (uni a b) (uni b a) = true := eqs_of fun r _ => by rw [uni_has, uni_has, Bool.or_comm]
theorem cnt_or (a b : List Rg) : cnt (norm (uni a b)) + cnt (norm (meet a b)) = cnt (norm a) + cnt (norm b) := by
  rw [cnt_norm, cnt_norm, cnt_norm, cnt_norm]
  have h1 : num 1114112 (has (uni a b)) = num 1114112 fun x => has a x || has b x := num_congr fun x _ _ => uni_has a b x
  have h2 : num 1114112 (has (meet a b)) = num 1114112 fun x => has a x && has b x := num_congr fun x _ _ => meet_has a b x
  have h3 := num_or 1114112 (has a) (has b)
  rw [h1, h2]
  omega
theorem cnt_compl (a : List Rg) : cnt (norm a) + cnt (norm (compl a)) = 1114112 := by
  rw [cnt_norm, cnt_norm]
  have h1 : num 1114112 (has (compl a)) = num 1114112 fun x => !has a x := num_congr fun x h0 h1 => by rw [compl_has, inR_iff.2 ⟨h0, by omega⟩, Bool.true_and]
  have h2 := num_not 1114112 (has a)
  rw [h1]
  omega
set_option maxHeartbeats 16000000 in
theorem walk (A B C : Option Addr) (a b d : List Rg) (n m k c1 c2 c3 : Nat) (w : World) (hA : Arg w A n a) (hB : Arg w B m b) (hC : Arg w C k d) :
    Calls Try.prog 6 #[.slice A n c1, .slice B m c2, .slice C k c3] w (Law w) := by
  have q1 := cnt_or a b
  have q2 := cnt_compl a
  have B1 := fun l : List Rg => nm_cnt (norm_nm l)
  have B2 := fun l : List Rg => nm_cnt_nonneg (fun r hr => ((norm_nm l).ok r hr).2.1)
  have b1 := B1 (uni a b); have b2 := B1 (meet a b); have b3 := B1 a; have b4 := B1 b; have b5 := B1 (compl a)
  have d1 := B2 (uni a b); have d2 := B2 (meet a b); have d3 := B2 a; have d4 := B2 b; have d5 := B2 (compl a)
  clear B1 B2
  obtain ⟨zu, hzu⟩ : ∃ z, cnt (norm (uni a b)) = z := ⟨_, rfl⟩
  obtain ⟨zm, hzm⟩ : ∃ z, cnt (norm (meet a b)) = z := ⟨_, rfl⟩
  obtain ⟨za, hza⟩ : ∃ z, cnt (norm a) = z := ⟨_, rfl⟩
  obtain ⟨zb, hzb⟩ : ∃ z, cnt (norm b) = z := ⟨_, rfl⟩
  obtain ⟨zn, hzn⟩ : ∃ z, cnt (norm (compl a)) = z := ⟨_, rfl⟩
  rw [hzu, hzm, hza, hzb] at q1
  rw [hza, hzn] at q2
  rw [hzu] at b1 d1
  rw [hzm] at b2 d2
  rw [hza] at b3 d3
  rw [hzb] at b4 d4
  rw [hzn] at b5 d5
  replace hzu := Lib.hid hzu; replace hzm := Lib.hid hzm; replace hza := Lib.hid hza; replace hzb := Lib.hid hzb; replace hzn := Lib.hid hzn
  obtain rfl : zu = za + zb - zm := by omega
  obtain rfl : zn = 1114112 - za := by omega
  have e1 : ((za + zb - zm + zm : Int) == za + zb) = true := by rw [beq_iff_eq]; omega
  have e2 : ((za + (1114112 - za) : Int) == 1114112) = true := by rw [beq_iff_eq]; omega
  have f1 : IntKind.i64.wrap (za + zb - zm + zm) = za + zb - zm + zm := IntWalk.i64_in _ (by omega)
  have f2 : IntKind.i64.wrap (za + zb) = za + zb := IntWalk.i64_in _ (by omega)
  have f3 : IntKind.i64.wrap (za + (1114112 - za)) = za + (1114112 - za) := IntWalk.i64_in _ (by omega)
  clear q1 q2
  have HA := Lib.hid hA; have HBb := Lib.hid hB; have HCc := Lib.hid hC
  have HB := Lib.hid (Below.refl w.heap.size w)
  clear hA hB hC
  go_enter Try.func6, Try.ntmps6
  go_wp2_with fail
  refine (fixed_any _).mono ?_
  rintro e w_0 ⟨rfl, hb_0⟩
  replace HA := Lib.hid (HA.out.next hb_0)
  replace HBb := Lib.hid (HBb.out.next hb_0)
  replace HCc := Lib.hid (HCc.out.next hb_0)
  replace HB := Lib.hid (HB.out.trans (hb_0.mono HB.out.size))
  clear hb_0
  go_wp2_with fail
  refine (a_uni _ _ HA.out HBb.out).mono ?_
  rintro e w_1 ⟨A_1, n_1, c_1, rfl, h_1, hb_1⟩
  replace HA := Lib.hid (HA.out.next hb_1)
  replace HBb := Lib.hid (HBb.out.next hb_1)
  replace HCc := Lib.hid (HCc.out.next hb_1)
  replace HB := Lib.hid (HB.out.trans (hb_1.mono HB.out.size))
  have HU := Lib.hid h_1
  clear h_1
  clear hb_1
  go_wp2_with fail
  refine (a_meet _ _ HA.out HBb.out).mono ?_
  rintro e w_2 ⟨A_2, n_2, c_2, rfl, h_2, hb_2⟩
  replace HA := Lib.hid (HA.out.next hb_2)
  replace HBb := Lib.hid (HBb.out.next hb_2)
  replace HCc := Lib.hid (HCc.out.next hb_2)
  replace HU := Lib.hid (HU.out.next hb_2)
  replace HB := Lib.hid (HB.out.trans (hb_2.mono HB.out.size))
  have HM := Lib.hid h_2
  clear h_2
  clear hb_2
  go_wp2_with fail
  refine (a_not _ HA.out).mono ?_
  rintro e w_3 ⟨A_3, n_3, c_3, rfl, h_3, hb_3⟩
  replace HA := Lib.hid (HA.out.next hb_3)
  replace HBb := Lib.hid (HBb.out.next hb_3)
  replace HCc := Lib.hid (HCc.out.next hb_3)
  replace HU := Lib.hid (HU.out.next hb_3)
  replace HM := Lib.hid (HM.out.next hb_3)
  replace HB := Lib.hid (HB.out.trans (hb_3.mono HB.out.size))
  have H1 := Lib.hid h_3
  clear h_3
  clear hb_3
  go_wp2_with fail
  refine (a_not _ H1.out).mono ?_
  rintro e w_4 ⟨A_4, n_4, c_4, rfl, h_4, hb_4⟩
  replace HA := Lib.hid (HA.out.next hb_4)
  replace HBb := Lib.hid (HBb.out.next hb_4)
  replace HCc := Lib.hid (HCc.out.next hb_4)
  replace HU := Lib.hid (HU.out.next hb_4)
  replace HM := Lib.hid (HM.out.next hb_4)
  replace H1 := Lib.hid (H1.out.next hb_4)
  replace HB := Lib.hid (HB.out.trans (hb_4.mono HB.out.size))
  have H2 := Lib.hid h_4
  clear h_4
  clear hb_4
  go_wp2_with fail
  refine (a_equal _ _ H2.out HA.out (alg1 a)).mono ?_
  rintro e w_5 ⟨rfl, hb_5⟩
  replace HA := Lib.hid (HA.out.next hb_5)
  replace HBb := Lib.hid (HBb.out.next hb_5)
  replace HCc := Lib.hid (HCc.out.next hb_5)
  replace HU := Lib.hid (HU.out.next hb_5)
  replace HM := Lib.hid (HM.out.next hb_5)
  replace H1 := Lib.hid (H1.out.next hb_5)
  replace H2 := Lib.hid (H2.out.next hb_5)
  replace HB := Lib.hid (HB.out.trans (hb_5.mono HB.out.size))
  clear hb_5
  clear H1
  clear H2
  go_wp2_with fail
  refine (a_not _ HA.out).mono ?_
  rintro e w_6 ⟨A_6, n_6, c_6, rfl, h_6, hb_6⟩
  replace HA := Lib.hid (HA.out.next hb_6)
  replace HBb := Lib.hid (HBb.out.next hb_6)
  replace HCc := Lib.hid (HCc.out.next hb_6)
  replace HU := Lib.hid (HU.out.next hb_6)
  replace HM := Lib.hid (HM.out.next hb_6)
  replace HB := Lib.hid (HB.out.trans (hb_6.mono HB.out.size))
  have H1 := Lib.hid h_6
  clear h_6
  clear hb_6
  go_wp2_with fail
  refine (a_not _ H1.out).mono ?_
  rintro e w_7 ⟨A_7, n_7, c_7, rfl, h_7, hb_7⟩
  replace HA := Lib.hid (HA.out.next hb_7)
  replace HBb := Lib.hid (HBb.out.next hb_7)
  replace HCc := Lib.hid (HCc.out.next hb_7)
  replace HU := Lib.hid (HU.out.next hb_7)
  replace HM := Lib.hid (HM.out.next hb_7)
  replace H1 := Lib.hid (H1.out.next hb_7)
  replace HB := Lib.hid (HB.out.trans (hb_7.mono HB.out.size))
  have H2 := Lib.hid h_7
  clear h_7
  clear hb_7
  go_wp2_with fail
  refine (a_norm _ HA.out).mono ?_
  rintro e w_8 ⟨A_8, n_8, c_8, rfl, h_8, hb_8⟩
  replace HA := Lib.hid (HA.out.next hb_8)
  replace HBb := Lib.hid (HBb.out.next hb_8)
  replace HCc := Lib.hid (HCc.out.next hb_8)
  replace HU := Lib.hid (HU.out.next hb_8)
  replace HM := Lib.hid (HM.out.next hb_8)
  replace H1 := Lib.hid (H1.out.next hb_8)
  replace H2 := Lib.hid (H2.out.next hb_8)
  replace HB := Lib.hid (HB.out.trans (hb_8.mono HB.out.size))
  have H3 := Lib.hid h_8
  clear h_8
  clear hb_8
  go_wp2_with fail
  refine (a_same _ _ H2.out H3.out (alg2 a)).mono ?_
  rintro e w_9 ⟨rfl, hb_9⟩
  replace HA := Lib.hid (HA.out.next hb_9)
  replace HBb := Lib.hid (HBb.out.next hb_9)
  replace HCc := Lib.hid (HCc.out.next hb_9)
  replace HU := Lib.hid (HU.out.next hb_9)
  replace HM := Lib.hid (HM.out.next hb_9)
  replace H1 := Lib.hid (H1.out.next hb_9)
  replace H2 := Lib.hid (H2.out.next hb_9)
  replace H3 := Lib.hid (H3.out.next hb_9)
  replace HB := Lib.hid (HB.out.trans (hb_9.mono HB.out.size))
  clear hb_9
  clear H1
  clear H2
  clear H3
  go_wp2_with fail
  refine (a_not _ HU.out).mono ?_
  rintro e w_10 ⟨A_10, n_10, c_10, rfl, h_10, hb_10⟩
  replace HA := Lib.hid (HA.out.next hb_10)
  replace HBb := Lib.hid (HBb.out.next hb_10)
  replace HCc := Lib.hid (HCc.out.next hb_10)
  replace HU := Lib.hid (HU.out.next hb_10)
  replace HM := Lib.hid (HM.out.next hb_10)
  replace HB := Lib.hid (HB.out.trans (hb_10.mono HB.out.size))
  have H1 := Lib.hid h_10
  clear h_10
  clear hb_10
  go_wp2_with fail
  refine (a_not _ HA.out).mono ?_
  rintro e w_11 ⟨A_11, n_11, c_11, rfl, h_11, hb_11⟩
  replace HA := Lib.hid (HA.out.next hb_11)
  replace HBb := Lib.hid (HBb.out.next hb_11)
  replace HCc := Lib.hid (HCc.out.next hb_11)
  replace HU := Lib.hid (HU.out.next hb_11)
  replace HM := Lib.hid (HM.out.next hb_11)
  replace H1 := Lib.hid (H1.out.next hb_11)
  replace HB := Lib.hid (HB.out.trans (hb_11.mono HB.out.size))
  have H2 := Lib.hid h_11
  clear h_11
  clear hb_11
  go_wp2_with fail
  refine (a_not _ HBb.out).mono ?_
  rintro e w_12 ⟨A_12, n_12, c_12, rfl, h_12, hb_12⟩
  replace HA := Lib.hid (HA.out.next hb_12)
  replace HBb := Lib.hid (HBb.out.next hb_12)
  replace HCc := Lib.hid (HCc.out.next hb_12)
  replace HU := Lib.hid (HU.out.next hb_12)
  replace HM := Lib.hid (HM.out.next hb_12)
  replace H1 := Lib.hid (H1.out.next hb_12)
  replace H2 := Lib.hid (H2.out.next hb_12)
  replace HB := Lib.hid (HB.out.trans (hb_12.mono HB.out.size))
  have H3 := Lib.hid h_12
  clear h_12
  clear hb_12
  go_wp2_with fail
  refine (a_meet _ _ H2.out H3.out).mono ?_
  rintro e w_13 ⟨A_13, n_13, c_13, rfl, h_13, hb_13⟩
  replace HA := Lib.hid (HA.out.next hb_13)
  replace HBb := Lib.hid (HBb.out.next hb_13)
  replace HCc := Lib.hid (HCc.out.next hb_13)
  replace HU := Lib.hid (HU.out.next hb_13)
  replace HM := Lib.hid (HM.out.next hb_13)
  replace H1 := Lib.hid (H1.out.next hb_13)
  replace H2 := Lib.hid (H2.out.next hb_13)
  replace H3 := Lib.hid (H3.out.next hb_13)
  replace HB := Lib.hid (HB.out.trans (hb_13.mono HB.out.size))
  have H4 := Lib.hid h_13
  clear h_13
  clear hb_13
  go_wp2_with fail
  refine (a_equal _ _ H1.out H4.out (alg3 a b)).mono ?_
  rintro e w_14 ⟨rfl, hb_14⟩
  replace HA := Lib.hid (HA.out.next hb_14)
  replace HBb := Lib.hid (HBb.out.next hb_14)
  replace HCc := Lib.hid (HCc.out.next hb_14)
  replace HU := Lib.hid (HU.out.next hb_14)
  replace HM := Lib.hid (HM.out.next hb_14)
  replace H1 := Lib.hid (H1.out.next hb_14)
  replace H2 := Lib.hid (H2.out.next hb_14)
  replace H3 := Lib.hid (H3.out.next hb_14)
  replace H4 := Lib.hid (H4.out.next hb_14)
  replace HB := Lib.hid (HB.out.trans (hb_14.mono HB.out.size))
  clear hb_14
  clear H1
  clear H2
  clear H3
  clear H4
  go_wp2_with fail
  refine (a_minus _ _ HA.out HBb.out).mono ?_
  rintro e w_15 ⟨A_15, n_15, c_15, rfl, h_15, hb_15⟩
  replace HA := Lib.hid (HA.out.next hb_15)
  replace HBb := Lib.hid (HBb.out.next hb_15)
  replace HCc := Lib.hid (HCc.out.next hb_15)
  replace HU := Lib.hid (HU.out.next hb_15)
  replace HM := Lib.hid (HM.out.next hb_15)
  replace HB := Lib.hid (HB.out.trans (hb_15.mono HB.out.size))
  have H1 := Lib.hid h_15
  clear h_15
  clear hb_15
  go_wp2_with fail
  refine (a_not _ HBb.out).mono ?_
  rintro e w_16 ⟨A_16, n_16, c_16, rfl, h_16, hb_16⟩
  replace HA := Lib.hid (HA.out.next hb_16)
  replace HBb := Lib.hid (HBb.out.next hb_16)
  replace HCc := Lib.hid (HCc.out.next hb_16)
  replace HU := Lib.hid (HU.out.next hb_16)
  replace HM := Lib.hid (HM.out.next hb_16)
  replace H1 := Lib.hid (H1.out.next hb_16)
  replace HB := Lib.hid (HB.out.trans (hb_16.mono HB.out.size))
  have H2 := Lib.hid h_16
  clear h_16
  clear hb_16
  go_wp2_with fail
  refine (a_meet _ _ HA.out H2.out).mono ?_
  rintro e w_17 ⟨A_17, n_17, c_17, rfl, h_17, hb_17⟩
  replace HA := Lib.hid (HA.out.next hb_17)
  replace HBb := Lib.hid (HBb.out.next hb_17)
  replace HCc := Lib.hid (HCc.out.next hb_17)
  replace HU := Lib.hid (HU.out.next hb_17)
  replace HM := Lib.hid (HM.out.next hb_17)
  replace H1 := Lib.hid (H1.out.next hb_17)
  replace H2 := Lib.hid (H2.out.next hb_17)
  replace HB := Lib.hid (HB.out.trans (hb_17.mono HB.out.size))
  have H3 := Lib.hid h_17
  clear h_17
  clear hb_17
  go_wp2_with fail
  refine (a_equal _ _ H1.out H3.out (alg4 a b)).mono ?_
  rintro e w_18 ⟨rfl, hb_18⟩
  replace HA := Lib.hid (HA.out.next hb_18)
  replace HBb := Lib.hid (HBb.out.next hb_18)
  replace HCc := Lib.hid (HCc.out.next hb_18)
  replace HU := Lib.hid (HU.out.next hb_18)
  replace HM := Lib.hid (HM.out.next hb_18)
  replace H1 := Lib.hid (H1.out.next hb_18)
  replace H2 := Lib.hid (H2.out.next hb_18)
  replace H3 := Lib.hid (H3.out.next hb_18)
  replace HB := Lib.hid (HB.out.trans (hb_18.mono HB.out.size))
  clear hb_18
  clear H1
  clear H2
  clear H3
  go_wp2_with fail
  refine (a_count _ HU.out hzu.out).mono ?_
  rintro e w_19 ⟨rfl, hb_19⟩
  replace HA := Lib.hid (HA.out.next hb_19)
  replace HBb := Lib.hid (HBb.out.next hb_19)
  replace HCc := Lib.hid (HCc.out.next hb_19)
  replace HU := Lib.hid (HU.out.next hb_19)
  replace HM := Lib.hid (HM.out.next hb_19)
  replace HB := Lib.hid (HB.out.trans (hb_19.mono HB.out.size))
  clear hb_19
  go_wp2_with fail
  refine (a_count _ HM.out hzm.out).mono ?_
  rintro e w_20 ⟨rfl, hb_20⟩
  replace HA := Lib.hid (HA.out.next hb_20)
  replace HBb := Lib.hid (HBb.out.next hb_20)
  replace HCc := Lib.hid (HCc.out.next hb_20)
  replace HU := Lib.hid (HU.out.next hb_20)
  replace HM := Lib.hid (HM.out.next hb_20)
  replace HB := Lib.hid (HB.out.trans (hb_20.mono HB.out.size))
  clear hb_20
  go_wp2_with fail
  refine (a_count _ HA.out hza.out).mono ?_
  rintro e w_21 ⟨rfl, hb_21⟩
  replace HA := Lib.hid (HA.out.next hb_21)
  replace HBb := Lib.hid (HBb.out.next hb_21)
  replace HCc := Lib.hid (HCc.out.next hb_21)
  replace HU := Lib.hid (HU.out.next hb_21)
  replace HM := Lib.hid (HM.out.next hb_21)
  replace HB := Lib.hid (HB.out.trans (hb_21.mono HB.out.size))
  clear hb_21
  go_wp2_with fail
  refine (a_count _ HBb.out hzb.out).mono ?_
  rintro e w_22 ⟨rfl, hb_22⟩
  replace HA := Lib.hid (HA.out.next hb_22)
  replace HBb := Lib.hid (HBb.out.next hb_22)
  replace HCc := Lib.hid (HCc.out.next hb_22)
  replace HU := Lib.hid (HU.out.next hb_22)
  replace HM := Lib.hid (HM.out.next hb_22)
  replace HB := Lib.hid (HB.out.trans (hb_22.mono HB.out.size))
  clear hb_22
  go_wp2_with fail
  refine (a_uni _ _ HM.out HCc.out).mono ?_
  rintro e w_23 ⟨A_23, n_23, c_23, rfl, h_23, hb_23⟩
  replace HA := Lib.hid (HA.out.next hb_23)
  replace HBb := Lib.hid (HBb.out.next hb_23)
  replace HCc := Lib.hid (HCc.out.next hb_23)
  replace HU := Lib.hid (HU.out.next hb_23)
  replace HM := Lib.hid (HM.out.next hb_23)
  replace HB := Lib.hid (HB.out.trans (hb_23.mono HB.out.size))
  have H1 := Lib.hid h_23
  clear h_23
  clear hb_23
  go_wp2_with fail
  refine (a_uni _ _ HA.out HCc.out).mono ?_
  rintro e w_24 ⟨A_24, n_24, c_24, rfl, h_24, hb_24⟩
  replace HA := Lib.hid (HA.out.next hb_24)
  replace HBb := Lib.hid (HBb.out.next hb_24)
  replace HCc := Lib.hid (HCc.out.next hb_24)
  replace HU := Lib.hid (HU.out.next hb_24)
  replace HM := Lib.hid (HM.out.next hb_24)
  replace H1 := Lib.hid (H1.out.next hb_24)
  replace HB := Lib.hid (HB.out.trans (hb_24.mono HB.out.size))
  have H2 := Lib.hid h_24
  clear h_24
  clear hb_24
  go_wp2_with fail
  refine (a_uni _ _ HBb.out HCc.out).mono ?_
  rintro e w_25 ⟨A_25, n_25, c_25, rfl, h_25, hb_25⟩
  replace HA := Lib.hid (HA.out.next hb_25)
  replace HBb := Lib.hid (HBb.out.next hb_25)
  replace HCc := Lib.hid (HCc.out.next hb_25)
  replace HU := Lib.hid (HU.out.next hb_25)
  replace HM := Lib.hid (HM.out.next hb_25)
  replace H1 := Lib.hid (H1.out.next hb_25)
  replace H2 := Lib.hid (H2.out.next hb_25)
  replace HB := Lib.hid (HB.out.trans (hb_25.mono HB.out.size))
  have H3 := Lib.hid h_25
  clear h_25
  clear hb_25
  go_wp2_with fail
  refine (a_meet _ _ H2.out H3.out).mono ?_
  rintro e w_26 ⟨A_26, n_26, c_26, rfl, h_26, hb_26⟩
  replace HA := Lib.hid (HA.out.next hb_26)
  replace HBb := Lib.hid (HBb.out.next hb_26)
  replace HCc := Lib.hid (HCc.out.next hb_26)
  replace HU := Lib.hid (HU.out.next hb_26)
  replace HM := Lib.hid (HM.out.next hb_26)
  replace H1 := Lib.hid (H1.out.next hb_26)
  replace H2 := Lib.hid (H2.out.next hb_26)
  replace H3 := Lib.hid (H3.out.next hb_26)
  replace HB := Lib.hid (HB.out.trans (hb_26.mono HB.out.size))
  have H4 := Lib.hid h_26
  clear h_26
  clear hb_26
  go_wp2_with fail
  refine (a_equal _ _ H1.out H4.out (alg5 a b d)).mono ?_
  rintro e w_27 ⟨rfl, hb_27⟩
  replace HA := Lib.hid (HA.out.next hb_27)
  replace HBb := Lib.hid (HBb.out.next hb_27)
  replace HCc := Lib.hid (HCc.out.next hb_27)
  replace HU := Lib.hid (HU.out.next hb_27)
  replace HM := Lib.hid (HM.out.next hb_27)
  replace H1 := Lib.hid (H1.out.next hb_27)
  replace H2 := Lib.hid (H2.out.next hb_27)
  replace H3 := Lib.hid (H3.out.next hb_27)
  replace H4 := Lib.hid (H4.out.next hb_27)
  replace HB := Lib.hid (HB.out.trans (hb_27.mono HB.out.size))
  clear hb_27
  clear H1
  clear H2
  clear H3
  clear H4
  go_wp2_with fail
  refine (a_uni _ _ HBb.out HA.out).mono ?_
  rintro e w_28 ⟨A_28, n_28, c_28, rfl, h_28, hb_28⟩
  replace HA := Lib.hid (HA.out.next hb_28)
  replace HBb := Lib.hid (HBb.out.next hb_28)
  replace HCc := Lib.hid (HCc.out.next hb_28)
  replace HU := Lib.hid (HU.out.next hb_28)
  replace HM := Lib.hid (HM.out.next hb_28)
  replace HB := Lib.hid (HB.out.trans (hb_28.mono HB.out.size))
  have H1 := Lib.hid h_28
  clear h_28
  clear hb_28
  go_wp2_with fail
  refine (a_equal _ _ HU.out H1.out (alg6 a b)).mono ?_
  rintro e w_29 ⟨rfl, hb_29⟩
  replace HA := Lib.hid (HA.out.next hb_29)
  replace HBb := Lib.hid (HBb.out.next hb_29)
  replace HCc := Lib.hid (HCc.out.next hb_29)
  replace HU := Lib.hid (HU.out.next hb_29)
  replace HM := Lib.hid (HM.out.next hb_29)
  replace H1 := Lib.hid (H1.out.next hb_29)
  replace HB := Lib.hid (HB.out.trans (hb_29.mono HB.out.size))
  clear hb_29
  clear H1
  go_wp2_with fail
  refine (a_count _ HA.out hza.out).mono ?_
  rintro e w_30 ⟨rfl, hb_30⟩
  replace HA := Lib.hid (HA.out.next hb_30)
  replace HBb := Lib.hid (HBb.out.next hb_30)
  replace HCc := Lib.hid (HCc.out.next hb_30)
  replace HU := Lib.hid (HU.out.next hb_30)
  replace HM := Lib.hid (HM.out.next hb_30)
  replace HB := Lib.hid (HB.out.trans (hb_30.mono HB.out.size))
  clear hb_30
  go_wp2_with fail
  refine (a_not _ HA.out).mono ?_
  rintro e w_31 ⟨A_31, n_31, c_31, rfl, h_31, hb_31⟩
  replace HA := Lib.hid (HA.out.next hb_31)
  replace HBb := Lib.hid (HBb.out.next hb_31)
  replace HCc := Lib.hid (HCc.out.next hb_31)
  replace HU := Lib.hid (HU.out.next hb_31)
  replace HM := Lib.hid (HM.out.next hb_31)
  replace HB := Lib.hid (HB.out.trans (hb_31.mono HB.out.size))
  have H1 := Lib.hid h_31
  clear h_31
  clear hb_31
  go_wp2_with fail
  refine (a_count _ H1.out hzn.out).mono ?_
  rintro e w_32 ⟨rfl, hb_32⟩
  replace HA := Lib.hid (HA.out.next hb_32)
  replace HBb := Lib.hid (HBb.out.next hb_32)
  replace HCc := Lib.hid (HCc.out.next hb_32)
  replace HU := Lib.hid (HU.out.next hb_32)
  replace HM := Lib.hid (HM.out.next hb_32)
  replace H1 := Lib.hid (H1.out.next hb_32)
  replace HB := Lib.hid (HB.out.trans (hb_32.mono HB.out.size))
  clear hb_32
  go_wp2_with fail
  go_ret
  exact ⟨rfl, HB.out⟩

theorem contract (H : Type) (enc : TypeId × Value → H) (W : World) (base : Nat) (args : Array Value) (ds gs : List (DataW H)) (before : List MemPlace)
    (hval : ∀ (j : Nat) t v, Try.f6.params[j]? = some t → args[j]? = some v → Value.okWide Try.prog W .any base t v)
    (hW : DataW.Whole enc Try.prog Try.f6.params.toList Rows.rsetAlgebraSpec.vars false W args.toList ds gs before) (hk : Rows.uptoSmall H (ds ++ gs) = true) :
    Calls Try.prog 6 args W fun e W' => ∃ v, e = .returned v ∧ Rows.rsetAlgebraSpec.post enc Try.prog Try.f6 false true false false W args v W' := by
  have hW' := hW
  obtain ⟨p, q, hA0, hV, rfl, hfz, hnd⟩ := hW
  have hA : DataW.TrodAll enc Try.prog W 0 (fun _ => true) true Try.f6.params.toList args.toList ds p := hA0
  rw [Try.params6] at hA hval
  obtain ⟨v0, vs0, d0, ds0, p0, q0, hargs, rfl, rfl, h0, r0⟩ := trodAll_cons hA
  obtain ⟨v1, vs1, d1, ds1, p1, q1, rfl, rfl, rfl, h1, r1⟩ := trodAll_cons r0
  obtain ⟨v2, vs2, d2, ds2, p2, q2, rfl, rfl, rfl, h2, r2⟩ := trodAll_cons r1
  obtain ⟨rfl, rfl, rfl⟩ := trodAll_nil r2
  obtain rfl : args = #[v0, v1, v2] := by cases args; simp_all
  obtain ⟨rfl, rfl⟩ := trodVars_none hV
  obtain ⟨a0, len0, cap0, rfl⟩ := okWide_slice Try.underlying22 (hval 0 22 v0 rfl rfl)
  have k0 := h0
  have lt0 : ∀ x ∈ p0, x.block < W.heap.size := by obtain ⟨m, hm⟩ := k0; exact DataW.trod_lt m _ _ _ hm
  obtain ⟨l0, hl0, hc0, hm0, hf0, hr0, hb0⟩ := open_rgs h0
  obtain ⟨a1, len1, cap1, rfl⟩ := okWide_slice Try.underlying22 (hval 1 22 v1 rfl rfl)
  have k1 := h1
  have lt1 : ∀ x ∈ p1, x.block < W.heap.size := by obtain ⟨m, hm⟩ := k1; exact DataW.trod_lt m _ _ _ hm
  obtain ⟨l1, hl1, hc1, hm1, hf1, hr1, hb1⟩ := open_rgs h1
  obtain ⟨a2, len2, cap2, rfl⟩ := okWide_slice Try.underlying22 (hval 2 22 v2 rfl rfl)
  have k2 := h2
  have lt2 : ∀ x ∈ p2, x.block < W.heap.size := by obtain ⟨m, hm⟩ := k2; exact DataW.trod_lt m _ _ _ hm
  obtain ⟨l2, hl2, hc2, hm2, hf2, hr2, hb2⟩ := open_rgs h2
  have hbd := bulk_bound hk
  simp only [List.append_nil, Rows.uptoBulkAll] at hbd
  have H0 : Arg W a0 len0 l0 := ⟨hr0, hl0, hf0, by omega⟩
  have H1 : Arg W a1 len1 l1 := ⟨hr1, hl1, hf1, by omega⟩
  have H2 : Arg W a2 len2 l2 := ⟨hr2, hl2, hf2, by omega⟩
  clear hA0
  refine (walk a0 a1 a2 l0 l1 l2 len0 len1 len2 cap0 cap1 cap2 W H0 H1 H2).mono fun e W' ⟨he, bel⟩ => ?_
  subst he
  exact ⟨_, rfl, _, _, _, [], _, [], hW', trodAll_mk1 (shut_bool Try.underlying4 _), (trodAll_cons_mk (Below.trod laidOut (by kernel_rfl) (of_decide_eq_true (by kernel_rfl)) k0 bel lt0) (trodAll_cons_mk (Below.trod laidOut (by kernel_rfl) (of_decide_eq_true (by kernel_rfl)) k1 bel lt1) (trodAll_cons_mk (Below.trod laidOut (by kernel_rfl) (of_decide_eq_true (by kernel_rfl)) k2 bel lt2) trodAll_mk0))), rfl, bel.frame _, fun h => by cases h⟩

set_option maxRecDepth 100000 in
theorem lifted (os : Os) (started : os.Started) (H : Type) (enc : TypeId × Value → H) (F : Stop.Interp) :
    ReturnsInHanded {} Try.checked os 6 .any ((Rows.OpenSpec.upto Rows.rsetAlgebraSpec).pre6 enc Try.prog Try.f6 Rows.rsetAlgebraUptoRow.domain false) (((Rows.OpenSpec.upto Rows.rsetAlgebraSpec).at F).post enc Try.prog Try.f6 false true false false) := by
  refine returnsInHanded_of_cond (C := Try.checked) (s := Rows.OpenSpec.upto Rows.rsetAlgebraSpec) (k := Rows.uptoSmall) rfl own started (by kernel_rfl) Try.func6
    (OpenSpec.witness (enc := enc) (C := Try.checked) (s := Rows.OpenSpec.upto Rows.rsetAlgebraSpec) (k := Rows.uptoSmall) rfl false ⟨#[], #[.slice none 0 0, .slice none 0 0, .slice none 0 0], []⟩ 8 (by kernel_rfl) (by kernel_rfl) (by kernel_rfl)
      (x := ([.nil, .nil, .nil], [], [])) (by kernel_rfl) rfl (by kernel_rfl)) ?_
  intro W base args ds gs before hval hW _ hk _
  exact contract H enc W base args ds gs before hval hW hk

/-- THE STATEMENT -/
theorem proved : Rows.RsetAlgebraUptoSaid :=
  OpenClaim.holds_of_cond 6 Try.f6 rfl rfl rfl rfl rfl rfl rfl ⟨rfl, rfl, rfl, rfl, rfl⟩ rfl rfl rfl rfl rfl (by kernel_rfl) Try.func6 (by kernel_rfl)
    (of_decide_eq_true (by kernel_rfl)) (by unfold Func.isWrapper; first | (rw [if_pos (by decide +kernel)]; kernel_rfl) | (rw [if_neg (by decide +kernel)]; exact ⟨rfl, rfl⟩))
    (fun os started H enc _ F => lifted os started H enc F)
end Go.Proofs.Ytldcjeljdmjneaa.LawRsetAlgebra
