/-
  THE CHAPTER's EXAMPLES: the law's own test.
-/
import Derived.Test.YtldcjeljdmjneaaRsetOpen
namespace Go.Proofs.Ytldcjeljdmjneaa.Rset
open Go.RowKit
open Utf (Rd Blk)
set_option maxRecDepth 100000

theorem fit_of {l : List Rg} (h : ∀ r ∈ l, (-2147483648 ≤ r.1 ∧ r.1 ≤ 2147483647) ∧ -2147483648 ≤ r.2 ∧ r.2 ≤ 2147483647) : Fit l := h
theorem nm1 {a b : Int} (h : 0 ≤ a ∧ a ≤ b ∧ b ≤ 1114111) : Nm [(a, b)] := Nm.cons h (by simp) Nm.nil
theorem nm2 {a b c d : Int} (h : 0 ≤ a ∧ a ≤ b ∧ b + 2 ≤ c ∧ c ≤ d ∧ d ≤ 1114111) : Nm [(a, b), (c, d)] :=
  Nm.cons ⟨h.1, h.2.1, by simp only []; omega⟩ (fun s hs => by rw [List.mem_singleton.1 hs]; exact h.2.2.1) (nm1 ⟨by omega, h.2.2.2.1, h.2.2.2.2⟩)
theorem any1 (a b x : Int) : anyIn [(a, b)] x = true ↔ a ≤ x ∧ x ≤ b := by rw [anyIn_one, inn_iff]
theorem any2 (a b c d x : Int) : anyIn [(a, b), (c, d)] x = true ↔ (a ≤ x ∧ x ≤ b) ∨ (c ≤ x ∧ x ≤ d) := by rw [anyIn_cons, Bool.or_eq_true, any1, inn_iff]
theorem has1 {a b x : Int} (h : inR x = true) : has [(a, b)] x = true ↔ a ≤ x ∧ x ≤ b := by unfold has; rw [h, Bool.true_and, any1]
theorem has2 {a b c d x : Int} (h : inR x = true) : has [(a, b), (c, d)] x = true ↔ (a ≤ x ∧ x ≤ b) ∨ (c ≤ x ∧ x ≤ d) := by unfold has; rw [h, Bool.true_and, any2]
theorem fx_norm : norm [(5, 9), (1, 3), (4, 4), (8, 7)] = [(1, 9)] := (nl_of (nm1 (by omega)) fun x hx => by
  rw [Bool.eq_iff_iff, has1 hx]
  unfold has
  rw [hx, Bool.true_and, anyIn_iff]
  simp only [List.mem_cons, List.not_mem_nil, or_false, exists_eq_or_imp, exists_eq_left]
  omega).symm
theorem fx_minus : minus [(0, 9)] [(3, 4)] = [(0, 2), (5, 9)] := (nl_of (nm2 (by omega)) fun x hx => by
  rw [Bool.eq_iff_iff, has2 hx, Bool.and_eq_true, Bool.not_eq_true', Bool.eq_false_iff, Ne, has1 hx, has1 hx]
  omega).symm
theorem fx_uni : uni [(1, 9)] [(0, 2), (5, 9)] = [(0, 9)] := (nl_of (nm1 (by omega)) fun x hx => by
  rw [Bool.eq_iff_iff, has1 hx, Bool.or_eq_true, has1 hx, has2 hx]
  omega).symm
theorem fx_meet : meet [(1, 9)] [(0, 2), (5, 9)] = [(1, 2), (5, 9)] := (nl_of (nm2 (by omega)) fun x hx => by
  rw [Bool.eq_iff_iff, has2 hx, Bool.and_eq_true, has1 hx, has2 hx]
  omega).symm
theorem fx_compl : compl [(1, 9)] = [(0, 0), (10, 1114111)] := (nl_of (nm2 (by omega)) fun x hx => by
  have := inR_iff.1 hx
  rw [Bool.eq_iff_iff, has2 hx, Bool.not_eq_true', Bool.eq_false_iff, Ne, has1 hx]
  omega).symm
theorem fx_id : norm [(1, 9)] = [(1, 9)] := norm_id (nm1 (by omega))
theorem eqL_self (l : List Rg) : eqL l l = true := decide_eq_true rfl
theorem eqs_self (l : List Rg) : eqs l l = true := decide_eq_true rfl
theorem fx_has4 : has [(1, 9)] 4 = true := by rw [has1 rfl]; omega
theorem fx_has0 : has [(1, 9)] 0 = false := by rw [Bool.eq_false_iff, Ne, has1 rfl]; omega
theorem fx_cnt : cnt (norm [(1, 9)]) = 9 := by rw [fx_id]; rfl
theorem fx_may : eqL (norm [(1, 9)]) [(1, 9)] = true := by rw [fx_id]; exact eqL_self _

/-- the examples come out -/
def Fixed (w : World) (e : Ending) (w' : World) : Prop := e = .returned (.bool true) ∧ Below w.heap.size w w'
set_option maxHeartbeats 8000000 in
theorem fixed_any (w : World) : Calls Try.prog 10 #[] w (Fixed w) := by
  have HB := Lib.hid (Below.refl w.heap.size w)
  go_enter Try.func10, Try.ntmps10
  go_wp2_with fail
  refine (a_norm _ (Arg.lit _ [(5, 9), (1, 3), (4, 4), (8, 7)] [.int .i32 5, .int .i32 9, .int .i32 1, .int .i32 3, .int .i32 4, .int .i32 4, .int .i32 8, .int .i32 7] rfl 4 rfl (fit_of (by decide)) (by omega) _ rfl)).mono ?_
  rintro e w_1 ⟨A_1, n_1, c_1, rfl, h_1, hb_1⟩
  have hc_1 := below_lit hb_1
  replace HB := Lib.hid (HB.out.trans (hc_1.mono HB.out.size))
  rw [fx_norm] at h_1
  have HN := Lib.hid h_1
  clear h_1
  clear hb_1 hc_1
  go_wp2_with fail
  refine (a_minus _ _ (Arg.lit2 _ [.int .i32 0, .int .i32 9] _ [(0, 9)] rfl 1 rfl (fit_of (by decide)) (by omega)) (Arg.lit _ [(3, 4)] [.int .i32 3, .int .i32 4] rfl 1 rfl (fit_of (by decide)) (by omega) (w_1.heap.size + 1) (by simp))).mono ?_
  rintro e w_2 ⟨A_2, n_2, c_2, rfl, h_2, hb_2⟩
  have hc_2 := below_lit2 hb_2
  replace HN := Lib.hid (HN.out.next hc_2)
  replace HB := Lib.hid (HB.out.trans (hc_2.mono HB.out.size))
  rw [fx_minus] at h_2
  have HM := Lib.hid h_2
  clear h_2 hb_2 hc_2
  go_wp2_with fail
  refine (a_same _ _ (HN.out.ahead _) (Arg.lit _ [(1, 9)] [.int .i32 1, .int .i32 9] rfl 1 rfl (fit_of (by decide)) (by omega) _ rfl) (eqL_self _)).mono ?_
  rintro e w_3 ⟨rfl, hb_3⟩
  have hc_3 := below_lit hb_3
  replace HN := Lib.hid (HN.out.next hc_3)
  replace HM := Lib.hid (HM.out.next hc_3)
  replace HB := Lib.hid (HB.out.trans (hc_3.mono HB.out.size))
  clear hb_3 hc_3
  go_wp2_with fail
  refine (a_same _ _ (HM.out.ahead _) (Arg.lit _ [(0, 2), (5, 9)] [.int .i32 0, .int .i32 2, .int .i32 5, .int .i32 9] rfl 2 rfl (fit_of (by decide)) (by omega) _ rfl) (eqL_self _)).mono ?_
  rintro e w_4 ⟨rfl, hb_4⟩
  have hc_4 := below_lit hb_4
  replace HN := Lib.hid (HN.out.next hc_4)
  replace HM := Lib.hid (HM.out.next hc_4)
  replace HB := Lib.hid (HB.out.trans (hc_4.mono HB.out.size))
  clear hb_4 hc_4
  go_wp2_with fail
  refine (a_may _ HN.out fx_may).mono ?_
  rintro e w_5 ⟨rfl, hb_5⟩
  replace HN := Lib.hid (HN.out.next hb_5)
  replace HM := Lib.hid (HM.out.next hb_5)
  replace HB := Lib.hid (HB.out.trans (hb_5.mono HB.out.size))
  clear hb_5
  go_wp2_with fail
  refine (a_has _ HN.out 4 fx_has4).mono ?_
  rintro e w_6 ⟨rfl, hb_6⟩
  replace HN := Lib.hid (HN.out.next hb_6)
  replace HM := Lib.hid (HM.out.next hb_6)
  replace HB := Lib.hid (HB.out.trans (hb_6.mono HB.out.size))
  clear hb_6
  go_wp2_with fail
  refine (a_has _ HN.out 0 fx_has0).mono ?_
  rintro e w_7 ⟨rfl, hb_7⟩
  replace HN := Lib.hid (HN.out.next hb_7)
  replace HM := Lib.hid (HM.out.next hb_7)
  replace HB := Lib.hid (HB.out.trans (hb_7.mono HB.out.size))
  clear hb_7
  go_wp2_with fail
  refine (a_uni _ _ HN.out HM.out).mono ?_
  rintro e w_8 ⟨A_8, n_8, c_8, rfl, h_8, hb_8⟩
  replace HN := Lib.hid (HN.out.next hb_8)
  replace HM := Lib.hid (HM.out.next hb_8)
  replace HB := Lib.hid (HB.out.trans (hb_8.mono HB.out.size))
  rw [fx_uni] at h_8
  have HU := Lib.hid h_8
  clear h_8
  clear hb_8
  obtain rfl : 1 = n_8 := HU.out.len
  go_wp2_with fail
  refine (a_meet _ _ HN.out HM.out).mono ?_
  rintro e w_9 ⟨A_9, n_9, c_9, rfl, h_9, hb_9⟩
  replace HN := Lib.hid (HN.out.next hb_9)
  replace HM := Lib.hid (HM.out.next hb_9)
  replace HB := Lib.hid (HB.out.trans (hb_9.mono HB.out.size))
  rw [fx_meet] at h_9
  have HT := Lib.hid h_9
  clear h_9
  clear hb_9
  obtain rfl : 2 = n_9 := HT.out.len
  go_wp2_with fail
  refine (a_not _ HN.out).mono ?_
  rintro e w_10 ⟨A_10, n_10, c_10, rfl, h_10, hb_10⟩
  replace HN := Lib.hid (HN.out.next hb_10)
  replace HM := Lib.hid (HM.out.next hb_10)
  replace HB := Lib.hid (HB.out.trans (hb_10.mono HB.out.size))
  rw [fx_compl] at h_10
  have HV := Lib.hid h_10
  clear h_10
  clear hb_10
  obtain rfl : 2 = n_10 := HV.out.len
  go_wp2_with fail
  refine (a_count _ HN.out fx_cnt).mono ?_
  rintro e w_11 ⟨rfl, hb_11⟩
  replace HN := Lib.hid (HN.out.next hb_11)
  replace HM := Lib.hid (HM.out.next hb_11)
  replace HB := Lib.hid (HB.out.trans (hb_11.mono HB.out.size))
  clear hb_11
  go_wp2_with fail
  refine (a_equal _ _ HN.out HN.out (eqs_self _)).mono ?_
  rintro e w_12 ⟨rfl, hb_12⟩
  replace HN := Lib.hid (HN.out.next hb_12)
  replace HM := Lib.hid (HM.out.next hb_12)
  replace HB := Lib.hid (HB.out.trans (hb_12.mono HB.out.size))
  clear hb_12
  go_wp2_with fail
  go_ret
  exact ⟨rfl, HB.out⟩
end Go.Proofs.Ytldcjeljdmjneaa.Rset
