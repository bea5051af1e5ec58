/-
  Whatever two lists of ranges there are: what rset tells of them together, in common, of one without the other, and of what one has not, is what the document tells. Conditions: the arguments hold together at most 1048576 values.
-/
import Derived.Test.YtldcjeljdmjneaaRsetFixed
namespace Go.Proofs.Ytldcjeljdmjneaa.LawRsetOps
open Go.ChangeShapes Go.WideShapes Go.ChangeAt Go.RowKit
open Utf (Rd Blk nums nums_len nums_append nums_one nums_get wpList_append_rd own_ne)
open Rset
set_option maxRecDepth 100000

set_option maxHeartbeats 16000000 in
theorem walk (A B : Option Addr) (a b : List Rg) (n m c d : Nat) (w : World) (hA : Arg w A n a) (hB : Arg w B m b) :
    Calls Try.prog 4 #[.slice A n c, .slice B m d] w (Law w) := by
  have HA := Lib.hid hA; have HBb := Lib.hid hB
  have HB := Lib.hid (Below.refl w.heap.size w)
  clear hA hB
  go_enter Try.func4, Try.ntmps4
  go_wp2_with fail
  refine (fixed_any _).mono ?_
  rintro e w_0 ⟨rfl, hb_0⟩
  replace HA := Lib.hid (HA.out.next hb_0)
  replace HBb := Lib.hid (HBb.out.next hb_0)
  replace HB := Lib.hid (HB.out.trans (hb_0.mono HB.out.size))
  clear hb_0
  go_wp2_with fail
  refine (a_uni _ _ HA.out HBb.out).mono ?_
  rintro e w_1 ⟨A_1, n_1, c_1, rfl, h_1, hb_1⟩
  replace HA := Lib.hid (HA.out.next hb_1)
  replace HBb := Lib.hid (HBb.out.next hb_1)
  replace HB := Lib.hid (HB.out.trans (hb_1.mono HB.out.size))
  have HX0 := Lib.hid h_1
  clear h_1
  clear hb_1
  go_wp2_with fail
  refine (a_runi _ _ HA.out HBb.out).mono ?_
  rintro e w_2 ⟨A_2, n_2, c_2, rfl, h_2, hb_2⟩
  replace HA := Lib.hid (HA.out.next hb_2)
  replace HBb := Lib.hid (HBb.out.next hb_2)
  replace HX0 := Lib.hid (HX0.out.next hb_2)
  replace HB := Lib.hid (HB.out.trans (hb_2.mono HB.out.size))
  have HY0 := Lib.hid h_2
  clear h_2
  clear hb_2
  go_wp2_with fail
  refine (a_same _ _ HX0.out HY0.out (eqL_self _)).mono ?_
  rintro e w_3 ⟨rfl, hb_3⟩
  replace HA := Lib.hid (HA.out.next hb_3)
  replace HBb := Lib.hid (HBb.out.next hb_3)
  replace HX0 := Lib.hid (HX0.out.next hb_3)
  replace HY0 := Lib.hid (HY0.out.next hb_3)
  replace HB := Lib.hid (HB.out.trans (hb_3.mono HB.out.size))
  clear hb_3
  clear HX0 HY0
  go_wp2_with fail
  refine (a_meet _ _ HA.out HBb.out).mono ?_
  rintro e w_4 ⟨A_4, n_4, c_4, rfl, h_4, hb_4⟩
  replace HA := Lib.hid (HA.out.next hb_4)
  replace HBb := Lib.hid (HBb.out.next hb_4)
  replace HB := Lib.hid (HB.out.trans (hb_4.mono HB.out.size))
  have HX1 := Lib.hid h_4
  clear h_4
  clear hb_4
  go_wp2_with fail
  refine (a_rmeet _ _ HA.out HBb.out).mono ?_
  rintro e w_5 ⟨A_5, n_5, c_5, rfl, h_5, hb_5⟩
  replace HA := Lib.hid (HA.out.next hb_5)
  replace HBb := Lib.hid (HBb.out.next hb_5)
  replace HX1 := Lib.hid (HX1.out.next hb_5)
  replace HB := Lib.hid (HB.out.trans (hb_5.mono HB.out.size))
  have HY1 := Lib.hid h_5
  clear h_5
  clear hb_5
  go_wp2_with fail
  refine (a_same _ _ HX1.out HY1.out (eqL_self _)).mono ?_
  rintro e w_6 ⟨rfl, hb_6⟩
  replace HA := Lib.hid (HA.out.next hb_6)
  replace HBb := Lib.hid (HBb.out.next hb_6)
  replace HX1 := Lib.hid (HX1.out.next hb_6)
  replace HY1 := Lib.hid (HY1.out.next hb_6)
  replace HB := Lib.hid (HB.out.trans (hb_6.mono HB.out.size))
  clear hb_6
  clear HX1 HY1
  go_wp2_with fail
  refine (a_minus _ _ HA.out HBb.out).mono ?_
  rintro e w_7 ⟨A_7, n_7, c_7, rfl, h_7, hb_7⟩
  replace HA := Lib.hid (HA.out.next hb_7)
  replace HBb := Lib.hid (HBb.out.next hb_7)
  replace HB := Lib.hid (HB.out.trans (hb_7.mono HB.out.size))
  have HX2 := Lib.hid h_7
  clear h_7
  clear hb_7
  go_wp2_with fail
  refine (a_rminus _ _ HA.out HBb.out).mono ?_
  rintro e w_8 ⟨A_8, n_8, c_8, rfl, h_8, hb_8⟩
  replace HA := Lib.hid (HA.out.next hb_8)
  replace HBb := Lib.hid (HBb.out.next hb_8)
  replace HX2 := Lib.hid (HX2.out.next hb_8)
  replace HB := Lib.hid (HB.out.trans (hb_8.mono HB.out.size))
  have HY2 := Lib.hid h_8
  clear h_8
  clear hb_8
  go_wp2_with fail
  refine (a_same _ _ HX2.out HY2.out (eqL_self _)).mono ?_
  rintro e w_9 ⟨rfl, hb_9⟩
  replace HA := Lib.hid (HA.out.next hb_9)
  replace HBb := Lib.hid (HBb.out.next hb_9)
  replace HX2 := Lib.hid (HX2.out.next hb_9)
  replace HY2 := Lib.hid (HY2.out.next hb_9)
  replace HB := Lib.hid (HB.out.trans (hb_9.mono HB.out.size))
  clear hb_9
  clear HX2 HY2
  go_wp2_with fail
  refine (a_not _ HA.out).mono ?_
  rintro e w_10 ⟨A_10, n_10, c_10, rfl, h_10, hb_10⟩
  replace HA := Lib.hid (HA.out.next hb_10)
  replace HBb := Lib.hid (HBb.out.next hb_10)
  replace HB := Lib.hid (HB.out.trans (hb_10.mono HB.out.size))
  have HX3 := Lib.hid h_10
  clear h_10
  clear hb_10
  go_wp2_with fail
  refine (a_rnot _ HA.out).mono ?_
  rintro e w_11 ⟨A_11, n_11, c_11, rfl, h_11, hb_11⟩
  replace HA := Lib.hid (HA.out.next hb_11)
  replace HBb := Lib.hid (HBb.out.next hb_11)
  replace HX3 := Lib.hid (HX3.out.next hb_11)
  replace HB := Lib.hid (HB.out.trans (hb_11.mono HB.out.size))
  have HY3 := Lib.hid h_11
  clear h_11
  clear hb_11
  go_wp2_with fail
  refine (a_same _ _ HX3.out HY3.out (eqL_self _)).mono ?_
  rintro e w_12 ⟨rfl, hb_12⟩
  replace HA := Lib.hid (HA.out.next hb_12)
  replace HBb := Lib.hid (HBb.out.next hb_12)
  replace HX3 := Lib.hid (HX3.out.next hb_12)
  replace HY3 := Lib.hid (HY3.out.next hb_12)
  replace HB := Lib.hid (HB.out.trans (hb_12.mono HB.out.size))
  clear hb_12
  go_wp2_with fail
  go_ret
  exact ⟨rfl, HB.out⟩

theorem contract (H : Type) (enc : TypeId × Value → H) (W : World) (base : Nat) (args : Array Value) (ds gs : List (DataW H)) (before : List MemPlace)
    (hval : ∀ (j : Nat) t v, Try.f4.params[j]? = some t → args[j]? = some v → Value.okWide Try.prog W .any base t v)
    (hW : DataW.Whole enc Try.prog Try.f4.params.toList Rows.rsetOpsSpec.vars false W args.toList ds gs before) (hk : Rows.uptoSmall H (ds ++ gs) = true) :
    Calls Try.prog 4 args W fun e W' => ∃ v, e = .returned v ∧ Rows.rsetOpsSpec.post enc Try.prog Try.f4 false true false false W args v W' := by
  have hW' := hW
  obtain ⟨p, q, hA0, hV, rfl, hfz, hnd⟩ := hW
  have hA : DataW.TrodAll enc Try.prog W 0 (fun _ => true) true Try.f4.params.toList args.toList ds p := hA0
  rw [Try.params4] at hA hval
  obtain ⟨v0, vs0, d0, ds0, p0, q0, hargs, rfl, rfl, h0, r0⟩ := trodAll_cons hA
  obtain ⟨v1, vs1, d1, ds1, p1, q1, rfl, rfl, rfl, h1, r1⟩ := trodAll_cons r0
  obtain ⟨rfl, rfl, rfl⟩ := trodAll_nil r1
  obtain rfl : args = #[v0, v1] := by cases args; simp_all
  obtain ⟨rfl, rfl⟩ := trodVars_none hV
  obtain ⟨a0, len0, cap0, rfl⟩ := okWide_slice Try.underlying22 (hval 0 22 v0 rfl rfl)
  have k0 := h0
  have lt0 : ∀ x ∈ p0, x.block < W.heap.size := by obtain ⟨m, hm⟩ := k0; exact DataW.trod_lt m _ _ _ hm
  obtain ⟨l0, hl0, hc0, hm0, hf0, hr0, hb0⟩ := open_rgs h0
  obtain ⟨a1, len1, cap1, rfl⟩ := okWide_slice Try.underlying22 (hval 1 22 v1 rfl rfl)
  have k1 := h1
  have lt1 : ∀ x ∈ p1, x.block < W.heap.size := by obtain ⟨m, hm⟩ := k1; exact DataW.trod_lt m _ _ _ hm
  obtain ⟨l1, hl1, hc1, hm1, hf1, hr1, hb1⟩ := open_rgs h1
  have hbd := bulk_bound hk
  simp only [List.append_nil, Rows.uptoBulkAll] at hbd
  have H0 : Arg W a0 len0 l0 := ⟨hr0, hl0, hf0, by omega⟩
  have H1 : Arg W a1 len1 l1 := ⟨hr1, hl1, hf1, by omega⟩
  clear hA0
  refine (walk a0 a1 l0 l1 len0 len1 cap0 cap1 W H0 H1).mono fun e W' ⟨he, bel⟩ => ?_
  subst he
  exact ⟨_, rfl, _, _, _, [], _, [], hW', trodAll_mk1 (shut_bool Try.underlying4 _), (trodAll_cons_mk (Below.trod laidOut (by kernel_rfl) (of_decide_eq_true (by kernel_rfl)) k0 bel lt0) (trodAll_cons_mk (Below.trod laidOut (by kernel_rfl) (of_decide_eq_true (by kernel_rfl)) k1 bel lt1) trodAll_mk0)), rfl, bel.frame _, fun h => by cases h⟩

set_option maxRecDepth 100000 in
theorem lifted (os : Os) (started : os.Started) (H : Type) (enc : TypeId × Value → H) (F : Stop.Interp) :
    ReturnsInHanded {} Try.checked os 4 .any ((Rows.OpenSpec.upto Rows.rsetOpsSpec).pre6 enc Try.prog Try.f4 Rows.rsetOpsUptoRow.domain false) (((Rows.OpenSpec.upto Rows.rsetOpsSpec).at F).post enc Try.prog Try.f4 false true false false) := by
  refine returnsInHanded_of_cond (C := Try.checked) (s := Rows.OpenSpec.upto Rows.rsetOpsSpec) (k := Rows.uptoSmall) rfl own started (by kernel_rfl) Try.func4
    (OpenSpec.witness (enc := enc) (C := Try.checked) (s := Rows.OpenSpec.upto Rows.rsetOpsSpec) (k := Rows.uptoSmall) rfl false ⟨#[], #[.slice none 0 0, .slice none 0 0], []⟩ 8 (by kernel_rfl) (by kernel_rfl) (by kernel_rfl)
      (x := ([.nil, .nil], [], [])) (by kernel_rfl) rfl (by kernel_rfl)) ?_
  intro W base args ds gs before hval hW _ hk _
  exact contract H enc W base args ds gs before hval hW hk

/-- THE STATEMENT -/
theorem proved : Rows.RsetOpsUptoSaid :=
  OpenClaim.holds_of_cond 4 Try.f4 rfl rfl rfl rfl rfl rfl rfl ⟨rfl, rfl, rfl, rfl, rfl⟩ rfl rfl rfl rfl rfl (by kernel_rfl) Try.func4 (by kernel_rfl)
    (of_decide_eq_true (by kernel_rfl)) (by unfold Func.isWrapper; first | (rw [if_pos (by decide +kernel)]; kernel_rfl) | (rw [if_neg (by decide +kernel)]; exact ⟨rfl, rfl⟩))
    (fun os started H enc _ F => lifted os started H enc F)
end Go.Proofs.Ytldcjeljdmjneaa.LawRsetOps
