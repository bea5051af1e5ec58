/-
  Whatever two lists of ranges there are: the normal list, whether a list is its own, how many numbers it has, and whether two mean the same. Conditions: the arguments hold together at most 1048576 values.
-/
import Derived.Test.YtldcjeljdmjneaaRsetFixed
namespace Go.Proofs.Ytldcjeljdmjneaa.LawRsetNorms
open Go.ChangeShapes Go.WideShapes Go.ChangeAt Go.RowKit
open Utf (Rd Blk nums nums_len nums_append nums_one nums_get wpList_append_rd own_ne)
open Rset
set_option maxRecDepth 100000

theorem eqs_norm (a : List Rg) : eqs a (norm a) = true := decide_eq_true (norm_norm a).symm
theorem may_norm (a : List Rg) : eqL (norm (norm a)) (norm a) = true := decide_eq_true (norm_norm a)
set_option maxHeartbeats 16000000 in
theorem walk (A B : Option Addr) (a b : List Rg) (n m c d : Nat) (w : World) (hA : Arg w A n a) (hB : Arg w B m b) :
    Calls Try.prog 3 #[.slice A n c, .slice B m d] w (Law w) := by
  have HA := Lib.hid hA; have HBb := Lib.hid hB
  have HB := Lib.hid (Below.refl w.heap.size w)
  clear hA hB
  obtain ⟨p, hp⟩ : ∃ p, eqL (norm a) a = p := ⟨_, rfl⟩
  obtain ⟨q, hq⟩ : ∃ q, eqs a b = q := ⟨_, rfl⟩
  have HP := Lib.hid hp
  have HP2 := Lib.hid (show eqL a (norm a) = p by rw [← hp]; unfold eqL; rw [decide_eq_decide]; exact ⟨Eq.symm, Eq.symm⟩)
  have HQ := Lib.hid hq
  have HQ2 := Lib.hid (show eqL (norm a) (norm b) = q by rw [← hq]; rfl)
  clear hp hq
  have HCN := Lib.hid (cnt_take (norm a))
  have HNM := Lib.hid (norm_nm a)
  go_enter Try.func3, Try.ntmps3
  go_wp2_with fail
  refine (fixed_any _).mono ?_
  rintro e w_0 ⟨rfl, hb_0⟩
  replace HA := Lib.hid (HA.out.next hb_0)
  replace HBb := Lib.hid (HBb.out.next hb_0)
  replace HB := Lib.hid (HB.out.trans (hb_0.mono HB.out.size))
  clear hb_0
  go_wp2_with fail
  refine (a_rnorm _ HA.out).mono ?_
  rintro e w_1 ⟨A_1, n_1, c_1, rfl, h_1, hb_1⟩
  replace HA := Lib.hid (HA.out.next hb_1)
  replace HBb := Lib.hid (HBb.out.next hb_1)
  replace HB := Lib.hid (HB.out.trans (hb_1.mono HB.out.size))
  have HX := Lib.hid h_1
  clear h_1
  clear hb_1
  go_wp2_with fail
  refine (a_rnorm _ HBb.out).mono ?_
  rintro e w_2 ⟨A_2, n_2, c_2, rfl, h_2, hb_2⟩
  replace HA := Lib.hid (HA.out.next hb_2)
  replace HBb := Lib.hid (HBb.out.next hb_2)
  replace HX := Lib.hid (HX.out.next hb_2)
  replace HB := Lib.hid (HB.out.trans (hb_2.mono HB.out.size))
  have HY := Lib.hid h_2
  clear h_2
  clear hb_2
  have hlen : n_1 ≤ 557056 := by rw [← HX.out.len]; exact nm_len HNM.out
  obtain ⟨X, hX⟩ : ∃ X, X = norm a := ⟨_, rfl⟩
  rw [← hX] at HX HCN HNM
  have HXX := Lib.hid hX
  clear hX
  go_wp2_with fail
  go_loopw [7, 18] (fun s i wr => ∃ k : Nat, k ≤ n_1 ∧ i = .int .i64 k ∧ s = .int .i64 (cnt (X.take k)) ∧ Hid (Below w_2.heap.size w_2 wr)) (fun _ i _ => n_1 - (intOf i).toNat)
  case atStart => exact ⟨0, Nat.zero_le _, rfl, rfl, Lib.hid (Below.refl _ _)⟩
  case round =>
    obtain ⟨k, hk, rfl, rfl, HW⟩ := hrel
    by_cases hlt : k < n_1
    · have hkL : k < X.length := by rw [HX.out.len]; exact hlt
      have hR2 := HX.out.rd.below HW.out
      obtain ⟨b', o, rfl, hb⟩ := rd_form_rg hR2 (by omega)
      obtain ⟨c1, c2⟩ := rd_rg hR2 hkL
      have HT := Lib.hid (HCN.out k hkL)
      have h1 := HNM.out.ok _ (List.getElem_mem hkL)
      have h2 := nm_cnt (nm_take HNM.out (k + 1))
      have h3 := nm_cnt_nonneg (l := X.take k) (fun r hr => (HNM.out.ok r (List.mem_of_mem_take hr)).2.1)
      rw [HT.out] at h2
      generalize X[k] = r at *
      obtain ⟨r1, r2⟩ := r
      dsimp only at *
      have HS := Lib.hid HW.out.size
      have e2 : IntKind.i64.wrap (r2 - r1) = r2 - r1 := IntWalk.i64_in _ (by omega)
      have e3 : IntKind.i64.wrap (r2 - r1 + 1) = r2 - r1 + 1 := IntWalk.i64_in _ (by omega)
      have e4 : IntKind.i64.wrap (cnt (X.take k) + (r2 - r1 + 1)) = cnt (X.take k) + (r2 - r1 + 1) := IntWalk.i64_in _ (by omega)
      have e5 : IntKind.i64.wrap r1 = r1 := IntWalk.i64_in _ (by omega)
      have e6 : IntKind.i64.wrap r2 = r2 := IntWalk.i64_in _ (by omega)
      have HW2 := Lib.hid (HW.out.alloc HS.out (.cells #[.int .i32 r1, .int .i32 r2] 26))
      clear hR2 h1 h2 h3 hkL
      go_wp2_with fail
      go_roundw
      case rel => exact ⟨k + 1, by omega, by go_num, by rw [HT.out], HW2⟩
      case measure => simp [intOf]; omega
    · have hc : cnt (X.take k) = cnt (norm a) := by rw [List.take_of_length_le (by rw [HX.out.len]; omega), HXX.out]
      obtain ⟨z, hz⟩ : ∃ z, z = cnt (X.take k) := ⟨_, rfl⟩
      rw [← hz] at hc ⊢
      have HZ := Lib.hid hc.symm
      clear hc hz
      replace HA := Lib.hid (HA.out.next HW.out)
      replace HBb := Lib.hid (HBb.out.next HW.out)
      replace HX := Lib.hid (HX.out.next HW.out)
      replace HY := Lib.hid (HY.out.next HW.out)
      replace HB := Lib.hid (HB.out.trans (HW.out.mono HB.out.size))
      rw [HXX.out] at HX
      clear HW HCN HNM
      go_wp2_with fail
      refine (a_norm _ HA.out).mono ?_
      rintro e w_3 ⟨A_3, n_3, c_3, rfl, h_3, hb_3⟩
      replace HA := Lib.hid (HA.out.next hb_3)
      replace HBb := Lib.hid (HBb.out.next hb_3)
      replace HX := Lib.hid (HX.out.next hb_3)
      replace HY := Lib.hid (HY.out.next hb_3)
      replace HB := Lib.hid (HB.out.trans (hb_3.mono HB.out.size))
      have HN := Lib.hid h_3
      clear h_3
      clear hb_3
      go_wp2_with fail
      refine (a_same _ _ HN.out HX.out (eqL_self _)).mono ?_
      rintro e w_4 ⟨rfl, hb_4⟩
      replace HA := Lib.hid (HA.out.next hb_4)
      replace HBb := Lib.hid (HBb.out.next hb_4)
      replace HX := Lib.hid (HX.out.next hb_4)
      replace HY := Lib.hid (HY.out.next hb_4)
      replace HN := Lib.hid (HN.out.next hb_4)
      replace HB := Lib.hid (HB.out.trans (hb_4.mono HB.out.size))
      clear hb_4
      clear HN
      go_wp2_with fail
      refine (a_may _ HA.out HP.out).mono ?_
      rintro e w_5 ⟨rfl, hb_5⟩
      replace HA := Lib.hid (HA.out.next hb_5)
      replace HBb := Lib.hid (HBb.out.next hb_5)
      replace HX := Lib.hid (HX.out.next hb_5)
      replace HY := Lib.hid (HY.out.next hb_5)
      replace HB := Lib.hid (HB.out.trans (hb_5.mono HB.out.size))
      clear hb_5
      go_wp2_with fail
      refine (a_same _ _ HA.out HX.out HP2.out).mono ?_
      rintro e w_6 ⟨rfl, hb_6⟩
      replace HA := Lib.hid (HA.out.next hb_6)
      replace HBb := Lib.hid (HBb.out.next hb_6)
      replace HX := Lib.hid (HX.out.next hb_6)
      replace HY := Lib.hid (HY.out.next hb_6)
      replace HB := Lib.hid (HB.out.trans (hb_6.mono HB.out.size))
      clear hb_6
      go_wp2_with fail
      refine (a_count _ HA.out HZ.out).mono ?_
      rintro e w_7 ⟨rfl, hb_7⟩
      replace HA := Lib.hid (HA.out.next hb_7)
      replace HBb := Lib.hid (HBb.out.next hb_7)
      replace HX := Lib.hid (HX.out.next hb_7)
      replace HY := Lib.hid (HY.out.next hb_7)
      replace HB := Lib.hid (HB.out.trans (hb_7.mono HB.out.size))
      clear hb_7
      go_wp2_with fail
      refine (a_equal _ _ HA.out HBb.out HQ.out).mono ?_
      rintro e w_8 ⟨rfl, hb_8⟩
      replace HA := Lib.hid (HA.out.next hb_8)
      replace HBb := Lib.hid (HBb.out.next hb_8)
      replace HX := Lib.hid (HX.out.next hb_8)
      replace HY := Lib.hid (HY.out.next hb_8)
      replace HB := Lib.hid (HB.out.trans (hb_8.mono HB.out.size))
      clear hb_8
      go_wp2_with fail
      refine (a_same _ _ HX.out HY.out HQ2.out).mono ?_
      rintro e w_9 ⟨rfl, hb_9⟩
      replace HA := Lib.hid (HA.out.next hb_9)
      replace HBb := Lib.hid (HBb.out.next hb_9)
      replace HX := Lib.hid (HX.out.next hb_9)
      replace HY := Lib.hid (HY.out.next hb_9)
      replace HB := Lib.hid (HB.out.trans (hb_9.mono HB.out.size))
      clear hb_9
      go_wp2_with fail
      refine (a_equal _ _ HA.out HX.out (eqs_norm a)).mono ?_
      rintro e w_10 ⟨rfl, hb_10⟩
      replace HA := Lib.hid (HA.out.next hb_10)
      replace HBb := Lib.hid (HBb.out.next hb_10)
      replace HX := Lib.hid (HX.out.next hb_10)
      replace HY := Lib.hid (HY.out.next hb_10)
      replace HB := Lib.hid (HB.out.trans (hb_10.mono HB.out.size))
      clear hb_10
      go_wp2_with fail
      refine (a_may _ HX.out (may_norm a)).mono ?_
      rintro e w_11 ⟨rfl, hb_11⟩
      replace HA := Lib.hid (HA.out.next hb_11)
      replace HBb := Lib.hid (HBb.out.next hb_11)
      replace HX := Lib.hid (HX.out.next hb_11)
      replace HY := Lib.hid (HY.out.next hb_11)
      replace HB := Lib.hid (HB.out.trans (hb_11.mono HB.out.size))
      clear hb_11
      go_wp2_with fail
      go_ret
      exact ⟨rfl, HB.out⟩

theorem contract (H : Type) (enc : TypeId × Value → H) (W : World) (base : Nat) (args : Array Value) (ds gs : List (DataW H)) (before : List MemPlace)
    (hval : ∀ (j : Nat) t v, Try.f3.params[j]? = some t → args[j]? = some v → Value.okWide Try.prog W .any base t v)
    (hW : DataW.Whole enc Try.prog Try.f3.params.toList Rows.rsetNormsSpec.vars false W args.toList ds gs before) (hk : Rows.uptoSmall H (ds ++ gs) = true) :
    Calls Try.prog 3 args W fun e W' => ∃ v, e = .returned v ∧ Rows.rsetNormsSpec.post enc Try.prog Try.f3 false true false false W args v W' := by
  have hW' := hW
  obtain ⟨p, q, hA0, hV, rfl, hfz, hnd⟩ := hW
  have hA : DataW.TrodAll enc Try.prog W 0 (fun _ => true) true Try.f3.params.toList args.toList ds p := hA0
  rw [Try.params3] at hA hval
  obtain ⟨v0, vs0, d0, ds0, p0, q0, hargs, rfl, rfl, h0, r0⟩ := trodAll_cons hA
  obtain ⟨v1, vs1, d1, ds1, p1, q1, rfl, rfl, rfl, h1, r1⟩ := trodAll_cons r0
  obtain ⟨rfl, rfl, rfl⟩ := trodAll_nil r1
  obtain rfl : args = #[v0, v1] := by cases args; simp_all
  obtain ⟨rfl, rfl⟩ := trodVars_none hV
  obtain ⟨a0, len0, cap0, rfl⟩ := okWide_slice Try.underlying22 (hval 0 22 v0 rfl rfl)
  have k0 := h0
  have lt0 : ∀ x ∈ p0, x.block < W.heap.size := by obtain ⟨m, hm⟩ := k0; exact DataW.trod_lt m _ _ _ hm
  obtain ⟨l0, hl0, hc0, hm0, hf0, hr0, hb0⟩ := open_rgs h0
  obtain ⟨a1, len1, cap1, rfl⟩ := okWide_slice Try.underlying22 (hval 1 22 v1 rfl rfl)
  have k1 := h1
  have lt1 : ∀ x ∈ p1, x.block < W.heap.size := by obtain ⟨m, hm⟩ := k1; exact DataW.trod_lt m _ _ _ hm
  obtain ⟨l1, hl1, hc1, hm1, hf1, hr1, hb1⟩ := open_rgs h1
  have hbd := bulk_bound hk
  simp only [List.append_nil, Rows.uptoBulkAll] at hbd
  have H0 : Arg W a0 len0 l0 := ⟨hr0, hl0, hf0, by omega⟩
  have H1 : Arg W a1 len1 l1 := ⟨hr1, hl1, hf1, by omega⟩
  clear hA0
  refine (walk a0 a1 l0 l1 len0 len1 cap0 cap1 W H0 H1).mono fun e W' ⟨he, bel⟩ => ?_
  subst he
  exact ⟨_, rfl, _, _, _, [], _, [], hW', trodAll_mk1 (shut_bool Try.underlying4 _), (trodAll_cons_mk (Below.trod laidOut (by kernel_rfl) (of_decide_eq_true (by kernel_rfl)) k0 bel lt0) (trodAll_cons_mk (Below.trod laidOut (by kernel_rfl) (of_decide_eq_true (by kernel_rfl)) k1 bel lt1) trodAll_mk0)), rfl, bel.frame _, fun h => by cases h⟩

set_option maxRecDepth 100000 in
theorem lifted (os : Os) (started : os.Started) (H : Type) (enc : TypeId × Value → H) (F : Stop.Interp) :
    ReturnsInHanded {} Try.checked os 3 .any ((Rows.OpenSpec.upto Rows.rsetNormsSpec).pre6 enc Try.prog Try.f3 Rows.rsetNormsUptoRow.domain false) (((Rows.OpenSpec.upto Rows.rsetNormsSpec).at F).post enc Try.prog Try.f3 false true false false) := by
  refine returnsInHanded_of_cond (C := Try.checked) (s := Rows.OpenSpec.upto Rows.rsetNormsSpec) (k := Rows.uptoSmall) rfl own started (by kernel_rfl) Try.func3
    (OpenSpec.witness (enc := enc) (C := Try.checked) (s := Rows.OpenSpec.upto Rows.rsetNormsSpec) (k := Rows.uptoSmall) rfl false ⟨#[], #[.slice none 0 0, .slice none 0 0], []⟩ 8 (by kernel_rfl) (by kernel_rfl) (by kernel_rfl)
      (x := ([.nil, .nil], [], [])) (by kernel_rfl) rfl (by kernel_rfl)) ?_
  intro W base args ds gs before hval hW _ hk _
  exact contract H enc W base args ds gs before hval hW hk

/-- THE STATEMENT -/
theorem proved : Rows.RsetNormsUptoSaid :=
  OpenClaim.holds_of_cond 3 Try.f3 rfl rfl rfl rfl rfl rfl rfl ⟨rfl, rfl, rfl, rfl, rfl⟩ rfl rfl rfl rfl rfl (by kernel_rfl) Try.func3 (by kernel_rfl)
    (of_decide_eq_true (by kernel_rfl)) (by unfold Func.isWrapper; first | (rw [if_pos (by decide +kernel)]; kernel_rfl) | (rw [if_neg (by decide +kernel)]; exact ⟨rfl, rfl⟩))
    (fun os started H enc _ F => lifted os started H enc F)
end Go.Proofs.Ytldcjeljdmjneaa.LawRsetNorms
