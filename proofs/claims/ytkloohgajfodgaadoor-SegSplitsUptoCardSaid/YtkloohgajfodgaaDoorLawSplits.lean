/-
  Whatever bytes there are, and whatever limit: the segments, the error and the Texts are what the document says. Conditions: the argument holds at most 1048576 values; the package's tables are laid as the program's text lays them (tied).
-/
import Derived.Test.YtkloohgajfodgaaDoorNormOpens
import Derived.Test.YtkloohgajfodgaaDoorSegFixed
import Derived.Test.YtkloohgajfodgaaDoorSegDoc
namespace Go.Proofs.YtkloohgajfodgaaDoor.LawSegSplits
open Go.ChangeShapes Go.WideShapes Go.ChangeAt Go.RowKit
open Utf hiding infoI32 rd_new own_form rdec_any below_drewN new_any write_any close_any
open Ucd hiding grow same Told
open Norm hiding new_any write_any close_any pending_any pending_nil write_nil write_closed close_nil fixed_any write_at close_at
open Seg

set_option maxHeartbeats 8000000 in
set_option maxRecDepth 100000 in
theorem walk (A : Option Addr) (l : List UInt8) (n c : Nat) (lim : Int) (w : World) (hL : Laid w) (hr : Rd w w.heap.size A (bys l)) (hn : l.length = n) (hc : n ≤ c) (hcm : c ≤ 9223372036854775807) (hsm : n ≤ 1048576) :
    Calls Tryd.prog 3 #[.slice A n c, .int .i64 lim] w (Law w) := by
  have HF := Lib.hid (fixed_any w hL)
  have HL := Lib.hid hL
  have HR := Lib.hid hr
  have H1 := Lib.hid (fun (u : World) (hu : Laid u) (h : Rd u u.heap.size A (bys l)) => split_any lim l A n c u hu h hn hc hcm (by omega))
  have H2 := Lib.hid (fun (u : World) (h : Rd u u.heap.size A (bys l)) => rsplit_any lim l A n c u h hn (by omega))
  have H3 := Lib.hid (fun (u : World) (hu : Laid u) (h : Rd u u.heap.size A (bys l)) => Seg.texts_any l A n c u hu h hn hc hcm (by omega))
  have H4 := Lib.hid (fun (u : World) (h : Rd u u.heap.size A (bys l)) => all_any A l n c u h hn (by omega))
  have HTX := Lib.hid (show ((grp (dec false 0 l)).map sgOf).map Sg.t = texts l by rw [List.map_map]; rfl)
  have hg1 := grp_len false l
  have hsl : (spS lim l).length ≤ n := by
    unfold spS
    split
    · rw [List.length_map, ← hn]; exact okS_len _ l
    · simp
  have hal : ((grp (dec false 0 l)).map sgOf).length ≤ n := by rw [List.length_map, ← hn]; exact hg1
  have htl : (texts l).length ≤ n := by rw [← HTX.out, List.length_map]; exact hal
  unfold SplitAns at H1
  unfold RSplit at H2
  generalize spS lim l = S at H1 H2 hsl
  generalize spE lim l = E at H1 H2
  generalize (grp (dec false 0 l)).map sgOf = G at H4 HTX hal
  generalize texts l = TX at H3 HTX htl
  have HSS := Lib.hid (show sameS S S = true from decide_eq_true rfl)
  have HBB := Lib.hid (show sameB TX TX = true from decide_eq_true rfl)
  obtain ⟨sl, hsl2⟩ : ∃ sl, sl = S.length := ⟨_, rfl⟩
  rw [← hsl2] at hsl
  have HSL := Lib.hid hsl2
  obtain ⟨gl, hgl2⟩ : ∃ gl, gl = G.length := ⟨_, rfl⟩
  rw [← hgl2] at hal
  have HGL := Lib.hid hgl2
  obtain ⟨tl, htl2⟩ : ∃ tl, tl = TX.length := ⟨_, rfl⟩
  rw [← htl2] at htl
  have HTL := Lib.hid htl2
  have hee : (E == E) = true := by simp
  clear hL hr hn hc hsl2 hgl2 htl2 hg1
  go_enter Tryd.func3, Tryd.ntmps3
  go_wp2_with fail
  refine HF.out.mono ?_
  rintro e w1 ⟨rfl, hb1⟩
  have HB1 := Lib.hid hb1
  clear hb1 HF
  go_wp2_with fail
  refine (H1.out w1 (HL.out.next HB1.out) ((HR.out.below HB1.out).more HB1.out.size)).mono ?_
  rintro e w2 ⟨v2, rfl, ho2, hb2⟩
  rw [← HSL.out] at ho2
  obtain ⟨A2, c2, rfl, _, _, hr2⟩ := own_form ho2
  have HB2 := Lib.hid (HB1.out.trans (hb2.mono HB1.out.size))
  have HR2 := Lib.hid hr2
  clear ho2 hr2 hb2 H1
  go_wp2_with fail
  refine (H2.out w2 ((HR.out.below HB2.out).more HB2.out.size)).mono ?_
  rintro e w3 ⟨A3, n3, c3, rfl, hn3, hr3, hb3⟩
  obtain rfl : n3 = sl := hn3.trans HSL.out.symm
  have HB3 := Lib.hid (HB2.out.trans (hb3.mono HB2.out.size))
  have HR3 := Lib.hid hr3
  have HR23 := Lib.hid ((HR2.out.below hb3).more hb3.size)
  clear hn3 hr3 hb3 H2
  go_wp2_with fail
  refine (rsame_any A2 A3 S S n3 n3 c2 c3 w3 HR23.out HR3.out HSL.out.symm HSL.out.symm (by omega) (by omega)).mono ?_
  rintro e w4 ⟨rfl, k4, hw4⟩
  have HB4 := Lib.hid (show Below w.heap.size w w4 by rw [hw4]; exact below_drewN HB3.out k4)
  rw [HSS.out]
  clear hw4 HR2 HR3 HR23
  go_wp2_with fail
  refine (H3.out w4 (HL.out.next HB4.out) ((HR.out.below HB4.out).more HB4.out.size)).mono ?_
  rintro e w5 ⟨v5, rfl, ho5, hb5⟩
  rw [← HTL.out] at ho5
  obtain ⟨A5, c5, rfl, _, _, hr5⟩ := own_form ho5
  have HB5 := Lib.hid (HB4.out.trans (hb5.mono HB4.out.size))
  have HR5 := Lib.hid hr5
  clear ho5 hr5 hb5 H3
  go_wp2_with fail
  refine (H4.out w5 ((HR.out.below HB5.out).more HB5.out.size)).mono ?_
  rintro e w6 ⟨v6, rfl, ho6, hb6⟩
  rw [← HGL.out] at ho6
  obtain ⟨A6, c6, rfl, _, _, hr6⟩ := own_form ho6
  have HB6 := Lib.hid (HB5.out.trans (hb6.mono HB5.out.size))
  have HR6 := Lib.hid hr6
  have HR56 := Lib.hid ((HR5.out.below hb6).more hb6.size)
  clear ho6 hr6 hb6 H4
  go_wp2_with fail
  refine (rtexts_any A6 G gl c6 w6 HR6.out HGL.out.symm (by omega)).mono ?_
  rintro e w7 ⟨v7, rfl, ho7, hb7⟩
  rw [HTX.out, ← HTL.out] at ho7
  obtain ⟨A7, c7, rfl, _, _, hr7⟩ := own_form ho7
  have HB7 := Lib.hid (HB6.out.trans (hb7.mono HB6.out.size))
  have HR7 := Lib.hid hr7
  have HR57 := Lib.hid ((HR56.out.below hb7).more hb7.size)
  clear ho7 hr7 hb7
  go_wp2_with fail
  refine (sameTexts_any A5 A7 TX TX tl tl c5 c7 w7 HR57.out HR7.out HTL.out.symm HTL.out.symm (by omega) (by omega)).mono ?_
  rintro e w8 ⟨rfl, k8, hw8⟩
  have HB8 := Lib.hid (show Below w.heap.size w w8 by rw [hw8]; exact below_drewN HB7.out k8)
  rw [HBB.out]
  clear hw8
  go_wp2_with fail
  go_ret
  exact ⟨rfl, HB8.out⟩

set_option maxRecDepth 100000 in
theorem contract (H : Type) (enc : TypeId × Value → H) (W : World) (base : Nat) (args : Array Value) (ds gs : List (DataW H)) (before : List MemPlace)
    (hval : ∀ (j : Nat) t v, Tryd.f3.params[j]? = some t → args[j]? = some v → Value.okWide Tryd.prog W .any base t v)
    (hW : DataW.Whole enc Tryd.prog Tryd.f3.params.toList Rows.segSplitsSpec.vars false W args.toList ds gs before) (hLL : laidMetH Tryd.prog Rows.segSplitsUptoRow.laid W) (hk : Rows.uptoSmall H (ds ++ gs) = true) :
    Calls Tryd.prog 3 args W fun e W' => ∃ v, e = .returned v ∧ Rows.segSplitsSpec.post enc Tryd.prog Tryd.f3 false true false false W args v W' := by
  have hL : Laid W := laid_of hLL
  have hW' := hW
  obtain ⟨p, q, hA0, hV, rfl, hfz, hnd⟩ := hW
  have hA : DataW.TrodAll enc Tryd.prog W 0 (fun _ => true) true Tryd.f3.params.toList args.toList ds p := hA0
  rw [Tryd.params3] at hA hval
  obtain ⟨v0, vs0, d0, ds0, p0, q0, hargs, rfl, rfl, h0, r0⟩ := trodAll_cons hA
  obtain ⟨v1, vs1, d1, ds1, p1, q1, rfl, rfl, rfl, h1, r1⟩ := trodAll_cons r0
  obtain ⟨rfl, rfl, rfl⟩ := trodAll_nil r1
  obtain rfl : args = #[v0, v1] := by cases args; simp_all
  obtain ⟨rfl, rfl⟩ := trodVars_none hV
  obtain ⟨a0, len0, cap0, rfl⟩ := okWide_slice Tryd.underlying22 (hval 0 22 v0 rfl rfl)
  have k0 := h0
  have lt0 : ∀ x ∈ p0, x.block < W.heap.size := by obtain ⟨m, hm⟩ := k0; exact DataW.trod_lt m _ _ _ hm
  obtain ⟨l0, hl0, hc0, hm0, hr0, hb0⟩ := open_bytes h0
  obtain ⟨z1, rfl, rfl, rfl, w1⟩ := open_int Tryd.underlying3 (hval 1 3 v1 rfl rfl) h1
  have hbd := bulk_bound hk
  simp only [List.append_nil, Rows.uptoBulkAll] at hbd
  clear hA0
  refine (walk a0 l0 len0 cap0 z1 W hL hr0 hl0 hc0 hm0 (by omega)).mono fun e W' ⟨he, bel⟩ => ?_
  subst he
  exact ⟨_, rfl, _, _, _, [], _, [], hW', trodAll_mk1 (shut_bool Tryd.underlying4 _), (trodAll_cons_mk (Below.trod laidOut (by kernel_rfl) (of_decide_eq_true (by kernel_rfl)) k0 bel lt0) (trodAll_cons_mk (shut_int Tryd.underlying3 w1) trodAll_mk0)), rfl, bel.frame _, fun h => by cases h⟩

set_option maxRecDepth 100000 in
theorem laid_met (os : Os) : laidMet Tryd.prog Rows.segSplitsUptoRow.laid ((laidWorld os).forCall (fun _ _ => 0) ⟨#[], #[.slice none 0 0, .int .i64 0], []⟩).memory :=
  laidMet_of_run' 8 (by kernel_rfl) (by kernel_rfl)
set_option maxRecDepth 100000 in
theorem reads (os : Os) {H : Type} (enc : TypeId × Value → H) : ∃ places, DataW.whole enc Tryd.prog ((laidWorld os).forCall (fun _ _ => 0) ⟨#[], #[.slice none 0 0, .int .i64 0], []⟩).memory Tryd.f3.params.toList Rows.segSplitsSpec.vars false (#[.slice none 0 0, .int .i64 0] : Array Value).toList 8 = some ([.nil, .lit (.int .i64 0)], [], places) :=
  ⟨[], by kernel_rfl⟩

set_option maxRecDepth 100000 in
theorem lifted (os : Os) (started : os.Started) (H : Type) (enc : TypeId × Value → H) (F : Stop.Interp) :
    ReturnsInHanded {} Tryd.checked os 3 .any ((Rows.OpenSpec.upto Rows.segSplitsSpec).preRow enc Tryd.prog Tryd.f3 Rows.segSplitsUptoRow.domain false Rows.segSplitsUptoRow.laid) (((Rows.OpenSpec.upto Rows.segSplitsSpec).at F).post enc Tryd.prog Tryd.f3 false true false false) := by
  obtain ⟨places, hx⟩ := reads os enc
  refine returnsInHanded_of_row (C := Tryd.checked) (s := Rows.OpenSpec.upto Rows.segSplitsSpec) own started (by kernel_rfl) Tryd.func3
    (witness_row_at (enc := enc) (C := Tryd.checked) false (laidWorld os) #[.slice none 0 0, .int .i64 0] rfl (by kernel_rfl) (by kernel_rfl) (by kernel_rfl)
      (OpenSpec.preRow_of_cond 8 hx (by kernel_rfl) (fun k hk => by cases hk; kernel_rfl) (by kernel_rfl) (laid_met os))) ?_
  intro W base args ds gs before hval hW _ hcond _ hL _ _
  exact contract H enc W base args ds gs before hval hW hL (hcond _ rfl)

set_option maxRecDepth 100000 in
theorem said : Rows.SegSplitsUptoSaid :=
  OpenClaim.holds_of_cond 3 Tryd.f3 rfl rfl rfl rfl rfl rfl rfl ⟨rfl, rfl, rfl, rfl, rfl⟩ rfl rfl rfl rfl rfl (by kernel_rfl) Tryd.func3 (by kernel_rfl)
    (of_decide_eq_true (by kernel_rfl)) (by unfold Func.isWrapper; first | (rw [if_pos (by decide +kernel)]; kernel_rfl) | (rw [if_neg (by decide +kernel)]; exact ⟨rfl, rfl⟩))
    (fun os started H enc _ F => by rw [OpenClaim.pre_eq_preRow]; exact lifted os started H enc F)

set_option maxRecDepth 100000 in
/-- no parameter wants a stand-in; the program's own looks are off -/
theorem plain (f : FuncId) (fn : Func) (hf : Tryd.pinned.checked.prog.funcNamed Rows.segSplitsUptoRow.func = some f) (hfn : Tryd.pinned.checked.prog.funcs[f]? = some fn) :
    false = Tryd.pinned.checked.prog.looks [] ∧ ∀ (j : Nat) t, fn.params[j]? = some t → Tryd.pinned.checked.prog.wantsStandIn t = false := by
  obtain rfl : f = 3 := Option.some.inj ((show Tryd.prog.funcNamed Rows.segSplitsUptoRow.func = some 3 by kernel_rfl).symm.trans hf) |>.symm
  obtain rfl : fn = Tryd.f3 := (Option.some.inj (Tryd.func3.symm.trans hfn)).symm
  refine ⟨by kernel_rfl, fun j t ht => ?_⟩
  rw [Tryd.params3] at ht
  have hm := Array.mem_of_getElem? ht
  simp only [List.mem_toArray, List.mem_cons, List.not_mem_nil, or_false] at hm
  rcases hm with rfl | rfl
  all_goals first | exact (show Tryd.prog.wantsStandIn 22 = false by kernel_rfl) | exact (show Tryd.prog.wantsStandIn 3 = false by kernel_rfl)

set_option maxRecDepth 100000 in
/-- THE STATEMENT -/
theorem proved : Rows.SegSplitsUptoCardSaid :=
  Claim7.holds_tied_plain_at .later [] _ _ _ _ said (fun _ h => by cases h) (by kernel_rfl) (fun _ h => by cases h) segSplitsUpto_row_tie rfl ⟨rfl, rfl⟩ (by kernel_rfl) rfl plain (by kernel_rfl)
end Go.Proofs.YtkloohgajfodgaaDoor.LawSegSplits
