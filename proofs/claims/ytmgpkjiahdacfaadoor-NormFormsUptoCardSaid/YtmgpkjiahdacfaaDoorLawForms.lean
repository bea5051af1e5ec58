/-
  Whatever numbers there are: their normal form is what the document says, and so is whether a list is its own, and whether two have the same. Conditions: the arguments hold at most 1048576 values; the package's tables are laid as the program's text lays them (tied).
-/
import Derived.Test.YtmgpkjiahdacfaaDoorNormOpen
namespace Go.Proofs.YtmgpkjiahdacfaaDoor.LawNormForms
open Go.ChangeShapes Go.WideShapes Go.ChangeAt Go.RowKit
open Utf hiding infoI32 rd_new own_form rdec_any below_drewN new_any write_any close_any
open Ucd hiding grow same Told
open Norm

set_option maxHeartbeats 8000000 in
theorem walk (A B : Option Addr) (l m : List Int) (n k c d : Nat) (w : World) (hL : Laid w) (hr : Rd w w.heap.size A (nums l)) (hs : Rd w w.heap.size B (nums m)) (hn : l.length = n) (hk : m.length = k) (hsm : n ≤ 1048576) (hsk : k ≤ 1048576) :
    Calls Tryd.prog 3 #[.slice A n c, .slice B k d] w (Law w) := by
  have HN := Lib.hid hn
  have HK := Lib.hid hk
  have HF := Lib.hid (fixed_any w hL)
  have HL := Lib.hid hL
  have HR := Lib.hid hr
  have HS := Lib.hid hs
  have HX := Lib.hid (show (normal l).length ≤ 1099511627776 by have := nf_len (fulls l); have := fulls_len l; unfold normal; omega)
  have HY := Lib.hid (show (normal m).length ≤ 1099511627776 by have := nf_len (fulls m); have := fulls_len m; unfold normal; omega)
  clear hn hk hL hr hs
  go_enter Tryd.func3, Tryd.ntmps3
  go_wp2_with fail
  refine HF.out.mono ?_
  rintro e w1 ⟨rfl, hb1⟩
  have HB1 := Lib.hid hb1
  clear hb1 HF
  go_wp2_with fail
  refine (rnormal_any A l n c w1 ((HR.out.below HB1.out).more HB1.out.size) HN.out (by omega)).mono ?_
  rintro e w2 ⟨v2, rfl, ho2, hb2⟩
  obtain ⟨A2, c2, rfl, _, _, hr2⟩ := own_form ho2
  have HB2 := Lib.hid (HB1.out.trans (hb2.mono HB1.out.size)); have HR2 := Lib.hid hr2
  clear ho2 hr2 hb2
  go_wp2_with fail
  refine (rnormal_any B m k d w2 ((HS.out.below HB2.out).more HB2.out.size) HK.out (by omega)).mono ?_
  rintro e w3 ⟨v3, rfl, ho3, hb3⟩
  obtain ⟨A3, c3, rfl, _, _, hr3⟩ := own_form ho3
  have HB3 := Lib.hid (HB2.out.trans (hb3.mono HB2.out.size)); have HR3 := Lib.hid hr3; have HR23 := Lib.hid ((HR2.out.below hb3).more hb3.size)
  have HL3 := Lib.hid (HL.out.below HB3.out HL.out.size)
  clear ho3 hr3 hb3 HR2
  go_wp2_with fail
  refine (normal_any A l n c w3 HL3.out ((HR.out.below HB3.out).more HB3.out.size) HN.out (by omega)).mono ?_
  rintro e w4 ⟨v4, rfl, ho4, hb4⟩
  obtain ⟨A4, c4, rfl, _, _, hr4⟩ := own_form ho4
  have HB4 := Lib.hid (HB3.out.trans (hb4.mono HB3.out.size)); have HR4 := Lib.hid hr4; have HR24 := Lib.hid ((HR23.out.below hb4).more hb4.size); have HR34 := Lib.hid ((HR3.out.below hb4).more hb4.size)
  clear ho4 hr4 hb4 HR23 HR3
  have hxx : Ucd.same (normal l) (normal l) = true := decide_eq_true rfl
  have HXX := Lib.hid hxx
  clear hxx
  go_wp2_with fail
  refine (same_any A4 A2 (normal l) (normal l) _ _ c4 c2 w4 HR4.out HR24.out rfl rfl HX.out HX.out).mono ?_
  rintro e w5 ⟨rfl, q5, hw5⟩
  have hb5 : Below w4.heap.size w4 w5 := by rw [hw5]; exact below_drewN (Below.refl _ _) q5
  have HB5 := Lib.hid (HB4.out.trans (hb5.mono HB4.out.size)); have HR25 := Lib.hid ((HR24.out.below hb5).more hb5.size); have HR35 := Lib.hid ((HR34.out.below hb5).more hb5.size)
  have HL5 := Lib.hid (HL.out.below HB5.out HL.out.size)
  clear hb5 hw5 HR4 HR24 HR34
  rw [HXX.out]
  go_wp2_with fail
  refine (is_any A l n c w5 HL5.out ((HR.out.below HB5.out).more HB5.out.size) HN.out (by omega)).mono ?_
  rintro e w6 ⟨rfl, hb6⟩
  have HB6 := Lib.hid (HB5.out.trans (hb6.mono HB5.out.size)); have HR26 := Lib.hid ((HR25.out.below hb6).more hb6.size); have HR36 := Lib.hid ((HR35.out.below hb6).more hb6.size)
  clear hb6 HR25 HR35
  go_wp2_with fail
  refine (same_any A2 A (normal l) l _ n c2 c w6 HR26.out ((HR.out.below HB6.out).more HB6.out.size) rfl HN.out HX.out (by omega)).mono ?_
  rintro e w7 ⟨rfl, q7, hw7⟩
  have hb7 : Below w6.heap.size w6 w7 := by rw [hw7]; exact below_drewN (Below.refl _ _) q7
  have HB7 := Lib.hid (HB6.out.trans (hb7.mono HB6.out.size)); have HR27 := Lib.hid ((HR26.out.below hb7).more hb7.size); have HR37 := Lib.hid ((HR36.out.below hb7).more hb7.size)
  have HL7 := Lib.hid (HL.out.below HB7.out HL.out.size)
  have hee : ∀ b : Bool, (b == b) = true := fun b => by cases b <;> rfl
  have he1 := hee (Ucd.same (normal l) l)
  have he2 := hee (Ucd.same (normal l) (normal m))
  generalize Ucd.same (normal l) l = b1 at he1 ⊢
  clear hb7 hw7 HR26 HR36 hee
  go_wp2_with fail
  refine (same2_any A B l m n k c d w7 HL7.out ((HR.out.below HB7.out).more HB7.out.size) ((HS.out.below HB7.out).more HB7.out.size) HN.out HK.out (by omega) (by omega)).mono ?_
  rintro e w8 ⟨rfl, hb8⟩
  have HB8 := Lib.hid (HB7.out.trans (hb8.mono HB7.out.size)); have HR28 := Lib.hid ((HR27.out.below hb8).more hb8.size); have HR38 := Lib.hid ((HR37.out.below hb8).more hb8.size)
  clear hb8 HR27 HR37
  have HSM := Lib.hid (fun (u : World) (h1 : Rd u u.heap.size A2 (nums (normal l))) (h2 : Rd u u.heap.size A3 (nums (normal m))) => same_any A2 A3 (normal l) (normal m) _ _ c2 c3 u h1 h2 rfl rfl HX.out HY.out)
  generalize Ucd.same (normal l) (normal m) = b2 at he2 HSM ⊢
  go_wp2_with fail
  refine (HSM.out w8 HR28.out HR38.out).mono ?_
  rintro e w9 ⟨rfl, q9, hw9⟩
  have HB9 := Lib.hid (show Below w.heap.size w w9 by rw [hw9]; exact below_drewN HB8.out q9)
  clear hw9
  go_wp2_with fail
  go_ret
  exact ⟨rfl, HB9.out⟩

theorem contract (H : Type) (enc : TypeId × Value → H) (W : World) (base : Nat) (args : Array Value) (ds gs : List (DataW H)) (before : List MemPlace)
    (hval : ∀ (j : Nat) t v, Tryd.f3.params[j]? = some t → args[j]? = some v → Value.okWide Tryd.prog W .any base t v)
    (hW : DataW.Whole enc Tryd.prog Tryd.f3.params.toList Rows.normFormsSpec.vars false W args.toList ds gs before) (hLL : laidMetH Tryd.prog Rows.normFormsUptoRow.laid W) (hk : Rows.uptoSmall H (ds ++ gs) = true) :
    Calls Tryd.prog 3 args W fun e W' => ∃ v, e = .returned v ∧ Rows.normFormsSpec.post enc Tryd.prog Tryd.f3 false true false false W args v W' := by
  have hL : Laid W := laid_of hLL
  have hW' := hW
  obtain ⟨p, q, hA0, hV, rfl, hfz, hnd⟩ := hW
  have hA : DataW.TrodAll enc Tryd.prog W 0 (fun _ => true) true Tryd.f3.params.toList args.toList ds p := hA0
  rw [Tryd.params3] at hA hval
  obtain ⟨v0, vs0, d0, ds0, p0, q0, hargs, rfl, rfl, h0, r0⟩ := trodAll_cons hA
  obtain ⟨v1, vs1, d1, ds1, p1, q1, rfl, rfl, rfl, h1, r1⟩ := trodAll_cons r0
  obtain ⟨rfl, rfl, rfl⟩ := trodAll_nil r1
  obtain rfl : args = #[v0, v1] := by cases args; simp_all
  obtain ⟨rfl, rfl⟩ := trodVars_none hV
  obtain ⟨a0, len0, cap0, rfl⟩ := okWide_slice Tryd.underlying22 (hval 0 22 v0 rfl rfl)
  have k0 := h0
  have lt0 : ∀ x ∈ p0, x.block < W.heap.size := by obtain ⟨m, hm⟩ := k0; exact DataW.trod_lt m _ _ _ hm
  obtain ⟨l0, hl0, hc0, hm0, hw0, hr0, hb0, hd0⟩ := open_nums h0
  obtain ⟨a1, len1, cap1, rfl⟩ := okWide_slice Tryd.underlying22 (hval 1 22 v1 rfl rfl)
  have k1 := h1
  have lt1 : ∀ x ∈ p1, x.block < W.heap.size := by obtain ⟨m, hm⟩ := k1; exact DataW.trod_lt m _ _ _ hm
  obtain ⟨l1, hl1, hc1, hm1, hw1, hr1, hb1, hd1⟩ := open_nums h1
  have hbd := bulk_bound hk
  simp only [List.append_nil, Rows.uptoBulkAll] at hbd
  clear hA0
  refine (walk a0 a1 l0 l1 len0 len1 cap0 cap1 W hL hr0 hr1 hl0 hl1 (by omega) (by omega)).mono fun e W' ⟨he, bel⟩ => ?_
  subst he
  exact ⟨_, rfl, _, _, _, [], _, [], hW', trodAll_mk1 (shut_bool Tryd.underlying4 _), (trodAll_cons_mk (Below.trod laidOut (by kernel_rfl) (of_decide_eq_true (by kernel_rfl)) k0 bel lt0) (trodAll_cons_mk (Below.trod laidOut (by kernel_rfl) (of_decide_eq_true (by kernel_rfl)) k1 bel lt1) trodAll_mk0)), rfl, bel.frame _, fun h => by cases h⟩

theorem laid_met (os : Os) : laidMet Tryd.prog Rows.normFormsUptoRow.laid ((laidWorld os).forCall (fun _ _ => 0) ⟨#[], #[.slice none 0 0, .slice none 0 0], []⟩).memory :=
  laidMet_of_run' 8 (by kernel_rfl) (by kernel_rfl)
theorem reads (os : Os) {H : Type} (enc : TypeId × Value → H) : ∃ places, DataW.whole enc Tryd.prog ((laidWorld os).forCall (fun _ _ => 0) ⟨#[], #[.slice none 0 0, .slice none 0 0], []⟩).memory Tryd.f3.params.toList Rows.normFormsSpec.vars false (#[.slice none 0 0, .slice none 0 0] : Array Value).toList 8 = some ([.nil, .nil], [], places) :=
  ⟨[], by kernel_rfl⟩

set_option maxRecDepth 100000 in
theorem lifted (os : Os) (started : os.Started) (H : Type) (enc : TypeId × Value → H) (F : Stop.Interp) :
    ReturnsInHanded {} Tryd.checked os 3 .any ((Rows.OpenSpec.upto Rows.normFormsSpec).preRow enc Tryd.prog Tryd.f3 Rows.normFormsUptoRow.domain false Rows.normFormsUptoRow.laid) (((Rows.OpenSpec.upto Rows.normFormsSpec).at F).post enc Tryd.prog Tryd.f3 false true false false) := by
  obtain ⟨places, hx⟩ := reads os enc
  refine returnsInHanded_of_row (C := Tryd.checked) (s := Rows.OpenSpec.upto Rows.normFormsSpec) own started (by kernel_rfl) Tryd.func3
    (witness_row_at (enc := enc) (C := Tryd.checked) false (laidWorld os) #[.slice none 0 0, .slice none 0 0] rfl (by kernel_rfl) (by kernel_rfl) (by kernel_rfl)
      (OpenSpec.preRow_of_cond 8 hx (by kernel_rfl) (fun k hk => by cases hk; kernel_rfl) (by kernel_rfl) (laid_met os))) ?_
  intro W base args ds gs before hval hW _ hcond _ hL _ _
  exact contract H enc W base args ds gs before hval hW hL (hcond _ rfl)

theorem said : Rows.NormFormsUptoSaid :=
  OpenClaim.holds_of_cond 3 Tryd.f3 rfl rfl rfl rfl rfl rfl rfl ⟨rfl, rfl, rfl, rfl, rfl⟩ rfl rfl rfl rfl rfl (by kernel_rfl) Tryd.func3 (by kernel_rfl)
    (of_decide_eq_true (by kernel_rfl)) (by unfold Func.isWrapper; first | (rw [if_pos (by decide +kernel)]; kernel_rfl) | (rw [if_neg (by decide +kernel)]; exact ⟨rfl, rfl⟩))
    (fun os started H enc _ F => by rw [OpenClaim.pre_eq_preRow]; exact lifted os started H enc F)

/-- no parameter wants a stand-in; the program's own looks are off -/
theorem plain (f : FuncId) (fn : Func) (hf : Tryd.pinned.checked.prog.funcNamed Rows.normFormsUptoRow.func = some f) (hfn : Tryd.pinned.checked.prog.funcs[f]? = some fn) :
    false = Tryd.pinned.checked.prog.looks [] ∧ ∀ (j : Nat) t, fn.params[j]? = some t → Tryd.pinned.checked.prog.wantsStandIn t = false := by
  obtain rfl : f = 3 := Option.some.inj ((show Tryd.prog.funcNamed Rows.normFormsUptoRow.func = some 3 by kernel_rfl).symm.trans hf) |>.symm
  obtain rfl : fn = Tryd.f3 := (Option.some.inj (Tryd.func3.symm.trans hfn)).symm
  refine ⟨by kernel_rfl, fun j t ht => ?_⟩
  rw [Tryd.params3] at ht
  have hm := Array.mem_of_getElem? ht
  simp only [List.mem_toArray, List.mem_cons, List.not_mem_nil, or_false] at hm
  rcases hm with rfl | rfl
  all_goals first | exact (show Tryd.prog.wantsStandIn 22 = false by kernel_rfl)

/-- THE STATEMENT -/
theorem proved : Rows.NormFormsUptoCardSaid :=
  Claim7.holds_tied_plain_at .later [] _ _ _ _ said (fun _ h => by cases h) (by kernel_rfl) (fun _ h => by cases h) normFormsUpto_row_tie rfl ⟨rfl, rfl⟩ (by kernel_rfl) rfl plain (by kernel_rfl)
end Go.Proofs.YtmgpkjiahdacfaaDoor.LawNormForms
