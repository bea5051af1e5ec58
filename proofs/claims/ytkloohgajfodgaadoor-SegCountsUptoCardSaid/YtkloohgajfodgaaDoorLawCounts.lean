/-
  Whatever bytes there are: a text has as many segments as code points that open, and one more, if its first doesn't. Conditions: the argument holds at most 1048576 values; the package's tables are laid as the program's text lays them (tied).
-/
import Derived.Test.YtkloohgajfodgaaDoorNormOpen
import Derived.Test.YtkloohgajfodgaaDoorSegFixed
namespace Go.Proofs.YtkloohgajfodgaaDoor.LawSegCounts
open Go.ChangeShapes Go.WideShapes Go.ChangeAt Go.RowKit
open Utf hiding infoI32 rd_new own_form rdec_any below_drewN new_any write_any close_any
open Ucd hiding grow same Told
open Norm hiding new_any write_any close_any pending_any pending_nil write_nil write_closed close_nil fixed_any write_at close_at
open Seg

set_option maxHeartbeats 8000000 in
set_option maxRecDepth 100000 in
theorem walk (A : Option Addr) (l : List UInt8) (n c : Nat) (w : World) (hL : Laid w) (hr : Rd w w.heap.size A (bys l)) (hn : l.length = n) (hc : n ≤ c) (hcm : c ≤ 9223372036854775807) (hsm : n ≤ 1048576) :
    Calls Tryd.prog 8 #[.slice A n c] w (Law w) := by
  have HF := Lib.hid (fixed_any w hL)
  have HL := Lib.hid hL
  have HR := Lib.hid hr
  have HRN := Lib.hid (fun (u : World) (h : Rd u u.heap.size A (bys l)) => rrunes_any A l n c u h hn (by omega))
  have HTX := Lib.hid (fun (u : World) (hu : Laid u) (h : Rd u u.heap.size A (bys l)) => Seg.texts_any l A n c u hu h hn hc hcm (by omega))
  have HTL := Lib.hid (show (texts l).length = (cuts opn (runesF l)).length by rw [texts_cuts, List.length_map])
  have hrl := runes_len l
  rw [hn] at hrl
  generalize texts l = TX at HTX HTL
  generalize runesF l = R at HRN HTL hrl
  obtain ⟨m, hm⟩ : ∃ m, m = R.length := ⟨_, rfl⟩
  rw [← hm] at hrl
  have HM := Lib.hid hm
  clear hL hr hn hc hm
  go_enter Tryd.func8, Tryd.ntmps8
  go_wp2_with fail
  refine HF.out.mono ?_
  rintro e w1 ⟨rfl, hb1⟩
  have HB1 := Lib.hid hb1
  have HL1 := Lib.hid (HL.out.next hb1)
  clear hb1 HF
  go_wp2_with fail
  refine (HRN.out w1 ((HR.out.below HB1.out).more HB1.out.size)).mono ?_
  rintro e w2 ⟨v, rfl, ho, hb2⟩
  rw [← HM.out] at ho
  obtain ⟨A2, c2, rfl, _, _, hr2⟩ := own_form ho
  have HR2 := Lib.hid hr2
  have HB2 := Lib.hid (HB1.out.trans (hb2.mono HB1.out.size))
  clear ho hr2 hb2 HRN
  go_wp2_with fail
  go_loopw [3, 11] (fun vc i wr => ∃ k : Nat, k ≤ m ∧ i = .int .i64 k ∧ (∃ q : Nat, q ≤ k ∧ vc = .int .i64 q ∧ Hid (q = (cuts opn (R.take k)).length)) ∧ Hid (Below w2.heap.size w2 wr)) (fun _ i _ => m - (intOf i).toNat)
  case atStart => exact ⟨0, Nat.zero_le _, rfl, ⟨0, Nat.le_refl _, rfl, Lib.hid rfl⟩, Lib.hid (Below.refl _ _)⟩
  case round =>
    obtain ⟨k, hk, rfl, ⟨q, hqk, rfl, HQ⟩, HB⟩ := hrel
    by_cases hlt : k < m
    · have hkl : k < R.length := by rw [← HM.out]; exact hlt
      obtain ⟨b, o, rfl, hbl⟩ := HR2.out.form (by rw [nums_len]; omega)
      have p1 := (HR2.out.below HB.out).num hkl
      have hsn := cuts_len_snoc (R.take k) R[k]
      rw [← List.take_succ_eq_append_getElem hkl, ← HQ.out] at hsn
      have hem : (R.take k).isEmpty = decide (k = 0) := by
        by_cases h0 : k = 0
        · subst h0; simp
        · rw [decide_eq_false h0, List.isEmpty_eq_false_iff]; intro e; have := congrArg List.length e; rw [List.length_take, List.length_nil] at this; omega
      rw [hem] at hsn
      obtain ⟨x, hx⟩ : ∃ x, x = R[k] := ⟨_, rfl⟩
      rw [← hx] at p1 hsn
      have HSN := Lib.hid hsn
      have HOP := Lib.hid (ropens_any x wr)
      clear hkl hbl hsn hem hx HQ
      by_cases h0 : k = 0
      · have hk0 : ((k : Int) == 0) = true := by simp; omega
        have HQ1 := Lib.hid (show q + 1 = (cuts opn (R.take (k + 1))).length by have := HSN.out; rw [decide_eq_true h0, Bool.or_true] at this; simpa using this.symm)
        cases hop : opn x with
        | true =>
          rw [hop] at HOP
          clear hop HSN h0
          go_wp2_with (go_at_call 28; refine HOP.out.mono ?_; rintro e w3 ⟨rfl, hb3⟩; have HB3 := Lib.hid (HB.out.trans (hb3.mono HB.out.size)); clear hb3)
          go_roundw
          case rel => exact ⟨k + 1, by omega, by go_num, ⟨q + 1, by omega, by go_num, HQ1⟩, HB3⟩
          case measure => simp [intOf]; omega
        | false =>
          rw [hop] at HOP
          clear hop HSN h0
          go_wp2_with (go_at_call 28; refine HOP.out.mono ?_; rintro e w3 ⟨rfl, hb3⟩; have HB3 := Lib.hid (HB.out.trans (hb3.mono HB.out.size)); clear hb3)
          go_roundw
          case rel => exact ⟨k + 1, by omega, by go_num, ⟨q + 1, by omega, by go_num, HQ1⟩, HB3⟩
          case measure => simp [intOf]; omega
      · have hk0 : ((k : Int) == 0) = false := by simp; omega
        cases hop : opn x with
        | true =>
          have HQ1 := Lib.hid (show q + 1 = (cuts opn (R.take (k + 1))).length by have := HSN.out; rw [hop] at this; simp at this; exact this.symm)
          rw [hop] at HOP
          clear hop HSN h0
          go_wp2_with (go_at_call 28; refine HOP.out.mono ?_; rintro e w3 ⟨rfl, hb3⟩; have HB3 := Lib.hid (HB.out.trans (hb3.mono HB.out.size)); clear hb3)
          go_roundw
          case rel => exact ⟨k + 1, by omega, by go_num, ⟨q + 1, by omega, by go_num, HQ1⟩, HB3⟩
          case measure => simp [intOf]; omega
        | false =>
          have HQ1 := Lib.hid (show q = (cuts opn (R.take (k + 1))).length by have := HSN.out; rw [hop, decide_eq_false h0] at this; simpa using this.symm)
          rw [hop] at HOP
          clear hop HSN h0
          go_wp2_with (go_at_call 28; refine HOP.out.mono ?_; rintro e w3 ⟨rfl, hb3⟩; have HB3 := Lib.hid (HB.out.trans (hb3.mono HB.out.size)); clear hb3)
          go_roundw
          case rel => exact ⟨k + 1, by omega, by go_num, ⟨q, by omega, rfl, HQ1⟩, HB3⟩
          case measure => simp [intOf]; omega
    · have HXT := Lib.hid (show R.take k = R by rw [List.take_of_length_le (by rw [← HM.out]; omega)])
      have hqt : TX.length = q := by rw [HTL.out, HQ.out, HXT.out]
      have HQT := Lib.hid hqt
      have HBR := Lib.hid (HB2.out.trans (HB.out.mono HB2.out.size))
      clear hqt HQ
      go_wp2_with fail
      refine (HTX.out wr (HL.out.next HBR.out) ((HR.out.below HBR.out).more HBR.out.size)).mono ?_
      rintro e w4 ⟨v4, rfl, ho4, hb4⟩
      rw [HQT.out] at ho4
      obtain ⟨A4, c4, rfl, _⟩ := own_form ho4
      have HB4 := Lib.hid (HBR.out.trans (hb4.mono HBR.out.size))
      clear ho4 hb4
      go_wp2_with fail
      go_ret
      exact ⟨rfl, HB4.out⟩

set_option maxRecDepth 100000 in
theorem contract (H : Type) (enc : TypeId × Value → H) (W : World) (base : Nat) (args : Array Value) (ds gs : List (DataW H)) (before : List MemPlace)
    (hval : ∀ (j : Nat) t v, Tryd.f8.params[j]? = some t → args[j]? = some v → Value.okWide Tryd.prog W .any base t v)
    (hW : DataW.Whole enc Tryd.prog Tryd.f8.params.toList Rows.segCountsSpec.vars false W args.toList ds gs before) (hLL : laidMetH Tryd.prog Rows.segCountsUptoRow.laid W) (hk : Rows.uptoSmall H (ds ++ gs) = true) :
    Calls Tryd.prog 8 args W fun e W' => ∃ v, e = .returned v ∧ Rows.segCountsSpec.post enc Tryd.prog Tryd.f8 false true false false W args v W' := by
  have hL : Laid W := laid_of hLL
  have hW' := hW
  obtain ⟨p, q, hA0, hV, rfl, hfz, hnd⟩ := hW
  have hA : DataW.TrodAll enc Tryd.prog W 0 (fun _ => true) true Tryd.f8.params.toList args.toList ds p := hA0
  rw [Tryd.params8] at hA hval
  obtain ⟨v0, vs0, d0, ds0, p0, q0, hargs, rfl, rfl, h0, r0⟩ := trodAll_cons hA
  obtain ⟨rfl, rfl, rfl⟩ := trodAll_nil r0
  obtain rfl : args = #[v0] := by cases args; simp_all
  obtain ⟨rfl, rfl⟩ := trodVars_none hV
  obtain ⟨a0, len0, cap0, rfl⟩ := okWide_slice Tryd.underlying22 (hval 0 22 v0 rfl rfl)
  have k0 := h0
  have lt0 : ∀ x ∈ p0, x.block < W.heap.size := by obtain ⟨m, hm⟩ := k0; exact DataW.trod_lt m _ _ _ hm
  obtain ⟨l0, hl0, hc0, hm0, hr0, hb0⟩ := open_bytes h0
  have hbd := bulk_bound hk
  simp only [List.append_nil, Rows.uptoBulkAll] at hbd
  clear hA0
  refine (walk a0 l0 len0 cap0 W hL hr0 hl0 hc0 hm0 (by omega)).mono fun e W' ⟨he, bel⟩ => ?_
  subst he
  exact ⟨_, rfl, _, _, _, [], _, [], hW', trodAll_mk1 (shut_bool Tryd.underlying4 _), (trodAll_cons_mk (Below.trod laidOut (by kernel_rfl) (of_decide_eq_true (by kernel_rfl)) k0 bel lt0) trodAll_mk0), rfl, bel.frame _, fun h => by cases h⟩

set_option maxRecDepth 100000 in
theorem laid_met (os : Os) : laidMet Tryd.prog Rows.segCountsUptoRow.laid ((laidWorld os).forCall (fun _ _ => 0) ⟨#[], #[.slice none 0 0], []⟩).memory :=
  laidMet_of_run' 8 (by kernel_rfl) (by kernel_rfl)
set_option maxRecDepth 100000 in
theorem reads (os : Os) {H : Type} (enc : TypeId × Value → H) : ∃ places, DataW.whole enc Tryd.prog ((laidWorld os).forCall (fun _ _ => 0) ⟨#[], #[.slice none 0 0], []⟩).memory Tryd.f8.params.toList Rows.segCountsSpec.vars false (#[.slice none 0 0] : Array Value).toList 8 = some ([.nil], [], places) :=
  ⟨[], by kernel_rfl⟩

set_option maxRecDepth 100000 in
theorem lifted (os : Os) (started : os.Started) (H : Type) (enc : TypeId × Value → H) (F : Stop.Interp) :
    ReturnsInHanded {} Tryd.checked os 8 .any ((Rows.OpenSpec.upto Rows.segCountsSpec).preRow enc Tryd.prog Tryd.f8 Rows.segCountsUptoRow.domain false Rows.segCountsUptoRow.laid) (((Rows.OpenSpec.upto Rows.segCountsSpec).at F).post enc Tryd.prog Tryd.f8 false true false false) := by
  obtain ⟨places, hx⟩ := reads os enc
  refine returnsInHanded_of_row (C := Tryd.checked) (s := Rows.OpenSpec.upto Rows.segCountsSpec) own started (by kernel_rfl) Tryd.func8
    (witness_row_at (enc := enc) (C := Tryd.checked) false (laidWorld os) #[.slice none 0 0] rfl (by kernel_rfl) (by kernel_rfl) (by kernel_rfl)
      (OpenSpec.preRow_of_cond 8 hx (by kernel_rfl) (fun k hk => by cases hk; kernel_rfl) (by kernel_rfl) (laid_met os))) ?_
  intro W base args ds gs before hval hW _ hcond _ hL _ _
  exact contract H enc W base args ds gs before hval hW hL (hcond _ rfl)

set_option maxRecDepth 100000 in
theorem said : Rows.SegCountsUptoSaid :=
  OpenClaim.holds_of_cond 8 Tryd.f8 rfl rfl rfl rfl rfl rfl rfl ⟨rfl, rfl, rfl, rfl, rfl⟩ rfl rfl rfl rfl rfl (by kernel_rfl) Tryd.func8 (by kernel_rfl)
    (of_decide_eq_true (by kernel_rfl)) (by unfold Func.isWrapper; first | (rw [if_pos (by decide +kernel)]; kernel_rfl) | (rw [if_neg (by decide +kernel)]; exact ⟨rfl, rfl⟩))
    (fun os started H enc _ F => by rw [OpenClaim.pre_eq_preRow]; exact lifted os started H enc F)

set_option maxRecDepth 100000 in
/-- no parameter wants a stand-in; the program's own looks are off -/
theorem plain (f : FuncId) (fn : Func) (hf : Tryd.pinned.checked.prog.funcNamed Rows.segCountsUptoRow.func = some f) (hfn : Tryd.pinned.checked.prog.funcs[f]? = some fn) :
    false = Tryd.pinned.checked.prog.looks [] ∧ ∀ (j : Nat) t, fn.params[j]? = some t → Tryd.pinned.checked.prog.wantsStandIn t = false := by
  obtain rfl : f = 8 := Option.some.inj ((show Tryd.prog.funcNamed Rows.segCountsUptoRow.func = some 8 by kernel_rfl).symm.trans hf) |>.symm
  obtain rfl : fn = Tryd.f8 := (Option.some.inj (Tryd.func8.symm.trans hfn)).symm
  refine ⟨by kernel_rfl, fun j t ht => ?_⟩
  rw [Tryd.params8] at ht
  have hm := Array.mem_of_getElem? ht
  simp only [List.mem_toArray, List.mem_cons, List.not_mem_nil, or_false] at hm
  rcases hm with rfl
  all_goals first | exact (show Tryd.prog.wantsStandIn 22 = false by kernel_rfl)

set_option maxRecDepth 100000 in
/-- THE STATEMENT -/
theorem proved : Rows.SegCountsUptoCardSaid :=
  Claim7.holds_tied_plain_at .later [] _ _ _ _ said (fun _ h => by cases h) (by kernel_rfl) (fun _ h => by cases h) segCountsUpto_row_tie rfl ⟨rfl, rfl⟩ (by kernel_rfl) rfl plain (by kernel_rfl)
end Go.Proofs.YtkloohgajfodgaaDoor.LawSegCounts
