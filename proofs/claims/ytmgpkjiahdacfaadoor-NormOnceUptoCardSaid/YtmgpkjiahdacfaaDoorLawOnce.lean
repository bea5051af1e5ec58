/-
  Whatever numbers there are: the normal form is its own, and the same as what it was made of; its marks rise by their classes. Conditions: the argument holds at most 1048576 values; the package's tables are laid as the program's text lays them (tied).
-/
import Derived.Test.YtmgpkjiahdacfaaDoorNormOpen
namespace Go.Proofs.YtmgpkjiahdacfaaDoor.LawNormOnce
open Go.ChangeShapes Go.WideShapes Go.ChangeAt Go.RowKit
open Utf hiding infoI32 rd_new own_form rdec_any below_drewN new_any write_any close_any
open Ucd hiding grow same Told
open Norm

set_option maxHeartbeats 8000000 in
theorem walk (A : Option Addr) (l : List Int) (n c : Nat) (w : World) (hL : Laid w) (hr : Rd w w.heap.size A (nums l)) (hn : l.length = n) (hsm : n ≤ 1048576) :
    Calls Tryd.prog 5 #[.slice A n c] w (Law w) := by
  have HN := Lib.hid hn
  have HF := Lib.hid (fixed_any w hL)
  have HL := Lib.hid hL
  have HR := Lib.hid hr
  have hxl : (normal l).length ≤ 3145728 := by have := nf_len (fulls l); have := fulls_len l; unfold normal; omega
  have HNN := Lib.hid (normal_normal l)
  have HRI := Lib.hid (rise_normal l)
  have HNL := Lib.hid (fun (u : World) (h1 : Laid u) (h2 : Rd u u.heap.size A (nums l)) => normal_any A l n c u h1 h2 hn (by omega))
  have HS1 := Lib.hid (fun (B : Option Addr) (m d : Nat) (u : World) (h1 : Laid u) (h2 : Rd u u.heap.size A (nums l)) (h3 : Rd u u.heap.size B (nums (normal l))) (h4 : (normal l).length = m) (h5 : m ≤ 34359738368) => same2_any A B l (normal l) n m c d u h1 h2 h3 hn h4 (by omega) h5)
  have HS2 := Lib.hid (fun (B : Option Addr) (m d : Nat) (u : World) (h1 : Laid u) (h2 : Rd u u.heap.size A (nums l)) (h3 : Rd u u.heap.size B (nums (normal l))) (h4 : (normal l).length = m) (h5 : m ≤ 34359738368) => same2_any B A (normal l) l m n d c u h1 h3 h2 h4 hn h5 (by omega))
  rw [HNN.out] at HS1 HS2
  have HXX := Lib.hid (show Ucd.same (normal l) (normal l) = true from decide_eq_true rfl)
  rw [HXX.out] at HS1 HS2
  generalize normal l = X at HNN HRI HNL HS1 HS2 HXX hxl
  obtain ⟨m, hm⟩ : ∃ m, m = X.length := ⟨_, rfl⟩
  rw [← hm] at hxl
  have HM := Lib.hid hm
  clear hn hL hr hm
  go_enter Tryd.func5, Tryd.ntmps5
  go_wp2_with fail
  refine HF.out.mono ?_
  rintro e w1 ⟨rfl, hb1⟩
  have HB1 := Lib.hid hb1
  have HL1 := Lib.hid (HL.out.next hb1)
  clear hb1 HF
  go_wp2_with fail
  refine (HNL.out w1 HL1.out ((HR.out.below HB1.out).more HB1.out.size)).mono ?_
  rintro e w2 ⟨v2, rfl, ho2, hb2⟩
  obtain ⟨A2, c2, rfl, _, _, hr2⟩ := own_form ho2
  have HB2 := Lib.hid (HB1.out.trans (hb2.mono HB1.out.size)); have HR2 := Lib.hid hr2
  rw [← HM.out]
  clear ho2 hr2 hb2 HNL
  go_wp2_with fail
  go_loopw [4] (fun i wr => ∃ k : Nat, 1 ≤ k ∧ k ≤ m + 1 ∧ i = .int .i64 k ∧ Hid (w2 = wr)) (fun i _ => m + 1 - (intOf i).toNat)
  case atStart => exact ⟨1, Nat.le_refl _, by omega, rfl, Lib.hid rfl⟩
  case round =>
    obtain ⟨k, hk1, hk, rfl, HW⟩ := hrel
    by_cases hlt : k < m
    · obtain rfl := HW.out
      have hkl : k < X.length := by rw [← HM.out]; exact hlt
      obtain ⟨b, o, rfl, hbH⟩ := HR2.out.form (by rw [nums_len]; omega)
      obtain ⟨q, hq⟩ : ∃ q, q = k - 1 := ⟨_, rfl⟩
      have hqk : (k : Int) - 1 = (q : Int) := by omega
      have hkl2 : q < X.length := by omega
      have hc1 : w2.cell? ⟨b, o + k, none⟩ = some (.int .i32 X[k]) := HR2.out.num hkl
      have hc2 : w2.cell? ⟨b, o + q, none⟩ = some (.int .i32 X[q]) := HR2.out.num hkl2
      have hq1 : q + 1 = k := by omega
      have HC := Lib.hid (show cls X[k] = 0 ∨ cls X[q] ≤ cls X[k] by
        have h := HRI.out q (by omega)
        simp only [hq1] at h
        exact h)
      generalize X[k] = x at hc1 HC
      generalize X[q] = y at hc2 HC
      have HX1 := Lib.hid (rclass_any x w2)
      have HX2 := Lib.hid (rclass_any y w2)
      have hcc : (cls x = 0 ∧ (cls x != 0) = false) ∨ ((cls x != 0) = true ∧ ¬ cls x < cls y) := by
        by_cases h : cls x = 0
        · exact .inl ⟨h, by simp [h]⟩
        · refine .inr ⟨by simpa using h, ?_⟩
          have := HC.out
          omega
      generalize cls x = kx at HX1 hcc
      generalize cls y = ky at HX2 hcc
      clear hkl hkl2 hq hq1 HC
      rcases hcc with ⟨rfl, h⟩ | ⟨h1, h2⟩
      · go_wp2_with fail
        refine HX1.out.mono ?_
        rintro e w3 ⟨rfl, rfl⟩
        go_wp2_with fail
        go_roundw
        case rel => exact ⟨k + 1, by omega, by omega, by go_num, Lib.hid trivial⟩
        case measure => simp [intOf]; omega
      · go_wp2_with fail
        refine HX1.out.mono ?_
        rintro e w3 ⟨rfl, rfl⟩
        go_wp2_with fail
        refine HX2.out.mono ?_
        rintro e w3 ⟨rfl, rfl⟩
        go_wp2_with fail
        go_roundw
        case rel => exact ⟨k + 1, by omega, by omega, by go_num, Lib.hid trivial⟩
        case measure => simp [intOf]; omega
    · obtain rfl := HW.out
      have HL2 := Lib.hid (HL.out.below HB2.out HL.out.size)
      have HII := Lib.hid (is_any A2 X m c2 w2 HL2.out HR2.out HM.out.symm (by omega))
      rw [HNN.out, HXX.out] at HII
      have hm2 : m ≤ 34359738368 := by omega
      go_wp2_with fail
      refine HII.out.mono ?_
      rintro e w3 ⟨rfl, hb3⟩
      have HB3 := Lib.hid (HB2.out.trans (hb3.mono HB2.out.size)); have HR3 := Lib.hid ((HR2.out.below hb3).more hb3.size)
      have HL3 := Lib.hid (HL2.out.next hb3)
      clear hb3 HII
      go_wp2_with fail
      refine (HS1.out A2 m c2 w3 HL3.out ((HR.out.below HB3.out).more HB3.out.size) HR3.out HM.out.symm hm2).mono ?_
      rintro e w4 ⟨rfl, hb4⟩
      have HB4 := Lib.hid (HB3.out.trans (hb4.mono HB3.out.size)); have HR4 := Lib.hid ((HR3.out.below hb4).more hb4.size)
      have HL4 := Lib.hid (HL3.out.next hb4)
      clear hb4
      go_wp2_with fail
      refine (HS2.out A2 m c2 w4 HL4.out ((HR.out.below HB4.out).more HB4.out.size) HR4.out HM.out.symm hm2).mono ?_
      rintro e w5 ⟨rfl, hb5⟩
      have HB5 := Lib.hid (HB4.out.trans (hb5.mono HB4.out.size)); have HR5 := Lib.hid ((HR4.out.below hb5).more hb5.size)
      have HL5 := Lib.hid (HL4.out.next hb5)
      clear hb5
      have HN5 := Lib.hid (normal_any A2 X m c2 w5 HL5.out HR5.out HM.out.symm hm2)
      rw [HNN.out] at HN5
      go_wp2_with fail
      refine HN5.out.mono ?_
      rintro e w6 ⟨v6, rfl, ho6, hb6⟩
      obtain ⟨A6, c6, rfl, _, _, hr6⟩ := own_form ho6
      have HB6 := Lib.hid (HB5.out.trans (hb6.mono HB5.out.size)); have HR6 := Lib.hid hr6; have HR26 := Lib.hid ((HR5.out.below hb6).more hb6.size)
      clear ho6 hr6 hb6
      go_wp2_with fail
      refine (same_any A6 A2 X X _ m c6 c2 w6 HR6.out HR26.out rfl HM.out.symm (by rw [← HM.out]; omega) (by omega)).mono ?_
      rintro e w7 ⟨rfl, q7, hw7⟩
      have HB7 := Lib.hid (show Below w.heap.size w w7 by rw [hw7]; exact below_drewN HB6.out q7)
      rw [HXX.out]
      clear hw7
      go_wp2_with fail
      go_ret
      exact ⟨rfl, HB7.out⟩

theorem contract (H : Type) (enc : TypeId × Value → H) (W : World) (base : Nat) (args : Array Value) (ds gs : List (DataW H)) (before : List MemPlace)
    (hval : ∀ (j : Nat) t v, Tryd.f5.params[j]? = some t → args[j]? = some v → Value.okWide Tryd.prog W .any base t v)
    (hW : DataW.Whole enc Tryd.prog Tryd.f5.params.toList Rows.normOnceSpec.vars false W args.toList ds gs before) (hLL : laidMetH Tryd.prog Rows.normOnceUptoRow.laid W) (hk : Rows.uptoSmall H (ds ++ gs) = true) :
    Calls Tryd.prog 5 args W fun e W' => ∃ v, e = .returned v ∧ Rows.normOnceSpec.post enc Tryd.prog Tryd.f5 false true false false W args v W' := by
  have hL : Laid W := laid_of hLL
  have hW' := hW
  obtain ⟨p, q, hA0, hV, rfl, hfz, hnd⟩ := hW
  have hA : DataW.TrodAll enc Tryd.prog W 0 (fun _ => true) true Tryd.f5.params.toList args.toList ds p := hA0
  rw [Tryd.params5] at hA hval
  obtain ⟨v0, vs0, d0, ds0, p0, q0, hargs, rfl, rfl, h0, r0⟩ := trodAll_cons hA
  obtain ⟨rfl, rfl, rfl⟩ := trodAll_nil r0
  obtain rfl : args = #[v0] := by cases args; simp_all
  obtain ⟨rfl, rfl⟩ := trodVars_none hV
  obtain ⟨a0, len0, cap0, rfl⟩ := okWide_slice Tryd.underlying22 (hval 0 22 v0 rfl rfl)
  have k0 := h0
  have lt0 : ∀ x ∈ p0, x.block < W.heap.size := by obtain ⟨m, hm⟩ := k0; exact DataW.trod_lt m _ _ _ hm
  obtain ⟨l0, hl0, hc0, hm0, hw0, hr0, hb0, hd0⟩ := open_nums h0
  have hbd := bulk_bound hk
  simp only [List.append_nil, Rows.uptoBulkAll] at hbd
  clear hA0
  refine (walk a0 l0 len0 cap0 W hL hr0 hl0 (by omega)).mono fun e W' ⟨he, bel⟩ => ?_
  subst he
  exact ⟨_, rfl, _, _, _, [], _, [], hW', trodAll_mk1 (shut_bool Tryd.underlying4 _), (trodAll_cons_mk (Below.trod laidOut (by kernel_rfl) (of_decide_eq_true (by kernel_rfl)) k0 bel lt0) trodAll_mk0), rfl, bel.frame _, fun h => by cases h⟩

theorem laid_met (os : Os) : laidMet Tryd.prog Rows.normOnceUptoRow.laid ((laidWorld os).forCall (fun _ _ => 0) ⟨#[], #[.slice none 0 0], []⟩).memory :=
  laidMet_of_run' 8 (by kernel_rfl) (by kernel_rfl)
theorem reads (os : Os) {H : Type} (enc : TypeId × Value → H) : ∃ places, DataW.whole enc Tryd.prog ((laidWorld os).forCall (fun _ _ => 0) ⟨#[], #[.slice none 0 0], []⟩).memory Tryd.f5.params.toList Rows.normOnceSpec.vars false (#[.slice none 0 0] : Array Value).toList 8 = some ([.nil], [], places) :=
  ⟨[], by kernel_rfl⟩

set_option maxRecDepth 100000 in
theorem lifted (os : Os) (started : os.Started) (H : Type) (enc : TypeId × Value → H) (F : Stop.Interp) :
    ReturnsInHanded {} Tryd.checked os 5 .any ((Rows.OpenSpec.upto Rows.normOnceSpec).preRow enc Tryd.prog Tryd.f5 Rows.normOnceUptoRow.domain false Rows.normOnceUptoRow.laid) (((Rows.OpenSpec.upto Rows.normOnceSpec).at F).post enc Tryd.prog Tryd.f5 false true false false) := by
  obtain ⟨places, hx⟩ := reads os enc
  refine returnsInHanded_of_row (C := Tryd.checked) (s := Rows.OpenSpec.upto Rows.normOnceSpec) own started (by kernel_rfl) Tryd.func5
    (witness_row_at (enc := enc) (C := Tryd.checked) false (laidWorld os) #[.slice none 0 0] rfl (by kernel_rfl) (by kernel_rfl) (by kernel_rfl)
      (OpenSpec.preRow_of_cond 8 hx (by kernel_rfl) (fun k hk => by cases hk; kernel_rfl) (by kernel_rfl) (laid_met os))) ?_
  intro W base args ds gs before hval hW _ hcond _ hL _ _
  exact contract H enc W base args ds gs before hval hW hL (hcond _ rfl)

theorem said : Rows.NormOnceUptoSaid :=
  OpenClaim.holds_of_cond 5 Tryd.f5 rfl rfl rfl rfl rfl rfl rfl ⟨rfl, rfl, rfl, rfl, rfl⟩ rfl rfl rfl rfl rfl (by kernel_rfl) Tryd.func5 (by kernel_rfl)
    (of_decide_eq_true (by kernel_rfl)) (by unfold Func.isWrapper; first | (rw [if_pos (by decide +kernel)]; kernel_rfl) | (rw [if_neg (by decide +kernel)]; exact ⟨rfl, rfl⟩))
    (fun os started H enc _ F => by rw [OpenClaim.pre_eq_preRow]; exact lifted os started H enc F)

/-- no parameter wants a stand-in; the program's own looks are off -/
theorem plain (f : FuncId) (fn : Func) (hf : Tryd.pinned.checked.prog.funcNamed Rows.normOnceUptoRow.func = some f) (hfn : Tryd.pinned.checked.prog.funcs[f]? = some fn) :
    false = Tryd.pinned.checked.prog.looks [] ∧ ∀ (j : Nat) t, fn.params[j]? = some t → Tryd.pinned.checked.prog.wantsStandIn t = false := by
  obtain rfl : f = 5 := Option.some.inj ((show Tryd.prog.funcNamed Rows.normOnceUptoRow.func = some 5 by kernel_rfl).symm.trans hf) |>.symm
  obtain rfl : fn = Tryd.f5 := (Option.some.inj (Tryd.func5.symm.trans hfn)).symm
  refine ⟨by kernel_rfl, fun j t ht => ?_⟩
  rw [Tryd.params5] at ht
  have hm := Array.mem_of_getElem? ht
  simp only [List.mem_toArray, List.mem_cons, List.not_mem_nil, or_false] at hm
  rcases hm with rfl
  all_goals first | exact (show Tryd.prog.wantsStandIn 22 = false by kernel_rfl)

/-- THE STATEMENT -/
theorem proved : Rows.NormOnceUptoCardSaid :=
  Claim7.holds_tied_plain_at .later [] _ _ _ _ said (fun _ h => by cases h) (by kernel_rfl) (fun _ h => by cases h) normOnceUpto_row_tie rfl ⟨rfl, rfl⟩ (by kernel_rfl) rfl plain (by kernel_rfl)
end Go.Proofs.YtmgpkjiahdacfaaDoor.LawNormOnce
