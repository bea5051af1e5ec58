/-
  Whatever numbers there are: which of them are code points, and what they are written as, is what the document says. Conditions: none.
-/
import Derived.Test.YtginlfofijbpjaaUtfOpen
import Derived.Deep.RegionWith
namespace Go.Proofs.Ytginlfofijbpjaa.LawUtfEncodes
open Go.ChangeShapes Go.WideShapes Go.ChangeAt Go.RowKit Utf
theorem bytesI32 : Try.prog.bytesOf 21 = 4 := by kernel_rfl

theorem below_of_drew {B : Nat} {u v : World} (h : Below B u.drew v) : Below B u v := ⟨h.os, h.tape, h.output, h.size, h.block⟩
set_option maxHeartbeats 2000000 in
theorem walk (A : Option Addr) (l : List Int) (n c : Nat) (w : World) (hr : Rd w w.heap.size A (nums l)) (hn : l.length = n) (hb : 4 * n ≤ 140737488355320) :
    Calls Try.prog 4 #[.slice A n c] w (Law w) := by
  have HN := Lib.hid hn
  clear hn
  go_enter Try.func4, Try.ntmps4
  go_wp2_with fail
  refine (fixed_any _).mono ?_
  rintro e w1 hf
  obtain ⟨rfl, hb1⟩ := hf.out
  clear hf
  have hr1 := (hr.below hb1).more hb1.size
  have HB1 := Lib.hid hb1
  clear hb1
  go_wp2_with fail
  go_loop [9] (fun i => ∃ k : Nat, k ≤ n ∧ i = .int .i64 k) (fun i => n - (intOf i).toNat)
  case atStart => exact ⟨0, Nat.zero_le _, rfl⟩
  case round =>
    obtain ⟨k, hk, rfl⟩ := hrel
    by_cases hlt : k < n
    · have hkl : k < l.length := by rw [HN.out]; exact hlt
      obtain ⟨b, o, rfl, hbH⟩ := hr1.form (by rw [nums_len]; omega)
      have hcell : w1.cell? ⟨b, o + k, none⟩ = some (.int .i32 l[k]) := hr1.num hkl
      obtain ⟨r, hr'⟩ : ∃ r, r = l[k] := ⟨_, rfl⟩
      rw [← hr'] at hcell
      clear hr' hkl
      have hbb : ∀ b : Bool, (b != b) = false := fun b => by simp
      go_wp2_with (first
        | (go_at_call 14; refine (valid_any r _).mono ?_; rintro e w' ⟨rfl, rfl⟩)
        | (go_at_call 15; refine (rvalid_any r _).mono ?_; rintro e w' ⟨rfl, rfl⟩))
      go_round
      case rel => exact ⟨k + 1, by omega, by go_num⟩
      case measure => simp [intOf]; omega
    · go_wp2_with fail
      go_region_with (first
        | (go_at_call 16; refine (encode_any A l n c _ hr1.drew HN.out hb).mono ?_; rintro e w2 ⟨v2, rfl, hown2, hb2⟩; obtain ⟨A2, c2, rfl, _, _, hr2⟩ := own_form hown2; have hcv2 := conv_rd (n := (enc l).length) (c := c2) hr2 rfl)
        | (go_at_call 17; refine (rencode_any A l n c _ ((hr1.drew.below hb2).more hb2.size) HN.out hb).mono ?_; rintro e w3 ⟨v3, rfl, hown3, hb3⟩; obtain ⟨A3, c3, rfl, _, _, hr3⟩ := own_form hown3; have hcv2b := conv_rd (n := (enc l).length) (c := c2) (hr2.below hb3) rfl; have hcv3 := conv_rd (n := (enc l).length) (c := c3) hr3 rfl))
      all_goals go_wp2
      all_goals go_ret
      all_goals exact ⟨rfl, HB1.out.trans (((below_of_drew hb2).trans (hb3.mono hb2.size)).mono HB1.out.size)⟩

theorem contract (H : Type) (enc : TypeId × Value → H) (W : World) (base : Nat) (args : Array Value) (ds gs : List (DataW H)) (before : List MemPlace)
    (hval : ∀ (j : Nat) t v, Try.f4.params[j]? = some t → args[j]? = some v → Value.okWide Try.prog W .any base t v)
    (hW : DataW.Whole enc Try.prog Try.f4.params.toList Rows.utfEncodesSpec.vars false W args.toList ds gs before) (hsz0 : (DataW.weightsEach Try.prog (Try.f4.params.toList ++ Rows.utfEncodesSpec.plain.varTypes Try.prog) (ds ++ gs)).all (· ≤ reachBytes) = true) :
    Calls Try.prog 4 args W fun e W' => ∃ v, e = .returned v ∧ Rows.utfEncodesSpec.post enc Try.prog Try.f4 false true false false W args v W' := by
  have hW' := hW
  obtain ⟨p, q, hA0, hV, rfl, hfz, hnd⟩ := hW
  have hA : DataW.TrodAll enc Try.prog W 0 (fun _ => true) true Try.f4.params.toList args.toList ds p := hA0
  have hsz := hsz0
  rw [Try.params4] at hA hval hsz
  obtain ⟨v0, vs0, d0, ds0, p0, q0, hargs, rfl, rfl, h0, r0⟩ := trodAll_cons hA
  obtain ⟨rfl, rfl, rfl⟩ := trodAll_nil r0
  obtain rfl : args = #[v0] := by cases args; simp_all
  obtain ⟨rfl, rfl⟩ := trodVars_none hV
  obtain ⟨a0, len0, cap0, rfl⟩ := okWide_slice Try.underlying29 (hval 0 29 v0 rfl rfl)
  have k0 := h0
  have lt0 : ∀ x ∈ p0, x.block < W.heap.size := by obtain ⟨m, hm⟩ := k0; exact DataW.trod_lt m _ _ _ hm
  obtain ⟨l0, hl0, hc0, hm0, hw0, hr0, hb0, hd0⟩ := open_nums h0
  have hreach0 : 4 * cap0 ≤ 140737488351232 := by
    rcases hd0 with ⟨rfl, h⟩ | ⟨elems, spare, rfl, he, _⟩
    · omega
    · have := sized_slice hsz (j := 0) (t := 29) (e := 21) rfl rfl Try.underlying29
      rw [bytesI32] at this
      simp only [reachBytes] at this
      omega
  clear hA0
  refine (walk a0 l0 len0 cap0 W hr0 hl0 (by omega)).mono fun e W' ⟨he, bel⟩ => ?_
  subst he
  exact ⟨_, rfl, _, _, _, [], _, [], hW', trodAll_mk1 (shut_bool Try.underlying4 _), (trodAll_cons_mk (Below.trod laidOut (by kernel_rfl) (of_decide_eq_true (by kernel_rfl)) k0 bel lt0) trodAll_mk0), rfl, bel.frame _, fun h => by cases h⟩

set_option maxRecDepth 100000 in
theorem lifted (os : Os) (started : os.Started) (H : Type) (enc : TypeId × Value → H) :
    ReturnsInHanded {} Try.checked os 4 .any (Rows.utfEncodesSpec.pre6 enc Try.prog Try.f4 Rows.utfEncodesRow.domain false) (Rows.utfEncodesSpec.post enc Try.prog Try.f4 false true false false) := by
  refine returnsInHanded_of_change_sized (C := Try.checked) own started (by kernel_rfl) Try.func4
    (ChangeSpec.witness6 (enc := enc) (C := Try.checked) false ⟨#[], #[.slice none 0 0], []⟩ 8 (by kernel_rfl) (by kernel_rfl) (by kernel_rfl) (by kernel_rfl)) ?_
  intro W base args ds gs before hval hW _ hsz _
  exact contract H enc W base args ds gs before hval hW hsz

/-- THE STATEMENT -/
theorem proved : Rows.UtfEncodesSaid :=
  OpenClaim.holds_of_wide 4 Try.f4 rfl rfl rfl rfl rfl rfl rfl ⟨rfl, rfl, rfl, rfl, rfl⟩ rfl rfl rfl rfl rfl (by kernel_rfl) Try.func4 (by kernel_rfl)
    (of_decide_eq_true (by kernel_rfl)) (by unfold Func.isWrapper; first | (rw [if_pos (by decide +kernel)]; kernel_rfl) | (rw [if_neg (by decide +kernel)]; exact ⟨rfl, rfl⟩))
    (fun os started H enc _ => lifted os started H enc)
end Go.Proofs.Ytginlfofijbpjaa.LawUtfEncodes
