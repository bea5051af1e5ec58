/-
  Whatever numbers there are: what a number decomposes to, in one step and wholly, and whether it opens a segment, is what the document says. Conditions: the package's tables are laid as the program's text lays them (tied).
-/
import Derived.Test.YthpadpoomelhbaaDoorUcdOpen
import Derived.Test.YthpadpoomelhbaaDoorUcdRdec
namespace Go.Proofs.YthpadpoomelhbaaDoor.LawUcdPairs
open Go.ChangeShapes Go.WideShapes Go.ChangeAt Go.RowKit Utf Ucd

set_option maxHeartbeats 8000000 in
theorem walk (A : Option Addr) (l : List Int) (n c : Nat) (w : World) (hL : Laid w) (hr : Rd w w.heap.size A (nums l)) (hn : l.length = n) (hb : n ≤ 9223372036854775807) :
    Calls Tryd.prog 5 #[.slice A n c] w (Law w) := by
  have HN := Lib.hid hn
  have HF := Lib.hid (fixed_any w hL)
  have HL := Lib.hid hL
  have HR := Lib.hid hr
  clear hn hL hr
  go_enter Tryd.func5, Tryd.ntmps5
  go_wp2_with fail
  refine HF.out.mono ?_
  rintro e w1 ⟨rfl, hb1⟩
  have HB := Lib.hid hb1
  clear hb1 HF
  go_wp2_with fail
  go_loopw [15] (fun i wr => ∃ k : Nat, k ≤ n ∧ i = .int .i64 k ∧ Hid (Below w.heap.size w wr)) (fun i _ => n - (intOf i).toNat)
  case atStart => exact ⟨0, Nat.zero_le _, rfl, HB⟩
  case round =>
    obtain ⟨k, hk, rfl, H⟩ := hrel
    by_cases hlt : k < n
    · have hkl : k < l.length := by rw [HN.out]; exact hlt
      obtain ⟨b, o, rfl, hbH⟩ := HR.out.form (by rw [nums_len]; omega)
      have hcell : wr.cell? ⟨b, o + k, none⟩ = some (.int .i32 l[k]) := (HR.out.below H.out).num hkl
      generalize l[k] = r at hcell
      have HLr := Lib.hid (HL.out.below H.out HL.out.size)
      have h3 := (bottom_parts r).2.1
      have HC1 := Lib.hid (fun (u : World) (hu : Laid u) => (decompose_any r u hu).mono fun _ _ h => h.new)
      have HC2 := Lib.hid (fun u : World => rdec_any r u)
      have HP1 := Lib.hid (fun (u : World) (hu : Laid u) => pair_any r u hu)
      have HP2 := Lib.hid (fun u : World => rpair_any r u)
      have HO1 := Lib.hid (fun (u : World) (hu : Laid u) => opens_any r u hu)
      have HO2 := Lib.hid (fun u : World => ropens_any r u)
      generalize fullF r = xs at HC1 HC2 h3
      generalize pairF r = q at HP1 HP2
      generalize opn r = v at HO1 HO2
      obtain ⟨qa, qb, qn⟩ := q
      have hvv : (v != v) = false := by simp
      clear hkl
      go_wp2_with fail
      refine (HP1.out _ HLr.out).mono ?_
      rintro e w2 ⟨rfl, hb2⟩
      have HB2 := Lib.hid (H.out.trans (hb2.mono H.out.size)); have HL2 := Lib.hid (HLr.out.next hb2)
      clear hb2
      dsimp only [trip]
      go_wp2_with fail
      refine (HP2.out _).mono ?_
      rintro e w3 ⟨rfl, hb3⟩
      have HB3 := Lib.hid (HB2.out.trans (hb3.mono HB2.out.size)); have HL3 := Lib.hid (HL2.out.next hb3)
      clear hb3
      dsimp only [trip]
      go_wp2_with fail
      refine (HC1.out _ HL3.out).mono ?_
      rintro e w4 ⟨A4, c4, rfl, h1, h2, hr4, hb4⟩
      have HB4 := Lib.hid (HB3.out.trans (hb4.mono HB3.out.size)); have HL4 := Lib.hid (HL3.out.next hb4); have HR4 := Lib.hid hr4
      clear hb4 hr4 h1 h2
      go_wp2_with fail
      refine (HC2.out _).mono ?_
      rintro e w5 ⟨A5, c5, rfl, h1, h2, hr5, hb5⟩
      have HB5 := Lib.hid (HB4.out.trans (hb5.mono HB4.out.size)); have HL5 := Lib.hid (HL4.out.next hb5); have HR5 := Lib.hid hr5; have HR45 := Lib.hid ((HR4.out.below hb5).more hb5.size)
      clear hb5 hr5 h1 h2 HR4
      go_wp2_with fail
      refine (same_at _ _ xs xs.length _ _ _ HR45.out HR5.out rfl (by omega)).mono ?_
      rintro e w6 ⟨rfl, z, rfl⟩
      have HB6 := Lib.hid (below_drewN HB5.out z); have HL6 := Lib.hid (HL5.out.drewN z)
      clear HR45 HR5
      go_wp2_with fail
      refine (HO1.out _ HL6.out).mono ?_
      rintro e w7 ⟨rfl, hb7⟩
      have HB7 := Lib.hid (HB6.out.trans (hb7.mono HB6.out.size))
      clear hb7
      go_wp2_with fail
      refine (HO2.out _).mono ?_
      rintro e w8 ⟨rfl, hb8⟩
      have HB8 := Lib.hid (HB7.out.trans (hb8.mono HB7.out.size))
      clear hb8
      go_wp2_with fail
      go_roundw
      case rel => exact ⟨k + 1, by omega, by go_num, HB8⟩
      case measure => simp [intOf]; omega
    · go_wp2_with fail
      go_ret
      exact ⟨rfl, H.out⟩

theorem contract (H : Type) (enc : TypeId × Value → H) (W : World) (base : Nat) (args : Array Value) (ds gs : List (DataW H)) (before : List MemPlace)
    (hval : ∀ (j : Nat) t v, Tryd.f5.params[j]? = some t → args[j]? = some v → Value.okWide Tryd.prog W .any base t v)
    (hW : DataW.Whole enc Tryd.prog Tryd.f5.params.toList Rows.ucdPairsSpec.vars false W args.toList ds gs before) (hLL : laidMetH Tryd.prog Rows.ucdPairsRow.laid W) :
    Calls Tryd.prog 5 args W fun e W' => ∃ v, e = .returned v ∧ Rows.ucdPairsSpec.post enc Tryd.prog Tryd.f5 false true false false W args v W' := by
  have hL : Laid W := laid_of hLL
  have hW' := hW
  obtain ⟨p, q, hA0, hV, rfl, hfz, hnd⟩ := hW
  have hA : DataW.TrodAll enc Tryd.prog W 0 (fun _ => true) true Tryd.f5.params.toList args.toList ds p := hA0
  rw [Tryd.params5] at hA hval
  obtain ⟨v0, vs0, d0, ds0, p0, q0, hargs, rfl, rfl, h0, r0⟩ := trodAll_cons hA
  obtain ⟨rfl, rfl, rfl⟩ := trodAll_nil r0
  obtain rfl : args = #[v0] := by cases args; simp_all
  obtain ⟨rfl, rfl⟩ := trodVars_none hV
  obtain ⟨a0, len0, cap0, rfl⟩ := okWide_slice Tryd.underlying22 (hval 0 22 v0 rfl rfl)
  have k0 := h0
  have lt0 : ∀ x ∈ p0, x.block < W.heap.size := by obtain ⟨m, hm⟩ := k0; exact DataW.trod_lt m _ _ _ hm
  obtain ⟨l0, hl0, hc0, hm0, hw0, hr0⟩ := open_nums h0
  clear hA0
  refine (walk a0 l0 len0 cap0 W hL hr0 hl0 (by omega)).mono fun e W' ⟨he, bel⟩ => ?_
  subst he
  exact ⟨_, rfl, _, _, _, [], _, [], hW', trodAll_mk1 (shut_bool Tryd.underlying4 _), (trodAll_cons_mk (Below.trod laidOut (by kernel_rfl) (of_decide_eq_true (by kernel_rfl)) k0 bel lt0) trodAll_mk0), rfl, bel.frame _, fun h => by cases h⟩

theorem laid_met (os : Os) : laidMet Tryd.prog Rows.ucdPairsRow.laid ((laidWorld os).forCall (fun _ _ => 0) ⟨#[], #[.slice none 0 0], []⟩).memory :=
  laidMet_of_run' 8 (by kernel_rfl) (by kernel_rfl)
theorem reads (os : Os) {H : Type} (enc : TypeId × Value → H) : ∃ places, DataW.whole enc Tryd.prog ((laidWorld os).forCall (fun _ _ => 0) ⟨#[], #[.slice none 0 0], []⟩).memory Tryd.f5.params.toList Rows.ucdPairsSpec.vars false (#[.slice none 0 0] : Array Value).toList 8 = some ([.nil], [], places) :=
  ⟨[], by kernel_rfl⟩

set_option maxRecDepth 100000 in
theorem lifted (os : Os) (started : os.Started) (H : Type) (enc : TypeId × Value → H) (F : Stop.Interp) :
    ReturnsInHanded {} Tryd.checked os 5 .any ((OpenSpec.ofChange Rows.ucdPairsSpec).preRow enc Tryd.prog Tryd.f5 Rows.ucdPairsRow.domain false Rows.ucdPairsRow.laid) (((OpenSpec.ofChange Rows.ucdPairsSpec).at F).post enc Tryd.prog Tryd.f5 false true false false) := by
  obtain ⟨places, hx⟩ := reads os enc
  refine returnsInHanded_of_row (C := Tryd.checked) (s := OpenSpec.ofChange Rows.ucdPairsSpec) own started (by kernel_rfl) Tryd.func5
    (witness_row_at (enc := enc) (C := Tryd.checked) false (laidWorld os) #[.slice none 0 0] rfl (by kernel_rfl) (by kernel_rfl) (by kernel_rfl)
      (OpenSpec.preRow_of_cond 8 hx (by kernel_rfl) (fun k hk => by cases hk) (by kernel_rfl) (laid_met os))) ?_
  intro W base args ds gs before hval hW _ _ _ hL _ _
  exact contract H enc W base args ds gs before hval hW hL

theorem said : Rows.UcdPairsSaid :=
  OpenClaim.holds_of_cond 5 Tryd.f5 rfl rfl rfl rfl rfl rfl rfl ⟨rfl, rfl, rfl, rfl, rfl⟩ rfl rfl rfl rfl rfl (by kernel_rfl) Tryd.func5 (by kernel_rfl)
    (of_decide_eq_true (by kernel_rfl)) (by unfold Func.isWrapper; first | (rw [if_pos (by decide +kernel)]; kernel_rfl) | (rw [if_neg (by decide +kernel)]; exact ⟨rfl, rfl⟩))
    (fun os started H enc _ F => by rw [OpenClaim.pre_eq_preRow]; exact lifted os started H enc F)

/-- no parameter wants a stand-in; the program's own looks are off -/
theorem plain (f : FuncId) (fn : Func) (hf : Tryd.pinned.checked.prog.funcNamed Rows.ucdPairsRow.func = some f) (hfn : Tryd.pinned.checked.prog.funcs[f]? = some fn) :
    false = Tryd.pinned.checked.prog.looks [] ∧ ∀ (j : Nat) t, fn.params[j]? = some t → Tryd.pinned.checked.prog.wantsStandIn t = false := by
  obtain rfl : f = 5 := Option.some.inj ((show Tryd.prog.funcNamed Rows.ucdPairsRow.func = some 5 by kernel_rfl).symm.trans hf) |>.symm
  obtain rfl : fn = Tryd.f5 := (Option.some.inj (Tryd.func5.symm.trans hfn)).symm
  refine ⟨by kernel_rfl, fun j t ht => ?_⟩
  rw [Tryd.params5] at ht
  have hm := Array.mem_of_getElem? ht
  simp only [List.mem_toArray, List.mem_cons, List.not_mem_nil, or_false] at hm
  rcases hm with rfl
  all_goals first | exact (show Tryd.prog.wantsStandIn 22 = false by kernel_rfl)

/-- THE STATEMENT -/
theorem proved : Rows.UcdPairsCardSaid :=
  Claim7.holds_tied_plain_at .later [] _ _ _ _ said (fun _ h => by cases h) (by kernel_rfl) (fun _ h => by cases h) ucdPairs_row_tie rfl ⟨rfl, rfl⟩ (by kernel_rfl) rfl plain (by kernel_rfl)
end Go.Proofs.YthpadpoomelhbaaDoor.LawUcdPairs
