/-
  Whatever numbers there are: a syllable is made of a lead, a vowel and at most one tail, is reckoned back from them, opens a segment, and folds to itself; its vowel trails. Conditions: the package's tables are laid as the program's text lays them (tied).
-/
import Derived.Test.YthpadpoomelhbaaDoorUcdOpen
import Derived.Test.YthpadpoomelhbaaDoorUcdMore
import Derived.IntWalk
namespace Go.Proofs.YthpadpoomelhbaaDoor.LawUcdSyllables
open Go.ChangeShapes Go.WideShapes Go.ChangeAt Go.RowKit Utf Ucd

theorem cls_zero_high {r : Int} (h : 12443 ≤ r) : cls r = 0 := by
  refine at_all (p := fun r => 12443 ≤ r → cls r = 0) (L := ends clsRows ++ [12443]) (fun r b h => ?_) ?_ (-1) ?_ ?_ r h
  · rw [show cls r = cls b from look_same fun y hy => h y (by simp [hy]), h 12443 (by simp)]
  · decide +kernel
  · decide +kernel
  · decide +kernel
theorem shf_out {r : Int} : ∀ {rows : List (Int × Int × Int × Int)}, (∀ x ∈ rows, ¬ (x.1 ≤ r ∧ r ≤ x.2.1)) → shf rows r = r := by
  intro rows
  induction rows with
  | nil => intro _; rfl
  | cons x t ih =>
    intro h
    have h0 := h x (by simp)
    rw [shf, if_neg (fun hh => h0 ⟨hh.1, hh.2.1⟩), ih fun y hy => h y (by simp [hy])]
theorem fold_far {r : Int} (h : 8500 ≤ r) : foldF r = [r] := by
  have hs : shf shRows r = r := shf_out fun x hx => by
    obtain ⟨b1, b2, _⟩ := sh_bd x hx
    omega
  unfold foldF
  rw [if_neg (by omega), if_neg (by omega)]
  unfold foldA
  rw [hs]
  repeat rw [if_neg (by omega)]
theorem trl_vowel {v : Int} (h : 4449 ≤ v) (h' : v ≤ 4469) : trl v = true := by unfold trl; rw [decide_eq_true]; omega

set_option maxRecDepth 100000 in
set_option maxHeartbeats 8000000 in
theorem walk (A : Option Addr) (l : List Int) (n c : Nat) (w : World) (hL : Laid w) (hr : Rd w w.heap.size A (u16v l)) (hn : l.length = n) (hb : n ≤ 9223372036854775807) (hw : ∀ n ∈ l, 0 ≤ n ∧ n ≤ 65535) :
    Calls Tryd.prog 10 #[.slice A n c] w (Law w) := by
  have HN := Lib.hid hn
  have HF := Lib.hid (fixed_any w hL)
  have HL := Lib.hid hL
  have HR := Lib.hid hr
  have HW := Lib.hid hw
  clear hn hL hr hw
  go_enter Tryd.func10, Tryd.ntmps10
  go_wp2_with fail
  refine HF.out.mono ?_
  rintro e w1 ⟨rfl, hb1⟩
  have HB := Lib.hid hb1
  clear hb1 HF
  go_wp2_with fail
  go_loopw [12] (fun i wr => ∃ k : Nat, k ≤ n ∧ i = .int .i64 k ∧ Hid (Below w.heap.size w wr)) (fun i _ => n - (intOf i).toNat)
  case atStart => exact ⟨0, Nat.zero_le _, rfl, HB⟩
  case round =>
    obtain ⟨k, hk, rfl, H⟩ := hrel
    by_cases hlt : k < n
    · have hkl : k < l.length := by rw [HN.out]; exact hlt
      obtain ⟨b, o, rfl, hbH⟩ := HR.out.form (by rw [u16v_len]; omega)
      have hcell : wr.cell? ⟨b, o + k, none⟩ = some (.int .u16 l[k]) := Rd.u16 (HR.out.below H.out) hkl
      obtain ⟨z1, z2⟩ := HW.out _ (List.getElem_mem hkl)
      generalize l[k] = z at hcell z1 z2
      have HLr := Lib.hid (HL.out.below H.out HL.out.size)
      have s1 := Int.emod_nonneg z (b := 11172) (by omega)
      have s2 := Int.emod_lt_of_pos z (b := 11172) (by omega)
      clear hkl
      go_wp2_with fail
      generalize z % 11172 = s at s1 s2 ⊢
      have HOP := Lib.hid (opn_syl s1 (by omega))
      have HFO := Lib.hid (fold_far (r := 44032 + s) (by omega))
      have hd := full_syl s1 (by omega)
      by_cases hz : s % 28 = 0
      · rw [if_pos hz] at hd
        have a1 : 4352 ≤ 4352 + s / 588 := by omega
        have a2 : 4352 + s / 588 ≤ 4370 := by omega
        have v1 : 4449 ≤ 4449 + s % 588 / 28 := by omega
        have v2 : 4449 + s % 588 / 28 ≤ 4469 := by omega
        have hbk : 44032 + ((4352 + s / 588 - 4352) * 21 + (4449 + s % 588 / 28) - 4449) * 28 = 44032 + s := by omega
        generalize 4352 + s / 588 = a at hd a1 a2 hbk
        generalize 4449 + s % 588 / 28 = v at hd v1 v2 hbk
        have HD := Lib.hid (dec_at (44032 + s) [a, v] 2 hd rfl wr HLr.out)
        have HV := Lib.hid (trl_vowel v1 v2)
        have HBK := Lib.hid hbk
        clear hd hz hbk
        refine HD.out.mono ?_
        rintro e w2 ⟨A2, c2, rfl, hr2, hb2⟩
        have HB2 := Lib.hid (H.out.trans (hb2.mono H.out.size)); have HL2 := Lib.hid (HLr.out.next hb2)
        obtain ⟨b2, o2, rfl, hbH2⟩ := hr2.form (by rw [nums_len]; exact Nat.zero_lt_succ _)
        have k0 : w2.cell? ⟨b2, o2, none⟩ = some (.int .i32 a) := by have := hr2.num (l := [a, v]) (k := 0) (by simp); simpa using this
        have k1 : w2.cell? ⟨b2, o2 + 1, none⟩ = some (.int .i32 v) := by have := hr2.num (l := [a, v]) (k := 1) (by simp); simpa using this
        have d1 : decide (a < 4352) = false := by rw [decide_eq_false]; omega
        have d2 : decide (4370 < a) = false := by rw [decide_eq_false]; omega
        have d3 : decide (v < 4449) = false := by rw [decide_eq_false]; omega
        have d4 : decide (4469 < v) = false := by rw [decide_eq_false]; omega
        have e1 : IntKind.i32.wrap (a - 4352) = a - 4352 := IntWalk.i32_in _ (by omega)
        have e2 : IntKind.i32.wrap ((a - 4352) * 21) = (a - 4352) * 21 := IntWalk.i32_in _ (by omega)
        have e3 : IntKind.i32.wrap ((a - 4352) * 21 + v) = (a - 4352) * 21 + v := IntWalk.i32_in _ (by omega)
        have e4 : IntKind.i32.wrap ((a - 4352) * 21 + v - 4449) = (a - 4352) * 21 + v - 4449 := IntWalk.i32_in _ (by omega)
        have e5 : IntKind.i32.wrap (((a - 4352) * 21 + v - 4449) * 28) = ((a - 4352) * 21 + v - 4449) * 28 := IntWalk.i32_in _ (by omega)
        have e6 : IntKind.i32.wrap (44032 + ((a - 4352) * 21 + v - 4449) * 28) = 44032 + ((a - 4352) * 21 + v - 4449) * 28 := IntWalk.i32_in _ (by omega)
        clear hb2 hr2
        go_wp2_with fail
        go_quiet (fail)
        rw [HBK.out]
        clear e1 e2 e3 e4 e5 e6
        go_wp2_with fail
        refine (opens_at (44032 + s) true HOP.out _ (HL2.out.drewN _)).mono ?_
        rintro e w4 ⟨rfl, hb4⟩
        have hk1 : w4.cell? ⟨b2, o2 + 1, none⟩ = some (.int .i32 v) := (hb4.cell (p := ⟨b2, o2 + 1, none⟩) hbH2).trans k1
        have HB4 := Lib.hid ((below_drewN HB2.out _).trans (hb4.mono HB2.out.size)); have HL4 := Lib.hid (Laid.next (HL2.out.drewN _) hb4)
        clear hb4 k0 k1
        go_wp2_with fail
        refine (trailing_any v _).mono ?_
        rintro e w4' ⟨rfl, rfl⟩
        rw [HV.out]
        go_wp2_with fail
        refine (fold_at (44032 + s) [44032 + s] 1 HFO.out rfl (by omega) (by omega) _ HL4.out).mono ?_
        rintro e w5 ⟨A5, c5, rfl, hr5, hb5⟩
        have HR5 := Lib.hid hr5; have HB5 := Lib.hid (HB4.out.trans (hb5.mono HB4.out.size))
        clear hr5 hb5 hk1
        go_wp2_with fail
        refine (same_at _ _ [44032 + s] 1 _ _ _ ((HR5.out.alloc (Nat.le_refl _) _).more (by simp)) ((rd_new w5 _ (nums [44032 + s]) w5.heap.size rfl).more (by simp)) rfl (by omega)).mono ?_
        rintro e w6 ⟨rfl, q, rfl⟩
        have HB6 := Lib.hid (below_drewN (HB5.out.alloc HB5.out.size (.cells (nums [44032 + s]).toArray 21)) q)
        clear HR5
        go_wp2_with fail
        go_roundw
        case rel => exact ⟨k + 1, by omega, by go_num, HB6⟩
        case measure => simp [intOf]; omega
      · rw [if_neg hz] at hd
        have a1 : 4352 ≤ 4352 + s / 588 := by omega
        have a2 : 4352 + s / 588 ≤ 4370 := by omega
        have v1 : 4449 ≤ 4449 + s % 588 / 28 := by omega
        have v2 : 4449 + s % 588 / 28 ≤ 4469 := by omega
        have t1 : 4520 ≤ 4519 + s % 28 := by omega
        have t2 : 4519 + s % 28 ≤ 4546 := by omega
        have hbk : 44032 + ((4352 + s / 588 - 4352) * 21 + (4449 + s % 588 / 28) - 4449) * 28 + ((4519 + s % 28) - 4519) = 44032 + s := by omega
        generalize 4352 + s / 588 = a at hd a1 a2 hbk
        generalize 4449 + s % 588 / 28 = v at hd v1 v2 hbk
        generalize 4519 + s % 28 = t at hd t1 t2 hbk
        have HD := Lib.hid (dec_at (44032 + s) [a, v, t] 3 hd rfl wr HLr.out)
        have HV := Lib.hid (trl_vowel v1 v2)
        have HBK := Lib.hid hbk
        clear hd hz hbk
        refine HD.out.mono ?_
        rintro e w2 ⟨A2, c2, rfl, hr2, hb2⟩
        have HB2 := Lib.hid (H.out.trans (hb2.mono H.out.size)); have HL2 := Lib.hid (HLr.out.next hb2)
        obtain ⟨b2, o2, rfl, hbH2⟩ := hr2.form (by rw [nums_len]; exact Nat.zero_lt_succ _)
        have k0 : w2.cell? ⟨b2, o2, none⟩ = some (.int .i32 a) := by have := hr2.num (l := [a, v, t]) (k := 0) (by simp); simpa using this
        have k1 : w2.cell? ⟨b2, o2 + 1, none⟩ = some (.int .i32 v) := by have := hr2.num (l := [a, v, t]) (k := 1) (by simp); simpa using this
        have k2 : w2.cell? ⟨b2, o2 + 2, none⟩ = some (.int .i32 t) := by have := hr2.num (l := [a, v, t]) (k := 2) (by simp); simpa using this
        have d5 : decide (t < 4520) = false := by rw [decide_eq_false]; omega
        have d6 : decide (4546 < t) = false := by rw [decide_eq_false]; omega
        have d1 : decide (a < 4352) = false := by rw [decide_eq_false]; omega
        have d2 : decide (4370 < a) = false := by rw [decide_eq_false]; omega
        have d3 : decide (v < 4449) = false := by rw [decide_eq_false]; omega
        have d4 : decide (4469 < v) = false := by rw [decide_eq_false]; omega
        have e1 : IntKind.i32.wrap (a - 4352) = a - 4352 := IntWalk.i32_in _ (by omega)
        have e2 : IntKind.i32.wrap ((a - 4352) * 21) = (a - 4352) * 21 := IntWalk.i32_in _ (by omega)
        have e3 : IntKind.i32.wrap ((a - 4352) * 21 + v) = (a - 4352) * 21 + v := IntWalk.i32_in _ (by omega)
        have e4 : IntKind.i32.wrap ((a - 4352) * 21 + v - 4449) = (a - 4352) * 21 + v - 4449 := IntWalk.i32_in _ (by omega)
        have e5 : IntKind.i32.wrap (((a - 4352) * 21 + v - 4449) * 28) = ((a - 4352) * 21 + v - 4449) * 28 := IntWalk.i32_in _ (by omega)
        have e6 : IntKind.i32.wrap (44032 + ((a - 4352) * 21 + v - 4449) * 28) = 44032 + ((a - 4352) * 21 + v - 4449) * 28 := IntWalk.i32_in _ (by omega)
        clear hb2 hr2
        go_wp2_with fail
        go_quiet (fail)
        have hbk := HBK.out
        generalize 44032 + ((a - 4352) * 21 + v - 4449) * 28 = B at hbk ⊢
        have B1 : 40000 ≤ B := by omega
        have B2 : B ≤ 60000 := by omega
        have hne : (B + (t - 4519) != 44032 + s) = false := by rw [hbk]; simp
        clear hbk e1 e2 e3 e4 e5 e6
        go_wp2_with fail
        refine (opens_at (44032 + s) true HOP.out _ (HL2.out.drewN _)).mono ?_
        rintro e w4 ⟨rfl, hb4⟩
        have hk1 : w4.cell? ⟨b2, o2 + 1, none⟩ = some (.int .i32 v) := (hb4.cell (p := ⟨b2, o2 + 1, none⟩) hbH2).trans k1
        have HB4 := Lib.hid ((below_drewN HB2.out _).trans (hb4.mono HB2.out.size)); have HL4 := Lib.hid (Laid.next (HL2.out.drewN _) hb4)
        clear hb4 k0 k1 k2
        go_wp2_with fail
        refine (trailing_any v _).mono ?_
        rintro e w4' ⟨rfl, rfl⟩
        rw [HV.out]
        go_wp2_with fail
        refine (fold_at (44032 + s) [44032 + s] 1 HFO.out rfl (by omega) (by omega) _ HL4.out).mono ?_
        rintro e w5 ⟨A5, c5, rfl, hr5, hb5⟩
        have HR5 := Lib.hid hr5; have HB5 := Lib.hid (HB4.out.trans (hb5.mono HB4.out.size))
        clear hr5 hb5 hk1
        go_wp2_with fail
        refine (same_at _ _ [44032 + s] 1 _ _ _ ((HR5.out.alloc (Nat.le_refl _) _).more (by simp)) ((rd_new w5 _ (nums [44032 + s]) w5.heap.size rfl).more (by simp)) rfl (by omega)).mono ?_
        rintro e w6 ⟨rfl, q, rfl⟩
        have HB6 := Lib.hid (below_drewN (HB5.out.alloc HB5.out.size (.cells (nums [44032 + s]).toArray 21)) q)
        clear HR5
        go_wp2_with fail
        go_roundw
        case rel => exact ⟨k + 1, by omega, by go_num, HB6⟩
        case measure => simp [intOf]; omega
    · go_wp2_with fail
      go_ret
      exact ⟨rfl, H.out⟩

theorem contract (H : Type) (enc : TypeId × Value → H) (W : World) (base : Nat) (args : Array Value) (ds gs : List (DataW H)) (before : List MemPlace)
    (hval : ∀ (j : Nat) t v, Tryd.f10.params[j]? = some t → args[j]? = some v → Value.okWide Tryd.prog W .any base t v)
    (hW : DataW.Whole enc Tryd.prog Tryd.f10.params.toList Rows.ucdSyllablesSpec.vars false W args.toList ds gs before) (hLL : laidMetH Tryd.prog Rows.ucdSyllablesRow.laid W) :
    Calls Tryd.prog 10 args W fun e W' => ∃ v, e = .returned v ∧ Rows.ucdSyllablesSpec.post enc Tryd.prog Tryd.f10 false true false false W args v W' := by
  have hL : Laid W := laid_of hLL
  have hW' := hW
  obtain ⟨p, q, hA0, hV, rfl, hfz, hnd⟩ := hW
  have hA : DataW.TrodAll enc Tryd.prog W 0 (fun _ => true) true Tryd.f10.params.toList args.toList ds p := hA0
  rw [Tryd.params10] at hA hval
  obtain ⟨v0, vs0, d0, ds0, p0, q0, hargs, rfl, rfl, h0, r0⟩ := trodAll_cons hA
  obtain ⟨rfl, rfl, rfl⟩ := trodAll_nil r0
  obtain rfl : args = #[v0] := by cases args; simp_all
  obtain ⟨rfl, rfl⟩ := trodVars_none hV
  obtain ⟨a0, len0, cap0, rfl⟩ := okWide_slice Tryd.underlying40 (hval 0 40 v0 rfl rfl)
  have k0 := h0
  have lt0 : ∀ x ∈ p0, x.block < W.heap.size := by obtain ⟨m, hm⟩ := k0; exact DataW.trod_lt m _ _ _ hm
  obtain ⟨l0, hl0, hc0, hm0, hw0, hr0⟩ := open_u16s h0
  clear hA0
  refine (walk a0 l0 len0 cap0 W hL hr0 hl0 (by omega) (fun n hn => u16_wf (hw0 n hn))).mono fun e W' ⟨he, bel⟩ => ?_
  subst he
  exact ⟨_, rfl, _, _, _, [], _, [], hW', trodAll_mk1 (shut_bool Tryd.underlying4 _), (trodAll_cons_mk (Below.trod laidOut (by kernel_rfl) (of_decide_eq_true (by kernel_rfl)) k0 bel lt0) trodAll_mk0), rfl, bel.frame _, fun h => by cases h⟩

theorem laid_met (os : Os) : laidMet Tryd.prog Rows.ucdSyllablesRow.laid ((laidWorld os).forCall (fun _ _ => 0) ⟨#[], #[.slice none 0 0], []⟩).memory :=
  laidMet_of_run' 8 (by kernel_rfl) (by kernel_rfl)
theorem reads (os : Os) {H : Type} (enc : TypeId × Value → H) : ∃ places, DataW.whole enc Tryd.prog ((laidWorld os).forCall (fun _ _ => 0) ⟨#[], #[.slice none 0 0], []⟩).memory Tryd.f10.params.toList Rows.ucdSyllablesSpec.vars false (#[.slice none 0 0] : Array Value).toList 8 = some ([.nil], [], places) :=
  ⟨[], by kernel_rfl⟩

set_option maxRecDepth 100000 in
theorem lifted (os : Os) (started : os.Started) (H : Type) (enc : TypeId × Value → H) (F : Stop.Interp) :
    ReturnsInHanded {} Tryd.checked os 10 .any ((OpenSpec.ofChange Rows.ucdSyllablesSpec).preRow enc Tryd.prog Tryd.f10 Rows.ucdSyllablesRow.domain false Rows.ucdSyllablesRow.laid) (((OpenSpec.ofChange Rows.ucdSyllablesSpec).at F).post enc Tryd.prog Tryd.f10 false true false false) := by
  obtain ⟨places, hx⟩ := reads os enc
  refine returnsInHanded_of_row (C := Tryd.checked) (s := OpenSpec.ofChange Rows.ucdSyllablesSpec) own started (by kernel_rfl) Tryd.func10
    (witness_row_at (enc := enc) (C := Tryd.checked) false (laidWorld os) #[.slice none 0 0] rfl (by kernel_rfl) (by kernel_rfl) (by kernel_rfl)
      (OpenSpec.preRow_of_cond 8 hx (by kernel_rfl) (fun k hk => by cases hk) (by kernel_rfl) (laid_met os))) ?_
  intro W base args ds gs before hval hW _ _ _ hL _ _
  exact contract H enc W base args ds gs before hval hW hL

theorem said : Rows.UcdSyllablesSaid :=
  OpenClaim.holds_of_cond 10 Tryd.f10 rfl rfl rfl rfl rfl rfl rfl ⟨rfl, rfl, rfl, rfl, rfl⟩ rfl rfl rfl rfl rfl (by kernel_rfl) Tryd.func10 (by kernel_rfl)
    (of_decide_eq_true (by kernel_rfl)) (by unfold Func.isWrapper; first | (rw [if_pos (by decide +kernel)]; kernel_rfl) | (rw [if_neg (by decide +kernel)]; exact ⟨rfl, rfl⟩))
    (fun os started H enc _ F => by rw [OpenClaim.pre_eq_preRow]; exact lifted os started H enc F)

/-- no parameter wants a stand-in; the program's own looks are off -/
theorem plain (f : FuncId) (fn : Func) (hf : Tryd.pinned.checked.prog.funcNamed Rows.ucdSyllablesRow.func = some f) (hfn : Tryd.pinned.checked.prog.funcs[f]? = some fn) :
    false = Tryd.pinned.checked.prog.looks [] ∧ ∀ (j : Nat) t, fn.params[j]? = some t → Tryd.pinned.checked.prog.wantsStandIn t = false := by
  obtain rfl : f = 10 := Option.some.inj ((show Tryd.prog.funcNamed Rows.ucdSyllablesRow.func = some 10 by kernel_rfl).symm.trans hf) |>.symm
  obtain rfl : fn = Tryd.f10 := (Option.some.inj (Tryd.func10.symm.trans hfn)).symm
  refine ⟨by kernel_rfl, fun j t ht => ?_⟩
  rw [Tryd.params10] at ht
  have hm := Array.mem_of_getElem? ht
  simp only [List.mem_toArray, List.mem_cons, List.not_mem_nil, or_false] at hm
  rcases hm with rfl
  all_goals first | exact (show Tryd.prog.wantsStandIn 40 = false by kernel_rfl)

/-- THE STATEMENT -/
theorem proved : Rows.UcdSyllablesCardSaid :=
  Claim7.holds_tied_plain_at .later [] _ _ _ _ said (fun _ h => by cases h) (by kernel_rfl) (fun _ h => by cases h) ucdSyllables_row_tie rfl ⟨rfl, rfl⟩ (by kernel_rfl) rfl plain (by kernel_rfl)
end Go.Proofs.YthpadpoomelhbaaDoor.LawUcdSyllables
