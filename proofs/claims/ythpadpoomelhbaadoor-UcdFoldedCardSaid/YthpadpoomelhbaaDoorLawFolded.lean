/-
  Whatever numbers there are: each number in a folding folds to itself. Conditions: the package's tables are laid as the program's text lays them (tied).
-/
import Derived.Test.YthpadpoomelhbaaDoorUcdOpen
namespace Go.Proofs.YthpadpoomelhbaaDoor.LawUcdFolded
open Go.ChangeShapes Go.WideShapes Go.ChangeAt Go.RowKit Utf Ucd

theorem shf_out {r : Int} : ∀ {rows : List (Int × Int × Int × Int)}, (∀ x ∈ rows, ¬ (x.1 ≤ r ∧ r ≤ x.2.1)) → shf rows r = r := by
  intro rows
  induction rows with
  | nil => intro _; rfl
  | cons x t ih =>
    intro h
    have h0 := h x (by simp)
    rw [shf, if_neg (fun hh => h0 ⟨hh.1, hh.2.1⟩), ih fun y hy => h y (by simp [hy])]
def okF (r : Int) : Bool := (foldF r).all (fun x => foldF x == [x] && decide (-2147483648 ≤ x) && decide (x ≤ 2147483647))
def spec : List Int := [223, 7838, 304, 215, 930, 181, 376, 383, 837, 902, 962, 8486, 8490, 8491]
theorem fold_rows : ∀ x ∈ shRows, ∀ i < 150, x.1 + (i : Nat) ≤ x.2.1 → okF (x.1 + (i : Nat)) = true := by decide +kernel
theorem fold_spec : ∀ r ∈ spec, okF r = true := by decide +kernel
theorem rows_len : ∀ x ∈ shRows, x.2.1 < x.1 + 150 := by decide +kernel
theorem fold_self {r : Int} (h1 : r ∉ spec) (h2 : ∀ x ∈ shRows, ¬ (x.1 ≤ r ∧ r ≤ x.2.1)) : foldF r = [r] := by
  simp only [spec, List.mem_cons, List.not_mem_nil, or_false, not_or] at h1
  unfold foldF
  rw [if_neg (by omega), if_neg (by omega)]
  unfold foldA
  rw [shf_out h2]
  repeat rw [if_neg (by omega)]
theorem fold_fix (r : Int) (h1 : -2147483648 ≤ r) (h2 : r ≤ 2147483647) : ∀ x ∈ foldF r, foldF x = [x] ∧ -2147483648 ≤ x ∧ x ≤ 2147483647 := by
  intro x hx
  have fin : okF r = true → foldF x = [x] ∧ -2147483648 ≤ x ∧ x ≤ 2147483647 := fun h => by
    have := List.all_eq_true.1 h x hx
    simpa [and_assoc] using this
  by_cases hs : r ∈ spec
  · exact fin (fold_spec r hs)
  by_cases hr : ∃ y ∈ shRows, y.1 ≤ r ∧ r ≤ y.2.1
  · obtain ⟨y, hy, ha, hb⟩ := hr
    have hl := rows_len y hy
    have := fold_rows y hy (r - y.1).toNat (by omega) (by omega)
    rw [show y.1 + (((r - y.1).toNat : Nat) : Int) = r from by omega] at this
    exact fin this
  · have e := fold_self hs fun y hy h => hr ⟨y, hy, h⟩
    rw [e] at hx
    obtain rfl := List.mem_singleton.1 hx
    exact ⟨e, h1, h2⟩

set_option maxHeartbeats 8000000 in
theorem walk (A : Option Addr) (l : List Int) (n c : Nat) (w : World) (hL : Laid w) (hr : Rd w w.heap.size A (nums l)) (hn : l.length = n) (hb : n ≤ 9223372036854775807) (hw : ∀ n ∈ l, -2147483648 ≤ n ∧ n ≤ 2147483647) :
    Calls Tryd.prog 8 #[.slice A n c] w (Law w) := by
  have HN := Lib.hid hn
  have HF := Lib.hid (fixed_any w hL)
  have HL := Lib.hid hL
  have HR := Lib.hid hr
  have HW := Lib.hid hw
  clear hn hL hr hw
  go_enter Tryd.func8, Tryd.ntmps8
  go_wp2_with fail
  refine HF.out.mono ?_
  rintro e w1 ⟨rfl, hb1⟩
  have HB := Lib.hid hb1
  clear hb1 HF
  go_wp2_with fail
  go_loopw [11] (fun i wr => ∃ k : Nat, k ≤ n ∧ i = .int .i64 k ∧ Hid (Below w.heap.size w wr)) (fun i _ => n - (intOf i).toNat)
  case atStart => exact ⟨0, Nat.zero_le _, rfl, HB⟩
  case round =>
    obtain ⟨k, hk, rfl, H⟩ := hrel
    by_cases hlt : k < n
    · have hkl : k < l.length := by rw [HN.out]; exact hlt
      obtain ⟨b, o, rfl, hbH⟩ := HR.out.form (by rw [nums_len]; omega)
      have hcell : wr.cell? ⟨b, o + k, none⟩ = some (.int .i32 l[k]) := (HR.out.below H.out).num hkl
      obtain ⟨r1, r2⟩ := HW.out _ (List.getElem_mem hkl)
      generalize l[k] = r at hcell r1 r2
      have HLr := Lib.hid (HL.out.below H.out HL.out.size)
      have HX := Lib.hid (fold_fix r r1 r2)
      clear hkl
      go_wp2_with fail
      refine (fold_any r _ HLr.out r1 r2).mono ?_
      generalize foldF r = xs at HX
      rintro e w2 ⟨A2, c2, rfl, h1, h2, hr2, hb2⟩
      have HB2 := Lib.hid (H.out.trans (hb2.mono H.out.size)); have HL2 := Lib.hid (HLr.out.next hb2); have HR2 := Lib.hid hr2
      obtain ⟨m, hm⟩ : ∃ m, m = xs.length := ⟨_, rfl⟩
      rw [← hm] at h1 ⊢
      have HM := Lib.hid hm
      clear hb2 hr2 hm r1 r2
      go_wp2_with fail
      go_loopw [18] (fun i wx => ∃ j : Nat, j ≤ m ∧ i = .int .i64 j ∧ Hid (Below w2.heap.size w2 wx)) (fun i _ => m - (intOf i).toNat)
      case atStart => exact ⟨0, Nat.zero_le _, rfl, Lib.hid (Below.refl _ _)⟩
      case round =>
        obtain ⟨j, hj, rfl, HJ⟩ := hrel
        by_cases hjt : j < m
        · have hjl : j < xs.length := by rw [← HM.out]; exact hjt
          obtain ⟨b2, o2, rfl, hbH2⟩ := HR2.out.form (by rw [nums_len]; omega)
          have hc2 : wr.cell? ⟨b2, o2 + j, none⟩ = some (.int .i32 xs[j]) := (HR2.out.below HJ.out).num hjl
          obtain ⟨f1, f2, f3⟩ := HX.out _ (List.getElem_mem hjl)
          generalize xs[j] = x at hc2 f1 f2 f3
          have F1 := Lib.hid f1
          have HL3 := Lib.hid (HL2.out.next HJ.out)
          clear hjl f1
          go_wp2_with fail
          refine (fold_at x [x] 1 F1.out rfl f2 f3 _ HL3.out).mono ?_
          rintro e w4 ⟨A4, c4, rfl, hr4, hb4⟩
          have HR4 := Lib.hid hr4; have HB4 := Lib.hid (HJ.out.trans (hb4.mono HJ.out.size))
          clear hr4 hb4 hc2 f2 f3
          go_wp2_with fail
          refine (same_at _ _ [x] 1 _ _ _ ((HR4.out.alloc (Nat.le_refl _) _).more (by simp)) ((rd_new w4 _ (nums [x]) w4.heap.size rfl).more (by simp)) rfl (by omega)).mono ?_
          rintro e w5 ⟨rfl, q, rfl⟩
          have HB5 := Lib.hid (below_drewN (HB4.out.alloc HB4.out.size (.cells (nums [x]).toArray 21)) q)
          clear HR4
          go_wp2_with fail
          go_roundw
          case rel => exact ⟨j + 1, by omega, by go_num, HB5⟩
          case measure => simp [intOf]; omega
        · go_wp2_with fail
          go_roundw
          case rel => exact ⟨k + 1, by omega, by go_num, Lib.hid (HB2.out.trans (HJ.out.mono HB2.out.size))⟩
          case measure => simp [intOf]; omega
    · go_wp2_with fail
      go_ret
      exact ⟨rfl, H.out⟩

theorem contract (H : Type) (enc : TypeId × Value → H) (W : World) (base : Nat) (args : Array Value) (ds gs : List (DataW H)) (before : List MemPlace)
    (hval : ∀ (j : Nat) t v, Tryd.f8.params[j]? = some t → args[j]? = some v → Value.okWide Tryd.prog W .any base t v)
    (hW : DataW.Whole enc Tryd.prog Tryd.f8.params.toList Rows.ucdFoldedSpec.vars false W args.toList ds gs before) (hLL : laidMetH Tryd.prog Rows.ucdFoldedRow.laid W) :
    Calls Tryd.prog 8 args W fun e W' => ∃ v, e = .returned v ∧ Rows.ucdFoldedSpec.post enc Tryd.prog Tryd.f8 false true false false W args v W' := by
  have hL : Laid W := laid_of hLL
  have hW' := hW
  obtain ⟨p, q, hA0, hV, rfl, hfz, hnd⟩ := hW
  have hA : DataW.TrodAll enc Tryd.prog W 0 (fun _ => true) true Tryd.f8.params.toList args.toList ds p := hA0
  rw [Tryd.params8] at hA hval
  obtain ⟨v0, vs0, d0, ds0, p0, q0, hargs, rfl, rfl, h0, r0⟩ := trodAll_cons hA
  obtain ⟨rfl, rfl, rfl⟩ := trodAll_nil r0
  obtain rfl : args = #[v0] := by cases args; simp_all
  obtain ⟨rfl, rfl⟩ := trodVars_none hV
  obtain ⟨a0, len0, cap0, rfl⟩ := okWide_slice Tryd.underlying22 (hval 0 22 v0 rfl rfl)
  have k0 := h0
  have lt0 : ∀ x ∈ p0, x.block < W.heap.size := by obtain ⟨m, hm⟩ := k0; exact DataW.trod_lt m _ _ _ hm
  obtain ⟨l0, hl0, hc0, hm0, hw0, hr0⟩ := open_nums h0
  clear hA0
  refine (walk a0 l0 len0 cap0 W hL hr0 hl0 (by omega) (fun n hn => i32_wf (hw0 n hn))).mono fun e W' ⟨he, bel⟩ => ?_
  subst he
  exact ⟨_, rfl, _, _, _, [], _, [], hW', trodAll_mk1 (shut_bool Tryd.underlying4 _), (trodAll_cons_mk (Below.trod laidOut (by kernel_rfl) (of_decide_eq_true (by kernel_rfl)) k0 bel lt0) trodAll_mk0), rfl, bel.frame _, fun h => by cases h⟩

theorem laid_met (os : Os) : laidMet Tryd.prog Rows.ucdFoldedRow.laid ((laidWorld os).forCall (fun _ _ => 0) ⟨#[], #[.slice none 0 0], []⟩).memory :=
  laidMet_of_run' 8 (by kernel_rfl) (by kernel_rfl)
theorem reads (os : Os) {H : Type} (enc : TypeId × Value → H) : ∃ places, DataW.whole enc Tryd.prog ((laidWorld os).forCall (fun _ _ => 0) ⟨#[], #[.slice none 0 0], []⟩).memory Tryd.f8.params.toList Rows.ucdFoldedSpec.vars false (#[.slice none 0 0] : Array Value).toList 8 = some ([.nil], [], places) :=
  ⟨[], by kernel_rfl⟩

set_option maxRecDepth 100000 in
theorem lifted (os : Os) (started : os.Started) (H : Type) (enc : TypeId × Value → H) (F : Stop.Interp) :
    ReturnsInHanded {} Tryd.checked os 8 .any ((OpenSpec.ofChange Rows.ucdFoldedSpec).preRow enc Tryd.prog Tryd.f8 Rows.ucdFoldedRow.domain false Rows.ucdFoldedRow.laid) (((OpenSpec.ofChange Rows.ucdFoldedSpec).at F).post enc Tryd.prog Tryd.f8 false true false false) := by
  obtain ⟨places, hx⟩ := reads os enc
  refine returnsInHanded_of_row (C := Tryd.checked) (s := OpenSpec.ofChange Rows.ucdFoldedSpec) own started (by kernel_rfl) Tryd.func8
    (witness_row_at (enc := enc) (C := Tryd.checked) false (laidWorld os) #[.slice none 0 0] rfl (by kernel_rfl) (by kernel_rfl) (by kernel_rfl)
      (OpenSpec.preRow_of_cond 8 hx (by kernel_rfl) (fun k hk => by cases hk) (by kernel_rfl) (laid_met os))) ?_
  intro W base args ds gs before hval hW _ _ _ hL _ _
  exact contract H enc W base args ds gs before hval hW hL

theorem said : Rows.UcdFoldedSaid :=
  OpenClaim.holds_of_cond 8 Tryd.f8 rfl rfl rfl rfl rfl rfl rfl ⟨rfl, rfl, rfl, rfl, rfl⟩ rfl rfl rfl rfl rfl (by kernel_rfl) Tryd.func8 (by kernel_rfl)
    (of_decide_eq_true (by kernel_rfl)) (by unfold Func.isWrapper; first | (rw [if_pos (by decide +kernel)]; kernel_rfl) | (rw [if_neg (by decide +kernel)]; exact ⟨rfl, rfl⟩))
    (fun os started H enc _ F => by rw [OpenClaim.pre_eq_preRow]; exact lifted os started H enc F)

/-- no parameter wants a stand-in; the program's own looks are off -/
theorem plain (f : FuncId) (fn : Func) (hf : Tryd.pinned.checked.prog.funcNamed Rows.ucdFoldedRow.func = some f) (hfn : Tryd.pinned.checked.prog.funcs[f]? = some fn) :
    false = Tryd.pinned.checked.prog.looks [] ∧ ∀ (j : Nat) t, fn.params[j]? = some t → Tryd.pinned.checked.prog.wantsStandIn t = false := by
  obtain rfl : f = 8 := Option.some.inj ((show Tryd.prog.funcNamed Rows.ucdFoldedRow.func = some 8 by kernel_rfl).symm.trans hf) |>.symm
  obtain rfl : fn = Tryd.f8 := (Option.some.inj (Tryd.func8.symm.trans hfn)).symm
  refine ⟨by kernel_rfl, fun j t ht => ?_⟩
  rw [Tryd.params8] at ht
  have hm := Array.mem_of_getElem? ht
  simp only [List.mem_toArray, List.mem_cons, List.not_mem_nil, or_false] at hm
  rcases hm with rfl
  all_goals first | exact (show Tryd.prog.wantsStandIn 22 = false by kernel_rfl)

/-- THE STATEMENT -/
theorem proved : Rows.UcdFoldedCardSaid :=
  Claim7.holds_tied_plain_at .later [] _ _ _ _ said (fun _ h => by cases h) (by kernel_rfl) (fun _ h => by cases h) ucdFolded_row_tie rfl ⟨rfl, rfl⟩ (by kernel_rfl) rfl plain (by kernel_rfl)
end Go.Proofs.YthpadpoomelhbaaDoor.LawUcdFolded
