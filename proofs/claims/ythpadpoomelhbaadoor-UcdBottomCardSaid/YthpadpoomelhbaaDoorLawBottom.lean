/-
  Whatever numbers there are: nothing in a full decomposition decomposes, it has one to three numbers, nothing behind its first opens, and that opens just where the number does. Conditions: the package's tables are laid as the program's text lays them (tied).
-/
import Derived.Test.YthpadpoomelhbaaDoorUcdOpen
import Derived.Test.YthpadpoomelhbaaDoorUcdMore
import Derived.Deep.RegionHeld3
namespace Go.Proofs.YthpadpoomelhbaaDoor.LawUcdBottom
open Go.ChangeShapes Go.WideShapes Go.ChangeAt Go.RowKit Utf Ucd

theorem laidS {w : World} {p : Prop} (h : Tabs w ∧ p) : Laid w := h.1.out
theorem keepS {w w' : World} {b o : Nat} {x : Int} (hb : Below w.heap.size w w') (h : Tabs w ∧ b < w.heap.size ∧ w.cell? ⟨b, o, none⟩ = some (.int .i32 x)) : Tabs w' ∧ b < w'.heap.size ∧ w'.cell? ⟨b, o, none⟩ = some (.int .i32 x) :=
  ⟨⟨h.1.out.next hb⟩, Nat.lt_of_lt_of_le h.2.1 hb.size, (hb.cell (p := ⟨b, o, none⟩) h.2.1).trans h.2.2⟩

set_option maxHeartbeats 8000000 in
theorem walk (A : Option Addr) (l : List Int) (n c : Nat) (w : World) (hL : Laid w) (hr : Rd w w.heap.size A (nums l)) (hn : l.length = n) (hb : n ≤ 9223372036854775807) :
    Calls Tryd.prog 7 #[.slice A n c] w (Law w) := by
  have HN := Lib.hid hn
  have HF := Lib.hid (fixed_any w hL)
  have HL := Lib.hid hL
  have HR := Lib.hid hr
  clear hn hL hr
  go_enter Tryd.func7, Tryd.ntmps7
  go_wp2_with fail
  refine HF.out.mono ?_
  rintro e w1 ⟨rfl, hb1⟩
  have HB := Lib.hid hb1
  clear hb1 HF
  go_wp2_with fail
  go_loopw [15] (fun i wr => ∃ k : Nat, k ≤ n ∧ i = .int .i64 k ∧ Hid (Below w.heap.size w wr)) (fun i _ => n - (intOf i).toNat)
  case atStart => exact ⟨0, Nat.zero_le _, rfl, HB⟩
  case round =>
    obtain ⟨k, hk, rfl, H⟩ := hrel
    by_cases hlt : k < n
    · have hkl : k < l.length := by rw [HN.out]; exact hlt
      obtain ⟨b, o, rfl, hbH⟩ := HR.out.form (by rw [nums_len]; omega)
      have hcell : wr.cell? ⟨b, o + k, none⟩ = some (.int .i32 l[k]) := (HR.out.below H.out).num hkl
      generalize l[k] = r at hcell
      have HLr := Lib.hid (HL.out.below H.out HL.out.size)
      obtain ⟨m1, m3, hp, ht, ho⟩ := bottom_parts r
      have HD := Lib.hid ((decompose_any r wr HLr.out).mono fun _ _ h => h.new)
      generalize fullF r = d at m1 m3 hp ht ho HD
      obtain ⟨x0, t, rfl⟩ : ∃ x0 t, d = x0 :: t := by cases d with
        | nil => simp at m1
        | cons x0 t => exact ⟨x0, t, rfl⟩
      have HP := Lib.hid hp
      have HT := Lib.hid (show ∀ x ∈ t, opn x = false from ht)
      have HO := Lib.hid (show opn x0 = opn r from ho)
      clear hkl hp ht ho
      go_wp2_with fail
      refine HD.out.mono ?_
      rintro e w2 ⟨A2, c2, rfl, g1, g2, hr2, hb2⟩
      have HB2 := Lib.hid (H.out.trans (hb2.mono H.out.size)); have HL2 := Lib.hid (HLr.out.next hb2)
      obtain ⟨b2, o2, rfl, hbH2⟩ := hr2.form (by rw [nums_len]; exact m1)
      have HR2 := Lib.hid hr2
      obtain ⟨m, hm⟩ : ∃ m, m = (x0 :: t).length := ⟨_, rfl⟩
      rw [← hm] at m1 m3 g1 ⊢
      have HM := Lib.hid hm
      have t1 : decide ((m : Int) < 1) = false := by rw [decide_eq_false]; omega
      have t2 : decide (3 < (m : Int)) = false := by rw [decide_eq_false]; omega
      clear hb2 hr2 hm HD hcell
      go_wp2_with fail
      go_loopw [31] (fun i wx => ∃ j : Nat, j ≤ m ∧ i = .int .i64 j ∧ Hid (Below w2.heap.size w2 wx)) (fun i _ => m - (intOf i).toNat)
      case atStart => exact ⟨0, Nat.zero_le _, rfl, Lib.hid (Below.refl _ _)⟩
      case round =>
        obtain ⟨j, hj, rfl, HJ⟩ := hrel
        by_cases hjt : j < m
        · have hjl : j < (x0 :: t).length := by rw [← HM.out]; exact hjt
          have hc2 : wr.cell? ⟨b2, o2 + j, none⟩ = some (.int .i32 (x0 :: t)[j]) := (HR2.out.below HJ.out).num hjl
          have hpx := HP.out _ (List.getElem_mem hjl)
          have hox : 0 < j → opn (x0 :: t)[j] = false := fun h => by
            cases j with
            | zero => omega
            | succ j => exact HT.out _ (List.getElem_mem (by simpa using hjl))
          generalize (x0 :: t)[j] = x at hc2 hpx hox
          have HL3 := Lib.hid (HL2.out.next HJ.out)
          have HC := Lib.hid (pair_any x wr HL3.out)
          have HOX := Lib.hid hox
          generalize pairF x = q at hpx HC
          obtain ⟨qa, qb, qn⟩ := q
          obtain rfl : qn = 0 := hpx
          clear hjl hox
          by_cases hj0 : j = 0
          · subst hj0
            rw [Nat.add_zero] at hc2
            go_wp2_with fail
            refine HC.out.mono ?_
            rintro e w4 ⟨rfl, hb4⟩
            have HB4 := Lib.hid (HJ.out.trans (hb4.mono HJ.out.size))
            clear hb4
            dsimp only [trip]
            go_wp2_with fail
            go_roundw
            case rel => exact ⟨1, by omega, by go_num, HB4⟩
            case measure => simp [intOf]; omega
          · have hjp : (0 : Int) < (j : Int) := by omega
            have HO2 := Lib.hid (HOX.out (by omega))
            have hjn : 0 < j := by omega
            have hjn' : decide (0 < j) = true := decide_eq_true hjn
            clear hj0
            go_wp2_with fail
            refine HC.out.mono ?_
            rintro e w4 ⟨rfl, hb4⟩
            have HB4 := Lib.hid (HJ.out.trans (hb4.mono HJ.out.size)); have HL4 := Lib.hid (HL3.out.next hb4)
            clear hb4
            dsimp only [trip]
            go_wp2_with fail
            refine (opens_at x false HO2.out _ HL4.out).mono ?_
            rintro e w5 ⟨rfl, hb5⟩
            have HB5 := Lib.hid (HB4.out.trans (hb5.mono HB4.out.size))
            clear hb5
            go_wp2_with fail
            go_roundw
            case rel => exact ⟨j + 1, by omega, by go_num, HB5⟩
            case measure => simp [intOf]; omega
        · have x0c : wr.cell? ⟨b2, o2, none⟩ = some (.int .i32 x0) := by
            have := (HR2.out.below HJ.out).num (l := x0 :: t) (k := 0) (by simp)
            simpa using this
          have TT : Tabs wr := ⟨HL2.out.next HJ.out⟩
          have hlw : b2 < wr.heap.size := Nat.lt_of_lt_of_le hbH2 HJ.out.size
          have hm0 : 0 < m := by omega
          have hbb : (opn r != opn r) = false := by simp
          have HW := Lib.hid (Below.refl w2.heap.size wr)
          go_wp2_with fail
          go_region_held3 (fun w' => Tabs w' ∧ b2 < w'.heap.size ∧ w'.cell? ⟨b2, o2, none⟩ = some (.int .i32 x0)) (first | exact ⟨⟨TT.out.drew⟩, hlw, x0c⟩ | exact keepS (by assumption) ⟨⟨TT.out.drew⟩, hlw, x0c⟩ | exact keepS (by assumption) (by assumption)) (first | (go_at_call_of 25 (Value.int .i32 r); refine (opens_any r _ (by first | exact TT.out.drew | exact laidS (by assumption))).mono ?_; rintro e w5 ⟨rfl, hb5⟩) | (go_at_call_of 25 (Value.int .i32 x0); refine (opens_at x0 (opn r) HO.out _ (by first | exact TT.out.drew | exact laidS (by assumption))).mono ?_; rintro e w6 ⟨rfl, hb6⟩))
          have HBZ := Lib.hid ((HB2.out.trans (HJ.out.mono HB2.out.size)).trans ((below_of_drew hb5).mono (Nat.le_trans HB2.out.size HJ.out.size)) |>.trans (hb6.mono (Nat.le_trans (Nat.le_trans HB2.out.size HJ.out.size) hb5.size)))
          clear hb5 hb6
          go_wp2_with fail
          go_roundw
          case rel => exact ⟨k + 1, by omega, by go_num, HBZ⟩
          case measure => simp [intOf]; omega
    · go_wp2_with fail
      go_ret
      exact ⟨rfl, H.out⟩

theorem contract (H : Type) (enc : TypeId × Value → H) (W : World) (base : Nat) (args : Array Value) (ds gs : List (DataW H)) (before : List MemPlace)
    (hval : ∀ (j : Nat) t v, Tryd.f7.params[j]? = some t → args[j]? = some v → Value.okWide Tryd.prog W .any base t v)
    (hW : DataW.Whole enc Tryd.prog Tryd.f7.params.toList Rows.ucdBottomSpec.vars false W args.toList ds gs before) (hLL : laidMetH Tryd.prog Rows.ucdBottomRow.laid W) :
    Calls Tryd.prog 7 args W fun e W' => ∃ v, e = .returned v ∧ Rows.ucdBottomSpec.post enc Tryd.prog Tryd.f7 false true false false W args v W' := by
  have hL : Laid W := laid_of hLL
  have hW' := hW
  obtain ⟨p, q, hA0, hV, rfl, hfz, hnd⟩ := hW
  have hA : DataW.TrodAll enc Tryd.prog W 0 (fun _ => true) true Tryd.f7.params.toList args.toList ds p := hA0
  rw [Tryd.params7] at hA hval
  obtain ⟨v0, vs0, d0, ds0, p0, q0, hargs, rfl, rfl, h0, r0⟩ := trodAll_cons hA
  obtain ⟨rfl, rfl, rfl⟩ := trodAll_nil r0
  obtain rfl : args = #[v0] := by cases args; simp_all
  obtain ⟨rfl, rfl⟩ := trodVars_none hV
  obtain ⟨a0, len0, cap0, rfl⟩ := okWide_slice Tryd.underlying22 (hval 0 22 v0 rfl rfl)
  have k0 := h0
  have lt0 : ∀ x ∈ p0, x.block < W.heap.size := by obtain ⟨m, hm⟩ := k0; exact DataW.trod_lt m _ _ _ hm
  obtain ⟨l0, hl0, hc0, hm0, hw0, hr0⟩ := open_nums h0
  clear hA0
  refine (walk a0 l0 len0 cap0 W hL hr0 hl0 (by omega)).mono fun e W' ⟨he, bel⟩ => ?_
  subst he
  exact ⟨_, rfl, _, _, _, [], _, [], hW', trodAll_mk1 (shut_bool Tryd.underlying4 _), (trodAll_cons_mk (Below.trod laidOut (by kernel_rfl) (of_decide_eq_true (by kernel_rfl)) k0 bel lt0) trodAll_mk0), rfl, bel.frame _, fun h => by cases h⟩

theorem laid_met (os : Os) : laidMet Tryd.prog Rows.ucdBottomRow.laid ((laidWorld os).forCall (fun _ _ => 0) ⟨#[], #[.slice none 0 0], []⟩).memory :=
  laidMet_of_run' 8 (by kernel_rfl) (by kernel_rfl)
theorem reads (os : Os) {H : Type} (enc : TypeId × Value → H) : ∃ places, DataW.whole enc Tryd.prog ((laidWorld os).forCall (fun _ _ => 0) ⟨#[], #[.slice none 0 0], []⟩).memory Tryd.f7.params.toList Rows.ucdBottomSpec.vars false (#[.slice none 0 0] : Array Value).toList 8 = some ([.nil], [], places) :=
  ⟨[], by kernel_rfl⟩

set_option maxRecDepth 100000 in
theorem lifted (os : Os) (started : os.Started) (H : Type) (enc : TypeId × Value → H) (F : Stop.Interp) :
    ReturnsInHanded {} Tryd.checked os 7 .any ((OpenSpec.ofChange Rows.ucdBottomSpec).preRow enc Tryd.prog Tryd.f7 Rows.ucdBottomRow.domain false Rows.ucdBottomRow.laid) (((OpenSpec.ofChange Rows.ucdBottomSpec).at F).post enc Tryd.prog Tryd.f7 false true false false) := by
  obtain ⟨places, hx⟩ := reads os enc
  refine returnsInHanded_of_row (C := Tryd.checked) (s := OpenSpec.ofChange Rows.ucdBottomSpec) own started (by kernel_rfl) Tryd.func7
    (witness_row_at (enc := enc) (C := Tryd.checked) false (laidWorld os) #[.slice none 0 0] rfl (by kernel_rfl) (by kernel_rfl) (by kernel_rfl)
      (OpenSpec.preRow_of_cond 8 hx (by kernel_rfl) (fun k hk => by cases hk) (by kernel_rfl) (laid_met os))) ?_
  intro W base args ds gs before hval hW _ _ _ hL _ _
  exact contract H enc W base args ds gs before hval hW hL

theorem said : Rows.UcdBottomSaid :=
  OpenClaim.holds_of_cond 7 Tryd.f7 rfl rfl rfl rfl rfl rfl rfl ⟨rfl, rfl, rfl, rfl, rfl⟩ rfl rfl rfl rfl rfl (by kernel_rfl) Tryd.func7 (by kernel_rfl)
    (of_decide_eq_true (by kernel_rfl)) (by unfold Func.isWrapper; first | (rw [if_pos (by decide +kernel)]; kernel_rfl) | (rw [if_neg (by decide +kernel)]; exact ⟨rfl, rfl⟩))
    (fun os started H enc _ F => by rw [OpenClaim.pre_eq_preRow]; exact lifted os started H enc F)

/-- no parameter wants a stand-in; the program's own looks are off -/
theorem plain (f : FuncId) (fn : Func) (hf : Tryd.pinned.checked.prog.funcNamed Rows.ucdBottomRow.func = some f) (hfn : Tryd.pinned.checked.prog.funcs[f]? = some fn) :
    false = Tryd.pinned.checked.prog.looks [] ∧ ∀ (j : Nat) t, fn.params[j]? = some t → Tryd.pinned.checked.prog.wantsStandIn t = false := by
  obtain rfl : f = 7 := Option.some.inj ((show Tryd.prog.funcNamed Rows.ucdBottomRow.func = some 7 by kernel_rfl).symm.trans hf) |>.symm
  obtain rfl : fn = Tryd.f7 := (Option.some.inj (Tryd.func7.symm.trans hfn)).symm
  refine ⟨by kernel_rfl, fun j t ht => ?_⟩
  rw [Tryd.params7] at ht
  have hm := Array.mem_of_getElem? ht
  simp only [List.mem_toArray, List.mem_cons, List.not_mem_nil, or_false] at hm
  rcases hm with rfl
  all_goals first | exact (show Tryd.prog.wantsStandIn 22 = false by kernel_rfl)

/-- THE STATEMENT -/
theorem proved : Rows.UcdBottomCardSaid :=
  Claim7.holds_tied_plain_at .later [] _ _ _ _ said (fun _ h => by cases h) (by kernel_rfl) (fun _ h => by cases h) ucdBottom_row_tie rfl ⟨rfl, rfl⟩ (by kernel_rfl) rfl plain (by kernel_rfl)
end Go.Proofs.YthpadpoomelhbaaDoor.LawUcdBottom
