/-
  Whatever numbers there are: a code point's bytes are as many as its size asks for, are read back as one, and none of another one begins in them. Conditions: none.
-/
import Derived.Test.YtginlfofijbpjaaUtfOpen
import Derived.Test.YtginlfofijbpjaaUtfMath2
namespace Go.Proofs.Ytginlfofijbpjaa.LawUtfWidths
open Go.ChangeShapes Go.WideShapes Go.ChangeAt Go.RowKit Utf
theorem bytesI32 : Try.prog.bytesOf 21 = 4 := by kernel_rfl

theorem width_cases (r : Int) : (vld r = false ∧ (encN (fix r)).length = 3) ∨
    (vld r = true ∧ r < 128 ∧ (encN (fix r)).length = 1) ∨ (vld r = true ∧ ¬ r < 128 ∧ r < 2048 ∧ (encN (fix r)).length = 2) ∨
    (vld r = true ∧ ¬ r < 128 ∧ ¬ r < 2048 ∧ r < 65536 ∧ (encN (fix r)).length = 3) ∨ (vld r = true ∧ ¬ r < 128 ∧ ¬ r < 2048 ∧ ¬ r < 65536 ∧ (encN (fix r)).length = 4) := by
  cases hv : vld r with
  | false => left; rw [fix_not hv]; exact ⟨rfl, rfl⟩
  | true =>
    right
    obtain ⟨q, rfl, hf, hq⟩ := fix_valid hv
    rw [hf]
    unfold encN
    by_cases c1 : q < 128
    · left; rw [if_pos c1]; exact ⟨rfl, by omega, rfl⟩
    by_cases c2 : q < 2048
    · right; left; rw [if_neg c1, if_pos c2]; exact ⟨rfl, by omega, by omega, rfl⟩
    by_cases c3 : q < 65536
    · right; right; left; rw [if_neg c1, if_neg c2, if_pos c3]; exact ⟨rfl, by omega, by omega, by omega, rfl⟩
    · right; right; right; rw [if_neg c1, if_neg c2, if_neg c3]; exact ⟨rfl, by omega, by omega, by omega, rfl⟩
/-- what the law's tests want of one number: its bytes e, N of them -/
theorem width_facts (r : Int) : (dec false 0 (encN (fix r))).length = 1 ∧ (∀ j, 1 ≤ j → (dec false 0 ((encN (fix r)).drop j)).length = (encN (fix r)).length - j ∧ ∀ q, (dec false 0 ((encN (fix r)).drop j))[0]? = some q → q.r = 65533) := by
  have hp := fix_pt r
  constructor
  · have := dec_enc1 hp [] 0
    rw [List.append_nil] at this
    rw [this]; rfl
  · intro j hj
    have hd : (encN (fix r)).drop j = ((encN (fix r)).drop 1).drop (j - 1) := by rw [List.drop_drop]; congr 1; omega
    rw [hd]
    obtain ⟨h1, h2⟩ := dec_cont (((encN (fix r)).drop 1).drop (j - 1)) 0 (cont_drop (enc_cont _) _)
    exact ⟨by rw [h1, ← hd, List.length_drop], h2⟩

set_option maxRecDepth 100000 in
set_option maxHeartbeats 8000000 in
theorem walk (A : Option Addr) (l : List Int) (n c : Nat) (w : World) (hr : Rd w w.heap.size A (nums l)) (hn : l.length = n) (hb : 4 * n ≤ 140737488355320) :
    Calls Try.prog 8 #[.slice A n c] w (Law w) := by
  have HN := Lib.hid hn
  clear hn
  obtain ⟨H, hH⟩ : ∃ H, H = w.heap.size := ⟨_, rfl⟩
  rw [← hH] at hr
  have HH := Lib.hid hH
  clear hH
  go_enter Try.func8, Try.ntmps8
  go_wp2_with fail
  refine (fixed_any _).mono ?_
  rintro e w1 hf
  obtain ⟨rfl, hb1⟩ := hf.out
  rw [← HH.out] at hb1
  clear hf
  go_wp2_with fail
  go_loopw [13] (fun i wr => ∃ k : Nat, k ≤ n ∧ i = .int .i64 k ∧ Below H w wr) (fun i _ => n - (intOf i).toNat)
  case atStart => exact ⟨0, Nat.zero_le _, rfl, hb1⟩
  case round =>
    clear hb1
    obtain ⟨wo, rfl⟩ : ∃ wo : World, wo = wr := ⟨_, rfl⟩
    obtain ⟨k, hk, rfl, hbel⟩ := hrel
    have hsz : H ≤ wo.heap.size := by have := hbel.size; rw [HH.out]; exact this
    by_cases hlt : k < n
    · have hkl : k < l.length := by rw [HN.out]; exact hlt
      obtain ⟨b, o, rfl, hbH⟩ := hr.form (by rw [nums_len]; omega)
      have hcell : wo.cell? ⟨b, o + k, none⟩ = some (.int .i32 l[k]) := (hr.below hbel).num hkl
      obtain ⟨r, hr'⟩ : ∃ r, r = l[k] := ⟨_, rfl⟩
      rw [← hr'] at hcell
      have hencs : enc [r] = encN (fix r) := by simp [enc]
      have henc := fun u : World => encode_any (some ⟨wo.heap.size, 0, none⟩) [r] 1 1 u
      obtain ⟨f1, f2⟩ := width_facts r
      have hc4 := encN_le (fix r)
      have hcs := width_cases r
      rw [hencs] at henc
      obtain ⟨ee, hee⟩ : ∃ ee, ee = encN (fix r) := ⟨_, rfl⟩
      rw [← hee] at henc f1 f2 hc4 hcs
      have HENC := Lib.hid henc; have HF1 := Lib.hid f1; have HF2 := Lib.hid f2
      clear hr' hkl hencs hee henc f1 f2 hr
      rcases hcs with ⟨h1, h2⟩ | ⟨h1, t1, h2⟩ | ⟨h1, t1, t2, h2⟩ | ⟨h1, t1, t2, t3, h2⟩ | ⟨h1, t1, t2, t3, h2⟩
      all_goals
        have HV := Lib.hid h1
        have HL := Lib.hid h2
        clear h1 h2 hc4
        go_wp2_with fail
        refine (HENC.out _ ((rd_new wo _ (nums [r]) wo.heap.size rfl).more (by simp)) rfl (by omega)).mono ?_
        rintro e w2 ⟨v2, rfl, hown2, hb2⟩
        rw [HL.out] at hown2
        obtain ⟨A2, c2, rfl, hc2, hcm2, hr2⟩ := own_form hown2
        have hbw2 : Below H w w2 := hbel.trans (Below.trans ((Below.refl _ _).alloc hsz _) (hb2.mono (by simp; omega)))
        obtain ⟨b2, o2, rfl, hb2l⟩ := hr2.form (by rw [bys_len, HL.out]; omega)
        clear hown2 hb2
        go_wp2_with fail
        refine (valid_any r _).mono ?_
        rintro e w2' ⟨rfl, rfl⟩
        rw [HV.out]
        go_wp2_with fail
        refine (decode_any _ ee _ c2 w2 hr2 HL.out hc2 hcm2 (by omega)).mono ?_
        rintro e w3 ⟨v3, rfl, hown3, hb3⟩
        rw [HF1.out] at hown3
        obtain ⟨A3, c3, rfl, _, _, _⟩ := own_form hown3
        have hbw3 : Below H w w3 := hbw2.trans (hb3.mono (by have := hbw2.size; rw [HH.out]; exact this))
        have hr3 := hr2.below hb3
        have hb2l3 : b2 < w3.heap.size := Nat.lt_of_lt_of_le hb2l hb3.size
        have hr3' := hr3.more hb3.size
        clear hown3 hb3 hr3 hr2
        go_wp2_with fail
        go_loopw [7] (fun i wr => ∃ j : Nat, 1 ≤ j ∧ j ≤ 4 ∧ Hid (j ≤ ee.length) ∧ i = .int .i64 j ∧ Below w3.heap.size w3 wr) (fun i _ => 5 - (intOf i).toNat)
        case atStart => exact ⟨1, Nat.le_refl _, by omega, Lib.hid (by rw [HL.out]; omega), rfl, Below.refl _ _⟩
        case round =>
          obtain ⟨j, hj1, hj4, HJ, rfl, hbr⟩ := hrel
          by_cases hj : j < ee.length
          · have hRj : Rd wr wr.heap.size (some ⟨b2, o2 + j, none⟩) (bys (ee.drop j)) := by
              have h := ((hr3'.below hbr).more hbr.size).drop_ j
              rwa [bys_drop] at h
            obtain ⟨p1, p2⟩ := HF2.out j hj1
            have hdl : (ee.drop j).length = ee.length - j := List.length_drop
            have hq : (((ee.length - j : Nat) : Int) != (ee.length : Int) - (j : Int)) = false := by simp; omega
            have hj' := hj
            obtain ⟨P, hP⟩ : ∃ P, P = dec false 0 (ee.drop j) := ⟨_, rfl⟩
            have hdc := fun m c' => decode_any (some ⟨b2, o2 + j, none⟩) (ee.drop j) m c' wr hRj
            rw [← hP] at p1 p2 hdc
            have HJ1 : Hid (j + 1 ≤ ee.length) := hj
            rw [HL.out] at hdl hq hj' p1
            first | rw [show ((1 : Nat) : Int) = 1 from rfl] at hq | rw [show ((2 : Nat) : Int) = 2 from rfl] at hq | rw [show ((3 : Nat) : Int) = 3 from rfl] at hq | rw [show ((4 : Nat) : Int) = 4 from rfl] at hq
            have HP1 := Lib.hid p1; have HP2 := Lib.hid p2; have HDL := Lib.hid hdl; have HDC := Lib.hid hdc
            have hjc : j < c2 := by omega
            clear hP p1 p2 hdl hdc hj hRj HF2 HF1
            first
            | (exfalso; omega)
            | (go_wp2_with fail
               refine (HDC.out _ _ HDL.out (by omega) (by omega) (by omega)).mono ?_
               rintro e w4 ⟨v4, rfl, hown4, hb4⟩
               rw [HP1.out] at hown4
               obtain ⟨A4, c4, rfl, _, _, hr4⟩ := own_form hown4
               obtain ⟨b4, o4, rfl, hb4l⟩ := hr4.form (by rw [pts_len, HP1.out]; omega)
               have hPl : 0 < P.length := by rw [HP1.out]; omega
               have hc4 : w4.cell? ⟨b4, o4, none⟩ = some (.int .i32 65533) := by
                 have h := (hr4.pt hPl).1
                 have h2 := HP2.out P[0] (List.getElem?_eq_getElem hPl)
                 rw [h2] at h
                 simpa using h
               clear hown4 hr4 hPl
               go_wp2
               go_roundw
               case rel => exact ⟨j + 1, by omega, by omega, HJ1, by go_num, hbr.trans (hb4.mono hbr.size)⟩
               case measure => simp [intOf]; omega)
          · have hj' : ¬ j < ee.length := hj
            rw [HL.out] at hj'
            clear hj
            go_wp2
            go_roundw
            case rel => exact ⟨k + 1, by omega, by go_num, hbw3.trans (hbr.mono (by have := hbw3.size; rw [HH.out]; exact this))⟩
            case measure => simp [intOf]; omega
    · clear hr
      go_wp2
      go_ret
      exact ⟨rfl, by rw [← HH.out]; exact hbel⟩

theorem contract (H : Type) (enc : TypeId × Value → H) (W : World) (base : Nat) (args : Array Value) (ds gs : List (DataW H)) (before : List MemPlace)
    (hval : ∀ (j : Nat) t v, Try.f8.params[j]? = some t → args[j]? = some v → Value.okWide Try.prog W .any base t v)
    (hW : DataW.Whole enc Try.prog Try.f8.params.toList Rows.utfWidthsSpec.vars false W args.toList ds gs before) (hsz0 : (DataW.weightsEach Try.prog (Try.f8.params.toList ++ Rows.utfWidthsSpec.plain.varTypes Try.prog) (ds ++ gs)).all (· ≤ reachBytes) = true) :
    Calls Try.prog 8 args W fun e W' => ∃ v, e = .returned v ∧ Rows.utfWidthsSpec.post enc Try.prog Try.f8 false true false false W args v W' := by
  have hW' := hW
  obtain ⟨p, q, hA0, hV, rfl, hfz, hnd⟩ := hW
  have hA : DataW.TrodAll enc Try.prog W 0 (fun _ => true) true Try.f8.params.toList args.toList ds p := hA0
  have hsz := hsz0
  rw [Try.params8] at hA hval hsz
  obtain ⟨v0, vs0, d0, ds0, p0, q0, hargs, rfl, rfl, h0, r0⟩ := trodAll_cons hA
  obtain ⟨rfl, rfl, rfl⟩ := trodAll_nil r0
  obtain rfl : args = #[v0] := by cases args; simp_all
  obtain ⟨rfl, rfl⟩ := trodVars_none hV
  obtain ⟨a0, len0, cap0, rfl⟩ := okWide_slice Try.underlying29 (hval 0 29 v0 rfl rfl)
  have k0 := h0
  have lt0 : ∀ x ∈ p0, x.block < W.heap.size := by obtain ⟨m, hm⟩ := k0; exact DataW.trod_lt m _ _ _ hm
  obtain ⟨l0, hl0, hc0, hm0, hw0, hr0, hb0, hd0⟩ := open_nums h0
  have hreach0 : 4 * cap0 ≤ 140737488351232 := by
    rcases hd0 with ⟨rfl, h⟩ | ⟨elems, spare, rfl, he, _⟩
    · omega
    · have := sized_slice hsz (j := 0) (t := 29) (e := 21) rfl rfl Try.underlying29
      rw [bytesI32] at this
      simp only [reachBytes] at this
      omega
  clear hA0
  refine (walk a0 l0 len0 cap0 W hr0 hl0 (by omega)).mono fun e W' ⟨he, bel⟩ => ?_
  subst he
  exact ⟨_, rfl, _, _, _, [], _, [], hW', trodAll_mk1 (shut_bool Try.underlying4 _), (trodAll_cons_mk (Below.trod laidOut (by kernel_rfl) (of_decide_eq_true (by kernel_rfl)) k0 bel lt0) trodAll_mk0), rfl, bel.frame _, fun h => by cases h⟩

set_option maxRecDepth 100000 in
theorem lifted (os : Os) (started : os.Started) (H : Type) (enc : TypeId × Value → H) :
    ReturnsInHanded {} Try.checked os 8 .any (Rows.utfWidthsSpec.pre6 enc Try.prog Try.f8 Rows.utfWidthsRow.domain false) (Rows.utfWidthsSpec.post enc Try.prog Try.f8 false true false false) := by
  refine returnsInHanded_of_change_sized (C := Try.checked) own started (by kernel_rfl) Try.func8
    (ChangeSpec.witness6 (enc := enc) (C := Try.checked) false ⟨#[], #[.slice none 0 0], []⟩ 8 (by kernel_rfl) (by kernel_rfl) (by kernel_rfl) (by kernel_rfl)) ?_
  intro W base args ds gs before hval hW _ hsz _
  exact contract H enc W base args ds gs before hval hW hsz

/-- THE STATEMENT -/
theorem proved : Rows.UtfWidthsSaid :=
  OpenClaim.holds_of_wide 8 Try.f8 rfl rfl rfl rfl rfl rfl rfl ⟨rfl, rfl, rfl, rfl, rfl⟩ rfl rfl rfl rfl rfl (by kernel_rfl) Try.func8 (by kernel_rfl)
    (of_decide_eq_true (by kernel_rfl)) (by unfold Func.isWrapper; first | (rw [if_pos (by decide +kernel)]; kernel_rfl) | (rw [if_neg (by decide +kernel)]; exact ⟨rfl, rfl⟩))
    (fun os started H enc _ => lifted os started H enc)
end Go.Proofs.Ytginlfofijbpjaa.LawUtfWidths
