/-
  CONTRACT OF the document's Fold.
-/
import Derived.Test.YthpadpoomelhbaaDoorUcdFixed
import Derived.Test.YthpadpoomelhbaaDoorUcdGroups
namespace Go.Proofs.YthpadpoomelhbaaDoor.Ucd
open Go.RowKit Utf

def gF0 : List (Int × Int) := [(65, 90), (192, 214), (216, 222), (913, 929), (931, 937), (1040, 1071)]
def gF1 : List (Int × Int) := [(256, 302), (306, 310), (330, 374), (7680, 7828)]
def gF2 : List (Int × Int) := [(313, 327), (377, 381)]
def ftT : List (Int × Int) := [(181, 956), (376, 255), (383, 115), (837, 953), (902, 940), (962, 963), (8486, 969), (8490, 107), (8491, 229)]
/-- the number beside r, or r -/
def tab : List (Int × Int) → Int → Int
  | [], r => r
  | x :: t, r => if r = x.1 then x.2 else tab t r
def rfoldF (r : Int) : List Int :=
  if anyB r gF0 = true then [r + 32] else if inB r 1024 1039 = true then [r + 80] else if r % 2 = 0 ∧ anyB r gF1 = true then [r + 1] else if ¬ r % 2 = 0 ∧ anyB r gF2 = true then [r + 1]
  else if r = 223 ∨ r = 7838 then [115, 115] else if r = 304 then [105, 775] else [tab ftT r]

/-! ### it is the project's -/
theorem shf_out {r : Int} : ∀ {rows : List (Int × Int × Int × Int)}, (∀ x ∈ rows, ¬ (x.1 ≤ r ∧ r ≤ x.2.1)) → shf rows r = r := by
  intro rows
  induction rows with
  | nil => intro _; rfl
  | cons x t ih =>
    intro h
    have h0 := h x (by simp)
    rw [shf, if_neg (fun hh => h0 ⟨hh.1, hh.2.1⟩), ih fun y hy => h y (by simp [hy])]
def specF : List Int := [223, 7838, 304, 215, 930, 181, 376, 383, 837, 902, 962, 8486, 8490, 8491]
theorem rf_rows : ∀ x ∈ shRows, ∀ i < 150, x.1 + (i : Nat) ≤ x.2.1 → rfoldF (x.1 + (i : Nat)) = foldF (x.1 + (i : Nat)) := by decide +kernel
theorem rf_spec : ∀ r ∈ specF, rfoldF r = foldF r := by decide +kernel
theorem rf_len : ∀ x ∈ shRows, x.2.1 < x.1 + 150 := by decide +kernel
theorem any_no {r : Int} {l : List (Int × Int)} (h : ∀ x ∈ l, ¬ (x.1 ≤ r ∧ r ≤ x.2)) : anyB r l = false := by
  simp only [anyB, List.any_eq_false]
  intro x hx
  rw [Bool.not_eq_true]
  exact decide_eq_false (h x hx)
theorem rf_in0 : ∀ x ∈ gF0, ∃ y ∈ shRows, y.1 ≤ x.1 ∧ x.2 ≤ y.2.1 := by decide +kernel
theorem rf_in1 : ∀ x ∈ gF1, ∃ y ∈ shRows, y.1 ≤ x.1 ∧ x.2 ≤ y.2.1 := by decide +kernel
theorem rf_in2 : ∀ x ∈ gF2, ∃ y ∈ shRows, y.1 ≤ x.1 ∧ x.2 ≤ y.2.1 := by decide +kernel
theorem rf_in3 : ∃ y ∈ shRows, y.1 ≤ 1024 ∧ 1039 ≤ y.2.1 := by decide +kernel
theorem rfold_eq (r : Int) : rfoldF r = foldF r := by
  by_cases hs : r ∈ specF
  · exact rf_spec r hs
  by_cases hr : ∃ y ∈ shRows, y.1 ≤ r ∧ r ≤ y.2.1
  · obtain ⟨y, hy, ha, hb⟩ := hr
    have hl := rf_len y hy
    have := rf_rows y hy (r - y.1).toNat (by omega) (by omega)
    rwa [show y.1 + (((r - y.1).toNat : Nat) : Int) = r from by omega] at this
  · have h2 : ∀ x ∈ shRows, ¬ (x.1 ≤ r ∧ r ≤ x.2.1) := fun y hy h => hr ⟨y, hy, h⟩
    have n0 : anyB r gF0 = false := any_no fun x hx h => by obtain ⟨y, hy, a, b⟩ := rf_in0 x hx; exact h2 y hy ⟨by omega, by omega⟩
    have n1 : anyB r gF1 = false := any_no fun x hx h => by obtain ⟨y, hy, a, b⟩ := rf_in1 x hx; exact h2 y hy ⟨by omega, by omega⟩
    have n2 : anyB r gF2 = false := any_no fun x hx h => by obtain ⟨y, hy, a, b⟩ := rf_in2 x hx; exact h2 y hy ⟨by omega, by omega⟩
    have n3 : inB r 1024 1039 = false := by
      unfold inB
      rw [decide_eq_false]
      intro h
      obtain ⟨y, hy, a, b⟩ := rf_in3
      exact h2 y hy ⟨by omega, by omega⟩
    simp only [specF, List.mem_cons, List.not_mem_nil, or_false, not_or] at hs
    have e1 : foldF r = [r] := by
      unfold foldF
      rw [if_neg (by omega), if_neg (by omega)]
      unfold foldA
      rw [shf_out h2]
      repeat rw [if_neg (by omega)]
    have e2 : tab ftT r = r := by
      simp only [ftT, tab]
      repeat rw [if_neg (by omega)]
    rw [e1, rfoldF, if_neg (by rw [n0]; decide), if_neg (by rw [n3]; decide), if_neg (fun h => by rw [n1] at h; exact absurd h.2 (by decide)), if_neg (fun h => by rw [n2] at h; exact absurd h.2 (by decide)), if_neg (by omega), if_neg (by omega), e2]

/-! ### the walk -/
theorem any_le {r : Int} {l : List (Int × Int)} (h : anyB r l = true) {B : Int} (hb : ∀ x ∈ l, x.2 ≤ B) : r ≤ B := by
  obtain ⟨x, hx, e⟩ := List.any_eq_true.1 h
  have := inB_yes e
  have := hb x hx
  omega
theorem new_one (w : World) (x : Int) : New w [x] (.returned (.slice (some ⟨w.heap.size, 0, none⟩) 1 1)) (w.alloc (.cells #[.int .i32 x] 21)) := new_made w w (Below.refl _ _) [x] 1 rfl (by omega)
theorem new_two (w : World) (x y : Int) : New w [x, y] (.returned (.slice (some ⟨w.heap.size, 0, none⟩) 2 2)) (w.alloc (.cells #[.int .i32 x, .int .i32 y] 21)) := new_made w w (Below.refl _ _) [x, y] 2 rfl (by omega)
theorem New.cast {w : World} {xs ys : List Int} {e : Ending} {w' : World} (h : New w xs e w') (he : ys = xs) : New w ys e w' := he ▸ h

set_option maxRecDepth 100000 in
set_option maxHeartbeats 16000000 in
theorem rfold_even (r : Int) (w : World) (h0 : 0 ≤ r) (h2 : r ≤ 2147483647) (hp : r % 2 = 0) : Calls Tryd.prog 28 #[.int .i32 r] w (New w (rfoldF r)) := by
  have HP := Lib.hid hp
  have p0 : (r % 2 == 0) = true := by simpa using hp
  have p1 : (r % 2 == 1) = false := by simp; omega
  clear hp
  go_enter Tryd.func28, Tryd.ntmps28
  go_upto_region 2 with (go_at_call 31; refine (in_any _ _ _ _).mono ?_; rintro e w' ⟨rfl, rfl⟩)
  go_cut [14] (fun s wx => ∃ b : Bool, s = .bool b ∧ Hid (anyB r gF0 = b) ∧ Hid (w = wx))
  case first => as_aux_lemma =>
    go_wp2_with (go_at_call 31; refine (in_any _ _ _ _).mono ?_; rintro e w' ⟨rfl, rfl⟩)
    all_goals go_meet
    all_goals exact ⟨_, rfl, Lib.hid (by simp [anyB, gF0, *]), Lib.hid rfl⟩
  case rest =>
    obtain ⟨b0, rfl, Hb0, hw⟩ := hcut
    obtain rfl := hw.out
    clear hw
    cases b0 with
    | true =>
      have hle : r ≤ 1071 := any_le Hb0.out (by decide)
      have HE := Lib.hid (show rfoldF r = [r + 32] by rw [rfoldF, if_pos Hb0.out])
      go_wp2
      go_ret
      exact (new_one w (r + 32)).cast HE.out
    | false =>
      obtain ⟨b1, hb1⟩ : ∃ b, inB r 1024 1039 = b := ⟨_, rfl⟩
      have Hb1 := Lib.hid hb1
      cases b1 with
      | true =>
        have hle : r ≤ 1039 := (inB_yes hb1).2
        have HE := Lib.hid (show rfoldF r = [r + 80] by rw [rfoldF, if_neg (by rw [Hb0.out]; decide), if_pos Hb1.out])
        go_wp2_with (go_at_call 31; refine (in_any _ _ _ _).mono ?_; rintro e w' ⟨rfl, rfl⟩)
        go_ret
        exact (new_one w (r + 80)).cast HE.out
      | false =>
        go_upto_region 6 with (go_at_call 31; refine (in_any _ _ _ _).mono ?_; rintro e w' ⟨rfl, rfl⟩)
        go_cut [46] (fun s wx => ∃ b : Bool, s = .bool b ∧ Hid (anyB r gF1 = b) ∧ Hid (w = wx))
        case first => as_aux_lemma =>
          go_wp2_with (go_at_call 31; refine (in_any _ _ _ _).mono ?_; rintro e w' ⟨rfl, rfl⟩)
          all_goals go_meet
          all_goals exact ⟨_, rfl, Lib.hid (by simp [anyB, gF1, *]), Lib.hid rfl⟩
        case rest =>
          obtain ⟨b2, rfl, Hb2, hw⟩ := hcut
          obtain rfl := hw.out
          clear hw
          cases b2 with
          | true =>
            have hle : r ≤ 7828 := any_le Hb2.out (by decide)
            have HE := Lib.hid (show rfoldF r = [r + 1] by rw [rfoldF, if_neg (by rw [Hb0.out]; decide), if_neg (by rw [Hb1.out]; decide), if_pos ⟨HP.out, Hb2.out⟩])
            go_wp2
            go_ret
            exact (new_one w (r + 1)).cast HE.out
          | false =>
            have HR := Lib.hid (show rfoldF r = if r = 223 ∨ r = 7838 then [115, 115] else if r = 304 then [105, 775] else [tab ftT r] by rw [rfoldF, if_neg (by rw [Hb0.out]; decide), if_neg (by rw [Hb1.out]; decide), if_neg (fun h => by rw [Hb2.out] at h; exact absurd h.2 (by decide)), if_neg (fun h => h.1 HP.out)])
            by_cases k1 : r = 223
            · have HE := Lib.hid (HR.out.trans (if_pos (.inl k1)))
              have k1' : (r == 223) = true := by simpa using k1
              clear k1
              go_wp2_with (go_at_call 31; refine (in_any _ _ _ _).mono ?_; rintro e w' ⟨rfl, rfl⟩)
              go_ret
              exact (new_two w 115 115).cast HE.out
            by_cases k2 : r = 7838
            · have HE := Lib.hid (HR.out.trans (if_pos (.inr k2)))
              have k1' : (r == 223) = false := by simpa using k1
              have k2' : (r == 7838) = true := by simpa using k2
              clear k1 k2
              go_wp2_with (go_at_call 31; refine (in_any _ _ _ _).mono ?_; rintro e w' ⟨rfl, rfl⟩)
              go_ret
              exact (new_two w 115 115).cast HE.out
            by_cases k3 : r = 304
            · have HE := Lib.hid (HR.out.trans ((if_neg (by omega)).trans (if_pos k3)))
              have k1' : (r == 223) = false := by simpa using k1
              have k2' : (r == 7838) = false := by simpa using k2
              have k3' : (r == 304) = true := by simpa using k3
              clear k1 k2 k3
              go_wp2_with (go_at_call 31; refine (in_any _ _ _ _).mono ?_; rintro e w' ⟨rfl, rfl⟩)
              go_ret
              exact (new_two w 105 775).cast HE.out
            have HE := Lib.hid (HR.out.trans ((if_neg (by omega)).trans (if_neg k3)))
            have k1' : (r == 223) = false := by simpa using k1
            have k2' : (r == 7838) = false := by simpa using k2
            have k3' : (r == 304) = false := by simpa using k3
            clear k1 k2 k3
            go_wp2_with (go_at_call 31; refine (in_any _ _ _ _).mono ?_; rintro e w' ⟨rfl, rfl⟩)
            have hW : ∃ W, W = ((w.alloc (.cells #[.int .i32 181, .int .i32 376, .int .i32 383, .int .i32 837, .int .i32 902, .int .i32 962, .int .i32 8486, .int .i32 8490, .int .i32 8491] 21)).alloc (.cells #[.int .i32 956, .int .i32 255, .int .i32 115, .int .i32 953, .int .i32 940, .int .i32 963, .int .i32 969, .int .i32 107, .int .i32 229] 21)) := ⟨_, rfl⟩
            obtain ⟨W, hW⟩ := hW
            rw [← hW]
            have B1 : Blk W w.heap.size 21 (nums (ftT.map (·.1))) := by rw [hW]; exact (Blk.new w _ (nums (ftT.map (·.1)))).alloc _
            have B2 : Blk W (w.heap.size + 1) 21 (nums (ftT.map (·.2))) := by
              have := Blk.new (w.alloc (.cells (nums (ftT.map (·.1))).toArray 21)) 21 (nums (ftT.map (·.2)))
              rw [World.size_alloc] at this
              rw [hW]; exact this
            have BW : Below w.heap.size w W := by rw [hW]; exact ((Below.refl _ _).alloc (Nat.le_refl _) _).alloc (by simp) _
            have HB1 := Lib.hid B1; have HB2 := Lib.hid B2; have HBW := Lib.hid BW
            clear hW B1 B2 BW k1' k2' k3' p0 p1
            go_loop [7] (fun i => ∃ k : Nat, k ≤ 9 ∧ i = .int .i64 k ∧ Hid (tab (ftT.drop k) r = tab ftT r)) (fun i => 9 - (intOf i).toNat)
            case atStart => exact ⟨0, Nat.zero_le _, rfl, Lib.hid rfl⟩
            case round =>
              obtain ⟨k, hk, rfl, H⟩ := hrel
              by_cases hlt : k < 9
              · have hl : k < ftT.length := hlt
                have c1 : W.cell? ⟨w.heap.size, k, none⟩ = some (.int .i32 (ftT[k]'hl).1) := by
                  rw [HB1.out.cell k, nums_get (by simpa using hl)]; simp
                have c2 : W.cell? ⟨w.heap.size + 1, k, none⟩ = some (.int .i32 (ftT[k]'hl).2) := by
                  rw [HB2.out.cell k, nums_get (by simpa using hl)]; simp
                have hd : tab (ftT.drop k) r = if r = (ftT[k]'hl).1 then (ftT[k]'hl).2 else tab (ftT.drop (k + 1)) r := by
                  rw [List.drop_eq_getElem_cons hl]; rfl
                generalize ftT[k]'hl = row at c1 c2 hd
                obtain ⟨x, y⟩ := row
                dsimp only at c1 c2 hd
                have HD := Lib.hid hd
                clear hd hl
                by_cases hc : r = x
                · have HC := Lib.hid hc
                  have hc' : (r == x) = true := by simpa using hc
                  clear hc
                  go_wp2
                  go_ret
                  exact (new_made w W HBW.out [y] 1 rfl (by omega)).cast (by rw [HE.out, ← H.out, HD.out, if_pos HC.out])
                · have HC := Lib.hid hc
                  have hc' : (r == x) = false := by simpa using hc
                  clear hc
                  go_wp2
                  go_round
                  case rel => exact ⟨k + 1, by omega, by go_num, Lib.hid (by rw [← H.out, HD.out, if_neg HC.out])⟩
                  case measure => simp [intOf]; omega
              · obtain rfl : k = 9 := by omega
                go_wp2
                go_ret
                exact (new_made w W HBW.out [r] 1 rfl (by omega)).cast (by rw [HE.out, ← H.out]; rfl)
set_option maxRecDepth 100000 in
set_option maxHeartbeats 16000000 in
theorem rfold_odd (r : Int) (w : World) (h0 : 0 ≤ r) (h2 : r ≤ 2147483647) (hp : ¬ r % 2 = 0) : Calls Tryd.prog 28 #[.int .i32 r] w (New w (rfoldF r)) := by
  have HP := Lib.hid hp
  have p0 : (r % 2 == 0) = false := by simpa using hp
  have p1 : (r % 2 == 1) = true := by simp; omega
  clear hp
  go_enter Tryd.func28, Tryd.ntmps28
  go_upto_region 2 with (go_at_call 31; refine (in_any _ _ _ _).mono ?_; rintro e w' ⟨rfl, rfl⟩)
  go_cut [14] (fun s wx => ∃ b : Bool, s = .bool b ∧ Hid (anyB r gF0 = b) ∧ Hid (w = wx))
  case first => as_aux_lemma =>
    go_wp2_with (go_at_call 31; refine (in_any _ _ _ _).mono ?_; rintro e w' ⟨rfl, rfl⟩)
    all_goals go_meet
    all_goals exact ⟨_, rfl, Lib.hid (by simp [anyB, gF0, *]), Lib.hid rfl⟩
  case rest =>
    obtain ⟨b0, rfl, Hb0, hw⟩ := hcut
    obtain rfl := hw.out
    clear hw
    cases b0 with
    | true =>
      have hle : r ≤ 1071 := any_le Hb0.out (by decide)
      have HE := Lib.hid (show rfoldF r = [r + 32] by rw [rfoldF, if_pos Hb0.out])
      go_wp2
      go_ret
      exact (new_one w (r + 32)).cast HE.out
    | false =>
      obtain ⟨b1, hb1⟩ : ∃ b, inB r 1024 1039 = b := ⟨_, rfl⟩
      have Hb1 := Lib.hid hb1
      cases b1 with
      | true =>
        have hle : r ≤ 1039 := (inB_yes hb1).2
        have HE := Lib.hid (show rfoldF r = [r + 80] by rw [rfoldF, if_neg (by rw [Hb0.out]; decide), if_pos Hb1.out])
        go_wp2_with (go_at_call 31; refine (in_any _ _ _ _).mono ?_; rintro e w' ⟨rfl, rfl⟩)
        go_ret
        exact (new_one w (r + 80)).cast HE.out
      | false =>
        go_upto_region 8 with (go_at_call 31; refine (in_any _ _ _ _).mono ?_; rintro e w' ⟨rfl, rfl⟩)
        go_cut [67] (fun s wx => ∃ b : Bool, s = .bool b ∧ Hid (anyB r gF2 = b) ∧ Hid (w = wx))
        case first => as_aux_lemma =>
          go_wp2_with (go_at_call 31; refine (in_any _ _ _ _).mono ?_; rintro e w' ⟨rfl, rfl⟩)
          all_goals go_meet
          all_goals exact ⟨_, rfl, Lib.hid (by simp [anyB, gF2, *]), Lib.hid rfl⟩
        case rest =>
          obtain ⟨b2, rfl, Hb2, hw⟩ := hcut
          obtain rfl := hw.out
          clear hw
          cases b2 with
          | true =>
            have hle : r ≤ 381 := any_le Hb2.out (by decide)
            have HE := Lib.hid (show rfoldF r = [r + 1] by rw [rfoldF, if_neg (by rw [Hb0.out]; decide), if_neg (by rw [Hb1.out]; decide), if_neg (fun h => HP.out h.1), if_pos ⟨HP.out, Hb2.out⟩])
            go_wp2
            go_ret
            exact (new_one w (r + 1)).cast HE.out
          | false =>
            have HR := Lib.hid (show rfoldF r = if r = 223 ∨ r = 7838 then [115, 115] else if r = 304 then [105, 775] else [tab ftT r] by rw [rfoldF, if_neg (by rw [Hb0.out]; decide), if_neg (by rw [Hb1.out]; decide), if_neg (fun h => HP.out h.1), if_neg (fun h => by rw [Hb2.out] at h; exact absurd h.2 (by decide))])
            by_cases k1 : r = 223
            · have HE := Lib.hid (HR.out.trans (if_pos (.inl k1)))
              have k1' : (r == 223) = true := by simpa using k1
              clear k1
              go_wp2_with (go_at_call 31; refine (in_any _ _ _ _).mono ?_; rintro e w' ⟨rfl, rfl⟩)
              go_ret
              exact (new_two w 115 115).cast HE.out
            by_cases k2 : r = 7838
            · have HE := Lib.hid (HR.out.trans (if_pos (.inr k2)))
              have k1' : (r == 223) = false := by simpa using k1
              have k2' : (r == 7838) = true := by simpa using k2
              clear k1 k2
              go_wp2_with (go_at_call 31; refine (in_any _ _ _ _).mono ?_; rintro e w' ⟨rfl, rfl⟩)
              go_ret
              exact (new_two w 115 115).cast HE.out
            by_cases k3 : r = 304
            · have HE := Lib.hid (HR.out.trans ((if_neg (by omega)).trans (if_pos k3)))
              have k1' : (r == 223) = false := by simpa using k1
              have k2' : (r == 7838) = false := by simpa using k2
              have k3' : (r == 304) = true := by simpa using k3
              clear k1 k2 k3
              go_wp2_with (go_at_call 31; refine (in_any _ _ _ _).mono ?_; rintro e w' ⟨rfl, rfl⟩)
              go_ret
              exact (new_two w 105 775).cast HE.out
            have HE := Lib.hid (HR.out.trans ((if_neg (by omega)).trans (if_neg k3)))
            have k1' : (r == 223) = false := by simpa using k1
            have k2' : (r == 7838) = false := by simpa using k2
            have k3' : (r == 304) = false := by simpa using k3
            clear k1 k2 k3
            go_wp2_with (go_at_call 31; refine (in_any _ _ _ _).mono ?_; rintro e w' ⟨rfl, rfl⟩)
            have hW : ∃ W, W = ((w.alloc (.cells #[.int .i32 181, .int .i32 376, .int .i32 383, .int .i32 837, .int .i32 902, .int .i32 962, .int .i32 8486, .int .i32 8490, .int .i32 8491] 21)).alloc (.cells #[.int .i32 956, .int .i32 255, .int .i32 115, .int .i32 953, .int .i32 940, .int .i32 963, .int .i32 969, .int .i32 107, .int .i32 229] 21)) := ⟨_, rfl⟩
            obtain ⟨W, hW⟩ := hW
            rw [← hW]
            have B1 : Blk W w.heap.size 21 (nums (ftT.map (·.1))) := by rw [hW]; exact (Blk.new w _ (nums (ftT.map (·.1)))).alloc _
            have B2 : Blk W (w.heap.size + 1) 21 (nums (ftT.map (·.2))) := by
              have := Blk.new (w.alloc (.cells (nums (ftT.map (·.1))).toArray 21)) 21 (nums (ftT.map (·.2)))
              rw [World.size_alloc] at this
              rw [hW]; exact this
            have BW : Below w.heap.size w W := by rw [hW]; exact ((Below.refl _ _).alloc (Nat.le_refl _) _).alloc (by simp) _
            have HB1 := Lib.hid B1; have HB2 := Lib.hid B2; have HBW := Lib.hid BW
            clear hW B1 B2 BW k1' k2' k3' p0 p1
            go_loop [7] (fun i => ∃ k : Nat, k ≤ 9 ∧ i = .int .i64 k ∧ Hid (tab (ftT.drop k) r = tab ftT r)) (fun i => 9 - (intOf i).toNat)
            case atStart => exact ⟨0, Nat.zero_le _, rfl, Lib.hid rfl⟩
            case round =>
              obtain ⟨k, hk, rfl, H⟩ := hrel
              by_cases hlt : k < 9
              · have hl : k < ftT.length := hlt
                have c1 : W.cell? ⟨w.heap.size, k, none⟩ = some (.int .i32 (ftT[k]'hl).1) := by
                  rw [HB1.out.cell k, nums_get (by simpa using hl)]; simp
                have c2 : W.cell? ⟨w.heap.size + 1, k, none⟩ = some (.int .i32 (ftT[k]'hl).2) := by
                  rw [HB2.out.cell k, nums_get (by simpa using hl)]; simp
                have hd : tab (ftT.drop k) r = if r = (ftT[k]'hl).1 then (ftT[k]'hl).2 else tab (ftT.drop (k + 1)) r := by
                  rw [List.drop_eq_getElem_cons hl]; rfl
                generalize ftT[k]'hl = row at c1 c2 hd
                obtain ⟨x, y⟩ := row
                dsimp only at c1 c2 hd
                have HD := Lib.hid hd
                clear hd hl
                by_cases hc : r = x
                · have HC := Lib.hid hc
                  have hc' : (r == x) = true := by simpa using hc
                  clear hc
                  go_wp2
                  go_ret
                  exact (new_made w W HBW.out [y] 1 rfl (by omega)).cast (by rw [HE.out, ← H.out, HD.out, if_pos HC.out])
                · have HC := Lib.hid hc
                  have hc' : (r == x) = false := by simpa using hc
                  clear hc
                  go_wp2
                  go_round
                  case rel => exact ⟨k + 1, by omega, by go_num, Lib.hid (by rw [← H.out, HD.out, if_neg HC.out])⟩
                  case measure => simp [intOf]; omega
              · obtain rfl : k = 9 := by omega
                go_wp2
                go_ret
                exact (new_made w W HBW.out [r] 1 rfl (by omega)).cast (by rw [HE.out, ← H.out]; rfl)
theorem lo_pos0 : ∀ x ∈ gF0, 0 ≤ x.1 := by decide
theorem lo_pos1 : ∀ x ∈ gF1, 0 ≤ x.1 := by decide
theorem lo_pos2 : ∀ x ∈ gF2, 0 ≤ x.1 := by decide
theorem tmod_neg {r : Int} (h : r < 0) : (r.tmod 2 == 1) = false := by
  obtain ⟨n, rfl⟩ : ∃ n : Nat, r = -(n : Int) := ⟨(-r).toNat, by omega⟩
  rw [Int.neg_tmod, show ((n : Int)).tmod 2 = ((n % 2 : Nat) : Int) from rfl]
  simp
  omega
set_option maxRecDepth 100000 in
set_option maxHeartbeats 16000000 in
theorem rfold_neg (r : Int) (w : World) (h0 : r < 0) (h1 : -2147483648 ≤ r) : Calls Tryd.prog 28 #[.int .i32 r] w (New w (rfoldF r)) := by
  have hno : ∀ lo hi : Int, 0 ≤ lo → inB r lo hi = false := fun lo hi h => by unfold inB; rw [decide_eq_false]; omega
  have i0 : inB r 65 90 = false := hno _ _ (by omega)
  have i1 : inB r 192 214 = false := hno _ _ (by omega)
  have i2 : inB r 216 222 = false := hno _ _ (by omega)
  have i3 : inB r 913 929 = false := hno _ _ (by omega)
  have i4 : inB r 931 937 = false := hno _ _ (by omega)
  have i5 : inB r 1040 1071 = false := hno _ _ (by omega)
  have i6 : inB r 1024 1039 = false := hno _ _ (by omega)
  have i7 : inB r 256 302 = false := hno _ _ (by omega)
  have i8 : inB r 306 310 = false := hno _ _ (by omega)
  have i9 : inB r 330 374 = false := hno _ _ (by omega)
  have i10 : inB r 7680 7828 = false := hno _ _ (by omega)
  have i11 : inB r 313 327 = false := hno _ _ (by omega)
  have i12 : inB r 377 381 = false := hno _ _ (by omega)
  have a0 : anyB r gF0 = false := any_no fun x hx h => absurd (lo_pos0 x hx) (by omega)
  have a1 : anyB r gF1 = false := any_no fun x hx h => absurd (lo_pos1 x hx) (by omega)
  have a2 : anyB r gF2 = false := any_no fun x hx h => absurd (lo_pos2 x hx) (by omega)
  have HE := Lib.hid (show rfoldF r = [tab ftT r] by rw [rfoldF, if_neg (by rw [a0]; decide), if_neg (by rw [i6]; decide), if_neg (fun h => by rw [a1] at h; exact absurd h.2 (by decide)), if_neg (fun h => by rw [a2] at h; exact absurd h.2 (by decide)), if_neg (by omega), if_neg (by omega)])
  have p1 := tmod_neg h0
  have k1' : (r == 223) = false := by simp; omega
  have k2' : (r == 7838) = false := by simp; omega
  have k3' : (r == 304) = false := by simp; omega
  clear hno a0 a1 a2
  by_cases hp : (r.tmod 2 == 0) = true
  all_goals
    try rw [Bool.not_eq_true] at hp
    go_enter Tryd.func28, Tryd.ntmps28
    go_wp2_with (go_at_call 31; refine (in_any _ _ _ _).mono ?_; rintro e w' ⟨rfl, rfl⟩)
    have hW : ∃ W, W = ((w.alloc (.cells #[.int .i32 181, .int .i32 376, .int .i32 383, .int .i32 837, .int .i32 902, .int .i32 962, .int .i32 8486, .int .i32 8490, .int .i32 8491] 21)).alloc (.cells #[.int .i32 956, .int .i32 255, .int .i32 115, .int .i32 953, .int .i32 940, .int .i32 963, .int .i32 969, .int .i32 107, .int .i32 229] 21)) := ⟨_, rfl⟩
    obtain ⟨W, hW⟩ := hW
    rw [← hW]
    have B1 : Blk W w.heap.size 21 (nums (ftT.map (·.1))) := by rw [hW]; exact (Blk.new w _ (nums (ftT.map (·.1)))).alloc _
    have B2 : Blk W (w.heap.size + 1) 21 (nums (ftT.map (·.2))) := by
      have := Blk.new (w.alloc (.cells (nums (ftT.map (·.1))).toArray 21)) 21 (nums (ftT.map (·.2)))
      rw [World.size_alloc] at this
      rw [hW]; exact this
    have BW : Below w.heap.size w W := by rw [hW]; exact ((Below.refl _ _).alloc (Nat.le_refl _) _).alloc (by simp) _
    have HB1 := Lib.hid B1; have HB2 := Lib.hid B2; have HBW := Lib.hid BW
    clear hW B1 B2 BW
    go_loop [7] (fun i => ∃ k : Nat, k ≤ 9 ∧ i = .int .i64 k ∧ Hid (tab (ftT.drop k) r = tab ftT r)) (fun i => 9 - (intOf i).toNat)
    case atStart => exact ⟨0, Nat.zero_le _, rfl, Lib.hid rfl⟩
    case round =>
      obtain ⟨k, hk, rfl, H⟩ := hrel
      by_cases hlt : k < 9
      · have hl : k < ftT.length := hlt
        have c1 : W.cell? ⟨w.heap.size, k, none⟩ = some (.int .i32 (ftT[k]'hl).1) := by
          rw [HB1.out.cell k, nums_get (by simpa using hl)]; simp
        have c2 : W.cell? ⟨w.heap.size + 1, k, none⟩ = some (.int .i32 (ftT[k]'hl).2) := by
          rw [HB2.out.cell k, nums_get (by simpa using hl)]; simp
        have hd : tab (ftT.drop k) r = if r = (ftT[k]'hl).1 then (ftT[k]'hl).2 else tab (ftT.drop (k + 1)) r := by
          rw [List.drop_eq_getElem_cons hl]; rfl
        generalize ftT[k]'hl = row at c1 c2 hd
        obtain ⟨x, y⟩ := row
        dsimp only at c1 c2 hd
        have HD := Lib.hid hd
        clear hd hl
        by_cases hc : r = x
        · have HC := Lib.hid hc
          have hc' : (r == x) = true := by simpa using hc
          clear hc
          go_wp2
          go_ret
          exact (new_made w W HBW.out [y] 1 rfl (by omega)).cast (by rw [HE.out, ← H.out, HD.out, if_pos HC.out])
        · have HC := Lib.hid hc
          have hc' : (r == x) = false := by simpa using hc
          clear hc
          go_wp2
          go_round
          case rel => exact ⟨k + 1, by omega, by go_num, Lib.hid (by rw [← H.out, HD.out, if_neg HC.out])⟩
          case measure => simp [intOf]; omega
      · obtain rfl : k = 9 := by omega
        go_wp2
        go_ret
        exact (new_made w W HBW.out [r] 1 rfl (by omega)).cast (by rw [HE.out, ← H.out]; rfl)

theorem rfold_any (r : Int) (w : World) (h1 : -2147483648 ≤ r) (h2 : r ≤ 2147483647) : Calls Tryd.prog 28 #[.int .i32 r] w (New w (foldF r)) := by
  rw [← rfold_eq]
  by_cases h0 : 0 ≤ r
  · by_cases hp : r % 2 = 0
    · exact rfold_even r w h0 h2 hp
    · exact rfold_odd r w h0 h2 hp
  · exact rfold_neg r w (by omega) h1
end Go.Proofs.YthpadpoomelhbaaDoor.Ucd
