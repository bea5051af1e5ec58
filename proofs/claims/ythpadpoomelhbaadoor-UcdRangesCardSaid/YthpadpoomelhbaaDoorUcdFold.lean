/-
  CONTRACTS OF shifted, foldAlone and Fold.
-/
import Derived.Test.YthpadpoomelhbaaDoorUcdFull
namespace Go.Proofs.YthpadpoomelhbaaDoor.Ucd
open Go.RowKit Utf

/-- the first row of shifts that r lies in, by its step -/
def shf : List (Int × Int × Int × Int) → Int → Int
  | [], r => r
  | x :: t, r => if x.1 ≤ r ∧ r ≤ x.2.1 ∧ (r - x.1) % x.2.2.1 = 0 then r + x.2.2.2 else shf t r
def foldA (r : Int) : Int := if r = 215 then r else if r = 930 then r else if r = 181 then 956 else if r = 376 then 255 else if r = 383 then 115 else if r = 837 then 953 else if r = 902 then 940 else if r = 962 then 963 else if r = 8486 then 969 else if r = 8490 then 107 else if r = 8491 then 229 else shf shRows r
def foldF (r : Int) : List Int := if r = 223 ∨ r = 7838 then [115, 115] else if r = 304 then [105, 775] else [foldA r]
theorem sh_bd : ∀ x ∈ shRows, 0 ≤ x.1 ∧ x.2.1 ≤ 8000 ∧ 1 ≤ x.2.2.1 ∧ x.2.2.1 ≤ 2 ∧ 0 ≤ x.2.2.2 ∧ x.2.2.2 ≤ 80 := by decide +kernel

set_option maxHeartbeats 4000000 in
theorem shifted_any (r : Int) (w : World) (hL : Laid w) (h1 : -2147483648 ≤ r) (h2 : r ≤ 2147483647) : Calls Tryd.prog 44 #[.int .i32 r] w (Ret w (.int .i32 (shf shRows r))) := by
  obtain ⟨ty, fr, hB⟩ := hL.2.2.2.2.2
  have HB := Lib.hid hB
  clear hL hB
  go_enter Tryd.func44, Tryd.ntmps44
  go_wp2_with (refine wpList_load_row rfl _ _ rfl 5 rfl _ _ _ _ HB.out Tryd.underlying62 rfl (by kernel_rfl) ?_)
  obtain ⟨arr, harr⟩ : ∃ arr, arr = (c4 shRows).toArray := ⟨_, rfl⟩
  rw [← harr]
  have HI := Lib.hid (show ∀ k : Nat, k < 11 → ∀ u : World, (Instr.index 62 (.agg arr) (.int .i64 k)).run Tryd.prog u = .ok (.agg (arr.extract (k * 4) (k * 4 + 4))) u from fun k hk u => run_index_row arr k Tryd.underlying62 Tryd.isAgg61 Tryd.sizeOf61 hk u)
  have HA := Lib.hid harr
  clear harr
  go_loopw [6] (fun i wr => ∃ k : Nat, k ≤ 11 ∧ i = .int .i64 k ∧ Hid (shf (shRows.drop k) r = shf shRows r ∧ Below w.heap.size w wr)) (fun i _ => 11 - (intOf i).toNat)
  case atStart => exact ⟨0, Nat.zero_le _, rfl, Lib.hid ⟨rfl, Below.refl _ _⟩⟩
  case round =>
    obtain ⟨k, hk, rfl, H⟩ := hrel
    by_cases hlt : k < 11
    · have hx : ∀ u : World, (Instr.index 62 (.agg arr) (.int .i64 k)).run Tryd.prog u = .ok (.agg #[.int .i32 (shRows[k]'hlt).1, .int .i32 (shRows[k]'hlt).2.1, .int .i32 (shRows[k]'hlt).2.2.1, .int .i32 (shRows[k]'hlt).2.2.2]) u := fun u => by
        rw [HI.out k hlt u, HA.out, c4_row shRows k hlt]
      have hd : shf (shRows.drop k) r = if (shRows[k]'hlt).1 ≤ r ∧ r ≤ (shRows[k]'hlt).2.1 ∧ (r - (shRows[k]'hlt).1) % (shRows[k]'hlt).2.2.1 = 0 then r + (shRows[k]'hlt).2.2.2 else shf (shRows.drop (k + 1)) r := by
        rw [List.drop_eq_getElem_cons hlt]; rfl
      have hbd := sh_bd _ (List.getElem_mem (l := shRows) hlt)
      generalize shRows[k]'hlt = row at hx hd hbd
      obtain ⟨lo, hi, st, mo⟩ := row
      dsimp only at hx hd hbd
      obtain ⟨b1, b2, b3, b4, b5, b6⟩ := hbd
      have HD := Lib.hid hd
      have HW := Lib.hid (H.out.2.alloc H.out.2.size (.cells #[.int .i32 lo, .int .i32 hi, .int .i32 st, .int .i32 mo] 61))
      clear hd
      by_cases c1 : lo ≤ r
      · by_cases c2 : r ≤ hi
        · have c1' : decide (lo ≤ r) = true := decide_eq_true c1
          have c2' : decide (r ≤ hi) = true := decide_eq_true c2
          have c0 : (0 : Int) ≤ r - lo := by omega
          have hst : (st == 0) = false := by simp; omega
          by_cases c3 : (r - lo) % st = 0
          · have c3' : ((r - lo) % st == 0) = true := by simp [c3]
            have C3 := Lib.hid c3
            clear c3
            go_wp2
            go_ret
            exact ⟨ret_int (by rw [← H.out.1, HD.out, if_pos ⟨c1, c2, C3.out⟩]), HW.out⟩
          · have c3' : ((r - lo) % st == 0) = false := by simp [c3]
            have C3 := Lib.hid c3
            clear c3
            go_wp2
            go_roundw
            case rel => exact ⟨k + 1, by omega, by go_num, Lib.hid ⟨by rw [← H.out.1, HD.out, if_neg (fun h => C3.out h.2.2)], HW.out⟩⟩
            case measure => simp [intOf]; omega
        · have c1' : decide (lo ≤ r) = true := decide_eq_true c1
          have c2' : decide (r ≤ hi) = false := decide_eq_false c2
          go_wp2
          go_roundw
          case rel => exact ⟨k + 1, by omega, by go_num, Lib.hid ⟨by rw [← H.out.1, HD.out, if_neg (fun h => c2 h.2.1)], HW.out⟩⟩
          case measure => simp [intOf]; omega
      · have c1' : decide (lo ≤ r) = false := decide_eq_false c1
        go_wp2
        go_roundw
        case rel => exact ⟨k + 1, by omega, by go_num, Lib.hid ⟨by rw [← H.out.1, HD.out, if_neg (fun h => c1 h.1)], HW.out⟩⟩
        case measure => simp [intOf]; omega
    · go_wp2
      go_ret
      exact ⟨ret_int (by rw [← H.out.1, List.drop_of_length_le (by show 11 ≤ k; omega)]; rfl), H.out.2⟩

set_option maxHeartbeats 4000000 in
theorem foldAlone_any (r : Int) (w : World) (hL : Laid w) (h1 : -2147483648 ≤ r) (h2 : r ≤ 2147483647) : Calls Tryd.prog 42 #[.int .i32 r] w (Ret w (.int .i32 (foldA r))) := by
  have HS := Lib.hid (shifted_any r w hL h1 h2)
  clear hL
  by_cases k0 : r = 215
  · subst k0
    clear HS
    go_enter Tryd.func42, Tryd.ntmps42
    go_wp2
    go_ret
    exact ⟨rfl, Below.refl _ _⟩
  by_cases k1 : r = 930
  · subst k1
    clear HS
    go_enter Tryd.func42, Tryd.ntmps42
    go_wp2
    go_ret
    exact ⟨rfl, Below.refl _ _⟩
  by_cases k2 : r = 181
  · subst k2
    clear HS
    go_enter Tryd.func42, Tryd.ntmps42
    go_wp2
    go_ret
    exact ⟨rfl, Below.refl _ _⟩
  by_cases k3 : r = 376
  · subst k3
    clear HS
    go_enter Tryd.func42, Tryd.ntmps42
    go_wp2
    go_ret
    exact ⟨rfl, Below.refl _ _⟩
  by_cases k4 : r = 383
  · subst k4
    clear HS
    go_enter Tryd.func42, Tryd.ntmps42
    go_wp2
    go_ret
    exact ⟨rfl, Below.refl _ _⟩
  by_cases k5 : r = 837
  · subst k5
    clear HS
    go_enter Tryd.func42, Tryd.ntmps42
    go_wp2
    go_ret
    exact ⟨rfl, Below.refl _ _⟩
  by_cases k6 : r = 902
  · subst k6
    clear HS
    go_enter Tryd.func42, Tryd.ntmps42
    go_wp2
    go_ret
    exact ⟨rfl, Below.refl _ _⟩
  by_cases k7 : r = 962
  · subst k7
    clear HS
    go_enter Tryd.func42, Tryd.ntmps42
    go_wp2
    go_ret
    exact ⟨rfl, Below.refl _ _⟩
  by_cases k8 : r = 8486
  · subst k8
    clear HS
    go_enter Tryd.func42, Tryd.ntmps42
    go_wp2
    go_ret
    exact ⟨rfl, Below.refl _ _⟩
  by_cases k9 : r = 8490
  · subst k9
    clear HS
    go_enter Tryd.func42, Tryd.ntmps42
    go_wp2
    go_ret
    exact ⟨rfl, Below.refl _ _⟩
  by_cases k10 : r = 8491
  · subst k10
    clear HS
    go_enter Tryd.func42, Tryd.ntmps42
    go_wp2
    go_ret
    exact ⟨rfl, Below.refl _ _⟩
  have HF := Lib.hid (show foldA r = shf shRows r by unfold foldA; simp only [if_neg k0, if_neg k1, if_neg k2, if_neg k3, if_neg k4, if_neg k5, if_neg k6, if_neg k7, if_neg k8, if_neg k9, if_neg k10])
  have q0 : (r == 215) = false := by simpa using k0
  have q1 : (r == 930) = false := by simpa using k1
  have q2 : (r == 181) = false := by simpa using k2
  have q3 : (r == 376) = false := by simpa using k3
  have q4 : (r == 383) = false := by simpa using k4
  have q5 : (r == 837) = false := by simpa using k5
  have q6 : (r == 902) = false := by simpa using k6
  have q7 : (r == 962) = false := by simpa using k7
  have q8 : (r == 8486) = false := by simpa using k8
  have q9 : (r == 8490) = false := by simpa using k9
  have q10 : (r == 8491) = false := by simpa using k10
  clear k0 k1 k2 k3 k4 k5 k6 k7 k8 k9 k10
  rw [HF.out]
  go_enter Tryd.func42, Tryd.ntmps42
  go_wp2_with (go_at_call 44; refine HS.out.mono ?_; rintro e w1 ⟨rfl, hb1⟩; have HB1 := Lib.hid hb1; clear hb1)
  go_ret
  exact ⟨rfl, HB1.out⟩

/-- a slice that the call made, and what it reads as -/
def New (w : World) (xs : List Int) (e : Ending) (w' : World) : Prop := ∃ A c, e = .returned (.slice A xs.length c) ∧ xs.length ≤ c ∧ c ≤ 9223372036854775807 ∧ Rd w' w'.heap.size A (nums xs) ∧ Below w.heap.size w w'
theorem own_form {w : World} {base : Nat} {e : TypeId} {size n : Nat} {v : Value} {xs : List Value} (h : w.ownsRow base e size v n xs) : ∃ A c, v = .slice A n c ∧ n ≤ c ∧ c ≤ 9223372036854775807 ∧ Rd w w.heap.size A xs := by
  have h2 := h.2
  rcases h2 with ⟨rfl, rfl⟩ | ⟨g, cap, cur, rfl, _, _, h1, h2, _⟩
  · exact ⟨none, 0, rfl, Nat.le_refl _, by omega, Rd.of_own h⟩
  · exact ⟨_, cap, rfl, h1, h2, Rd.of_own h⟩
theorem Mine.new {w : World} {xs : List Int} {e : Ending} {w' : World} (h : Mine w.heap.size w xs e w') : New w xs e w' := by
  obtain ⟨v, rfl, hown, hb⟩ := h
  obtain ⟨A, c, rfl, h1, h2, h3⟩ := own_form hown
  exact ⟨A, c, rfl, h1, h2, h3, hb⟩
theorem new_made (w u : World) (hb : Below w.heap.size w u) (xs : List Int) (n : Nat) (hn : xs.length = n) (h : n ≤ 100) : New w xs (.returned (.slice (some ⟨u.heap.size, 0, none⟩) n n)) (u.alloc (.cells (nums xs).toArray 21)) := by
  subst hn
  exact ⟨_, _, rfl, Nat.le_refl _, by omega, (rd_new u _ (nums xs) _ rfl).more (by simp), hb.alloc hb.size _⟩

set_option maxHeartbeats 4000000 in
theorem fold_any (r : Int) (w : World) (hL : Laid w) (h1 : -2147483648 ≤ r) (h2 : r ≤ 2147483647) : Calls Tryd.prog 27 #[.int .i32 r] w (New w (foldF r)) := by
  by_cases k0 : r = 223
  · subst k0
    go_enter Tryd.func27, Tryd.ntmps27
    go_wp2
    go_ret
    exact new_made w w (Below.refl _ _) [115, 115] 2 rfl (by omega)
  by_cases k1 : r = 7838
  · subst k1
    go_enter Tryd.func27, Tryd.ntmps27
    go_wp2
    go_ret
    exact new_made w w (Below.refl _ _) [115, 115] 2 rfl (by omega)
  by_cases k2 : r = 304
  · subst k2
    go_enter Tryd.func27, Tryd.ntmps27
    go_wp2
    go_ret
    exact new_made w w (Below.refl _ _) [105, 775] 2 rfl (by omega)
  have HF := Lib.hid (show foldF r = [foldA r] by unfold foldF; rw [if_neg (by omega), if_neg k2])
  have HS := Lib.hid (foldAlone_any r w hL h1 h2)
  have q0 : (r == 223) = false := by simpa using k0
  have q1 : (r == 7838) = false := by simpa using k1
  have q2 : (r == 304) = false := by simpa using k2
  clear k0 k1 k2 hL
  rw [HF.out]
  go_enter Tryd.func27, Tryd.ntmps27
  go_wp2_with (go_at_call 42; refine HS.out.mono ?_; rintro e w1 ⟨rfl, hb1⟩; have HB1 := Lib.hid hb1; clear hb1)
  go_ret
  exact new_made w _ HB1.out [foldA r] 1 rfl (by omega)
end Go.Proofs.YthpadpoomelhbaaDoor.Ucd
