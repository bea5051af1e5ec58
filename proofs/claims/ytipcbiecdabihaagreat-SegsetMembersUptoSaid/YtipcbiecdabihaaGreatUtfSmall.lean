/-
  CONTRACTS OF THE SMALL FUNCTIONS: whether a number is a code point; a further byte; how many bytes a sequence has; the bounds of the second byte; leading zeros of a byte.
-/
import Derived.Test.YtipcbiecdabihaaGreatChecked
import Derived.Test.YtipcbiecdabihaaGreatUtfWords
import Derived.IntWalk
import Derived.Outline
import Derived.BigQuiet
import Derived.Lib.BitFns
import Derived.Deep.QuietTactic
namespace Go.Proofs.YtipcbiecdabihaaGreat.Utf
open Go.RowKit
set_option maxRecDepth 100000

/-- is it a code point? (NOT reducible: the walk must not lay it open) -/
def vld (r : Int) : Bool := decide (0 ≤ r ∧ r ≤ 1114111 ∧ (r < 55296 ∨ 57343 < r))
theorem vld_iff (r : Int) : vld r = true ↔ (0 ≤ r ∧ r ≤ 1114111 ∧ (r < 55296 ∨ 57343 < r)) := by simp [vld]
theorem vld_not (r : Int) : vld r = false ↔ ¬ (0 ≤ r ∧ r ≤ 1114111 ∧ (r < 55296 ∨ 57343 < r)) := by simp [vld]

theorem valid_any (r : Int) (w : World) : Calls Tryz.prog 64 #[.int .i32 r] w fun e w' => e = .returned (.bool (vld r)) ∧ w = w' := by
  have key : ∀ b : Bool, (b = true ↔ (0 ≤ r ∧ r ≤ 1114111 ∧ (r < 55296 ∨ 57343 < r))) → Ending.returned (.bool b) = .returned (.bool (vld r)) := by
    intro b hb
    have : b = vld r := by rw [Bool.eq_iff_iff, hb, vld_iff]
    rw [this]
  go_enter Tryz.func64, Tryz.ntmps64
  go_wp2
  all_goals go_ret
  all_goals exact ⟨key _ (by first | (simp; omega) | simp), rfl⟩

theorem rvalid_any (r : Int) (w : World) : Calls Tryz.prog 70 #[.int .i32 r] w fun e w' => e = .returned (.bool (vld r)) ∧ w = w' := by
  have key : ∀ b : Bool, (b = true ↔ (0 ≤ r ∧ r ≤ 1114111 ∧ (r < 55296 ∨ 57343 < r))) → Ending.returned (.bool b) = .returned (.bool (vld r)) := by
    intro b hb
    have : b = vld r := by rw [Bool.eq_iff_iff, hb, vld_iff]
    rw [this]
  go_enter Tryz.func70, Tryz.ntmps70
  go_wp2
  all_goals go_ret
  all_goals exact ⟨key _ (by first | (simp; omega) | simp), rfl⟩

theorem need_key (c n : Nat) (h : need c = n) : Ending.returned (.int .i64 (n : Int)) = .returned (.int .i64 (need c)) := by subst h; rfl
set_option maxRecDepth 100000 in
theorem length_any (c : Nat) (hc : c < 256) (w : World) : Calls Tryz.prog 123 #[.int .u8 c] w fun e w' => e = .returned (.int .i64 (need c)) ∧ w = w' := by
  go_enter Tryz.func123, Tryz.ntmps123
  go_wp2
  all_goals go_ret
  · exact ⟨need_key c 1 (by unfold need; repeat (first | (rw [if_pos (by omega)]) | rw [if_neg (by omega)])), rfl⟩
  · exact ⟨need_key c 0 (by unfold need; repeat (first | (rw [if_pos (by omega)]) | rw [if_neg (by omega)])), rfl⟩
  · exact ⟨need_key c 2 (by unfold need; repeat (first | (rw [if_pos (by omega)]) | rw [if_neg (by omega)])), rfl⟩
  · exact ⟨need_key c 3 (by unfold need; repeat (first | (rw [if_pos (by omega)]) | rw [if_neg (by omega)])), rfl⟩
  · exact ⟨need_key c 4 (by unfold need; repeat (first | (rw [if_pos (by omega)]) | rw [if_neg (by omega)])), rfl⟩
  · exact ⟨need_key c 0 (by unfold need; repeat (first | (rw [if_pos (by omega)]) | rw [if_neg (by omega)])), rfl⟩

theorem second_any (c : Nat) (hc : c < 256) (w : World) :
    Calls Tryz.prog 124 #[.int .u8 c] w fun e w' => e = .returned (.tuple #[.int .u8 (lo c), .int .u8 (hi c)]) ∧ w = w' := by
  have key : ∀ a b : Nat, lo c = a → hi c = b → Ending.returned (.tuple #[.int .u8 (a : Int), .int .u8 (b : Int)]) = .returned (.tuple #[.int .u8 (lo c), .int .u8 (hi c)]) := by rintro a b rfl rfl; rfl
  by_cases h1 : c = 224
  · subst h1
    go_enter Tryz.func124, Tryz.ntmps124
    go_wp2
    go_ret2
    exact ⟨rfl, rfl⟩
  by_cases h2 : c = 237
  · subst h2
    go_enter Tryz.func124, Tryz.ntmps124
    go_wp2
    go_ret2
    exact ⟨rfl, rfl⟩
  by_cases h3 : c = 240
  · subst h3
    go_enter Tryz.func124, Tryz.ntmps124
    go_wp2
    go_ret2
    exact ⟨rfl, rfl⟩
  by_cases h4 : c = 244
  · subst h4
    go_enter Tryz.func124, Tryz.ntmps124
    go_wp2
    go_ret2
    exact ⟨rfl, rfl⟩
  have b1 : ((c : Int) == 224) = false := by simp; omega
  have b2 : ((c : Int) == 237) = false := by simp; omega
  have b3 : ((c : Int) == 240) = false := by simp; omega
  have b4 : ((c : Int) == 244) = false := by simp; omega
  have L : lo c = 128 := by unfold lo; rw [if_neg h1, if_neg h3]
  have R : hi c = 191 := by unfold hi; rw [if_neg h2, if_neg h4]
  have K := key 128 191 L R
  have HK := Lib.hid K
  clear K key L R h1 h2 h3 h4
  go_enter Tryz.func124, Tryz.ntmps124
  go_wp2
  go_ret2
  exact ⟨HK.out, rfl⟩

theorem bitLen_le (n : Nat) (h : n < 256) : Lib.bitLen n ≤ 8 := by
  have : ∀ n : Fin 256, Lib.bitLen n.val ≤ 8 := by decide +kernel
  exact this ⟨n, h⟩
set_option maxHeartbeats 4000000 in
set_option maxRecDepth 100000 in
theorem len8_any (x : Int) (w : World) (h0 : 0 ≤ x) (h1 : x ≤ 255) :
    Calls Tryz.prog 135 #[.int .u8 x] w fun e w' => e = .returned (.int .i64 (Lib.bitLen x.toNat)) ∧ w = w' := by
  have e := Lib.len8_of x h0 h1
  have l := bitLen_le x.toNat (by omega)
  rw [← e]
  have l2 : Lib.len8 x ≤ 8 := by rw [e]; omega
  have l3 : 0 ≤ Lib.len8 x := by rw [e]; omega
  have HE := Lib.hid e
  clear e l
  go_enter Tryz.func135, Tryz.ntmps135
  go_wp2
  go_ret

  exact ⟨rfl, rfl⟩
theorem zeros_any (x : Int) (w : World) (h0 : 0 ≤ x) (h1 : x ≤ 255) :
    Calls Tryz.prog 125 #[.int .u8 x] w fun e w' => e = .returned (.int .i64 ((8 - Lib.bitLen x.toNat : Nat) : Int)) ∧ w = w' := by
  have hb := bitLen_le x.toNat (by omega)
  obtain ⟨L, hL⟩ : ∃ L, L = Lib.bitLen x.toNat := ⟨_, rfl⟩
  rw [← hL] at hb ⊢
  have HL := Lib.hid hL
  clear hL
  go_enter Tryz.func125, Tryz.ntmps125
  go_wp2_with fail
  refine (len8_any x _ h0 h1).mono ?_
  rintro e w' ⟨rfl, rfl⟩
  rw [← HL.out]
  go_wp2
  go_ret
  exact ⟨by go_num, rfl⟩
end Go.Proofs.YtipcbiecdabihaaGreat.Utf
