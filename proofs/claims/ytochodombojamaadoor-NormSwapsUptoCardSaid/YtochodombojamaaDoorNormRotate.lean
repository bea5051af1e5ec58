/-
  CONTRACT OF slices.rotateCmpFunc at numbers of 32 bits: two neighbouring blocks change places.
-/
import Derived.Test.YtochodombojamaaDoorNormSwap
namespace Go.Proofs.YtochodombojamaaDoor.Norm
open Go.Shelf Go.RowKit Go.Sort

set_option maxHeartbeats 4000000 in
set_option maxRecDepth 100000 in
theorem rotate_any (blk off cap a m b N : Nat) (d0 d : Array Int) (w0 w : World) (fv : Value) (R : Row1 e32 w0 blk off d0) (hs : d0.size = N) (hN : d.size = N) (S : SW e32 w0 blk off d w)
    (ham : a < m) (hmb : m < b) (hb : b ≤ N) (hsz : N < 4611686018427387904) :
    Calls Tryd.prog 52 #[.slice (some ⟨blk, off, none⟩) N cap, .int .i64 a, .int .i64 m, .int .i64 b, fv] w fun e w' => e = .returned (.tuple #[]) ∧ ∃ d', Rot a m b d d' ∧ SW e32 w0 blk off d' w' := by
  have HS := Lib.hid S
  have HN := Lib.hid hN
  have HR := Lib.hid R
  have H0 := Lib.hid hs
  clear S hN R hs
  have s1 : (m : Int) - (a : Int) = ((m - a : Nat) : Int) := by omega
  have s2 : (b : Int) - (m : Int) = ((b - m : Nat) : Int) := by omega
  have hc : ∀ (x y k : Nat) (dk : Array Int) (W : World), Hid (dk.size = N) → Hid (SW e32 w0 blk off dk W) → x + k ≤ y → y + k ≤ N → Calls Tryd.prog 56 #[.slice (some ⟨blk, off, none⟩) N cap, .int .i64 x, .int .i64 y, .int .i64 k, fv] W fun e w' => e = .returned (.tuple #[]) ∧ ∃ d', Swr x y k dk d' ∧ SW e32 w0 blk off d' w' :=
    fun x y k dk W h1 h2 h3 h4 => swapRange_any blk off cap x y k N d0 dk w0 W fv HR.out H0.out h1.out h2.out h3 h4 hsz
  have HC := Lib.hid hc
  clear hc
  go_enter Tryd.func52, Tryd.ntmps52
  go_wp2
  go_loopg [10, 11] (b - a) (fun g1 vi vj wr => ∃ (i j : Nat) (dk : Array Int), vi = .int .i64 i ∧ vj = .int .i64 j ∧ 0 < i ∧ 0 < j ∧ a + i ≤ m ∧ m + j ≤ b ∧ i + j ≤ g1 ∧ i ≤ m ∧ Hid (dk.size = N) ∧ Hid (∀ d', Rot (m - i) m (m + j) dk d' → Rot a m b d d') ∧ Hid (SW e32 w0 blk off dk wr))
  case atStart => exact ⟨m - a, b - m, d, by rw [← s1], by rw [← s2], by omega, by omega, by omega, by omega, by omega, by omega, HN, Lib.hid (fun d' h => by rw [show m - (m - a) = a from by omega, show m + (b - m) = b from by omega] at h; exact h), HS⟩
  case round =>
    clear HS
    obtain ⟨i, j, dk, rfl, rfl, hi0, hj0, ha, hb', hg, him, HZ, HL, HK⟩ := hrel
    have m1 : (m : Int) - (i : Int) = ((m - i : Nat) : Int) := by omega
    by_cases hij : i = j
    · subst hij
      have hne : ((i : Int) != (i : Int)) = false := by simp
      go_wp2_with fail
      refine (HC.out _ _ _ dk _ HZ HK (by omega) (by omega)).mono ?_
      rintro e w2 ⟨rfl, d2, hw, hk⟩
      go_wp2
      go_end0
      exact ⟨rfl, d2, HL.out _ (Rot.even him hw), hk⟩
    · have hne : ((i : Int) != (j : Int)) = true := by simp; omega
      have HIJ := Lib.hid hij
      clear hij
      by_cases hlt : j < i
      · have hltz : (j : Int) < (i : Int) := by omega
        have m2 : (i : Int) - (j : Int) = ((i - j : Nat) : Int) := by omega
        go_wp2_with fail
        refine (HC.out _ _ _ dk _ HZ HK (by omega) (by omega)).mono ?_
        rintro e w2 ⟨rfl, d2, hw, hk⟩
        have HK2 := Lib.hid hk
        have HZ2 := Lib.hid (hw.size.trans HZ.out)
        have HL2 := Lib.hid (fun d' h => HL.out d' (Rot.left him hlt hw h))
        clear hk hw HK HZ HL
        go_wp2_with fail
        go_roundg (i + j - j)
        case measure => omega
        case rel => exact ⟨i - j, j, d2, rfl, rfl, by omega, by omega, by omega, by omega, by omega, by omega, HZ2, HL2, HK2⟩
      · have hltz : ¬ (j : Int) < (i : Int) := by omega
        have hlt' : i < j := by have := HIJ.out; omega
        have m2 : (j : Int) - (i : Int) = ((j - i : Nat) : Int) := by omega
        have m3 : (m : Int) + (j : Int) - (i : Int) = ((m + j - i : Nat) : Int) := by omega
        go_wp2_with fail
        refine (HC.out _ _ _ dk _ HZ HK (by omega) (by omega)).mono ?_
        rintro e w2 ⟨rfl, d2, hw, hk⟩
        have HK2 := Lib.hid hk
        have HZ2 := Lib.hid (hw.size.trans HZ.out)
        have HL2 := Lib.hid (fun d' h => HL.out d' (Rot.right him hlt' hw h))
        clear hk hw HK HZ HL
        go_wp2_with fail
        go_roundg (i + j - i)
        case measure => omega
        case rel => exact ⟨i, j - i, d2, rfl, rfl, by omega, by omega, by omega, by omega, by omega, by omega, HZ2, HL2, HK2⟩
end Go.Proofs.YtochodombojamaaDoor.Norm
