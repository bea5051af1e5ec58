/-
  CONTRACT OF slices.swapRangeCmpFunc at numbers of 32 bits: two stretches change places, element by element.
-/
import Derived.Test.YtochodombojamaaDoorProg
import Derived.Test.YtochodombojamaaDoorNormSortMath
import Derived.Shelf.SlSortCmp.Insertion1
import Derived.Lib.Hide
namespace Go.Proofs.YtochodombojamaaDoor.Norm
open Go.Shelf Go.RowKit Go.Sort

abbrev e32 : Int → Value := Value.int .i32
theorem one32 : OneCell e32 := fun _ => rfl

set_option maxHeartbeats 4000000 in
set_option maxRecDepth 100000 in
theorem swapRange_any (blk off cap a b n N : Nat) (d0 d : Array Int) (w0 w : World) (fv : Value) (R : Row1 e32 w0 blk off d0) (hs : d0.size = N) (hN : d.size = N) (S : SW e32 w0 blk off d w)
    (hab : a + n ≤ b) (hb : b + n ≤ N) (hsz : N < 4611686018427387904) :
    Calls Tryd.prog 56 #[.slice (some ⟨blk, off, none⟩) N cap, .int .i64 a, .int .i64 b, .int .i64 n, fv] w fun e w' => e = .returned (.tuple #[]) ∧ ∃ d', Swr a b n d d' ∧ SW e32 w0 blk off d' w' := by
  have mixed : Tryd.prog.follows .mixedOrders = true := by kernel_rfl
  have HS := Lib.hid S
  have HN := Lib.hid hN
  have HR := Lib.hid R
  have H0 := Lib.hid hs
  clear S hN R hs
  go_enter Tryd.func56, Tryd.ntmps56
  go_wp2
  go_loopg [10] n (fun g1 vi wr => ∃ (i : Nat) (dk : Array Int), vi = .int .i64 i ∧ i ≤ n ∧ n - i ≤ g1 ∧ Hid (Swr a b i d dk) ∧ Hid (SW e32 w0 blk off dk wr))
  case atStart => exact ⟨0, d, rfl, Nat.zero_le _, Nat.le_refl _, Lib.hid (Swr.zero a b d), HS⟩
  case round =>
    clear HS
    obtain ⟨i, dk, rfl, hin, hg, HW, HK⟩ := hrel
    by_cases hlt : i < n
    · have hltz : (i : Int) < (n : Int) := by omega
      have hsk : dk.size = N := HW.out.size.trans HN.out
      obtain ⟨p, hp⟩ : ∃ p, p = a + i := ⟨_, rfl⟩
      obtain ⟨q, hq⟩ : ∃ q, q = b + i := ⟨_, rfl⟩
      have ea : ((a : Int) + (i : Int)).toNat = p := by omega
      have eb : ((b : Int) + (i : Int)).toNat = q := by omega
      have ra : IntKind.i64.wrap ((a : Int) + (i : Int)) = (a : Int) + (i : Int) := by rw [IntKind.wrap_i64]; omega
      have rb : IntKind.i64.wrap ((b : Int) + (i : Int)) = (b : Int) + (i : Int) := by rw [IntKind.wrap_i64]; omega
      have pa : (0 : Int) ≤ (a : Int) + (i : Int) := by omega
      have pb : (0 : Int) ≤ (b : Int) + (i : Int) := by omega
      have ba : (a : Int) + (i : Int) < (N : Int) := by omega
      have bb : (b : Int) + (i : Int) < (N : Int) := by omega
      obtain ⟨x, hx⟩ : ∃ x, x = dk[p]! := ⟨_, rfl⟩
      obtain ⟨y, hy⟩ : ∃ y, y = dk[q]! := ⟨_, rfl⟩
      have hp1 : p < dk.size := by omega
      have hq1 : q < dk.size := by omega
      have h0 : dk.size = d0.size := hsk.trans H0.out.symm
      have S3 := Lib.hid (HK.out.swapped HR.out p q hp1 hq1)
      have c1 := HK.out.c1 HR.out h0 p hp1
      have c2 := HK.out.c1 HR.out h0 q hq1
      have f1 := HK.out.f1 HR.out h0 p hp1
      have f2 := HK.out.f1 HR.out h0 q hq1
      have HWS := Lib.hid (HW.out.step (by omega) (by rw [HN.out]; omega))
      rw [← hp, ← hq] at HWS
      rw [← hx, ← hy] at S3
      rw [← hx] at c1
      rw [← hy] at c2
      obtain ⟨u, c3⟩ := HK.out.c2 HR.out h0 p q hp1 hq1 (e32 y)
      clear hx hy hp hq hp1 hq1 h0 HK hsk
      go_wp2_with fail
      go_big_region_o
      clear c1 c2 c3 f1 f2 ea eb
      generalize ((wr.setCell ⟨blk, off + p, none⟩ (e32 y)).setCell ⟨blk, off + q, none⟩ (e32 x)).drew = w3 at S3 ⊢
      go_wp2
      go_roundg (n - (i + 1))
      case measure => omega
      case rel => exact ⟨i + 1, swp dk p q, by go_num, by omega, Nat.le_refl _, HWS, S3⟩
    · have hltz : ¬ (i : Int) < (n : Int) := by omega
      obtain rfl : i = n := by omega
      go_wp2
      go_end0
      exact ⟨rfl, dk, HW.out, HK.out⟩
end Go.Proofs.YtochodombojamaaDoor.Norm
