/-
  CONTRACT OF slices.symMergeCmpFunc where the first block is one element.
-/
import Derived.Test.YtochodombojamaaDoorNormRotate
namespace Go.Proofs.YtochodombojamaaDoor.Norm
open Go.Shelf Go.RowKit Go.Sort

/-- what the sort's functions are told: the row, the comparison -/
structure Told (key : Int → Int) (cf : Int → Int → Int) (g blk off N : Nat) (d0 : Array Int) (w0 : World) : Prop where
  row : Row1 e32 w0 blk off d0
  size : d0.size = N
  small : N < 4611686018427387904
  cmp : CmpLays1 Tryd.prog g #[] e32 cf blk off N w0
  lt : ∀ x y, cf x y < 0 ↔ key x < key y
  enters : ∀ args w, (callFunc g args).run Tryd.prog w = .ok (.enter g args) w
/-- the end of a merge -/
def MgEnd (key : Int → Int) (blk off a b : Nat) (d : Array Int) (w0 : World) (e : Ending) (w' : World) : Prop := e = .returned (.tuple #[]) ∧ ∃ d', Mg key a b d d' ∧ SW e32 w0 blk off d' w'

set_option maxHeartbeats 8000000 in
set_option maxRecDepth 100000 in
theorem sym_first (key : Int → Int) (cf : Int → Int → Int) (g blk off cap a m b N : Nat) (d0 d : Array Int) (w0 w : World) (T : Told key cf g blk off N d0 w0) (hN : d.size = N) (S : SW e32 w0 blk off d w)
    (hm : m = a + 1) (hab : m < b) (hb : b ≤ N) (hs : Srt key (a + 1) b d) :
    Calls Tryd.prog 48 #[.slice (some ⟨blk, off, none⟩) N cap, .int .i64 a, .int .i64 m, .int .i64 b, .func (.func g) #[] #[]] w (MgEnd key blk off a b d w0) := by
  have mixed : Tryd.prog.follows .mixedOrders = true := by kernel_rfl
  have hsz := T.small
  have eg := T.enters
  have HT := Lib.hid T
  have HS := Lib.hid S
  have HN := Lib.hid hN
  have HO := Lib.hid hs
  have hma : ((m : Int) - (a : Int) == 1) = true := by simp; omega
  have HM := Lib.hid hm
  have ham : a < m := by omega
  clear T S hN hs hm
  go_enter Tryd.func48, Tryd.ntmps48
  go_wp2_with fail
  go_loopg [10, 11, 12] (b - a) (fun g1 vi vj vh wr => ∃ (i j : Nat), vi = .int .i64 i ∧ vj = .int .i64 j ∧ m ≤ i ∧ i ≤ j ∧ j ≤ b ∧ j - i ≤ g1 ∧ Hid (i = a + 1 ∨ key d[i - 1]! < key d[a]!) ∧ Hid (j = b ∨ key d[a]! ≤ key d[j]!) ∧ Hid (SW e32 w0 blk off d wr))
  case atStart => exact ⟨m, b, rfl, rfl, by omega, by omega, by omega, by omega, Lib.hid (.inl HM.out), Lib.hid (.inl rfl), HS⟩
  case round =>
    clear HS
    obtain ⟨i, j, rfl, rfl, h1, h2, h3, hg, HI, HJ, HK⟩ := hrel
    by_cases hlt : i < j
    · have hltz : (i : Int) < (j : Int) := by omega
      obtain ⟨h, hh⟩ : ∃ h : Nat, h = (i + j) / 2 := ⟨_, rfl⟩
      have hz : ((i : Int) + (j : Int)) / 2 = (h : Int) := by omega
      have h4 : i ≤ h := by omega
      have h5 : h < j := by omega
      have hh2 : (h : Int) < (N : Int) := by omega
      have ha2 : (a : Int) < (N : Int) := by omega
      clear hh
      obtain ⟨x, hx⟩ : ∃ x, x = d[h]! := ⟨_, rfl⟩
      obtain ⟨y, hy⟩ : ∃ y, y = d[a]! := ⟨_, rfl⟩
      have l1 := HK.out.cl HT.out.row (by rw [HN.out, HT.out.size]) h (by rw [HN.out]; omega)
      have l2 := HK.out.cl HT.out.row (by rw [HN.out, HT.out.size]) a (by rw [HN.out]; omega)
      have hc := HK.out.cmp HT.out.cmp HN.out x y
      have HV := Lib.hid (HT.out.lt x y)
      rw [← hx] at l1
      rw [← hy] at l2
      have HX := Lib.hid hx
      have HY := Lib.hid hy
      clear hx hy
      by_cases hv : cf x y < 0
      · have hd : decide (cf x y < 0) = true := decide_eq_true hv
        have HI2 := Lib.hid (show h + 1 = a + 1 ∨ key d[h + 1 - 1]! < key d[a]! from .inr (by rw [Nat.add_sub_cancel, ← HX.out, ← HY.out]; exact HV.out.1 hv))
        go_wp2_with fail
        go_quiet_grown (first | (go_at_fn g; refine Calls.grown_of (hc _ _)))
        have HK2 := Lib.hid (HK.out.grown nq osq)
        clear l1 l2 hc HK
        generalize grow (wr.drewN nq) osq = w2 at HK2 ⊢
        clear nq osq
        go_wp2_with fail
        go_roundg (j - (h + 1))
        case measure => omega
        case rel => exact ⟨h + 1, j, by go_num, rfl, by omega, by omega, by omega, Nat.le_refl _, HI2, HJ, HK2⟩
      · have hd : decide (cf x y < 0) = false := decide_eq_false hv
        have HJ2 := Lib.hid (show h = b ∨ key d[a]! ≤ key d[h]! from .inr (by rw [← HX.out, ← HY.out]; exact Int.not_lt.1 fun h => hv (HV.out.2 h)))
        go_wp2_with fail
        go_quiet_grown (first | (go_at_fn g; refine Calls.grown_of (hc _ _)))
        have HK2 := Lib.hid (HK.out.grown nq osq)
        clear l1 l2 hc HK
        generalize grow (wr.drewN nq) osq = w2 at HK2 ⊢
        clear nq osq
        go_wp2_with fail
        go_roundg (h - i)
        case measure => omega
        case rel => exact ⟨i, h, rfl, rfl, by omega, by omega, by omega, Nat.le_refl _, HI, HJ2, HK2⟩
    · have hltz : ¬ (i : Int) < (j : Int) := by omega
      obtain rfl : i = j := by omega
      have hi1 : (i : Int) - 1 = ((i - 1 : Nat) : Int) := by omega
      have HF := Lib.hid (fun d' h => mg_first (d' := d') HO.out (by have := HM.out; omega) h3 HI.out HJ.out h)
      clear HI HJ hlt
      go_wp2_with fail
      go_loopg [13] (i - 1) (fun g2 vk wx => ∃ (k : Nat) (dk : Array Int), vk = .int .i64 k ∧ a ≤ k ∧ k ≤ i - 1 ∧ i - 1 - k ≤ g2 ∧ Hid (Rot a (a + 1) (k + 1) d dk) ∧ Hid (SW e32 w0 blk off dk wx))
      case atStart => exact ⟨a, d, rfl, Nat.le_refl _, by have := HM.out; omega, by have := HM.out; omega, Lib.hid (Rot.refl_right a (a + 1) d), HK⟩
      case round =>
        clear HK
        obtain ⟨k, dk, rfl, k1, k2, kg, HW, HX⟩ := hrel
        by_cases hlt : k < i - 1
        · have hltz : (k : Int) < ((i - 1 : Nat) : Int) := by omega
          obtain ⟨q, hq⟩ : ∃ q, q = k + 1 := ⟨_, rfl⟩
          have eb : ((k : Int) + 1).toNat = q := by omega
          have pb : (0 : Int) ≤ (k : Int) + 1 := by omega
          have bb : (k : Int) + 1 < (N : Int) := by omega
          have ba : (k : Int) < (N : Int) := by omega
          obtain ⟨x, hx⟩ : ∃ x, x = dk[k]! := ⟨_, rfl⟩
          obtain ⟨y, hy⟩ : ∃ y, y = dk[q]! := ⟨_, rfl⟩
          have hsk : dk.size = N := HW.out.size.trans HN.out
          have h0 : dk.size = d0.size := hsk.trans HT.out.size.symm
          have hp1 : k < dk.size := by omega
          have hq1 : q < dk.size := by omega
          have S3 := Lib.hid (HX.out.swapped HT.out.row k q hp1 hq1)
          have c1 := HX.out.c1 HT.out.row h0 k hp1
          have c2 := HX.out.c1 HT.out.row h0 q hq1
          have f1 := HX.out.f1 HT.out.row h0 k hp1
          have f2 := HX.out.f1 HT.out.row h0 q hq1
          have HWS := Lib.hid (HW.out.up k1 (by rw [HN.out]; omega))
          rw [← hq] at HWS
          rw [← hx, ← hy] at S3
          rw [← hx] at c1
          rw [← hy] at c2
          obtain ⟨u, c3⟩ := HX.out.c2 HT.out.row h0 k q hp1 hq1 (e32 y)
          clear hx hy hq hp1 hq1 h0 HX hsk
          go_wp2_with fail
          go_big_region_o
          clear c1 c2 c3 f1 f2 eb
          generalize ((wr.setCell ⟨blk, off + k, none⟩ (e32 y)).setCell ⟨blk, off + q, none⟩ (e32 x)).drew = w3 at S3 ⊢
          go_wp2_with fail
          go_roundg (i - 1 - (k + 1))
          case measure => omega
          case rel => exact ⟨k + 1, swp dk k q, by go_num, by omega, by omega, Nat.le_refl _, HWS, S3⟩
        · have hltz : ¬ (k : Int) < ((i - 1 : Nat) : Int) := by omega
          have hki : k + 1 = i := by omega
          rw [hki] at HW
          have HE := Lib.hid (HF.out _ HW.out)
          clear HF HW hki
          go_wp2_with fail
          go_end0
          exact ⟨rfl, dk, HE.out, HX.out⟩
end Go.Proofs.YtochodombojamaaDoor.Norm
