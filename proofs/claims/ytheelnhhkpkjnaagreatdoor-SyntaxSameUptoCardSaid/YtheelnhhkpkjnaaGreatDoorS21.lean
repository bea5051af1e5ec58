/-
  Texts of stage 7, part 21.
-/
import Derived.Test.YtheelnhhkpkjnaaGreatDoorS20
namespace Go.Proofs.YtheelnhhkpkjnaaGreatDoor.Norm
open Go.Shelf Go.RowKit Go.Sort
theorem Mg.flat {key : Int → Int} {a b : Nat} {d : Array Int} (h : Srt key a b d) : Mg key a b d d := ⟨St.refl _ _ _, h⟩
set_option maxHeartbeats 16000000 in
set_option maxRecDepth 100000 in
theorem stable_any (key : Int → Int) (cf : Int → Int → Int) (g blk off cap N : Nat) (d0 d : Array Int) (w0 w : World) (T : Told key cf g blk off N d0 w0) (hN : d.size = N) (S : SW e32 w0 blk off d w) (hsm : N ≤ 1099511627776) :
    Calls Tryz.prog 210 #[.slice (some ⟨blk, off, none⟩) N cap, .int .i64 N, .func (.func g) #[] #[]] w (MgEnd key blk off 0 N d w0) := by
  have HT := Lib.hid T
  have HS := Lib.hid S
  have HN := Lib.hid hN
  have HI := Lib.hid (fun (a b : Nat) (dk : Array Int) (W : World) (h1 : dk.size = N) (h2 : SW e32 w0 blk off dk W) (h3 : a ≤ b) (h4 : b ≤ N) => ins_any key cf g blk off cap a b N d0 dk w0 W T h1 h2 h3 h4)
  have HM := Lib.hid (fun (a m b : Nat) (dk : Array Int) (W : World) (h1 : dk.size = N) (h2 : SW e32 w0 blk off dk W) (h3 : a < m) (h4 : m < b) (h5 : b ≤ N) (h6 : Srt key a m dk) (h7 : Srt key m b dk) => sym_any key cf g blk off cap N d0 w0 T (b - a) a m b dk W (Nat.le_refl _) h1 h2 h3 h4 h5 h6 h7)
  clear T S hN
  go_enter Tryz.func210, Tryz.ntmps210
  go_wp2_with fail
  go_loopg [7, 8] N (fun g1 va vb wr => ∃ (a b : Nat) (dk : Array Int), va = .int .i64 a ∧ vb = .int .i64 b ∧ a ≤ N ∧ b ≤ N + 20 ∧ N - a ≤ g1 ∧ Hid (b = a + 20) ∧ Hid (20 ∣ a) ∧ Hid (dk.size = N) ∧ Hid (St key 0 N d dk) ∧ Hid (Bu key 20 a dk) ∧ Hid (SW e32 w0 blk off dk wr))
  case atStart => exact ⟨0, 20, d, rfl, rfl, Nat.zero_le _, by omega, Nat.le_refl _, Lib.hid rfl, Lib.hid ⟨0, rfl⟩, HN, Lib.hid (St.refl _ _ _), Lib.hid (fun x _ h => by omega), HS⟩
  case round =>
    clear HS
    obtain ⟨a, b, dk, rfl, rfl, ha, hb, hg, HB, HDV, HZ, HD, HU, HK⟩ := hrel
    by_cases hlt : b ≤ N
    · have hltz : (b : Int) ≤ (N : Int) := by omega
      go_wp2_with fail
      refine (HI.out a b dk _ HZ.out HK.out (by have := HB.out; omega) hlt).mono ?_
      rintro e w1 ⟨rfl, d1, hm, hk⟩
      have HB2 := Lib.hid (HB.out ▸ hm : Mg key a (a + 20) dk d1)
      have HU2 := Lib.hid (HU.out.step HDV.out HB2.out)
      rw [← HB.out] at HU2
      have HD2 := Lib.hid (HD.out.trans (hm.1.mono (Nat.zero_le _) (by have := HB.out; omega) hlt))
      have HZ2 := Lib.hid (hm.1.size.trans HZ.out)
      have HK2 := Lib.hid hk
      have HDV2 := Lib.hid (show 20 ∣ b by rw [HB.out]; exact Nat.dvd_add HDV.out (Nat.dvd_refl _))
      have hab : a < b := by have := HB.out; omega
      clear hm hk HK HZ HD HU HDV
      go_wp2_with fail
      go_roundg (N - b)
      case measure => omega
      case rel => exact ⟨b, b + 20, d1, rfl, by go_num, hlt, by omega, Nat.le_refl _, Lib.hid rfl, HDV2, HZ2, HD2, HU2, HK2⟩
    · have hltz : ¬ (b : Int) ≤ (N : Int) := by omega
      go_wp2_with fail
      refine (HI.out a N dk _ HZ.out HK.out ha (Nat.le_refl _)).mono ?_
      rintro e w1 ⟨rfl, d1, hm, hk⟩
      have HL1 := Lib.hid (HU.out.done HDV.out (by have := HB.out; omega) hm ha)
      have HD1 := Lib.hid (HD.out.trans (hm.1.mono (Nat.zero_le _) ha (Nat.le_refl _)))
      have HZ1 := Lib.hid (hm.1.size.trans HZ.out)
      have HK1 := Lib.hid hk
      clear hm hk HK HZ HD HU HDV HB hlt hltz hg
      go_wp2_with fail
      go_loopg [6, 7, 8, 9] (N + 1) (fun g2 vs va vb vm wr => ∃ (s : Nat) (dj : Array Int), vs = .int .i64 s ∧ 1 ≤ s ∧ s ≤ 2199023255552 ∧ N + 1 - s ≤ g2 ∧ Hid (dj.size = N) ∧ Hid (St key 0 N d dj) ∧ Hid (Bl key s 0 N dj) ∧ Hid (SW e32 w0 blk off dj wr))
      case atStart => exact ⟨20, d1, rfl, by omega, by omega, by omega, HZ1, HD1, HL1, HK1⟩
      case round =>
        clear HK1 HZ1 HD1 HL1
        obtain ⟨s, dj, rfl, hs1, hs2, hg, HZ, HD, HL, HK⟩ := hrel
        by_cases hlt : s < N
        · have hltz : (s : Int) < (N : Int) := by omega
          obtain ⟨t, ht⟩ : ∃ t, t = s + s := ⟨_, rfl⟩
          have ht1 : 2 * (s : Int) = (t : Int) := by omega
          have ht2 : (s : Int) * 2 = (t : Int) := by omega
          have ht3 : t ≤ 2199023255552 := by omega
          have ht4 : s < t := by omega
          have HTS := Lib.hid ht
          clear ht
          go_wp2_with fail
          go_loopg [7, 8] N (fun g3 va vb wx => ∃ (x y : Nat) (dx : Array Int), va = .int .i64 x ∧ vb = .int .i64 y ∧ x ≤ N ∧ y ≤ N + t ∧ x < y ∧ N - x ≤ g3 ∧ Hid (y = x + t) ∧ Hid (t ∣ x) ∧ Hid (dx.size = N) ∧ Hid (St key 0 N d dx) ∧ Hid (Bu key t x dx) ∧ Hid (Bl key s x N dx) ∧ Hid (SW e32 w0 blk off dx wx))
          case atStart => exact ⟨0, t, dj, rfl, rfl, Nat.zero_le _, by omega, by omega, Nat.le_refl _, Lib.hid (by omega), Lib.hid ⟨0, by simp⟩, HZ, HD, Lib.hid (fun x _ h => by omega), HL, HK⟩
          case round =>
            clear HZ HD HL HK
            obtain ⟨x, y, dx, rfl, rfl, hx, hy, hxy, hg3, HY, HDV, HZ, HD, HU, HL, HK⟩ := hrel
            have HDS := Lib.hid (show s ∣ x from Nat.dvd_trans ⟨2, by rw [HTS.out]; omega⟩ HDV.out)
            obtain ⟨z, hz⟩ : ∃ z, z = x + s := ⟨_, rfl⟩
            have hzz : (x : Int) + (s : Int) = (z : Int) := by omega
            have HZE := Lib.hid hz
            have hz1 : x < z := by omega
            have hz2 : z < y := by have := HY.out; have := HTS.out; omega
            clear hz
            by_cases hle : y ≤ N
            · have hlez : (y : Int) ≤ (N : Int) := by omega
              have HS2 := Lib.hid (HL.out.two HDS.out (by have := HZE.out; omega))
              rw [← HZE.out, show min (z + s) N = y by have := HZE.out; have := HY.out; have := HTS.out; omega] at HS2
              go_wp2_with fail
              refine (HM.out x z y dx _ HZ.out HK.out hz1 hz2 hle HS2.out.1 HS2.out.2).mono ?_
              rintro e w2 ⟨rfl, d2, hm, hk⟩
              have HU2 := Lib.hid (HU.out.step HDV.out (HY.out ▸ hm : Mg key x (x + t) dx d2))
              rw [← HY.out] at HU2
              have HL2 := Lib.hid (HL.out.step hm (by omega))
              have HD2 := Lib.hid (HD.out.trans (hm.1.mono (Nat.zero_le _) (by omega) hle))
              have HZ2 := Lib.hid (hm.1.size.trans HZ.out)
              have HK2 := Lib.hid hk
              have HDV2 := Lib.hid (show t ∣ y by rw [HY.out]; exact Nat.dvd_add HDV.out (Nat.dvd_refl _))
              clear hm hk HK HZ HD HU HDV HL HS2
              go_wp2_with fail
              go_roundg (N - y)
              case measure => omega
              case rel => exact ⟨y, y + t, d2, rfl, by go_num, hle, by omega, by omega, Nat.le_refl _, Lib.hid rfl, HDV2, HZ2, HD2, HU2, HL2, HK2⟩
            · have hlez : ¬ (y : Int) ≤ (N : Int) := by omega
              by_cases hzN : z < N
              · have hzNz : (z : Int) < (N : Int) := by omega
                have HS2 := Lib.hid (HL.out.two HDS.out (by have := HZE.out; omega))
                rw [← HZE.out, show min (z + s) N = N by have := HZE.out; have := HY.out; have := HTS.out; omega] at HS2
                go_wp2_with fail
                refine (HM.out x z N dx _ HZ.out HK.out hz1 hzN (Nat.le_refl _) HS2.out.1 HS2.out.2).mono ?_
                rintro e w2 ⟨rfl, d2, hm, hk⟩
                have HL2 := Lib.hid (HU.out.done HDV.out (by have := HY.out; omega) hm hx)
                have HD2 := Lib.hid (HD.out.trans (hm.1.mono (Nat.zero_le _) hx (Nat.le_refl _)))
                have HZ2 := Lib.hid (hm.1.size.trans HZ.out)
                have HK2 := Lib.hid hk
                clear hm hk HK HZ HD HU HDV HL HS2
                go_wp2_with fail
                go_roundg (N + 1 - t)
                case measure => omega
                case rel => exact ⟨t, d2, rfl, by omega, ht3, Nat.le_refl _, HZ2, HD2, HL2, HK2⟩
              · have hzNz : ¬ (z : Int) < (N : Int) := by omega
                have HL2 := Lib.hid (HU.out.done HDV.out (by have := HY.out; omega) (Mg.flat (by
                  have := HL.out x HDS.out (Nat.le_refl _)
                  rwa [show min (x + s) N = N by have := HZE.out; omega] at this)) hx)
                clear HU HDV HL HDS
                go_wp2_with fail
                go_roundg (N + 1 - t)
                case measure => omega
                case rel => exact ⟨t, dx, rfl, by omega, ht3, Nat.le_refl _, HZ, HD, HL2, HK⟩
        · have hltz : ¬ (s : Int) < (N : Int) := by omega
          have HE := Lib.hid (show Mg key 0 N d dj from ⟨HD.out, HL.out.one (by omega)⟩)
          clear HD HL
          go_wp2_with fail
          go_end0
          exact ⟨rfl, dj, HE.out, HK.out⟩
theorem sortStable_any (key : Int → Int) (cf : Int → Int → Int) (g blk off cap N : Nat) (d0 d : Array Int) (w0 w : World) (T : Told key cf g blk off N d0 w0) (hN : d.size = N) (S : SW e32 w0 blk off d w) (hsm : N ≤ 1099511627776) :
    Calls Tryz.prog 197 #[.slice (some ⟨blk, off, none⟩) N cap, .func (.func g) #[] #[]] w (MgEnd key blk off 0 N d w0) := by
  have HC := Lib.hid (stable_any key cf g blk off cap N d0 d w0 w T hN S hsm)
  clear T S hN
  go_enter Tryz.func197, Tryz.ntmps197
  go_wp2_with fail
  refine HC.out.mono ?_
  rintro e w1 ⟨rfl, h⟩
  have H := Lib.hid h
  clear h
  go_wp2_with fail
  go_end0
  exact ⟨rfl, H.out⟩
end Go.Proofs.YtheelnhhkpkjnaaGreatDoor.Norm
