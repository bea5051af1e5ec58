/-
  CONTRACT OF slices.insertionSortCmpFunc at numbers of 32 bits: a stretch rises by its keys, each key's elements in their order.
-/
import Derived.Test.YtochodombojamaaDoorNormSym1
namespace Go.Proofs.YtochodombojamaaDoor.Norm
open Go.Shelf Go.RowKit Go.Sort

theorem Mg.id {key : Int → Int} {a b : Nat} {d : Array Int} (h : b ≤ a + 1) : Mg key a b d d := ⟨St.refl _ _ _, fun i j h1 h2 h3 => by omega⟩

set_option maxHeartbeats 8000000 in
set_option maxRecDepth 100000 in
theorem ins_any (key : Int → Int) (cf : Int → Int → Int) (g blk off cap a b N : Nat) (d0 d : Array Int) (w0 w : World) (T : Told key cf g blk off N d0 w0) (hN : d.size = N) (S : SW e32 w0 blk off d w)
    (hab : a ≤ b) (hb : b ≤ N) :
    Calls Tryd.prog 47 #[.slice (some ⟨blk, off, none⟩) N cap, .int .i64 a, .int .i64 b, .func (.func g) #[] #[]] w (MgEnd key blk off a b d w0) := by
  have mixed : Tryd.prog.follows .mixedOrders = true := by kernel_rfl
  have hsz := T.small
  have eg := T.enters
  have HT := Lib.hid T
  have HS := Lib.hid S
  have HN := Lib.hid hN
  clear T S hN
  go_enter Tryd.func47, Tryd.ntmps47
  go_wp2_with fail
  go_loopg [8] (b - a) (fun g1 vi wr => ∃ (i : Nat) (dk : Array Int), vi = .int .i64 i ∧ a + 1 ≤ i ∧ i ≤ b + 1 ∧ b + 1 - i ≤ g1 + 1 ∧ Hid (dk.size = N) ∧ Hid (St key a b d dk) ∧ Hid (Srt key a i dk) ∧ Hid (SW e32 w0 blk off dk wr))
  case atStart => exact ⟨a + 1, d, by go_num, by omega, by omega, by omega, HN, Lib.hid (St.refl _ _ _), Lib.hid (fun i j h1 h2 h3 => by omega), HS⟩
  case round =>
    clear HS
    obtain ⟨i, dk, rfl, h1, h2, hg, HZ, HD, HO, HK⟩ := hrel
    by_cases hlt : i < b
    · have hltz : (i : Int) < (b : Int) := by omega
      go_wp2_with fail
      go_loopg [9] i (fun g2 vj wr2 => ∃ (j : Nat) (dj : Array Int), vj = .int .i64 j ∧ a ≤ j ∧ j ≤ i ∧ j ≤ g2 ∧ Hid (Rot j i (i + 1) dk dj) ∧ Hid (j = i ∨ key dk[i]! < key dk[j]!) ∧ Hid (SW e32 w0 blk off dj wr2))
      case atStart => exact ⟨i, dk, rfl, by omega, Nat.le_refl _, Nat.le_refl _, Lib.hid (Rot.refl_left i (i + 1) dk (by omega)), Lib.hid (.inl rfl), HK⟩
      case round =>
        clear HK
        obtain ⟨j, dj, rfl, j1, j2, jg, HR, HC, HX⟩ := hrel
        -- the way out of the inner loop
        have HOUT := Lib.hid (show (j = a ∨ key dk[j - 1]! ≤ key dk[i]!) → Mg key a (i + 1) dk dj from fun hl => mg_last HO.out j1 j2 hl HC.out HR.out)
        have HD2 := Lib.hid (fun (m : Mg key a (i + 1) dk dj) => (HD.out.trans (m.1.mono (Nat.le_refl _) (by omega) (by omega) : St key a b dk dj) : St key a b d dj))
        have hsk : dj.size = N := HR.out.size.trans HZ.out
        have HSK := Lib.hid hsk
        by_cases hja : a < j
        · obtain ⟨q, rfl⟩ : ∃ q, j = q + 1 := ⟨j - 1, by omega⟩
          obtain ⟨p, hp⟩ : ∃ p, p = q + 1 := ⟨_, rfl⟩
          have ec : ((q + 1 : Nat) : Int) = (p : Int) := by omega
          have eb : (p : Int) - 1 = (q : Int) := by omega
          have rb : IntKind.i64.wrap (q : Int) = (q : Int) := by rw [IntKind.wrap_i64]; omega
          have ba : (p : Int) < (N : Int) := by omega
          have bb : (q : Int) < (N : Int) := by omega
          have ltp : (a : Int) < (p : Int) := by omega
          have ltd : decide ((a : Int) < (p : Int)) = true := decide_eq_true ltp
          have p1 : 1 ≤ (p : Int) := by omega
          have h0 : dj.size = d0.size := hsk.trans HT.out.size.symm
          have hp1 : p < dj.size := by omega
          have hq1 : q < dj.size := by omega
          obtain ⟨x, hx⟩ : ∃ x, x = dj[p]! := ⟨_, rfl⟩
          obtain ⟨y, hy⟩ : ∃ y, y = dj[q]! := ⟨_, rfl⟩
          have l1 := HX.out.cl HT.out.row h0 p hp1
          have l2 := HX.out.cl HT.out.row h0 q hq1
          have hc := HX.out.cmp HT.out.cmp hsk x y
          have HV := Lib.hid (HT.out.lt x y)
          have HXE := Lib.hid (show x = dk[i]! by rw [hx, hp, HR.out.lo (q + 1) (Nat.le_refl _) (by omega)]; congr 1; omega)
          have HYE := Lib.hid (show y = dk[q]! by rw [hy, HR.out.out q (by omega)])
          rw [← hx] at l1
          rw [← hy] at l2
          by_cases hv : cf x y < 0
          · have hd : decide (cf x y < 0) = true := decide_eq_true hv
            have S2 := Lib.hid (fun (n : Nat) (os : Array Obj) => HX.out.grown n os)
            have HRN := Lib.hid (HR.out.down (by omega) (by rw [HZ.out]; omega))
            rw [← hp] at HRN
            have HCN := Lib.hid (show q = i ∨ key dk[i]! < key dk[q]! from .inr (by rw [← HXE.out, ← HYE.out]; exact HV.out.1 hv))
            have hqi : q < i := by omega
            rw [ec]
            have HXX := Lib.hid hx; have HYY := Lib.hid hy; have HP1 := Lib.hid (And.intro hp1 hq1); have HH0 := Lib.hid h0
            clear hx hy hp hp1 hq1 h0 hsk HR HC HOUT HD2 HXE HYE hja ec
            go_wp2_with fail
            go_quiet_grown (first | (go_at_fn g; refine Calls.grown_of (hc _ _)))
            have HK2 := Lib.hid (S2.out nq osq)
            clear l1 l2 hc HX S2
            generalize grow (wr.drewN nq) osq = w2 at HK2 ⊢
            clear nq osq
            have S3 := Lib.hid (HK2.out.swapped HT.out.row p q HP1.out.1 HP1.out.2)
            have c1 := HK2.out.c1 HT.out.row HH0.out p HP1.out.1
            have c2 := HK2.out.c1 HT.out.row HH0.out q HP1.out.2
            have f1 := HK2.out.f1 HT.out.row HH0.out p HP1.out.1
            have f2 := HK2.out.f1 HT.out.row HH0.out q HP1.out.2
            rw [← HXX.out, ← HYY.out] at S3
            rw [← HXX.out] at c1
            rw [← HYY.out] at c2
            obtain ⟨u, c3⟩ := HK2.out.c2 HT.out.row HH0.out p q HP1.out.1 HP1.out.2 (e32 y)
            clear HK2
            go_wp2_with fail
            go_big_region_o
            clear c1 c2 c3 f1 f2
            generalize ((w2.setCell ⟨blk, off + p, none⟩ (e32 y)).setCell ⟨blk, off + q, none⟩ (e32 x)).drew = w3 at S3 ⊢
            go_wp2_with fail
            go_roundg q
            case measure => omega
            case rel => exact ⟨q, swp dj p q, rfl, by omega, by omega, Nat.le_refl _, HRN, HCN, S3⟩
          · have hd : decide (cf x y < 0) = false := decide_eq_false hv
            have HM := Lib.hid (HOUT.out (.inr (by rw [Nat.add_sub_cancel, ← HXE.out, ← HYE.out]; exact Int.not_lt.1 fun h => hv (HV.out.2 h))))
            have HDN := Lib.hid (HD2.out HM.out)
            rw [ec]
            clear hx hy hp hp1 hq1 h0 hsk HR HC HOUT HD2 HXE HYE hja ec
            go_wp2_with fail
            go_quiet_grown (first | (go_at_fn g; refine Calls.grown_of (hc _ _)))
            have HK2 := Lib.hid (HX.out.grown nq osq)
            clear l1 l2 hc HX
            generalize grow (wr.drewN nq) osq = w2 at HK2 ⊢
            clear nq osq
            go_wp2_with fail
            go_roundg (b - (i + 1))
            case measure => omega
            case rel => exact ⟨i + 1, dj, by go_num, by omega, by omega, by omega, HSK, HDN, Lib.hid HM.out.2, HK2⟩
        · obtain rfl : j = a := by omega
          have HM := Lib.hid (HOUT.out (.inl rfl))
          have HDN := Lib.hid (HD2.out HM.out)
          have hjj : decide ((j : Int) > (j : Int)) = false := by simp
          have hjl : ¬ (j : Int) < (j : Int) := by omega
          clear HOUT HD2 HR HC hsk
          go_wp2_with fail
          go_big_region_o
          have HK2 := Lib.hid HX.out.drew
          clear HX
          generalize wr.drew = w2 at HK2 ⊢
          go_wp2_with fail
          go_roundg (b - (i + 1))
          case measure => omega
          case rel => exact ⟨i + 1, dj, by go_num, by omega, by omega, by omega, HSK, HDN, Lib.hid HM.out.2, HK2⟩
    · have hltz : ¬ (i : Int) < (b : Int) := by omega
      have HE := Lib.hid (show Mg key a b d dk from ⟨HD.out, HO.out.mono (Nat.le_refl _) (by omega)⟩)
      clear HD HO
      go_wp2_with fail
      go_end0
      exact ⟨rfl, dk, HE.out, HK.out⟩
end Go.Proofs.YtochodombojamaaDoor.Norm
