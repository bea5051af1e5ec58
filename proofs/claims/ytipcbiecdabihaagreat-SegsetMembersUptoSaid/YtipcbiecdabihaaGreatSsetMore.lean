/-
  CONTRACTS OF Not, First, Ones, All, Of, May, Has, Empty.
-/
import Derived.Test.YtipcbiecdabihaaGreatSsetOps
import Derived.Test.YtipcbiecdabihaaGreatRsetHas
namespace Go.Proofs.YtipcbiecdabihaaGreat.Sset
open Go.RowKit
open Utf (Rd Blk pts pts_len Pts Pt rune wid)
open Rset
set_option maxRecDepth 100000

set_option maxHeartbeats 4000000 in
theorem sfirst_any (A : Option Addr) (l : List Rg) (n c : Nat) (w : World) (h : ArgR w A n l) :
    Calls Tryz.prog 23 #[.slice A n c] w (OwnS w (firstS l)) := by
  obtain ⟨W0, hW0⟩ : ∃ W0, W0 = w.alloc (.cells #[.slice none 0 0, .slice none 0 0, .slice none 0 0] 25) := ⟨_, rfl⟩
  obtain ⟨g, hg⟩ : ∃ g, g = w.heap.size := ⟨_, rfl⟩
  have hb0 : Below w.heap.size w W0 := by rw [hW0]; exact (Below.refl _ _).alloc (Nat.le_refl _) _
  have k0 : BlkS W0 g (.slice none 0 0) (.slice none 0 0) (.slice none 0 0) := by rw [hW0, hg]; exact BlkS.new w _ _ _
  have HK := Lib.hid k0; have HW := Lib.hid hW0; have HG := Lib.hid hg; have HB0 := Lib.hid hb0
  have HN := Lib.hid (show ∀ u, Below W0.heap.size W0 u → Calls Tryz.prog 31 #[.slice A n c] u (Own u (norm l)) from fun u hu => by
    have k := (h.next hb0).next hu; exact Rset.norm_any A l n c u k.rd k.len k.fit (by have := k.sm; omega))
  have HE := Lib.hid (show firstS l = ⟨norm l, norm l, []⟩ from rfl)
  rw [HE.out]
  generalize norm l = L at HN ⊢
  clear h hW0 hg hb0 k0
  go_enter Tryz.func23, Tryz.ntmps23
  go_wp2_with fail
  rw [← HW.out]
  refine (HN.out _ (Below.refl _ _)).mono ?_
  rintro e w1 ⟨v1, rfl, o1, b1⟩
  obtain ⟨P1, p1, rfl, _, _, _⟩ := own_form o1
  have HO1 := Lib.hid o1; have HB1 := Lib.hid b1
  clear o1 b1
  go_wp2_with fail
  refine (HN.out _ HB1.out).mono ?_
  rintro e w2 ⟨v2, rfl, o2, b2⟩
  obtain ⟨P2, p2, rfl, _, _, _⟩ := own_form o2
  have HO2 := Lib.hid o2; have HB2 := Lib.hid b2
  have HZ := Lib.hid (HK.out.next (HB1.out.trans (b2.mono HB1.out.size)))
  have d0 := HZ.out.c0; have d1 := HZ.out.c1; have d2 := HZ.out.c2; have f0 := HZ.out.fr 0; have f1 := HZ.out.fr 1; have f2 := HZ.out.fr 2
  rw [HG.out] at d0 d1 d2 f0 f1 f2
  clear o2 b2
  go_wp2_with fail
  rw [← HG.out]
  refine (HZ.out.put _ _ _).ret rfl (by rw [HG.out]; rfl) rfl ?_
  exact OwnS.of (a := ⟨L, L, []⟩) HZ.out (own_below HO1.out HB2.out) HO2.out (World.ownsRow_nil _ w.heap.size _ _) (HB0.out.trans ((HB1.out.trans (HB2.out.mono HB1.out.size)).mono HB0.out.size)) (by rw [HG.out]; exact Nat.le_refl _) HB0.out.size (Nat.le_trans HB0.out.size HB1.out.size) (Nat.le_refl _)

set_option maxHeartbeats 4000000 in
theorem sones_any (A : Option Addr) (l : List Rg) (n c : Nat) (w : World) (h : ArgR w A n l) :
    Calls Tryz.prog 28 #[.slice A n c] w (OwnS w (onesS l)) := by
  obtain ⟨W0, hW0⟩ : ∃ W0, W0 = w.alloc (.cells #[.slice none 0 0, .slice none 0 0, .slice none 0 0] 25) := ⟨_, rfl⟩
  obtain ⟨g, hg⟩ : ∃ g, g = w.heap.size := ⟨_, rfl⟩
  have hb0 : Below w.heap.size w W0 := by rw [hW0]; exact (Below.refl _ _).alloc (Nat.le_refl _) _
  have k0 : BlkS W0 g (.slice none 0 0) (.slice none 0 0) (.slice none 0 0) := by rw [hW0, hg]; exact BlkS.new w _ _ _
  have HK := Lib.hid k0; have HW := Lib.hid hW0; have HG := Lib.hid hg; have HB0 := Lib.hid hb0
  have HN := Lib.hid (show ∀ u, Below W0.heap.size W0 u → Calls Tryz.prog 31 #[.slice A n c] u (Own u (norm l)) from fun u hu => by
    have k := (h.next hb0).next hu; exact Rset.norm_any A l n c u k.rd k.len k.fit (by have := k.sm; omega))
  have HE := Lib.hid (show onesS l = ⟨norm l, [], []⟩ from rfl)
  rw [HE.out]
  generalize norm l = L at HN ⊢
  clear h hW0 hg hb0 k0
  go_enter Tryz.func28, Tryz.ntmps28
  go_wp2_with fail
  rw [← HW.out]
  refine (HN.out _ (Below.refl _ _)).mono ?_
  rintro e w1 ⟨v1, rfl, o1, b1⟩
  obtain ⟨P1, p1, rfl, _, _, _⟩ := own_form o1
  have HO1 := Lib.hid o1; have HB1 := Lib.hid b1
  have HZ := Lib.hid (HK.out.next HB1.out)
  have d0 := HZ.out.c0; have d1 := HZ.out.c1; have d2 := HZ.out.c2; have f0 := HZ.out.fr 0; have f1 := HZ.out.fr 1; have f2 := HZ.out.fr 2
  rw [HG.out] at d0 d1 d2 f0 f1 f2
  clear o1 b1
  go_wp2_with fail
  rw [← HG.out]
  refine (HZ.out.put _ _ _).ret rfl (by rw [HG.out]; rfl) rfl ?_
  exact OwnS.of (a := ⟨L, [], []⟩) HZ.out HO1.out (World.ownsRow_nil _ w.heap.size _ _) (World.ownsRow_nil _ w.heap.size _ _) (HB0.out.trans (HB1.out.mono HB0.out.size)) (by rw [HG.out]; exact Nat.le_refl _) HB0.out.size (Nat.le_refl _) (Nat.le_refl _)

theorem has3_none (w : World) : Has3 w none 0 none 0 none 0 none_ := ⟨⟨rd_nil _ _ _, rfl, fit_nil, by omega⟩, ⟨rd_nil _ _ _, rfl, fit_nil, by omega⟩, ⟨Rd.empty _ _ _, rfl, fun _ h => by simp [none_] at h, by omega⟩⟩
set_option maxHeartbeats 4000000 in
theorem sall_any (w : World) : Calls Tryz.prog 21 #[] w (OwnS w allS) := by
  obtain ⟨W0, hW0⟩ : ∃ W0, W0 = w.alloc (.cells #[.slice none 0 0, .slice none 0 0, .slice none 0 0] 25) := ⟨_, rfl⟩
  obtain ⟨g, hg⟩ : ∃ g, g = w.heap.size := ⟨_, rfl⟩
  have hb0 : Below w.heap.size w W0 := by rw [hW0]; exact (Below.refl _ _).alloc (Nat.le_refl _) _
  have k0 : BlkS W0 g (.slice none 0 0) (.slice none 0 0) (.slice none 0 0) := by rw [hW0, hg]; exact BlkS.new w _ _ _
  have HK := Lib.hid k0; have HW := Lib.hid hW0; have HG := Lib.hid hg; have HB0 := Lib.hid hb0
  have HN := Lib.hid (r_not 0 0 0 (has3_none W0))
  clear hW0 hg hb0 k0
  go_enter Tryz.func21, Tryz.ntmps21
  go_wp2_with fail
  rw [← HW.out]
  refine HN.out.mono ?_
  rintro e w1 ⟨P1, p1, q1, P2, p2, q2, rfl, M1⟩
  have HM := Lib.hid M1
  have HZ := Lib.hid (HK.out.next M1.bel)
  have d0 := HZ.out.c0; have d1 := HZ.out.c1; have d2 := HZ.out.c2; have f0 := HZ.out.fr 0; have f1 := HZ.out.fr 1; have f2 := HZ.out.fr 2
  rw [HG.out] at d0 d1 d2 f0 f1 f2
  clear M1
  go_wp2_with fail
  rw [← HG.out]
  refine (HZ.out.put _ _ _).ret rfl (by rw [HG.out]; rfl) rfl ?_
  exact OwnS.of (a := allS) HZ.out HM.out.o1 HM.out.o2 (World.ownsRow_nil _ w.heap.size _ _) (HB0.out.trans (HM.out.bel.mono HB0.out.size)) (by rw [HG.out]; exact Nat.le_refl _) HB0.out.size HB0.out.size (Nat.le_refl _)

set_option maxHeartbeats 4000000 in
theorem snot2_any (A1 A2 A3 : Option Addr) (n1 c1 n2 c2 n3 c3 : Nat) (a : St) (w : World) (h : Has3 w A1 n1 A2 n2 A3 n3 a) :
    Calls Tryz.prog 13 #[.agg #[.slice A1 n1 c1, .slice A2 n2 c2, .slice A3 n3 c3]] w (OwnS w (not2 a)) := by
  obtain ⟨g, hg⟩ : ∃ g, g = w.heap.size := ⟨_, rfl⟩
  obtain ⟨g1, hg1⟩ : ∃ g1, g1 = w.heap.size + 1 := ⟨_, rfl⟩
  obtain ⟨W0, hW0⟩ : ∃ W0, W0 = (w.alloc (.cells #[.slice A1 n1 c1, .slice A2 n2 c2, .slice A3 n3 c3] 25)).alloc (.cells #[.slice none 0 0, .slice none 0 0, .slice none 0 0] 25) := ⟨_, rfl⟩
  have k0 : BlkS W0 g (.slice A1 n1 c1) (.slice A2 n2 c2) (.slice A3 n3 c3) := by rw [hW0, hg]; exact (BlkS.new w _ _ _).alloc _
  have k1 : BlkS W0 g1 (.slice none 0 0) (.slice none 0 0) (.slice none 0 0) := by
    have := BlkS.new (w.alloc (.cells #[.slice A1 n1 c1, .slice A2 n2 c2, .slice A3 n3 c3] 25)) (.slice none 0 0) (.slice none 0 0) (.slice none 0 0)
    rw [hW0, hg1]; simpa using this
  have hb0 : Below w.heap.size w W0 := by rw [hW0]; exact ((Below.refl _ _).alloc (Nat.le_refl _) _).alloc (by simp) _
  have HK := Lib.hid k1; have HW := Lib.hid hW0; have HG := Lib.hid hg; have HG1 := Lib.hid hg1; have HB0 := Lib.hid hb0
  have HN := Lib.hid (r_norm c1 c2 c3 (h.next hb0))
  have x0 := k0.c0; have x1 := k0.c1; have x2 := k0.c2
  clear h hW0 hg hg1 hb0 k0 k1
  go_enter Tryz.func13, Tryz.ntmps13
  go_wp2_with fail
  rw [← HW.out]
  refine HN.out.mono ?_
  rintro e w1 ⟨P1, p1, q1, P2, p2, q2, P3, p3, q3, rfl, M1⟩
  have HM1 := Lib.hid M1
  clear M1 x0 x1 x2
  go_wp2_with fail
  refine (r_not _ _ _ HM1.out.has).mono ?_
  rintro e w2 ⟨R1, r1, s1, R2, r2, s2, rfl, M2⟩
  have HM2 := Lib.hid M2
  have HZ := Lib.hid (HK.out.next (HM1.out.bel.trans (M2.bel.mono HM1.out.bel.size)))
  have d0 := HZ.out.c0; have d1 := HZ.out.c1; have d2 := HZ.out.c2; have f0 := HZ.out.fr 0; have f1 := HZ.out.fr 1; have f2 := HZ.out.fr 2
  rw [HG1.out] at d0 d1 d2 f0 f1 f2
  clear M2
  go_wp2_with fail
  rw [← HG1.out]
  refine (HZ.out.put _ _ _).ret rfl (by rw [HG1.out]; rfl) rfl ?_
  have hs := HB0.out.size
  have hs1 := HM1.out.bel.size
  exact OwnS.of (a := not2 a) HZ.out HM2.out.o1 HM2.out.o2 (own_below HM1.out.o3 HM2.out.bel) (HB0.out.trans ((HM1.out.bel.trans (HM2.out.bel.mono hs1)).mono hs)) (by have := HG1.out; omega) (Nat.le_trans hs hs1) (Nat.le_trans hs hs1) hs
end Go.Proofs.YtipcbiecdabihaaGreat.Sset
