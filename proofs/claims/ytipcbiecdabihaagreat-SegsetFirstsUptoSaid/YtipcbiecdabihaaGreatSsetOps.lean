/-
  CONTRACTS OF Union, Meet, Minus, Not, Equal, Empty, May, Has, First, Ones, All, Of.
-/
import Derived.Test.YtipcbiecdabihaaGreatSsetMeet
namespace Go.Proofs.YtipcbiecdabihaaGreat.Sset
open Go.RowKit
open Utf (Rd Blk pts pts_len Pts)
open Rset
set_option maxRecDepth 100000

/-- a set that the call made: it can be read, and lies in memory of the call's own -/
structure Made (w w' : World) (A1 : Option Addr) (n1 c1 : Nat) (A2 : Option Addr) (n2 c2 : Nat) (A3 : Option Addr) (n3 c3 : Nat) (a : St) : Prop where
  has : Has3 w' A1 n1 A2 n2 A3 n3 a
  o1 : w'.ownsRow w.heap.size 38 2 (.slice A1 n1 c1) a.s.length (rgs a.s)
  o2 : w'.ownsRow w.heap.size 38 2 (.slice A2 n2 c2) a.m.length (rgs a.m)
  o3 : w'.ownsRow w.heap.size 9 1 (.slice A3 n3 c3) a.o.length (txs a.o)
  bel : Below w.heap.size w w'
def ResO (w : World) (a : St) (e : Ending) (w' : World) : Prop := ∃ A1 n1 c1 A2 n2 c2 A3 n3 c3, e = .returned (.agg #[.slice A1 n1 c1, .slice A2 n2 c2, .slice A3 n3 c3]) ∧ Made w w' A1 n1 c1 A2 n2 c2 A3 n3 c3 a
theorem OwnS.made {w w' : World} {a : St} {e : Ending} (h : OwnS w a e w') (hN : NmS a) (hS : Short a.o) (hsm : a.o.length ≤ 1073741824) : ResO w a e w' := by
  obtain ⟨v1, v2, v3, rfl, h1, h2, h3, hb⟩ := h
  obtain ⟨A1, c1, rfl, k1⟩ := argR_own h1 rfl hN.s
  obtain ⟨A2, c2, rfl, k2⟩ := argR_own h2 rfl hN.m
  obtain ⟨A3, c3, rfl, k3⟩ := argT_own h3 rfl hS hsm
  exact ⟨_, _, _, _, _, _, _, _, _, rfl, ⟨k1, k2, k3⟩, h1, h2, h3, hb⟩
section
variable {w : World} {A1 A2 A3 B1 B2 B3 : Option Addr} {n1 n2 n3 m1 m2 m3 : Nat} {a b : St}
theorem r_norm (c1 c2 c3 : Nat) (h : Has3 w A1 n1 A2 n2 A3 n3 a) : Calls Tryz.prog 9 #[.agg #[.slice A1 n1 c1, .slice A2 n2 c2, .slice A3 n3 c3]] w (ResO w (normS a)) :=
  (snorm_any A1 A2 A3 n1 c1 n2 c2 n3 c3 a w h).mono fun _ _ k => k.made (normS_nm a) (short_norm h.o.short) (Nat.le_trans (normS_len a) (by have := h.o.len; have := h.o.sm; omega))
theorem r_meet (c1 c2 c3 d1 d2 d3 : Nat) (h : Has3 w A1 n1 A2 n2 A3 n3 a) (k : Has3 w B1 m1 B2 m2 B3 m3 b) (hN : NmS a) (kN : NmS b) (hsm : n3 + m3 ≤ 1073741824) : Calls Tryz.prog 34 #[.agg #[.slice A1 n1 c1, .slice A2 n2 c2, .slice A3 n3 c3], .agg #[.slice B1 m1 d1, .slice B2 m2 d2, .slice B3 m3 d3]] w (ResO w (meetS a b)) :=
  (smeet_any A1 A2 A3 B1 B2 B3 n1 c1 n2 c2 n3 c3 m1 d1 m2 d2 m3 d3 a b w h k hN kN hsm).mono fun _ _ q => q.made (meetS_nm hN kN) (short_meet h.o.short k.o.short) (Nat.le_trans (meetS_len a b) (by have := h.o.len; have := k.o.len; omega))
/-- not: Odd is what it was -/
structure Turned (w w' : World) (A1 : Option Addr) (n1 c1 : Nat) (A2 : Option Addr) (n2 c2 : Nat) (A3 : Option Addr) (n3 : Nat) (a : St) : Prop where
  has : Has3 w' A1 n1 A2 n2 A3 n3 (notS a)
  o1 : w'.ownsRow w.heap.size 38 2 (.slice A1 n1 c1) (notS a).s.length (rgs (notS a).s)
  o2 : w'.ownsRow w.heap.size 38 2 (.slice A2 n2 c2) (notS a).m.length (rgs (notS a).m)
  bel : Below w.heap.size w w'
theorem r_not (c1 c2 c3 : Nat) (h : Has3 w A1 n1 A2 n2 A3 n3 a) : Calls Tryz.prog 33 #[.agg #[.slice A1 n1 c1, .slice A2 n2 c2, .slice A3 n3 c3]] w (fun e w' => ∃ B1 m1 d1 B2 m2 d2, e = .returned (.agg #[.slice B1 m1 d1, .slice B2 m2 d2, .slice A3 n3 c3]) ∧ Turned w w' B1 m1 d1 B2 m2 d2 A3 n3 a) :=
  (snot_any A1 A2 A3 n1 c1 n2 c2 n3 c3 a.s a.m w h.s h.m).mono fun e w' ⟨v1, v2, he, h1, h2, hb⟩ => by
    obtain ⟨X1, x1, rfl, k1⟩ := argR_own h1 rfl (nl_nm _)
    obtain ⟨X2, x2, rfl, k2⟩ := argR_own h2 rfl (nl_nm _)
    exact ⟨_, _, _, _, _, _, he, ⟨k1, k2, h.o.next hb⟩, h1, h2, hb⟩
end
theorem Made.res {w w' : World} {A1 A2 A3 : Option Addr} {n1 c1 n2 c2 n3 c3 : Nat} {a : St} (h : Made w w' A1 n1 c1 A2 n2 c2 A3 n3 c3 a) : Has3 w' A1 n1 A2 n2 A3 n3 a := h.has

set_option maxHeartbeats 8000000 in
theorem sunion_any (A1 A2 A3 B1 B2 B3 : Option Addr) (n1 c1 n2 c2 n3 c3 m1 d1 m2 d2 m3 d3 : Nat) (a b : St) (w : World) (h : Has3 w A1 n1 A2 n2 A3 n3 a) (k : Has3 w B1 m1 B2 m2 B3 m3 b) (hsm : n3 + m3 ≤ 1073741824) :
    Calls Tryz.prog 10 #[.agg #[.slice A1 n1 c1, .slice A2 n2 c2, .slice A3 n3 c3], .agg #[.slice B1 m1 d1, .slice B2 m2 d2, .slice B3 m3 d3]] w (OwnS w (uni2 a b)) := by
  obtain ⟨g, hg⟩ : ∃ g, g = w.heap.size := ⟨_, rfl⟩
  obtain ⟨W0, hW0⟩ : ∃ W0, W0 = ((w.alloc (.cells #[.slice A1 n1 c1, .slice A2 n2 c2, .slice A3 n3 c3] 25)).alloc (.cells #[.slice B1 m1 d1, .slice B2 m2 d2, .slice B3 m3 d3] 25)).alloc (.cells #[.slice none 0 0, .slice none 0 0, .slice none 0 0] 25) := ⟨_, rfl⟩
  have hb0 : Below w.heap.size w W0 := by rw [hW0]; exact (((Below.refl _ _).alloc (Nat.le_refl _) _).alloc (by simp) _).alloc (by simp; omega) _
  have k0 : BlkS W0 g (.slice A1 n1 c1) (.slice A2 n2 c2) (.slice A3 n3 c3) := by rw [hW0, hg]; exact ((BlkS.new w _ _ _).alloc _).alloc _
  have k1 : BlkS W0 (g + 1) (.slice B1 m1 d1) (.slice B2 m2 d2) (.slice B3 m3 d3) := by
    have := (BlkS.new (w.alloc (.cells #[.slice A1 n1 c1, .slice A2 n2 c2, .slice A3 n3 c3] 25)) (.slice B1 m1 d1) (.slice B2 m2 d2) (.slice B3 m3 d3)).alloc (.cells #[.slice none 0 0, .slice none 0 0, .slice none 0 0] 25)
    rw [hW0, hg]; simpa using this
  have k2 : BlkS W0 (g + 2) (.slice none 0 0) (.slice none 0 0) (.slice none 0 0) := by
    have := BlkS.new ((w.alloc (.cells #[.slice A1 n1 c1, .slice A2 n2 c2, .slice A3 n3 c3] 25)).alloc (.cells #[.slice B1 m1 d1, .slice B2 m2 d2, .slice B3 m3 d3] 25)) (.slice none 0 0) (.slice none 0 0) (.slice none 0 0)
    rw [hW0, hg]; simpa using this
  have H := Lib.hid (h.next hb0); have HJ := Lib.hid (k.next hb0)
  have HW := Lib.hid hW0; have HG := Lib.hid hg; have HB0 := Lib.hid hb0; have HK0 := Lib.hid k0; have HK1 := Lib.hid k1; have HK2 := Lib.hid k2
  have HSW := Lib.hid (show ∀ u, Below (g + 2) W0 u → u.cell? ⟨g, 0, none⟩ = some (.slice A1 n1 c1) ∧ u.cell? ⟨g, 1, none⟩ = some (.slice A2 n2 c2) ∧ u.cell? ⟨g, 2, none⟩ = some (.slice A3 n3 c3) ∧ u.cell? ⟨g + 1, 0, none⟩ = some (.slice B1 m1 d1) ∧ u.cell? ⟨g + 1, 1, none⟩ = some (.slice B2 m2 d2) ∧ u.cell? ⟨g + 1, 2, none⟩ = some (.slice B3 m3 d3) from fun u hu => by
    have ka := HK0.out.below hu (by omega)
    have kb := HK1.out.below hu (by omega)
    exact ⟨ka.c0, ka.c1, ka.c2, kb.c0, kb.c1, kb.c2⟩)
  have HMO := Lib.hid (show (g + 2) ≤ W0.heap.size from HK2.out.lt |> Nat.le_of_lt)
  clear h k hg hW0 hb0 k0 k1 k2
  go_enter Tryz.func10, Tryz.ntmps10
  go_wp2_with fail
  rw [← HW.out, ← HG.out]
  refine wp_region_held_drew (S := fun u => u.cell? ⟨g, 0, none⟩ = some (.slice A1 n1 c1) ∧ u.cell? ⟨g, 1, none⟩ = some (.slice A2 n2 c2) ∧ u.cell? ⟨g, 2, none⟩ = some (.slice A3 n3 c3) ∧ u.cell? ⟨g + 1, 0, none⟩ = some (.slice B1 m1 d1) ∧ u.cell? ⟨g + 1, 1, none⟩ = some (.slice B2 m2 d2) ∧ u.cell? ⟨g + 1, 2, none⟩ = some (.slice B3 m3 d3)) (by kernel_rfl) (HSW.out _ (Below.refl _ _).drew) (fun hHeld => ?_)
  refine wpAnyH_take (i := 0) (oi := _) (v := ?_) rfl (by kernel_rfl) (by kernel_rfl) (by kernel_rfl) (fun _ _ _ h => h) (Or.inl ⟨by rfl, ?_⟩) (by assumption) ?_
  rotate_left
  · (intro w hSw; (try dsimp only at hSw); (try obtain ⟨s1_, s2_, s3_, s4_, s5_, s6_⟩ := hSw); go_simp <;> with_reducible rfl)
  simp only [List.getElem_toArray, List.getElem_cons_zero, Act.put, List.setIfInBounds_toArray, List.set_cons_zero, List.set_cons_succ]
  refine wpAnyH_take (i := 3) (oi := _) (v := ?_) rfl (by kernel_rfl) (by kernel_rfl) (by kernel_rfl) (fun _ _ _ h => h) (Or.inl ⟨by rfl, ?_⟩) (by assumption) ?_
  rotate_left
  · (intro w hSw; (try dsimp only at hSw); (try obtain ⟨s1_, s2_, s3_, s4_, s5_, s6_⟩ := hSw); go_simp <;> with_reducible rfl)
  simp only [List.getElem_toArray, List.getElem_cons_succ, List.getElem_cons_zero, Act.put, List.setIfInBounds_toArray, List.set_cons_zero, List.set_cons_succ]
  refine wpAnyH_ready (rs := [1]) (by kernel_rfl) (by simp) (AllReadyH.cons rfl (fun K hK => ?_) AllReadyH.nil)
  go_simp
  go_at_call 9
  refine (r_norm _ _ _ (H.out.next (Below.refl _ _).drew)).mono ?_
  rintro e w_1 ⟨P1_1, p1_1, q1_1, P1_2, p1_2, q1_2, P1_3, p1_3, q1_3, rfl, M1⟩
  have HM1 := Lib.hid M1
  have HB1 := Lib.hid (show Below W0.heap.size W0 w_1 from below_drewl M1.bel)
  clear M1
  refine hK.out _ _ (HSW.out _ (HB1.out.mono HMO.out)) (fun hHeld2 => ?_)
  clear hK K hHeld
  have hHeld := hHeld2
  clear hHeld2
  refine wpAnyH_ready (rs := [2]) (by kernel_rfl) (by simp) (AllReadyH.cons rfl (fun K hK => ?_) AllReadyH.nil)
  go_simp
  go_at_call 33
  refine (r_not _ _ _ HM1.out.has).mono ?_
  rintro e w_2 ⟨P2_1, p2_1, q2_1, P2_2, p2_2, q2_2, rfl, M2⟩
  have HM2 := Lib.hid M2
  have HB2 := Lib.hid (show Below W0.heap.size W0 w_2 from HB1.out.trans (M2.bel.mono HB1.out.size))
  have HC1_2 := Lib.hid (show Below w_1.heap.size w_1 w_2 from M2.bel)
  clear M2
  refine hK.out _ _ (HSW.out _ (HB2.out.mono HMO.out)) (fun hHeld2 => ?_)
  clear hK K hHeld
  have hHeld := hHeld2
  clear hHeld2
  refine wpAnyH_ready (rs := [4]) (by kernel_rfl) (by simp) (AllReadyH.cons rfl (fun K hK => ?_) AllReadyH.nil)
  go_simp
  go_at_call 9
  refine (r_norm _ _ _ (HJ.out.next HB2.out)).mono ?_
  rintro e w_3 ⟨P3_1, p3_1, q3_1, P3_2, p3_2, q3_2, P3_3, p3_3, q3_3, rfl, M3⟩
  have HM3 := Lib.hid M3
  have HB3 := Lib.hid (show Below W0.heap.size W0 w_3 from HB2.out.trans (M3.bel.mono HB2.out.size))
  have HC1_3 := Lib.hid (show Below w_1.heap.size w_1 w_3 from HC1_2.out.trans (M3.bel.mono HC1_2.out.size))
  have HC2_3 := Lib.hid (show Below w_2.heap.size w_2 w_3 from M3.bel)
  clear M3
  refine hK.out _ _ (HSW.out _ (HB3.out.mono HMO.out)) (fun hHeld2 => ?_)
  clear hK K hHeld
  have hHeld := hHeld2
  clear hHeld2
  refine wpAnyH_ready (rs := [5]) (by kernel_rfl) (by simp) (AllReadyH.cons rfl (fun K hK => ?_) AllReadyH.nil)
  go_simp
  go_at_call 33
  refine (r_not _ _ _ HM3.out.has).mono ?_
  rintro e w_4 ⟨P4_1, p4_1, q4_1, P4_2, p4_2, q4_2, rfl, M4⟩
  have HM4 := Lib.hid M4
  have HB4 := Lib.hid (show Below W0.heap.size W0 w_4 from HB3.out.trans (M4.bel.mono HB3.out.size))
  have HC1_4 := Lib.hid (show Below w_1.heap.size w_1 w_4 from HC1_3.out.trans (M4.bel.mono HC1_3.out.size))
  have HC2_4 := Lib.hid (show Below w_2.heap.size w_2 w_4 from HC2_3.out.trans (M4.bel.mono HC2_3.out.size))
  have HC3_4 := Lib.hid (show Below w_3.heap.size w_3 w_4 from M4.bel)
  clear M4
  refine hK.out _ _ (HSW.out _ (HB4.out.mono HMO.out)) (fun hHeld2 => ?_)
  clear hK K hHeld
  have hHeld := hHeld2
  clear hHeld2
  refine wpAnyH_ready (rs := [6]) (by kernel_rfl) (by simp) (AllReadyH.cons rfl (fun K hK => ?_) AllReadyH.nil)
  go_simp
  go_at_call 34
  refine (r_meet _ _ _ _ _ _ (HM2.out.has.next HC2_4.out) HM4.out.has (notS_nm (normS_nm a)) (notS_nm (normS_nm b)) (by have h1 := normS_len a; have h2 := normS_len b; have h3 := HM2.out.has.o.len; have h4 := HM4.out.has.o.len; have h5 := H.out.o.len; have h6 := HJ.out.o.len; (try simp only [notS] at h3 h4); omega)).mono ?_
  rintro e w_5 ⟨P5_1, p5_1, q5_1, P5_2, p5_2, q5_2, P5_3, p5_3, q5_3, rfl, M5⟩
  have HM5 := Lib.hid M5
  have HB5 := Lib.hid (show Below W0.heap.size W0 w_5 from HB4.out.trans (M5.bel.mono HB4.out.size))
  have HC1_5 := Lib.hid (show Below w_1.heap.size w_1 w_5 from HC1_4.out.trans (M5.bel.mono HC1_4.out.size))
  have HC2_5 := Lib.hid (show Below w_2.heap.size w_2 w_5 from HC2_4.out.trans (M5.bel.mono HC2_4.out.size))
  have HC3_5 := Lib.hid (show Below w_3.heap.size w_3 w_5 from HC3_4.out.trans (M5.bel.mono HC3_4.out.size))
  have HC4_5 := Lib.hid (show Below w_4.heap.size w_4 w_5 from M5.bel)
  clear M5
  refine hK.out _ _ (HSW.out _ (HB5.out.mono HMO.out)) (fun hHeld2 => ?_)
  clear hK K hHeld
  have hHeld := hHeld2
  clear hHeld2
  refine wpAnyH_ready (rs := [7]) (by kernel_rfl) (by simp) (AllReadyH.cons rfl (fun K hK => ?_) AllReadyH.nil)
  go_simp
  go_at_call 33
  refine (r_not _ _ _ HM5.out.has).mono ?_
  rintro e w_6 ⟨P6_1, p6_1, q6_1, P6_2, p6_2, q6_2, rfl, M6⟩
  have HM6 := Lib.hid M6
  have HB6 := Lib.hid (show Below W0.heap.size W0 w_6 from HB5.out.trans (M6.bel.mono HB5.out.size))
  have HC1_6 := Lib.hid (show Below w_1.heap.size w_1 w_6 from HC1_5.out.trans (M6.bel.mono HC1_5.out.size))
  have HC2_6 := Lib.hid (show Below w_2.heap.size w_2 w_6 from HC2_5.out.trans (M6.bel.mono HC2_5.out.size))
  have HC3_6 := Lib.hid (show Below w_3.heap.size w_3 w_6 from HC3_5.out.trans (M6.bel.mono HC3_5.out.size))
  have HC4_6 := Lib.hid (show Below w_4.heap.size w_4 w_6 from HC4_5.out.trans (M6.bel.mono HC4_5.out.size))
  have HC5_6 := Lib.hid (show Below w_5.heap.size w_5 w_6 from M6.bel)
  clear M6
  refine hK.out _ _ (HSW.out _ (HB6.out.mono HMO.out)) (fun hHeld2 => ?_)
  clear hK K hHeld
  have hHeld := hHeld2
  clear hHeld2
  refine wpAnyH_ready (rs := [8]) (by kernel_rfl) (by simp) (AllReadyH.cons rfl (fun K hK => ?_) AllReadyH.nil)
  have HZ := Lib.hid (HK2.out.next HB6.out)
  have d0 := HZ.out.c0; have d1 := HZ.out.c1; have d2 := HZ.out.c2; have f0 := HZ.out.fr 0; have f1 := HZ.out.fr 1; have f2 := HZ.out.fr 2
  go_simp
  clear d0 d1 d2 f0 f1 f2
  refine hK.out _ _ (HSW.out _ (putB (HB6.out.mono HMO.out) (Nat.le_refl (g + 2)) _ _ _)) (fun hHeld2 => ?_)
  clear hK K hHeld
  have hHeld := hHeld2
  clear hHeld2
  refine wpAnyH_done (by kernel_rfl) ?_ _
  go_wp2_with fail
  refine (HZ.out.put _ _ _).ret rfl rfl rfl ?_
  have e : uni2 a b = notS (meetS (notS (normS a)) (notS (normS b))) := rfl
  rw [e]
  exact OwnS.of HZ.out HM6.out.o1 HM6.out.o2 (own_below HM5.out.o3 HC5_6.out) (HB0.out.trans (HB6.out.mono HB0.out.size)) (by have := HG.out; omega) (Nat.le_trans HB0.out.size HB5.out.size) (Nat.le_trans HB0.out.size HB5.out.size) (Nat.le_trans HB0.out.size HB4.out.size)

set_option maxHeartbeats 8000000 in
theorem smeet2_any (A1 A2 A3 B1 B2 B3 : Option Addr) (n1 c1 n2 c2 n3 c3 m1 d1 m2 d2 m3 d3 : Nat) (a b : St) (w : World) (h : Has3 w A1 n1 A2 n2 A3 n3 a) (k : Has3 w B1 m1 B2 m2 B3 m3 b) (hsm : n3 + m3 ≤ 1073741824) :
    Calls Tryz.prog 11 #[.agg #[.slice A1 n1 c1, .slice A2 n2 c2, .slice A3 n3 c3], .agg #[.slice B1 m1 d1, .slice B2 m2 d2, .slice B3 m3 d3]] w (OwnS w (meet2 a b)) := by
  obtain ⟨g, hg⟩ : ∃ g, g = w.heap.size := ⟨_, rfl⟩
  obtain ⟨W0, hW0⟩ : ∃ W0, W0 = ((w.alloc (.cells #[.slice A1 n1 c1, .slice A2 n2 c2, .slice A3 n3 c3] 25)).alloc (.cells #[.slice B1 m1 d1, .slice B2 m2 d2, .slice B3 m3 d3] 25)).alloc (.cells #[.slice none 0 0, .slice none 0 0, .slice none 0 0] 25) := ⟨_, rfl⟩
  have hb0 : Below w.heap.size w W0 := by rw [hW0]; exact (((Below.refl _ _).alloc (Nat.le_refl _) _).alloc (by simp) _).alloc (by simp; omega) _
  have k0 : BlkS W0 g (.slice A1 n1 c1) (.slice A2 n2 c2) (.slice A3 n3 c3) := by rw [hW0, hg]; exact ((BlkS.new w _ _ _).alloc _).alloc _
  have k1 : BlkS W0 (g + 1) (.slice B1 m1 d1) (.slice B2 m2 d2) (.slice B3 m3 d3) := by
    have := (BlkS.new (w.alloc (.cells #[.slice A1 n1 c1, .slice A2 n2 c2, .slice A3 n3 c3] 25)) (.slice B1 m1 d1) (.slice B2 m2 d2) (.slice B3 m3 d3)).alloc (.cells #[.slice none 0 0, .slice none 0 0, .slice none 0 0] 25)
    rw [hW0, hg]; simpa using this
  have k2 : BlkS W0 (g + 2) (.slice none 0 0) (.slice none 0 0) (.slice none 0 0) := by
    have := BlkS.new ((w.alloc (.cells #[.slice A1 n1 c1, .slice A2 n2 c2, .slice A3 n3 c3] 25)).alloc (.cells #[.slice B1 m1 d1, .slice B2 m2 d2, .slice B3 m3 d3] 25)) (.slice none 0 0) (.slice none 0 0) (.slice none 0 0)
    rw [hW0, hg]; simpa using this
  have H := Lib.hid (h.next hb0); have HJ := Lib.hid (k.next hb0)
  have HW := Lib.hid hW0; have HG := Lib.hid hg; have HB0 := Lib.hid hb0; have HK0 := Lib.hid k0; have HK1 := Lib.hid k1; have HK2 := Lib.hid k2
  have HSW := Lib.hid (show ∀ u, Below (g + 2) W0 u → u.cell? ⟨g, 0, none⟩ = some (.slice A1 n1 c1) ∧ u.cell? ⟨g, 1, none⟩ = some (.slice A2 n2 c2) ∧ u.cell? ⟨g, 2, none⟩ = some (.slice A3 n3 c3) ∧ u.cell? ⟨g + 1, 0, none⟩ = some (.slice B1 m1 d1) ∧ u.cell? ⟨g + 1, 1, none⟩ = some (.slice B2 m2 d2) ∧ u.cell? ⟨g + 1, 2, none⟩ = some (.slice B3 m3 d3) from fun u hu => by
    have ka := HK0.out.below hu (by omega)
    have kb := HK1.out.below hu (by omega)
    exact ⟨ka.c0, ka.c1, ka.c2, kb.c0, kb.c1, kb.c2⟩)
  have HMO := Lib.hid (show (g + 2) ≤ W0.heap.size from HK2.out.lt |> Nat.le_of_lt)
  clear h k hg hW0 hb0 k0 k1 k2
  go_enter Tryz.func11, Tryz.ntmps11
  go_wp2_with fail
  rw [← HW.out, ← HG.out]
  refine wp_region_held_drew (S := fun u => u.cell? ⟨g, 0, none⟩ = some (.slice A1 n1 c1) ∧ u.cell? ⟨g, 1, none⟩ = some (.slice A2 n2 c2) ∧ u.cell? ⟨g, 2, none⟩ = some (.slice A3 n3 c3) ∧ u.cell? ⟨g + 1, 0, none⟩ = some (.slice B1 m1 d1) ∧ u.cell? ⟨g + 1, 1, none⟩ = some (.slice B2 m2 d2) ∧ u.cell? ⟨g + 1, 2, none⟩ = some (.slice B3 m3 d3)) (by kernel_rfl) (HSW.out _ (Below.refl _ _).drew) (fun hHeld => ?_)
  refine wpAnyH_take (i := 0) (oi := _) (v := ?_) rfl (by kernel_rfl) (by kernel_rfl) (by kernel_rfl) (fun _ _ _ h => h) (Or.inl ⟨by rfl, ?_⟩) (by assumption) ?_
  rotate_left
  · (intro w hSw; (try dsimp only at hSw); (try obtain ⟨s1_, s2_, s3_, s4_, s5_, s6_⟩ := hSw); go_simp <;> with_reducible rfl)
  simp only [List.getElem_toArray, List.getElem_cons_zero, Act.put, List.setIfInBounds_toArray, List.set_cons_zero, List.set_cons_succ]
  refine wpAnyH_take (i := 2) (oi := _) (v := ?_) rfl (by kernel_rfl) (by kernel_rfl) (by kernel_rfl) (fun _ _ _ h => h) (Or.inl ⟨by rfl, ?_⟩) (by assumption) ?_
  rotate_left
  · (intro w hSw; (try dsimp only at hSw); (try obtain ⟨s1_, s2_, s3_, s4_, s5_, s6_⟩ := hSw); go_simp <;> with_reducible rfl)
  simp only [List.getElem_toArray, List.getElem_cons_succ, List.getElem_cons_zero, Act.put, List.setIfInBounds_toArray, List.set_cons_zero, List.set_cons_succ]
  refine wpAnyH_ready (rs := [1]) (by kernel_rfl) (by simp) (AllReadyH.cons rfl (fun K hK => ?_) AllReadyH.nil)
  go_simp
  go_at_call 9
  refine (r_norm _ _ _ (H.out.next (Below.refl _ _).drew)).mono ?_
  rintro e w_1 ⟨P1_1, p1_1, q1_1, P1_2, p1_2, q1_2, P1_3, p1_3, q1_3, rfl, M1⟩
  have HM1 := Lib.hid M1
  have HB1 := Lib.hid (show Below W0.heap.size W0 w_1 from below_drewl M1.bel)
  clear M1
  refine hK.out _ _ (HSW.out _ (HB1.out.mono HMO.out)) (fun hHeld2 => ?_)
  clear hK K hHeld
  have hHeld := hHeld2
  clear hHeld2
  refine wpAnyH_ready (rs := [3]) (by kernel_rfl) (by simp) (AllReadyH.cons rfl (fun K hK => ?_) AllReadyH.nil)
  go_simp
  go_at_call 9
  refine (r_norm _ _ _ (HJ.out.next HB1.out)).mono ?_
  rintro e w_2 ⟨P2_1, p2_1, q2_1, P2_2, p2_2, q2_2, P2_3, p2_3, q2_3, rfl, M2⟩
  have HM2 := Lib.hid M2
  have HB2 := Lib.hid (show Below W0.heap.size W0 w_2 from HB1.out.trans (M2.bel.mono HB1.out.size))
  have HC1_2 := Lib.hid (show Below w_1.heap.size w_1 w_2 from M2.bel)
  clear M2
  refine hK.out _ _ (HSW.out _ (HB2.out.mono HMO.out)) (fun hHeld2 => ?_)
  clear hK K hHeld
  have hHeld := hHeld2
  clear hHeld2
  refine wpAnyH_ready (rs := [4]) (by kernel_rfl) (by simp) (AllReadyH.cons rfl (fun K hK => ?_) AllReadyH.nil)
  go_simp
  go_at_call 34
  refine (r_meet _ _ _ _ _ _ (HM1.out.has.next HC1_2.out) HM2.out.has (normS_nm a) (normS_nm b) (by have h1 := normS_len a; have h2 := normS_len b; have h3 := HM1.out.has.o.len; have h4 := HM2.out.has.o.len; have h5 := H.out.o.len; have h6 := HJ.out.o.len; (try simp only [notS] at h3 h4); omega)).mono ?_
  rintro e w_3 ⟨P3_1, p3_1, q3_1, P3_2, p3_2, q3_2, P3_3, p3_3, q3_3, rfl, M3⟩
  have HM3 := Lib.hid M3
  have HB3 := Lib.hid (show Below W0.heap.size W0 w_3 from HB2.out.trans (M3.bel.mono HB2.out.size))
  have HC1_3 := Lib.hid (show Below w_1.heap.size w_1 w_3 from HC1_2.out.trans (M3.bel.mono HC1_2.out.size))
  have HC2_3 := Lib.hid (show Below w_2.heap.size w_2 w_3 from M3.bel)
  clear M3
  refine hK.out _ _ (HSW.out _ (HB3.out.mono HMO.out)) (fun hHeld2 => ?_)
  clear hK K hHeld
  have hHeld := hHeld2
  clear hHeld2
  refine wpAnyH_ready (rs := [5]) (by kernel_rfl) (by simp) (AllReadyH.cons rfl (fun K hK => ?_) AllReadyH.nil)
  have HZ := Lib.hid (HK2.out.next HB3.out)
  have d0 := HZ.out.c0; have d1 := HZ.out.c1; have d2 := HZ.out.c2; have f0 := HZ.out.fr 0; have f1 := HZ.out.fr 1; have f2 := HZ.out.fr 2
  go_simp
  clear d0 d1 d2 f0 f1 f2
  refine hK.out _ _ (HSW.out _ (putB (HB3.out.mono HMO.out) (Nat.le_refl (g + 2)) _ _ _)) (fun hHeld2 => ?_)
  clear hK K hHeld
  have hHeld := hHeld2
  clear hHeld2
  refine wpAnyH_done (by kernel_rfl) ?_ _
  go_wp2_with fail
  refine (HZ.out.put _ _ _).ret rfl rfl rfl ?_
  have e : meet2 a b = meetS (normS a) (normS b) := rfl
  rw [e]
  exact OwnS.of HZ.out HM3.out.o1 HM3.out.o2 HM3.out.o3 (HB0.out.trans (HB3.out.mono HB0.out.size)) (by have := HG.out; omega) (Nat.le_trans HB0.out.size HB2.out.size) (Nat.le_trans HB0.out.size HB2.out.size) (Nat.le_trans HB0.out.size HB2.out.size)

set_option maxHeartbeats 8000000 in
theorem sminus_any (A1 A2 A3 B1 B2 B3 : Option Addr) (n1 c1 n2 c2 n3 c3 m1 d1 m2 d2 m3 d3 : Nat) (a b : St) (w : World) (h : Has3 w A1 n1 A2 n2 A3 n3 a) (k : Has3 w B1 m1 B2 m2 B3 m3 b) (hsm : n3 + m3 ≤ 1073741824) :
    Calls Tryz.prog 12 #[.agg #[.slice A1 n1 c1, .slice A2 n2 c2, .slice A3 n3 c3], .agg #[.slice B1 m1 d1, .slice B2 m2 d2, .slice B3 m3 d3]] w (OwnS w (minus2 a b)) := by
  obtain ⟨g, hg⟩ : ∃ g, g = w.heap.size := ⟨_, rfl⟩
  obtain ⟨W0, hW0⟩ : ∃ W0, W0 = ((w.alloc (.cells #[.slice A1 n1 c1, .slice A2 n2 c2, .slice A3 n3 c3] 25)).alloc (.cells #[.slice B1 m1 d1, .slice B2 m2 d2, .slice B3 m3 d3] 25)).alloc (.cells #[.slice none 0 0, .slice none 0 0, .slice none 0 0] 25) := ⟨_, rfl⟩
  have hb0 : Below w.heap.size w W0 := by rw [hW0]; exact (((Below.refl _ _).alloc (Nat.le_refl _) _).alloc (by simp) _).alloc (by simp; omega) _
  have k0 : BlkS W0 g (.slice A1 n1 c1) (.slice A2 n2 c2) (.slice A3 n3 c3) := by rw [hW0, hg]; exact ((BlkS.new w _ _ _).alloc _).alloc _
  have k1 : BlkS W0 (g + 1) (.slice B1 m1 d1) (.slice B2 m2 d2) (.slice B3 m3 d3) := by
    have := (BlkS.new (w.alloc (.cells #[.slice A1 n1 c1, .slice A2 n2 c2, .slice A3 n3 c3] 25)) (.slice B1 m1 d1) (.slice B2 m2 d2) (.slice B3 m3 d3)).alloc (.cells #[.slice none 0 0, .slice none 0 0, .slice none 0 0] 25)
    rw [hW0, hg]; simpa using this
  have k2 : BlkS W0 (g + 2) (.slice none 0 0) (.slice none 0 0) (.slice none 0 0) := by
    have := BlkS.new ((w.alloc (.cells #[.slice A1 n1 c1, .slice A2 n2 c2, .slice A3 n3 c3] 25)).alloc (.cells #[.slice B1 m1 d1, .slice B2 m2 d2, .slice B3 m3 d3] 25)) (.slice none 0 0) (.slice none 0 0) (.slice none 0 0)
    rw [hW0, hg]; simpa using this
  have H := Lib.hid (h.next hb0); have HJ := Lib.hid (k.next hb0)
  have HW := Lib.hid hW0; have HG := Lib.hid hg; have HB0 := Lib.hid hb0; have HK0 := Lib.hid k0; have HK1 := Lib.hid k1; have HK2 := Lib.hid k2
  have HSW := Lib.hid (show ∀ u, Below (g + 2) W0 u → u.cell? ⟨g, 0, none⟩ = some (.slice A1 n1 c1) ∧ u.cell? ⟨g, 1, none⟩ = some (.slice A2 n2 c2) ∧ u.cell? ⟨g, 2, none⟩ = some (.slice A3 n3 c3) ∧ u.cell? ⟨g + 1, 0, none⟩ = some (.slice B1 m1 d1) ∧ u.cell? ⟨g + 1, 1, none⟩ = some (.slice B2 m2 d2) ∧ u.cell? ⟨g + 1, 2, none⟩ = some (.slice B3 m3 d3) from fun u hu => by
    have ka := HK0.out.below hu (by omega)
    have kb := HK1.out.below hu (by omega)
    exact ⟨ka.c0, ka.c1, ka.c2, kb.c0, kb.c1, kb.c2⟩)
  have HMO := Lib.hid (show (g + 2) ≤ W0.heap.size from HK2.out.lt |> Nat.le_of_lt)
  clear h k hg hW0 hb0 k0 k1 k2
  go_enter Tryz.func12, Tryz.ntmps12
  go_wp2_with fail
  rw [← HW.out, ← HG.out]
  refine wp_region_held_drew (S := fun u => u.cell? ⟨g, 0, none⟩ = some (.slice A1 n1 c1) ∧ u.cell? ⟨g, 1, none⟩ = some (.slice A2 n2 c2) ∧ u.cell? ⟨g, 2, none⟩ = some (.slice A3 n3 c3) ∧ u.cell? ⟨g + 1, 0, none⟩ = some (.slice B1 m1 d1) ∧ u.cell? ⟨g + 1, 1, none⟩ = some (.slice B2 m2 d2) ∧ u.cell? ⟨g + 1, 2, none⟩ = some (.slice B3 m3 d3)) (by kernel_rfl) (HSW.out _ (Below.refl _ _).drew) (fun hHeld => ?_)
  refine wpAnyH_take (i := 0) (oi := _) (v := ?_) rfl (by kernel_rfl) (by kernel_rfl) (by kernel_rfl) (fun _ _ _ h => h) (Or.inl ⟨by rfl, ?_⟩) (by assumption) ?_
  rotate_left
  · (intro w hSw; (try dsimp only at hSw); (try obtain ⟨s1_, s2_, s3_, s4_, s5_, s6_⟩ := hSw); go_simp <;> with_reducible rfl)
  simp only [List.getElem_toArray, List.getElem_cons_zero, Act.put, List.setIfInBounds_toArray, List.set_cons_zero, List.set_cons_succ]
  refine wpAnyH_take (i := 2) (oi := _) (v := ?_) rfl (by kernel_rfl) (by kernel_rfl) (by kernel_rfl) (fun _ _ _ h => h) (Or.inl ⟨by rfl, ?_⟩) (by assumption) ?_
  rotate_left
  · (intro w hSw; (try dsimp only at hSw); (try obtain ⟨s1_, s2_, s3_, s4_, s5_, s6_⟩ := hSw); go_simp <;> with_reducible rfl)
  simp only [List.getElem_toArray, List.getElem_cons_succ, List.getElem_cons_zero, Act.put, List.setIfInBounds_toArray, List.set_cons_zero, List.set_cons_succ]
  refine wpAnyH_ready (rs := [1]) (by kernel_rfl) (by simp) (AllReadyH.cons rfl (fun K hK => ?_) AllReadyH.nil)
  go_simp
  go_at_call 9
  refine (r_norm _ _ _ (H.out.next (Below.refl _ _).drew)).mono ?_
  rintro e w_1 ⟨P1_1, p1_1, q1_1, P1_2, p1_2, q1_2, P1_3, p1_3, q1_3, rfl, M1⟩
  have HM1 := Lib.hid M1
  have HB1 := Lib.hid (show Below W0.heap.size W0 w_1 from below_drewl M1.bel)
  clear M1
  refine hK.out _ _ (HSW.out _ (HB1.out.mono HMO.out)) (fun hHeld2 => ?_)
  clear hK K hHeld
  have hHeld := hHeld2
  clear hHeld2
  refine wpAnyH_ready (rs := [3]) (by kernel_rfl) (by simp) (AllReadyH.cons rfl (fun K hK => ?_) AllReadyH.nil)
  go_simp
  go_at_call 9
  refine (r_norm _ _ _ (HJ.out.next HB1.out)).mono ?_
  rintro e w_2 ⟨P2_1, p2_1, q2_1, P2_2, p2_2, q2_2, P2_3, p2_3, q2_3, rfl, M2⟩
  have HM2 := Lib.hid M2
  have HB2 := Lib.hid (show Below W0.heap.size W0 w_2 from HB1.out.trans (M2.bel.mono HB1.out.size))
  have HC1_2 := Lib.hid (show Below w_1.heap.size w_1 w_2 from M2.bel)
  clear M2
  refine hK.out _ _ (HSW.out _ (HB2.out.mono HMO.out)) (fun hHeld2 => ?_)
  clear hK K hHeld
  have hHeld := hHeld2
  clear hHeld2
  refine wpAnyH_ready (rs := [4]) (by kernel_rfl) (by simp) (AllReadyH.cons rfl (fun K hK => ?_) AllReadyH.nil)
  go_simp
  go_at_call 33
  refine (r_not _ _ _ HM2.out.has).mono ?_
  rintro e w_3 ⟨P3_1, p3_1, q3_1, P3_2, p3_2, q3_2, rfl, M3⟩
  have HM3 := Lib.hid M3
  have HB3 := Lib.hid (show Below W0.heap.size W0 w_3 from HB2.out.trans (M3.bel.mono HB2.out.size))
  have HC1_3 := Lib.hid (show Below w_1.heap.size w_1 w_3 from HC1_2.out.trans (M3.bel.mono HC1_2.out.size))
  have HC2_3 := Lib.hid (show Below w_2.heap.size w_2 w_3 from M3.bel)
  clear M3
  refine hK.out _ _ (HSW.out _ (HB3.out.mono HMO.out)) (fun hHeld2 => ?_)
  clear hK K hHeld
  have hHeld := hHeld2
  clear hHeld2
  refine wpAnyH_ready (rs := [5]) (by kernel_rfl) (by simp) (AllReadyH.cons rfl (fun K hK => ?_) AllReadyH.nil)
  go_simp
  go_at_call 34
  refine (r_meet _ _ _ _ _ _ (HM1.out.has.next HC1_3.out) HM3.out.has (normS_nm a) (notS_nm (normS_nm b)) (by have h1 := normS_len a; have h2 := normS_len b; have h3 := HM1.out.has.o.len; have h4 := HM3.out.has.o.len; have h5 := H.out.o.len; have h6 := HJ.out.o.len; (try simp only [notS] at h3 h4); omega)).mono ?_
  rintro e w_4 ⟨P4_1, p4_1, q4_1, P4_2, p4_2, q4_2, P4_3, p4_3, q4_3, rfl, M4⟩
  have HM4 := Lib.hid M4
  have HB4 := Lib.hid (show Below W0.heap.size W0 w_4 from HB3.out.trans (M4.bel.mono HB3.out.size))
  have HC1_4 := Lib.hid (show Below w_1.heap.size w_1 w_4 from HC1_3.out.trans (M4.bel.mono HC1_3.out.size))
  have HC2_4 := Lib.hid (show Below w_2.heap.size w_2 w_4 from HC2_3.out.trans (M4.bel.mono HC2_3.out.size))
  have HC3_4 := Lib.hid (show Below w_3.heap.size w_3 w_4 from M4.bel)
  clear M4
  refine hK.out _ _ (HSW.out _ (HB4.out.mono HMO.out)) (fun hHeld2 => ?_)
  clear hK K hHeld
  have hHeld := hHeld2
  clear hHeld2
  refine wpAnyH_ready (rs := [6]) (by kernel_rfl) (by simp) (AllReadyH.cons rfl (fun K hK => ?_) AllReadyH.nil)
  have HZ := Lib.hid (HK2.out.next HB4.out)
  have d0 := HZ.out.c0; have d1 := HZ.out.c1; have d2 := HZ.out.c2; have f0 := HZ.out.fr 0; have f1 := HZ.out.fr 1; have f2 := HZ.out.fr 2
  go_simp
  clear d0 d1 d2 f0 f1 f2
  refine hK.out _ _ (HSW.out _ (putB (HB4.out.mono HMO.out) (Nat.le_refl (g + 2)) _ _ _)) (fun hHeld2 => ?_)
  clear hK K hHeld
  have hHeld := hHeld2
  clear hHeld2
  refine wpAnyH_done (by kernel_rfl) ?_ _
  go_wp2_with fail
  refine (HZ.out.put _ _ _).ret rfl rfl rfl ?_
  have e : minus2 a b = meetS (normS a) (notS (normS b)) := rfl
  rw [e]
  exact OwnS.of HZ.out HM4.out.o1 HM4.out.o2 HM4.out.o3 (HB0.out.trans (HB4.out.mono HB0.out.size)) (by have := HG.out; omega) (Nat.le_trans HB0.out.size HB3.out.size) (Nat.le_trans HB0.out.size HB3.out.size) (Nat.le_trans HB0.out.size HB3.out.size)

set_option maxHeartbeats 8000000 in
theorem sequal_any (A1 A2 A3 B1 B2 B3 : Option Addr) (n1 c1 n2 c2 n3 c3 m1 d1 m2 d2 m3 d3 : Nat) (a b : St) (w : World) (h : Has3 w A1 n1 A2 n2 A3 n3 a) (k : Has3 w B1 m1 B2 m2 B3 m3 b) (_ : n3 + m3 ≤ 1073741824) :
    Calls Tryz.prog 19 #[.agg #[.slice A1 n1 c1, .slice A2 n2 c2, .slice A3 n3 c3], .agg #[.slice B1 m1 d1, .slice B2 m2 d2, .slice B3 m3 d3]] w (Ret w (.bool (eqS a b))) := by
  obtain ⟨g, hg⟩ : ∃ g, g = w.heap.size := ⟨_, rfl⟩
  obtain ⟨W0, hW0⟩ : ∃ W0, W0 = (w.alloc (.cells #[.slice A1 n1 c1, .slice A2 n2 c2, .slice A3 n3 c3] 25)).alloc (.cells #[.slice B1 m1 d1, .slice B2 m2 d2, .slice B3 m3 d3] 25) := ⟨_, rfl⟩
  have hb0 : Below w.heap.size w W0 := by rw [hW0]; exact ((Below.refl _ _).alloc (Nat.le_refl _) _).alloc (by simp) _
  have k0 : BlkS W0 g (.slice A1 n1 c1) (.slice A2 n2 c2) (.slice A3 n3 c3) := by rw [hW0, hg]; exact (BlkS.new w _ _ _).alloc _
  have k1 : BlkS W0 (g + 1) (.slice B1 m1 d1) (.slice B2 m2 d2) (.slice B3 m3 d3) := by
    have := (BlkS.new (w.alloc (.cells #[.slice A1 n1 c1, .slice A2 n2 c2, .slice A3 n3 c3] 25)) (.slice B1 m1 d1) (.slice B2 m2 d2) (.slice B3 m3 d3))
    rw [hW0, hg]; simpa using this
  have H := Lib.hid (h.next hb0); have HJ := Lib.hid (k.next hb0)
  have HW := Lib.hid hW0; have HG := Lib.hid hg; have HB0 := Lib.hid hb0; have HK0 := Lib.hid k0; have HK1 := Lib.hid k1
  have HSW := Lib.hid (show ∀ u, Below W0.heap.size W0 u → u.cell? ⟨g, 0, none⟩ = some (.slice A1 n1 c1) ∧ u.cell? ⟨g, 1, none⟩ = some (.slice A2 n2 c2) ∧ u.cell? ⟨g, 2, none⟩ = some (.slice A3 n3 c3) ∧ u.cell? ⟨g + 1, 0, none⟩ = some (.slice B1 m1 d1) ∧ u.cell? ⟨g + 1, 1, none⟩ = some (.slice B2 m2 d2) ∧ u.cell? ⟨g + 1, 2, none⟩ = some (.slice B3 m3 d3) from fun u hu => by
    have ka := HK0.out.below hu HK0.out.lt
    have kb := HK1.out.below hu HK1.out.lt
    exact ⟨ka.c0, ka.c1, ka.c2, kb.c0, kb.c1, kb.c2⟩)
  have HMO := Lib.hid (show W0.heap.size ≤ W0.heap.size from Nat.le_refl _)
  clear h k hg hW0 hb0 k0 k1
  go_enter Tryz.func19, Tryz.ntmps19
  go_wp2_with fail
  rw [← HW.out, ← HG.out]
  refine wp_region_held_drew (S := fun u => u.cell? ⟨g, 0, none⟩ = some (.slice A1 n1 c1) ∧ u.cell? ⟨g, 1, none⟩ = some (.slice A2 n2 c2) ∧ u.cell? ⟨g, 2, none⟩ = some (.slice A3 n3 c3) ∧ u.cell? ⟨g + 1, 0, none⟩ = some (.slice B1 m1 d1) ∧ u.cell? ⟨g + 1, 1, none⟩ = some (.slice B2 m2 d2) ∧ u.cell? ⟨g + 1, 2, none⟩ = some (.slice B3 m3 d3)) (by kernel_rfl) (HSW.out _ (Below.refl _ _).drew) (fun hHeld => ?_)
  refine wpAnyH_take (i := 0) (oi := _) (v := ?_) rfl (by kernel_rfl) (by kernel_rfl) (by kernel_rfl) (fun _ _ _ h => h) (Or.inl ⟨by rfl, ?_⟩) (by assumption) ?_
  rotate_left
  · (intro w hSw; (try dsimp only at hSw); (try obtain ⟨s1_, s2_, s3_, s4_, s5_, s6_⟩ := hSw); go_simp <;> with_reducible rfl)
  simp only [List.getElem_toArray, List.getElem_cons_zero, Act.put, List.setIfInBounds_toArray, List.set_cons_zero, List.set_cons_succ]
  refine wpAnyH_take (i := 2) (oi := _) (v := ?_) rfl (by kernel_rfl) (by kernel_rfl) (by kernel_rfl) (fun _ _ _ h => h) (Or.inl ⟨by rfl, ?_⟩) (by assumption) ?_
  rotate_left
  · (intro w hSw; (try dsimp only at hSw); (try obtain ⟨s1_, s2_, s3_, s4_, s5_, s6_⟩ := hSw); go_simp <;> with_reducible rfl)
  simp only [List.getElem_toArray, List.getElem_cons_succ, List.getElem_cons_zero, Act.put, List.setIfInBounds_toArray, List.set_cons_zero, List.set_cons_succ]
  refine wpAnyH_ready (rs := [1]) (by kernel_rfl) (by simp) (AllReadyH.cons rfl (fun K hK => ?_) AllReadyH.nil)
  go_simp
  go_at_call 9
  refine (r_norm _ _ _ (H.out.next (Below.refl _ _).drew)).mono ?_
  rintro e w_1 ⟨P1_1, p1_1, q1_1, P1_2, p1_2, q1_2, P1_3, p1_3, q1_3, rfl, M1⟩
  have HM1 := Lib.hid M1
  have HB1 := Lib.hid (show Below W0.heap.size W0 w_1 from below_drewl M1.bel)
  clear M1
  refine hK.out _ _ (HSW.out _ (HB1.out.mono HMO.out)) (fun hHeld2 => ?_)
  clear hK K hHeld
  have hHeld := hHeld2
  clear hHeld2
  refine wpAnyH_ready (rs := [3]) (by kernel_rfl) (by simp) (AllReadyH.cons rfl (fun K hK => ?_) AllReadyH.nil)
  go_simp
  go_at_call 9
  refine (r_norm _ _ _ (HJ.out.next HB1.out)).mono ?_
  rintro e w_2 ⟨P2_1, p2_1, q2_1, P2_2, p2_2, q2_2, P2_3, p2_3, q2_3, rfl, M2⟩
  have HM2 := Lib.hid M2
  have HB2 := Lib.hid (show Below W0.heap.size W0 w_2 from HB1.out.trans (M2.bel.mono HB1.out.size))
  have HC1_2 := Lib.hid (show Below w_1.heap.size w_1 w_2 from M2.bel)
  clear M2
  refine hK.out _ _ (HSW.out _ (HB2.out.mono HMO.out)) (fun hHeld2 => ?_)
  clear hK K hHeld
  have hHeld := hHeld2
  clear hHeld2
  refine wpAnyH_ready (rs := [4]) (by kernel_rfl) (by simp) (AllReadyH.cons rfl (fun K hK => ?_) AllReadyH.nil)
  go_simp
  go_at_call 42
  refine (ssame_any _ _ _ _ _ _ _ _ _ _ _ _ _ _ _ _ _ _ _ _ _ (HM1.out.has.next HC1_2.out) HM2.out.has).mono ?_
  rintro e w_3 ⟨rfl, hb3⟩
  have HB3 := Lib.hid (show Below W0.heap.size W0 w_3 from HB2.out.trans (hb3.mono HB2.out.size))
  have HC1_3 := Lib.hid (show Below w_1.heap.size w_1 w_3 from HC1_2.out.trans (hb3.mono HC1_2.out.size))
  have HC2_3 := Lib.hid (show Below w_2.heap.size w_2 w_3 from hb3)
  clear hb3
  refine hK.out _ _ (HSW.out _ (HB3.out.mono HMO.out)) (fun hHeld2 => ?_)
  clear hK K hHeld
  have hHeld := hHeld2
  clear hHeld2
  refine wpAnyH_take (i := 5) (oi := _) (v := ?_) rfl (by kernel_rfl) (by kernel_rfl) (by kernel_rfl) (fun _ _ _ h => h) (Or.inl ⟨by rfl, ?_⟩) (by assumption) ?_
  rotate_left
  · (intro w hSw; (try dsimp only at hSw); (try obtain ⟨s1_, s2_, s3_, s4_, s5_, s6_⟩ := hSw); go_simp <;> with_reducible rfl)
  simp only [List.getElem_toArray, List.getElem_cons_succ, List.getElem_cons_zero, Act.put, List.setIfInBounds_toArray, List.set_cons_zero, List.set_cons_succ]
  refine wpAnyH_done (by kernel_rfl) ?_ _
  go_wp2_with fail
  go_ret
  exact ⟨rfl, HB0.out.trans (HB3.out.mono HB0.out.size)⟩
end Go.Proofs.YtipcbiecdabihaaGreat.Sset
