/-
  CONTRACTS OF Norm, not, meet.
-/
import Derived.Test.YtipcbiecdabihaaGreatSsetDel
import Derived.Deep.RegionHeld3
namespace Go.Proofs.YtipcbiecdabihaaGreat.Sset
open Go.RowKit
open Utf (Rd Blk wpList_append_rd own_ne)
open Rset
set_option maxRecDepth 100000

/-- a set in a block of its own -/
def BlkS (w : World) (g : Nat) (v1 v2 v3 : Value) : Prop := Blk w g 25 [v1, v2, v3]
section
variable {w w' : World} {g : Nat} {v1 v2 v3 : Value}
theorem BlkS.c0 (h : BlkS w g v1 v2 v3) : w.cell? ⟨g, 0, none⟩ = some v1 := Blk.cell h 0
theorem BlkS.c1 (h : BlkS w g v1 v2 v3) : w.cell? ⟨g, 1, none⟩ = some v2 := Blk.cell h 1
theorem BlkS.c2 (h : BlkS w g v1 v2 v3) : w.cell? ⟨g, 2, none⟩ = some v3 := Blk.cell h 2
theorem BlkS.fr (h : BlkS w g v1 v2 v3) (i : Nat) : w.frozen? ⟨g, i, none⟩ = false := Blk.frozen h i
theorem BlkS.lt (h : BlkS w g v1 v2 v3) : g < w.heap.size := Blk.lt h
theorem BlkS.below {B : Nat} (h : BlkS w g v1 v2 v3) (hb : Below B w w') (hg : g < B) : BlkS w' g v1 v2 v3 := Blk.below h hb hg
theorem BlkS.next (h : BlkS w g v1 v2 v3) (hb : Below w.heap.size w w') : BlkS w' g v1 v2 v3 := Blk.below h hb h.lt
theorem BlkS.new (w : World) (v1 v2 v3 : Value) : BlkS (w.alloc (.cells #[v1, v2, v3] 25)) w.heap.size v1 v2 v3 := Blk.new w _ [v1, v2, v3]
theorem BlkS.alloc (h : BlkS w g v1 v2 v3) (o : Obj) : BlkS (w.alloc o) g v1 v2 v3 := Blk.alloc h o
theorem BlkS.drew (h : BlkS w g v1 v2 v3) : BlkS w.drew g v1 v2 v3 := h
theorem BlkS.put (h : BlkS w g v1 v2 v3) (a b c : Value) : BlkS (((w.setCell ⟨g, 0, none⟩ a).setCell ⟨g, 1, none⟩ b).setCell ⟨g, 2, none⟩ c) g a b c := ((Blk.set_ h 0 a).set_ 1 b).set_ 2 c
/-- what returns from it -/
theorem BlkS.ret {fn : Func} {p : Tmp} {R : Ending → World → Prop} {a : Act} (h : BlkS w g v1 v2 v3) (hr : fn.results = #[.cell p 25]) (hp : a.tmps.getD p undef = .pointer (some ⟨g, 0, none⟩)) (hd : a.defers = []) (hR : R (.returned (.agg #[v1, v2, v3])) w) : bodyPost Tryz.prog fn R .ret a w :=
  bodyPost_ret (results_cell_row hr a.tmps w g 25 [v1, v2, v3].toArray (0, 0) _ hp h Tryz.underlying25 rfl (by kernel_rfl)) hd hR
end

theorem alloc3_size (w : World) (o1 o2 o3 : Obj) : (((w.alloc o1).alloc o2).alloc o3).heap.size = w.heap.size + 3 := by simp
/-- what holds in a region that stores a set in the end: what lies below its block stands, and its block is a set's -/
structure Mid (w w' : World) (g : Nat) : Prop where
  bel : Below g w w'
  blk : ∃ a b c, BlkS w' g a b c
section
variable {w w' w'' : World} {g : Nat}
theorem Mid.lt (h : Mid w w' g) : g < w'.heap.size := by obtain ⟨a, b, c, h⟩ := h.blk; exact h.lt
theorem Mid.next (h : Mid w w' g) (hb : Below w'.heap.size w' w'') : Mid w w'' g := by
  obtain ⟨a, b, c, hk⟩ := h.blk
  exact ⟨h.bel.trans (hb.mono (Nat.le_of_lt hk.lt)), a, b, c, hk.next hb⟩
theorem Mid.drew (h : Mid w w' g) : Mid w w'.drew g := ⟨h.bel.drew, h.blk⟩
theorem Mid.put (h : Mid w w' g) (a b c : Value) : Mid w (((w'.setCell ⟨g, 0, none⟩ a).setCell ⟨g, 1, none⟩ b).setCell ⟨g, 2, none⟩ c) g := by
  obtain ⟨x, y, z, hk⟩ := h.blk
  exact ⟨((h.bel.setCell (p := ⟨g, 0, none⟩) (Nat.le_refl g) a).setCell (p := ⟨g, 1, none⟩) (Nat.le_refl g) b).setCell (p := ⟨g, 2, none⟩) (Nat.le_refl g) c, a, b, c, hk.put a b c⟩
theorem Mid.of {v1 v2 v3 : Value} (h : BlkS w g v1 v2 v3) : Mid w w g := ⟨Below.refl _ _, v1, v2, v3, h⟩
theorem grown_put (w : World) (g : Nat) (a b c : Value) : w.grownBy (((w.setCell ⟨g, 0, none⟩ a).setCell ⟨g, 1, none⟩ b).setCell ⟨g, 2, none⟩ c) (some g) :=
  Utf.grown_set (Utf.grown_set (Utf.grown_set (World.grownBy.refl w _) 0 a) 1 b) 2 c
theorem own_putS {base size n : Nat} {e : TypeId} {v v1 v2 v3 : Value} {xs : List Value} (h : w.ownsRow base e size v n xs) (hz : BlkS w g v1 v2 v3) (hne : e ≠ 25) (a b c : Value) : (((w.setCell ⟨g, 0, none⟩ a).setCell ⟨g, 1, none⟩ b).setCell ⟨g, 2, none⟩ c).ownsRow base e size v n xs :=
  h.kept (grown_put w g a b c) (.inr (own_ne h hz hne))
theorem OwnS.of {u : World} {v1 v2 v3 z0 z1 z2 : Value} {a : St} {B1 B2 B3 : Nat} (hz : BlkS u g z0 z1 z2) (h1 : u.ownsRow B1 38 2 v1 a.s.length (rgs a.s)) (h2 : u.ownsRow B2 38 2 v2 a.m.length (rgs a.m)) (h3 : u.ownsRow B3 9 1 v3 a.o.length (txs a.o))
    (hb : Below w.heap.size w u) (hg : w.heap.size ≤ g) (k1 : w.heap.size ≤ B1) (k2 : w.heap.size ≤ B2) (k3 : w.heap.size ≤ B3) :
    OwnS w a (.returned (.agg #[v1, v2, v3])) (((u.setCell ⟨g, 0, none⟩ v1).setCell ⟨g, 1, none⟩ v2).setCell ⟨g, 2, none⟩ v3) :=
  ⟨v1, v2, v3, rfl, own_mono (own_putS h1 hz (by decide) _ _ _) k1, own_mono (own_putS h2 hz (by decide) _ _ _) k2, own_mono (own_putS h3 hz (by decide) _ _ _) k3,
    ((hb.setCell (p := ⟨g, 0, none⟩) hg v1).setCell (p := ⟨g, 1, none⟩) hg v2).setCell (p := ⟨g, 2, none⟩) hg v3⟩
theorem below_drewl {u u' : World} (h : Below u.drew.heap.size u.drew u') : Below u.heap.size u u' := ⟨h.os, h.tape, h.output, h.size, h.block⟩
end
set_option maxHeartbeats 4000000 in
theorem longer_any (A : Option Addr) (n c : Nat) (l : List Tx) (w : World) (h : ArgT w A n l) :
    Calls Tryz.prog 32 #[.slice A n c] w (OwnT w.heap.size w ((rise l).filter okT)) := by
  obtain ⟨g, hg⟩ : ∃ g, g = w.heap.size := ⟨_, rfl⟩
  obtain ⟨W1, hW1⟩ : ∃ W1, W1 = w.alloc (.cells #[.slice A n c] 23) := ⟨_, rfl⟩
  have b1 : Blk W1 g 23 [.slice A n c] := by rw [hW1, hg]; exact Blk.new w _ _
  have hbw : Below g w W1 := by rw [hW1, hg]; exact (Below.refl _ _).alloc (Nat.le_refl _) _
  have HR := Lib.hid (rising1_any g 0 n c A l W1 b1.lt (b1.cell 0) (h.next (hg ▸ hbw)))
  have HBW := Lib.hid hbw; have HW1 := Lib.hid hW1; have HG := Lib.hid hg
  have HS := Lib.hid (short_rise h.short)
  have HLN := Lib.hid (show (rise l).length ≤ 1073741824 from Nat.le_trans (rise_len _) (by have := h.len; have := h.sm; omega))
  clear h hW1 b1 hbw hg
  rw [← HG.out]
  go_enter Tryz.func32, Tryz.ntmps32
  go_wp2_with fail
  rw [← HW1.out, ← HG.out]
  refine HR.out.mono ?_
  rintro e w2 ⟨v3, rfl, o3, hb2⟩
  have HB2 := Lib.hid hb2
  have HD := Lib.hid (del_any W1.heap.size _ v3 _ w2 o3 hb2.size HS.out (by have := HLN.out; omega))
  clear hb2 o3 HR
  go_wp2_with fail
  refine HD.out.mono ?_
  rintro e w3 ⟨v4, rfl, o4, hb3⟩
  have hgs : g ≤ W1.heap.size := by have := HBW.out.size; have := HG.out; omega
  have HB3 := Lib.hid (HBW.out.trans ((HB2.out.trans hb3).mono hgs))
  have HO4 := Lib.hid (own_mono o4 hgs)
  clear o4 hb3 HD
  go_wp2_with fail
  go_ret
  exact ⟨_, rfl, HO4.out, HB3.out⟩
set_option maxHeartbeats 4000000 in
theorem snorm_any (A1 A2 A3 : Option Addr) (n1 c1 n2 c2 n3 c3 : Nat) (a : St) (w : World) (h : Has3 w A1 n1 A2 n2 A3 n3 a) :
    Calls Tryz.prog 9 #[.agg #[.slice A1 n1 c1, .slice A2 n2 c2, .slice A3 n3 c3]] w (OwnS w (normS a)) := by
  obtain ⟨g0, hg0⟩ : ∃ g0, g0 = w.heap.size := ⟨_, rfl⟩
  obtain ⟨g1, hg1⟩ : ∃ g1, g1 = w.heap.size + 1 := ⟨_, rfl⟩
  obtain ⟨W1, hW1⟩ : ∃ W1, W1 = (w.alloc (.cells #[.slice A1 n1 c1, .slice A2 n2 c2, .slice A3 n3 c3] 25)).alloc (.cells #[.slice none 0 0, .slice none 0 0, .slice none 0 0] 25) := ⟨_, rfl⟩
  have b0 : BlkS W1 g0 (.slice A1 n1 c1) (.slice A2 n2 c2) (.slice A3 n3 c3) := by rw [hW1, hg0]; exact (BlkS.new w _ _ _).alloc _
  have b1 : BlkS W1 g1 (.slice none 0 0) (.slice none 0 0) (.slice none 0 0) := by
    have := BlkS.new (w.alloc (.cells #[.slice A1 n1 c1, .slice A2 n2 c2, .slice A3 n3 c3] 25)) (.slice none 0 0) (.slice none 0 0) (.slice none 0 0)
    rw [hW1, hg1]; simpa using this
  have hbw : Below w.heap.size w W1 := by rw [hW1]; exact ((Below.refl _ _).alloc (Nat.le_refl _) _).alloc (by simp) _
  have HG := Lib.hid (show w.heap.size ≤ g1 ∧ g0 < g1 by omega)
  have H := Lib.hid h; have HK0 := Lib.hid b0; have HK1 := Lib.hid b1; have HBW := Lib.hid hbw; have HW1 := Lib.hid hW1; have HG0 := Lib.hid hg0; have HG1 := Lib.hid hg1
  have hc0 := HK0.out.c0
  have hc1 := HK0.out.c1
  have hc2 := HK0.out.c2
  have HA := Lib.hid (show ∀ u, Mid W1 u g1 → Has3 u A1 n1 A2 n2 A3 n3 a from fun u hu => H.out.next (HBW.out.trans (hu.bel.mono HG.out.1)))
  have HN1 := Lib.hid (show ∀ u, Mid W1 u g1 → Calls Tryz.prog 31 #[.slice A1 n1 c1] u (Own u (norm a.s)) from fun u hu => by
    have k := (HA.out u hu).s; exact Rset.norm_any A1 a.s n1 c1 u k.rd k.len k.fit (by have := k.sm; omega))
  have HN2 := Lib.hid (show ∀ u, Mid W1 u g1 → Calls Tryz.prog 31 #[.slice A2 n2 c2] u (Own u (norm a.m)) from fun u hu => by
    have k := (HA.out u hu).m; exact Rset.norm_any A2 a.m n2 c2 u k.rd k.len k.fit (by have := k.sm; omega))
  have HN3 := Lib.hid (show ∀ u, Mid W1 u g1 → Calls Tryz.prog 32 #[.slice A3 n3 c3] u (OwnT u.heap.size u ((rise a.o).filter okT)) from fun u hu => longer_any A3 n3 c3 a.o u (HA.out u hu).o)
  have HKP := Lib.hid (show ∀ u, Mid W1 u g1 → u.cell? ⟨g0, 0, none⟩ = some (.slice A1 n1 c1) ∧ u.cell? ⟨g0, 1, none⟩ = some (.slice A2 n2 c2) ∧ u.cell? ⟨g0, 2, none⟩ = some (.slice A3 n3 c3) ∧ Mid W1 u g1 from fun u hu =>
    have hb := HK0.out.below hu.bel HG.out.2
    ⟨hb.c0, hb.c1, hb.c2, hu⟩)
  clear h hW1 b0 b1 hbw hg0 hg1
  go_enter Tryz.func9, Tryz.ntmps9
  go_wp2_with fail
  rw [← HW1.out, ← HG1.out, ← HG0.out]
  go_region_held3 (fun w' => w'.cell? ⟨g0, 0, none⟩ = some (.slice A1 n1 c1) ∧ w'.cell? ⟨g0, 1, none⟩ = some (.slice A2 n2 c2) ∧ w'.cell? ⟨g0, 2, none⟩ = some (.slice A3 n3 c3) ∧ Mid W1 w' g1)
    (first | assumption | exact ⟨hc0, hc1, hc2, (Mid.of HK1.out).drew⟩ | exact HKP.out _ HX1.out | exact HKP.out _ HX2.out | exact HKP.out _ HX3.out | exact HKP.out _ (HX3.out.put _ _ _))
    (first
    | (go_at_call 31; (with_reducible refine (HN1.out _ (by first | assumption | exact (by assumption : _ ∧ _ ∧ _ ∧ _).2.2.2)).mono ?_); rintro e w4 ⟨x1, rfl, p1, q1⟩; obtain ⟨P1, k1, rfl, _, _, _⟩ := own_form p1; have HP1 := Lib.hid p1; have HX1 := Lib.hid (Mid.next (by first | assumption | exact (by assumption : _ ∧ _ ∧ _ ∧ _).2.2.2) q1))
    | (go_at_call 31; (with_reducible refine (HN2.out _ (by first | assumption | exact (by assumption : _ ∧ _ ∧ _ ∧ _).2.2.2)).mono ?_); rintro e w5 ⟨x2, rfl, p2, q2⟩; obtain ⟨P2, k2, rfl, _, _, _⟩ := own_form p2; have HP2 := Lib.hid p2; have HQ2 := Lib.hid (And.intro q1 q2); have HX2 := Lib.hid (Mid.next (by first | assumption | exact (by assumption : _ ∧ _ ∧ _ ∧ _).2.2.2) q2))
    | (go_at_call 32; (with_reducible refine (HN3.out _ (by first | assumption | exact (by assumption : _ ∧ _ ∧ _ ∧ _).2.2.2)).mono ?_); rintro e w6 ⟨x3, rfl, p3, q3⟩; obtain ⟨P3, k3, rfl, _, _, _⟩ := own_form p3; have HP3 := Lib.hid p3; have HQ3 := Lib.hid q3; have HX3 := Lib.hid (Mid.next (by first | assumption | exact (by assumption : _ ∧ _ ∧ _ ∧ _).2.2.2) q3); obtain ⟨z0, z1, z2, hz⟩ := HX3.out.blk; have d0 := hz.c0; have d1 := hz.c1; have d2 := hz.c2; have f0 := hz.fr 0; have f1 := hz.fr 1; have f2 := hz.fr 2; have HZ := Lib.hid hz))
  go_wp2_with fail
  refine (HZ.out.put _ _ _).ret rfl rfl rfl ?_
  have hs := HBW.out.size
  have hs4 := HQ2.out.1.size
  have hs5 := HQ2.out.2.size
  exact OwnS.of HZ.out (own_below (own_below HP1.out HQ2.out.2) HQ3.out) (own_below HP2.out HQ3.out) HP3.out (HBW.out.trans (HX3.out.bel.mono HG.out.1)) HG.out.1 hs (Nat.le_trans hs hs4) (Nat.le_trans (Nat.le_trans hs hs4) hs5)

set_option maxHeartbeats 4000000 in
theorem snot_any (A1 A2 A3 : Option Addr) (n1 c1 n2 c2 n3 c3 : Nat) (l1 l2 : List Rg) (w : World) (r1 : ArgR w A1 n1 l1) (r2 : ArgR w A2 n2 l2) :
    Calls Tryz.prog 33 #[.agg #[.slice A1 n1 c1, .slice A2 n2 c2, .slice A3 n3 c3]] w (fun e w' => ∃ v1 v2, e = .returned (.agg #[v1, v2, .slice A3 n3 c3]) ∧ w'.ownsRow w.heap.size 38 2 v1 (compl l1).length (rgs (compl l1)) ∧ w'.ownsRow w.heap.size 38 2 v2 (compl l2).length (rgs (compl l2)) ∧ Below w.heap.size w w') := by
  obtain ⟨g0, hg0⟩ : ∃ g0, g0 = w.heap.size := ⟨_, rfl⟩
  obtain ⟨g1, hg1⟩ : ∃ g1, g1 = w.heap.size + 1 := ⟨_, rfl⟩
  obtain ⟨W1, hW1⟩ : ∃ W1, W1 = (w.alloc (.cells #[.slice A1 n1 c1, .slice A2 n2 c2, .slice A3 n3 c3] 25)).alloc (.cells #[.slice none 0 0, .slice none 0 0, .slice none 0 0] 25) := ⟨_, rfl⟩
  have b0 : BlkS W1 g0 (.slice A1 n1 c1) (.slice A2 n2 c2) (.slice A3 n3 c3) := by rw [hW1, hg0]; exact (BlkS.new w _ _ _).alloc _
  have b1 : BlkS W1 g1 (.slice none 0 0) (.slice none 0 0) (.slice none 0 0) := by
    have := BlkS.new (w.alloc (.cells #[.slice A1 n1 c1, .slice A2 n2 c2, .slice A3 n3 c3] 25)) (.slice none 0 0) (.slice none 0 0) (.slice none 0 0)
    rw [hW1, hg1]; simpa using this
  have hbw : Below w.heap.size w W1 := by rw [hW1]; exact ((Below.refl _ _).alloc (Nat.le_refl _) _).alloc (by simp) _
  have HG := Lib.hid (show w.heap.size ≤ g1 ∧ g0 < g1 by omega)
  have HR1 := Lib.hid r1; have HR2 := Lib.hid r2
  have HK0 := Lib.hid b0; have HK1 := Lib.hid b1; have HBW := Lib.hid hbw; have HW1 := Lib.hid hW1; have HG0 := Lib.hid hg0; have HG1 := Lib.hid hg1
  have hc0 := HK0.out.c0
  have hc1 := HK0.out.c1
  have hc2 := HK0.out.c2
  have HN1 := Lib.hid (show ∀ u, Mid W1 u g1 → Calls Tryz.prog 54 #[.slice A1 n1 c1] u (Own u (compl l1)) from fun u hu => by
    have k := HR1.out.next (HBW.out.trans (hu.bel.mono HG.out.1)); exact Rset.not_any A1 l1 n1 c1 u k.rd k.len k.fit (by have := k.sm; omega))
  have HN2 := Lib.hid (show ∀ u, Mid W1 u g1 → Calls Tryz.prog 54 #[.slice A2 n2 c2] u (Own u (compl l2)) from fun u hu => by
    have k := HR2.out.next (HBW.out.trans (hu.bel.mono HG.out.1)); exact Rset.not_any A2 l2 n2 c2 u k.rd k.len k.fit (by have := k.sm; omega))
  have HKP := Lib.hid (show ∀ u, Mid W1 u g1 → u.cell? ⟨g0, 0, none⟩ = some (.slice A1 n1 c1) ∧ u.cell? ⟨g0, 1, none⟩ = some (.slice A2 n2 c2) ∧ u.cell? ⟨g0, 2, none⟩ = some (.slice A3 n3 c3) ∧ Mid W1 u g1 from fun u hu =>
    have hb := HK0.out.below hu.bel HG.out.2
    ⟨hb.c0, hb.c1, hb.c2, hu⟩)
  clear hW1 b0 b1 hbw hg0 hg1 r1 r2
  go_enter Tryz.func33, Tryz.ntmps33
  go_wp2_with fail
  rw [← HW1.out, ← HG1.out, ← HG0.out]
  go_region_held3 (fun w' => w'.cell? ⟨g0, 0, none⟩ = some (.slice A1 n1 c1) ∧ w'.cell? ⟨g0, 1, none⟩ = some (.slice A2 n2 c2) ∧ w'.cell? ⟨g0, 2, none⟩ = some (.slice A3 n3 c3) ∧ Mid W1 w' g1)
    (first | assumption | exact ⟨hc0, hc1, hc2, (Mid.of HK1.out).drew⟩ | exact HKP.out _ HX1.out | exact HKP.out _ HX2.out | exact HKP.out _ (HX2.out.put _ _ _))
    (first
    | (go_at_call 54; (with_reducible refine (HN1.out _ (by first | assumption | exact (by assumption : _ ∧ _ ∧ _ ∧ _).2.2.2)).mono ?_); rintro e w4 ⟨x1, rfl, p1, q1⟩; obtain ⟨P1, k1, rfl, _, _, _⟩ := own_form p1; have HP1 := Lib.hid p1; have HX1 := Lib.hid (Mid.next (by first | assumption | exact (by assumption : _ ∧ _ ∧ _ ∧ _).2.2.2) q1))
    | (go_at_call 54; (with_reducible refine (HN2.out _ (by first | assumption | exact (by assumption : _ ∧ _ ∧ _ ∧ _).2.2.2)).mono ?_); rintro e w5 ⟨x2, rfl, p2, q2⟩; obtain ⟨P2, k2, rfl, _, _, _⟩ := own_form p2; have HP2 := Lib.hid p2; have HQ2 := Lib.hid (And.intro q1 q2); have HX2 := Lib.hid (Mid.next (by first | assumption | exact (by assumption : _ ∧ _ ∧ _ ∧ _).2.2.2) q2); obtain ⟨z0, z1, z2, hz⟩ := HX2.out.blk; have d0 := hz.c0; have d1 := hz.c1; have d2 := hz.c2; have f0 := hz.fr 0; have f1 := hz.fr 1; have f2 := hz.fr 2; have HZ := Lib.hid hz))
  go_wp2_with fail
  refine (HZ.out.put _ _ _).ret rfl rfl rfl ?_
  have hs := HBW.out.size
  have hs4 := HQ2.out.1.size
  have hb := HBW.out.trans (HX2.out.bel.mono HG.out.1)
  exact ⟨_, _, rfl, own_mono (own_putS (own_below HP1.out HQ2.out.2) HZ.out (by decide) _ _ _) hs, own_mono (own_putS HP2.out HZ.out (by decide) _ _ _) (Nat.le_trans hs hs4),
    ((hb.setCell (p := ⟨g1, 0, none⟩) HG.out.1 _).setCell (p := ⟨g1, 1, none⟩) HG.out.1 _).setCell (p := ⟨g1, 2, none⟩) HG.out.1 _⟩
end Go.Proofs.YtipcbiecdabihaaGreat.Sset
