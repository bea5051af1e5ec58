/-
  CONTRACT OF meet.
-/
import Derived.Test.YtipcbiecdabihaaGreatSsetHolds
import Derived.Deep.RegionLaw
import Derived.Deep.DeepCutAuto
namespace Go.Proofs.YtipcbiecdabihaaGreat.Sset
open Go.RowKit
open Utf (Rd Blk wpList_append_rd own_ne)
open Rset
set_option maxRecDepth 100000

/-- what stands behind meet's first region: the set to be told, without odd ones yet -/
structure Begun (w W : World) (B gs : Nat) (v1 v2 : Value) (l1 l2 : List Rg) : Prop where
  blk : BlkS W gs v1 v2 (.slice none 0 0)
  big : B ≤ gs
  o1 : W.ownsRow B 38 2 v1 l1.length (rgs l1)
  o2 : W.ownsRow B 38 2 v2 l2.length (rgs l2)
  bel : Below B w W

/-- what stands in meet's loop -/
structure MI (w wr : World) (BL B gs : Nat) (v1 v2 vo : Value) (l1 l2 : List Rg) (vL : Value) (nL : Nat) (L O : List Tx) : Prop where
  blk : BlkS wr gs v1 v2 vo
  big : w.heap.size ≤ gs
  gl : gs < BL
  o1 : wr.ownsRow w.heap.size 38 2 v1 l1.length (rgs l1)
  o2 : wr.ownsRow w.heap.size 38 2 v2 l2.length (rgs l2)
  oo : wr.ownsRow B 9 1 vo O.length (txs O)
  lo : wr.ownsRow BL 9 1 vL nL (txs L)
  ll : ∀ k, vL.ownBlock = some k → k < B
  bel : Below w.heap.size w wr
  bb : w.heap.size ≤ B
  bs : B ≤ wr.heap.size
theorem MI.next {w wr w' : World} {BL B gs : Nat} {v1 v2 vo vL : Value} {l1 l2 : List Rg} {nL : Nat} {L O : List Tx} (h : MI w wr BL B gs v1 v2 vo l1 l2 vL nL L O) (hb : Below wr.heap.size wr w') : MI w w' BL B gs v1 v2 vo l1 l2 vL nL L O :=
  ⟨h.blk.next hb, h.big, h.gl, own_below h.o1 hb, own_below h.o2 hb, own_below h.oo hb, own_below h.lo hb, h.ll, h.bel.trans (hb.mono (Nat.le_trans h.bb h.bs)), h.bb, Nat.le_trans h.bs hb.size⟩
theorem own_apart {w : World} {b1 b2 : Nat} {e1 e2 : TypeId} {s1 s2 n1 n2 : Nat} {v1 v2 : Value} {xs1 xs2 : List Value} (h1 : w.ownsRow b1 e1 s1 v1 n1 xs1) (h2 : w.ownsRow b2 e2 s2 v2 n2 xs2) (hne : e1 ≠ e2) : v1.ownBlock = none ∨ v1.ownBlock ≠ v2.ownBlock := by
  rcases h1.2 with ⟨rfl, _⟩ | ⟨g1, cap1, cur1, rfl, _, hh1, _⟩
  · exact .inl rfl
  · right
    intro e
    rcases h2.2 with ⟨rfl, _⟩ | ⟨g2, cap2, cur2, rfl, _, hh2, _⟩
    · cases e
    · have e : g1 = g2 := Option.some.inj e
      subst e
      rw [hh1] at hh2
      injection hh2 with hh2
      injection hh2 with _ hh2 _
      exact hne hh2
theorem own_one {w : World} {base size n : Nat} {e : TypeId} {v v1 v2 v3 : Value} {xs : List Value} {g : Nat} (h : w.ownsRow base e size v n xs) (hz : BlkS w g v1 v2 v3) (hne : e ≠ 25) (i : Nat) (u : Value) : (w.setCell ⟨g, i, none⟩ u).ownsRow base e size v n xs :=
  h.kept (Utf.grown_set (World.grownBy.refl w (some g)) i u) (.inr (own_ne h hz hne))
theorem MI.app {w u w' : World} {BL B gs : Nat} {v1 v2 vo v7 vL : Value} {l1 l2 : List Rg} {nL : Nat} {L O : List Tx} {x : Tx} (h : MI w u BL B gs v1 v2 vo l1 l2 vL nL L O) (hg : u.grownBy w' vo.ownBlock) (ho : w'.ownsRow B 9 1 v7 (O.length + 1) (txs O ++ [encStr x])) :
    BlkS w' gs v1 v2 vo ∧ MI w (w'.setCell ⟨gs, 2, none⟩ v7) BL B gs v1 v2 v7 l1 l2 vL nL L (O ++ [x]) := by
  have hk : BlkS w' gs v1 v2 vo := Blk.grown h.blk hg fun e => own_ne h.oo h.blk (by decide) e.symm
  have k1 := h.o1.kept hg (own_apart h.o1 h.oo (by decide))
  have k2 := h.o2.kept hg (own_apart h.o2 h.oo (by decide))
  have k3 := h.lo.kept hg (by
    cases hx : vL.ownBlock with
    | none => exact .inl rfl
    | some k => exact .inr fun e => by have h1 := h.ll k hx; have h2 := (h.oo.lt k e.symm).1; omega)
  refine ⟨hk, Blk.set_ hk 2 v7, h.big, h.gl, own_one k1 hk (by decide) 2 v7, own_one k2 hk (by decide) 2 v7, ?_, own_one k3 hk (by decide) 2 v7, h.ll, (h.bel.grown hg (Nat.le_trans h.bb h.bs) (fun k hk => Nat.le_trans h.bb (h.oo.lt k hk).1)).setCell (p := ⟨gs, 2, none⟩) h.big v7, h.bb, by have := hg.size; have := h.bs; simp; omega⟩
  have e : txs (O ++ [x]) = txs O ++ [encStr x] := txs_append O [x]
  rw [e, List.length_append]
  exact own_one ho hk (by decide) 2 v7
theorem putB {B B' g : Nat} {w u : World} (hb : Below B w u) (hB : B ≤ B') (a b c : Value) (hg : g = B' := by rfl) : Below B w (((u.setCell ⟨g, 0, none⟩ a).setCell ⟨g, 1, none⟩ b).setCell ⟨g, 2, none⟩ c) := by
  subst hg
  exact ((hb.setCell (p := ⟨g, 0, none⟩) hB a).setCell (p := ⟨g, 1, none⟩) hB b).setCell (p := ⟨g, 2, none⟩) hB c

set_option maxHeartbeats 8000000 in
theorem smeet_any (A1 A2 A3 B1 B2 B3 : Option Addr) (n1 c1 n2 c2 n3 c3 m1 d1 m2 d2 m3 d3 : Nat) (a b : St) (w : World) (h : Has3 w A1 n1 A2 n2 A3 n3 a) (k : Has3 w B1 m1 B2 m2 B3 m3 b) (hN : NmS a) (kN : NmS b) (hsm : n3 + m3 ≤ 1073741824) :
    Calls Tryz.prog 34 #[.agg #[.slice A1 n1 c1, .slice A2 n2 c2, .slice A3 n3 c3], .agg #[.slice B1 m1 d1, .slice B2 m2 d2, .slice B3 m3 d3]] w (OwnS w (meetS a b)) := by
  obtain ⟨i0, hi, hz0, hz1, hz2⟩ := info_parts infoStr
  obtain ⟨g, hg⟩ : ∃ g, g = w.heap.size := ⟨_, rfl⟩
  obtain ⟨W0, hW0⟩ : ∃ W0, W0 = ((w.alloc (.cells #[.slice A1 n1 c1, .slice A2 n2 c2, .slice A3 n3 c3] 25)).alloc (.cells #[.slice B1 m1 d1, .slice B2 m2 d2, .slice B3 m3 d3] 25)).alloc (.cells #[.slice none 0 0, .slice none 0 0, .slice none 0 0] 25) := ⟨_, rfl⟩
  have hb0 : Below w.heap.size w W0 := by rw [hW0]; exact (((Below.refl _ _).alloc (Nat.le_refl _) _).alloc (by simp) _).alloc (by simp; omega) _
  have k0 : BlkS W0 g (.slice A1 n1 c1) (.slice A2 n2 c2) (.slice A3 n3 c3) := by rw [hW0, hg]; exact ((BlkS.new w _ _ _).alloc _).alloc _
  have k1 : BlkS W0 (g + 1) (.slice B1 m1 d1) (.slice B2 m2 d2) (.slice B3 m3 d3) := by
    have := (BlkS.new (w.alloc (.cells #[.slice A1 n1 c1, .slice A2 n2 c2, .slice A3 n3 c3] 25)) (.slice B1 m1 d1) (.slice B2 m2 d2) (.slice B3 m3 d3)).alloc (.cells #[.slice none 0 0, .slice none 0 0, .slice none 0 0] 25)
    rw [hW0, hg]; simpa using this
  have k2 : BlkS W0 (g + 2) (.slice none 0 0) (.slice none 0 0) (.slice none 0 0) := by
    have := BlkS.new ((w.alloc (.cells #[.slice A1 n1 c1, .slice A2 n2 c2, .slice A3 n3 c3] 25)).alloc (.cells #[.slice B1 m1 d1, .slice B2 m2 d2, .slice B3 m3 d3] 25)) (.slice none 0 0) (.slice none 0 0) (.slice none 0 0)
    rw [hW0, hg]; simpa using this
  have H := Lib.hid (h.next hb0); have K := Lib.hid (k.next hb0)
  have HW := Lib.hid hW0; have HG := Lib.hid hg; have HB0 := Lib.hid hb0; have HK0 := Lib.hid k0; have HK1 := Lib.hid k1; have HK2 := Lib.hid k2
  have HN1 := Lib.hid (show ∀ u, Below W0.heap.size W0 u → Calls Tryz.prog 55 #[.slice A1 n1 c1, .slice B1 m1 d1] u (Own u (meet a.s b.s)) from fun u hu => by
    have k := H.out.s.next hu; have k' := K.out.s.next hu; exact Rset.meet_any A1 B1 a.s b.s n1 m1 c1 d1 u k.rd k'.rd k.len k'.len k.fit k'.fit (by have := k.sm; have := k'.sm; omega))
  have HN2 := Lib.hid (show ∀ u, Below W0.heap.size W0 u → Calls Tryz.prog 55 #[.slice A2 n2 c2, .slice B2 m2 d2] u (Own u (meet a.m b.m)) from fun u hu => by
    have k := H.out.m.next hu; have k' := K.out.m.next hu; exact Rset.meet_any A2 B2 a.m b.m n2 m2 c2 d2 u k.rd k'.rd k.len k'.len k.fit k'.fit (by have := k.sm; have := k'.sm; omega))
  have HKP := Lib.hid (show ∀ u, Below W0.heap.size W0 u → u.cell? ⟨g, 0, none⟩ = some (.slice A1 n1 c1) ∧ u.cell? ⟨g, 1, none⟩ = some (.slice A2 n2 c2) ∧ u.cell? ⟨g + 1, 0, none⟩ = some (.slice B1 m1 d1) ∧ u.cell? ⟨g + 1, 1, none⟩ = some (.slice B2 m2 d2) ∧ Below W0.heap.size W0 u from fun u hu =>
    ⟨(HK0.out.next hu).c0, (HK0.out.next hu).c1, (HK1.out.next hu).c0, (HK1.out.next hu).c1, hu⟩)
  have x0 := k0.c0; have x1 := k0.c1; have y0 := k1.c0; have y1 := k1.c1
  clear h k hg hW0 hb0 k0 k1 k2
  go_enter Tryz.func34, Tryz.ntmps34
  go_wp2_with fail
  rw [← HW.out, ← HG.out]
  go_cut [5] (fun s5 W => ∃ (gs : Nat) (P1 : Option Addr) (k1 : Nat) (P2 : Option Addr) (k2 : Nat), s5 = .pointer (some ⟨gs, 0, none⟩) ∧ Hid (Begun W0 W W0.heap.size gs (.slice P1 (meet a.s b.s).length k1) (.slice P2 (meet a.m b.m).length k2) (meet a.s b.s) (meet a.m b.m)))
  case first =>
    go_region_held3 (fun w' => w'.cell? ⟨g, 0, none⟩ = some (.slice A1 n1 c1) ∧ w'.cell? ⟨g, 1, none⟩ = some (.slice A2 n2 c2) ∧ w'.cell? ⟨g + 1, 0, none⟩ = some (.slice B1 m1 d1) ∧ w'.cell? ⟨g + 1, 1, none⟩ = some (.slice B2 m2 d2) ∧ Below W0.heap.size W0 w')
      (first | assumption | exact HKP.out _ (below_drewN (Below.refl _ _) 1) | exact HKP.out _ HX2.out | exact HKP.out _ (HX2.out.alloc HX2.out.size _) | exact HKP.out _ (putB HX2.out (Nat.le_refl _) _ _ _) | exact HKP.out _ (putB HX2.out HX1.out.size _ _ _) | exact HKP.out _ HX1.out | exact HKP.out _ (HX1.out.alloc HX1.out.size _) | exact HKP.out _ ((below_drewN (Below.refl _ _) 1).alloc (Nat.le_refl _) _))
      (first
      | (go_at_call 55; (with_reducible refine (HN1.out _ (by first | assumption | exact (by assumption : _ ∧ _ ∧ _ ∧ _ ∧ _).2.2.2.2)).mono ?_); rintro e w4 ⟨z1, rfl, p1, q1⟩; obtain ⟨P1, k1, rfl, _, _, _⟩ := own_form p1; have HP1 := Lib.hid p1; have HQ1 := Lib.hid q1; have HX1 := Lib.hid (Below.trans (by first | assumption | exact (by assumption : _ ∧ _ ∧ _ ∧ _ ∧ _).2.2.2.2) (q1.mono (Below.size (by first | assumption | exact (by assumption : _ ∧ _ ∧ _ ∧ _ ∧ _).2.2.2.2))));
         (try (have HZA := Lib.hid (show BlkS w4 W0.heap.size (.slice none 0 0) (.slice none 0 0) (.slice none 0 0) from BlkS.next (BlkS.new W0.drew (.slice none 0 0) (.slice none 0 0) (.slice none 0 0)) q1))))
      | (go_at_call 55; (with_reducible refine (HN2.out _ (by first | assumption | exact (by assumption : _ ∧ _ ∧ _ ∧ _ ∧ _).2.2.2.2)).mono ?_); rintro e w5 ⟨z2, rfl, p2, q2⟩; obtain ⟨P2, k2, rfl, _, _, _⟩ := own_form p2; have HP2 := Lib.hid p2; have HQ2 := Lib.hid q2; have HX2 := Lib.hid (Below.trans (by first | assumption | exact (by assumption : _ ∧ _ ∧ _ ∧ _ ∧ _).2.2.2.2) (q2.mono (Below.size (by first | assumption | exact (by assumption : _ ∧ _ ∧ _ ∧ _ ∧ _).2.2.2.2))));
         (first
          | (have HZB := Lib.hid (show BlkS w5 W0.heap.size (.slice none 0 0) (.slice none 0 0) (.slice none 0 0) from BlkS.next HZA.out q2); have t0 := HZB.out.c0; have t1 := HZB.out.c1; have t2 := HZB.out.c2; have f0 := HZB.out.fr 0; have f1 := HZB.out.fr 1; have f2 := HZB.out.fr 2)
          | (have HZC := Lib.hid (show BlkS w5 w4.heap.size (.slice none 0 0) (.slice none 0 0) (.slice none 0 0) from BlkS.next (BlkS.new w4 (.slice none 0 0) (.slice none 0 0) (.slice none 0 0)) q2); have t0 := HZC.out.c0; have t1 := HZC.out.c1; have t2 := HZC.out.c2; have f0 := HZC.out.fr 0; have f1 := HZC.out.fr 1; have f2 := HZC.out.fr 2)
          | skip)))
    all_goals (go_wp2_with fail; go_meet)
    all_goals first
      | exact ⟨_, _, _, _, _, rfl, Lib.hid ⟨HZB.out.put _ _ _, Nat.le_refl _, own_mono (own_putS (own_below HP1.out HQ2.out) HZB.out (by decide) _ _ _) (by simp), own_mono (own_putS HP2.out HZB.out (by decide) _ _ _) HX1.out.size, putB HX2.out (Nat.le_refl _) _ _ _⟩⟩
      | exact ⟨_, _, _, _, _, rfl, Lib.hid ⟨HZC.out.put _ _ _, HX1.out.size, own_mono (own_putS (own_below (HP1.out.alloc _) HQ2.out) HZC.out (by decide) _ _ _) (Nat.le_refl _), own_mono (own_putS HP2.out HZC.out (by decide) _ _ _) (Nat.le_trans HX1.out.size (by simp)), putB HX2.out HX1.out.size _ _ _⟩⟩
      | exact ⟨_, _, _, _, _, rfl, Lib.hid ⟨BlkS.new w5 _ _ _, HX2.out.size, own_mono ((own_below HP1.out HQ2.out).alloc _) (Nat.le_refl _), own_mono (HP2.out.alloc _) HX1.out.size, HX2.out.alloc HX2.out.size _⟩⟩
  case rest =>
    obtain ⟨gs, P1, k1, P2, k2, rfl, HBG⟩ := hcut
    have HBL := Lib.hid HBG.out.bel
    have x2 := (HK0.out.next HBL.out).c2
    have y2 := (HK1.out.next HBL.out).c2
    obtain ⟨W2, hW2⟩ : ∃ W2, W2 = wc.alloc (.cells #[.slice A3 n3 c3, .slice B3 m3 d3] 23) := ⟨_, rfl⟩
    have hb2 : Below wc.heap.size wc W2 := by rw [hW2]; exact (Below.refl _ _).alloc (Nat.le_refl _) _
    have kb : Blk W2 wc.heap.size 23 [.slice A3 n3 c3, .slice B3 m3 d3] := by rw [hW2]; exact Blk.new wc _ [.slice A3 n3 c3, .slice B3 m3 d3]
    have HBL2 := Lib.hid (HBL.out.trans (hb2.mono HBL.out.size))
    have HR := Lib.hid (rising2_any wc.heap.size 0 n3 c3 m3 d3 A3 B3 a.o b.o W2 kb.lt (kb.cell 0) (kb.cell 1) (H.out.o.next HBL2.out) (K.out.o.next HBL2.out))
    have HW2 := Lib.hid hW2; have HCB := Lib.hid hb2
    have HLN := Lib.hid (show (rise (a.o ++ b.o)).length ≤ 1073741824 from Nat.le_trans (rise_len _) (by rw [List.length_append]; have := H.out.o.len; have := K.out.o.len; omega))
    have HSH := Lib.hid (short_rise (short_append H.out.o.short K.out.o.short))
    have HNE := Lib.hid (show ∀ t ∈ rise (a.o ++ b.o), t ≠ [] from fun t ht => okT_ne (by
      rcases List.mem_append.1 ((rise_mem _ t).1 ht) with h1 | h1
      · exact hN.ok t h1
      · exact kN.ok t h1))
    have HOE := Lib.hid (show (meetS a b).o = (rise (a.o ++ b.o)).filter (fun t => (memS a t && memS b t) != has (meet a.m b.m) (fst t)) from rfl)
    have HSE := Lib.hid (show (meetS a b).s = meet a.s b.s ∧ (meetS a b).m = meet a.m b.m from ⟨rfl, rfl⟩)
    generalize rise (a.o ++ b.o) = L at *
    clear hW2 hb2 kb x0 x1 y0 y1 HN1 HN2 HKP
    go_wp2_with fail
    rw [← HW2.out]
    refine HR.out.mono ?_
    rintro e w2 ⟨vL, rfl, oL, hb3⟩
    obtain ⟨AL, cL, rfl, _, _, rL⟩ := own_form oL
    obtain ⟨N, hNL⟩ : ∃ N, N = L.length := ⟨_, rfl⟩
    rw [← hNL] at oL ⊢
    have HNL := Lib.hid hNL
    have hN30 := HLN.out
    rw [← hNL] at hN30
    obtain ⟨F, hF⟩ : ∃ F : Tx → Bool, F = fun t => (memS a t && memS b t) != has (meet a.m b.m) (fst t) := ⟨_, rfl⟩
    have HF := Lib.hid hF
    have HB3 := Lib.hid hb3
    have HB33 := Lib.hid (show Below wc.heap.size wc w2 from HCB.out.trans (hb3.mono HCB.out.size))
    have HST := Lib.hid (show MI W0 w2 W2.heap.size w2.heap.size gs (.slice P1 (meet a.s b.s).length k1) (.slice P2 (meet a.m b.m).length k2) (.slice none 0 0) (meet a.s b.s) (meet a.m b.m) (.slice AL N cL) N L [] from
      ⟨HBG.out.blk.next HB33.out, HBG.out.big, Nat.lt_of_lt_of_le HBG.out.blk.lt HCB.out.size, own_below HBG.out.o1 HB33.out, own_below HBG.out.o2 HB33.out, World.ownsRow_nil _ _ _ _, oL, fun k hk => (oL.lt k hk).2, HBL2.out.trans (hb3.mono HBL2.out.size), Nat.le_trans HBL2.out.size hb3.size, Nat.le_refl _⟩)
    clear hb3 oL rL hNL hF x2 y2
    go_wp2_with fail
    go_loopw [28] (fun i wr => ∃ (k : Nat) (Ao : Option Addr) (no co : Nat), k ≤ N ∧ i = .int .i64 k ∧ Hid (MI W0 wr W2.heap.size w2.heap.size gs (.slice P1 (meet a.s b.s).length k1) (.slice P2 (meet a.m b.m).length k2) (.slice Ao no co) (meet a.s b.s) (meet a.m b.m) (.slice AL N cL) N L ((L.take k).filter F))) (fun i _ => N - (intOf i).toNat)
    case atStart => exact ⟨0, none, 0, 0, Nat.zero_le _, rfl, HST⟩
    case round =>
      obtain ⟨k, Ao, no, co, hk, rfl, HM⟩ := hrel
      by_cases hlt : k < N
      · have hkl : k < L.length := by rw [← HNL.out]; exact hlt
        have hrd := Rd.of_own HM.out.lo
        obtain ⟨bl, ol, rfl, hbl⟩ := rd_form_tx hrd (by omega)
        have c0 := rd_tx hrd hkl
        obtain ⟨X, hX⟩ : ∃ X : ByteArray, X = ⟨L[k].toArray⟩ := ⟨_, rfl⟩
        have hXl : X.toList = L[k] := by rw [hX, mk_toList]
        have cX : wr.cell? ⟨bl, ol + k, none⟩ = some (.string X) := by rw [c0, hX]
        have HFX := Lib.hid (show F L[k] = (((has a.m (fst L[k]) != isIn a.o L[k]) && (has b.m (fst L[k]) != isIn b.o L[k])) != has (meet a.m b.m) (fst L[k])) by rw [HF.out]; rfl)
        have HFT := Lib.hid (show (L.take (k + 1)).filter F = (L.take k).filter F ++ if F L[k] then [L[k]] else [] by
          rw [List.take_succ_eq_append_getElem hkl, List.filter_append, List.filter_cons, List.filter_nil])
        have HXE := Lib.hid (show encStr L[k] = .string X by rw [hX])
        have HFI := Lib.hid (first_any X L[k] hXl (HNE.out _ (List.getElem_mem hkl)) (by have := HSH.out _ (List.getElem_mem hkl); omega) wr)
        have HX := Lib.hid hXl
        clear c0 hrd hX hXl
        generalize L[k] = x at *
        clear hkl
        go_wp2_with fail
        refine HFI.out.mono ?_
        rintro e w3 ⟨rfl, hb3⟩
        have HM3 := Lib.hid (HM.out.next hb3)
        have HBW := Lib.hid HM3.out.bel
        have HSW := Lib.hid (show ∀ u, Below w3.heap.size w3 u → u.cell? ⟨g, 0, none⟩ = some (.slice A1 n1 c1) ∧ u.cell? ⟨g, 1, none⟩ = some (.slice A2 n2 c2) ∧ u.cell? ⟨g, 2, none⟩ = some (.slice A3 n3 c3) ∧ u.cell? ⟨g + 1, 0, none⟩ = some (.slice B1 m1 d1) ∧ u.cell? ⟨g + 1, 1, none⟩ = some (.slice B2 m2 d2) ∧ u.cell? ⟨g + 1, 2, none⟩ = some (.slice B3 m3 d3) ∧ u.cell? ⟨gs, 1, none⟩ = some (.slice P2 (meet a.m b.m).length k2) from fun u hu => by
          have ka := (HK0.out.next HBW.out).next hu
          have kb := (HK1.out.next HBW.out).next hu
          have ks := HM3.out.blk.next hu
          exact ⟨ka.c0, ka.c1, ka.c2, kb.c0, kb.c1, kb.c2, ks.c1⟩)
        have HMA := Lib.hid (show ∀ u, Below w3.heap.size w3 u → _ from fun u hu => member_any A1 A2 A3 n1 c1 n2 c2 n3 c3 a X x HX.out (fst x) u ((H.out.next HBW.out).next hu) hN)
        have HMB := Lib.hid (show ∀ u, Below w3.heap.size w3 u → _ from fun u hu => member_any B1 B2 B3 m1 d1 m2 d2 m3 d3 b X x HX.out (fst x) u ((K.out.next HBW.out).next hu) kN)
        have HMH := Lib.hid (show ∀ u, Below w3.heap.size w3 u → _ from fun u hu => holds_any P2 (meet a.m b.m) (meet a.m b.m).length k2 (fst x) u (by
          have hr := Rd.of_own (own_below HM3.out.o2 hu)
          exact ⟨hr, rfl, (nl_nm _).fit, by have := nm_len (nl_nm (fun x => has a.m x && has b.m x)); exact Nat.le_trans this (by omega)⟩) (nl_nm _))
        generalize (has a.m (fst x) != isIn a.o x) = p at HMA HFX
        generalize (has b.m (fst x) != isIn b.o x) = q at HMB HFX
        generalize has (meet a.m b.m) (fst x) = r at HMH HFX
        generalize fst x = fx at *
        have HOL := Lib.hid (show ((L.take k).filter F).length ≤ 1073741824 from Nat.le_trans (List.length_filter_le _ _) (by rw [List.length_take]; omega))
        clear hb3 cX HFI
        cases p with
        | true =>
          go_wp2_with fail
          refine wp_region_held_drew (S := fun u => u.cell? ⟨g, 0, none⟩ = some (.slice A1 n1 c1) ∧ u.cell? ⟨g, 1, none⟩ = some (.slice A2 n2 c2) ∧ u.cell? ⟨g, 2, none⟩ = some (.slice A3 n3 c3) ∧ u.cell? ⟨g + 1, 0, none⟩ = some (.slice B1 m1 d1) ∧ u.cell? ⟨g + 1, 1, none⟩ = some (.slice B2 m2 d2) ∧ u.cell? ⟨g + 1, 2, none⟩ = some (.slice B3 m3 d3) ∧ u.cell? ⟨gs, 1, none⟩ = some (.slice P2 (meet a.m b.m).length k2)) (by kernel_rfl) (HSW.out _ (Below.refl _ _).drew) (fun hHeld => ?_)
          refine wpAnyH_take (i := 0) (oi := _) (v := ?_) rfl (by kernel_rfl) (by kernel_rfl) (by kernel_rfl) (fun _ _ _ h => h) (Or.inl ⟨by rfl, ?_⟩) (by assumption) ?_
          rotate_left
          · (intro w hSw; (try dsimp only at hSw); (try obtain ⟨s1_, s2_, s3_, s4_, s5_, s6_, s7_⟩ := hSw); go_simp <;> with_reducible rfl)
          simp only [List.getElem_toArray, List.getElem_cons_zero, Act.put, List.setIfInBounds_toArray, List.set_cons_zero, List.set_cons_succ]
          refine wpAnyH_take (i := 1) (oi := _) (v := ?_) rfl (by kernel_rfl) (by kernel_rfl) (by kernel_rfl) (fun _ _ _ h => h) (Or.inl ⟨by rfl, ?_⟩) (by assumption) ?_
          rotate_left
          · (intro w hSw; (try dsimp only at hSw); (try obtain ⟨s1_, s2_, s3_, s4_, s5_, s6_, s7_⟩ := hSw); go_simp <;> with_reducible rfl)
          simp only [List.getElem_toArray, List.getElem_cons_succ, List.getElem_cons_zero, Act.put, List.setIfInBounds_toArray, List.set_cons_zero, List.set_cons_succ]
          refine wpAnyH_take (i := 2) (oi := _) (v := ?_) rfl (by kernel_rfl) (by kernel_rfl) (by kernel_rfl) (fun _ _ _ h => h) (Or.inl ⟨by rfl, ?_⟩) (by assumption) ?_
          rotate_left
          · (intro w hSw; (try dsimp only at hSw); (try obtain ⟨s1_, s2_, s3_, s4_, s5_, s6_, s7_⟩ := hSw); go_simp <;> with_reducible rfl)
          simp only [List.getElem_toArray, List.getElem_cons_succ, List.getElem_cons_zero, Act.put, List.setIfInBounds_toArray, List.set_cons_zero, List.set_cons_succ]
          refine wpAnyH_take (i := 10) (oi := _) (v := ?_) rfl (by kernel_rfl) (by kernel_rfl) (by kernel_rfl) (fun _ _ _ h => h) (Or.inl ⟨by rfl, ?_⟩) (by assumption) ?_
          rotate_left
          · (intro w hSw; (try dsimp only at hSw); (try obtain ⟨s1_, s2_, s3_, s4_, s5_, s6_, s7_⟩ := hSw); go_simp <;> with_reducible rfl)
          simp only [List.getElem_toArray, List.getElem_cons_succ, List.getElem_cons_zero, Act.put, List.setIfInBounds_toArray, List.set_cons_zero, List.set_cons_succ]
          refine wpAnyH_take (i := 11) (oi := _) (v := ?_) rfl (by kernel_rfl) (by kernel_rfl) (by kernel_rfl) (fun _ _ _ h => h) (Or.inl ⟨by rfl, ?_⟩) (by assumption) ?_
          rotate_left
          · (intro w hSw; (try dsimp only at hSw); (try obtain ⟨s1_, s2_, s3_, s4_, s5_, s6_, s7_⟩ := hSw); go_simp <;> with_reducible rfl)
          simp only [List.getElem_toArray, List.getElem_cons_succ, List.getElem_cons_zero, Act.put, List.setIfInBounds_toArray, List.set_cons_zero, List.set_cons_succ]
          refine wpAnyH_take (i := 12) (oi := _) (v := ?_) rfl (by kernel_rfl) (by kernel_rfl) (by kernel_rfl) (fun _ _ _ h => h) (Or.inl ⟨by rfl, ?_⟩) (by assumption) ?_
          rotate_left
          · (intro w hSw; (try dsimp only at hSw); (try obtain ⟨s1_, s2_, s3_, s4_, s5_, s6_, s7_⟩ := hSw); go_simp <;> with_reducible rfl)
          simp only [List.getElem_toArray, List.getElem_cons_succ, List.getElem_cons_zero, Act.put, List.setIfInBounds_toArray, List.set_cons_zero, List.set_cons_succ]
          refine wpAnyH_ready (rs := [3]) (by kernel_rfl) (by simp) (AllReadyH.cons rfl (fun K hK => ?_) AllReadyH.nil)
          go_simp
          go_at_call 56
          refine (HMA.out _ (Below.refl _ _).drew).mono ?_
          rintro e w4 ⟨rfl, hb4⟩
          have HB4 := Lib.hid (show Below w3.heap.size w3 w4 from (Below.refl _ _).drew.trans hb4)
          clear hb4
          refine hK.out _ _ (HSW.out _ HB4.out) (fun hHeld2 => ?_)
          clear hK K hHeld
          have hHeld := hHeld2
          clear hHeld2
          refine wpAnyH_take (i := 4) (oi := _) (v := ?_) rfl (by kernel_rfl) (by kernel_rfl) (by kernel_rfl) (fun _ _ _ h => h) (Or.inl ⟨by rfl, ?_⟩) (by assumption) ?_
          rotate_left
          · (intro w hSw; (try dsimp only at hSw); (try obtain ⟨s1_, s2_, s3_, s4_, s5_, s6_, s7_⟩ := hSw); go_simp <;> with_reducible rfl)
          simp only [List.getElem_toArray, List.getElem_cons_succ, List.getElem_cons_zero, Act.put, List.setIfInBounds_toArray, List.set_cons_zero, List.set_cons_succ]
          refine wpAnyH_take (i := 5) (oi := _) (v := ?_) rfl (by kernel_rfl) (by kernel_rfl) (by kernel_rfl) (fun _ _ _ h => h) (Or.inl ⟨by rfl, ?_⟩) (by assumption) ?_
          rotate_left
          · (intro w hSw; (try dsimp only at hSw); (try obtain ⟨s1_, s2_, s3_, s4_, s5_, s6_, s7_⟩ := hSw); go_simp <;> with_reducible rfl)
          simp only [List.getElem_toArray, List.getElem_cons_succ, List.getElem_cons_zero, Act.put, List.setIfInBounds_toArray, List.set_cons_zero, List.set_cons_succ]
          refine wpAnyH_take (i := 6) (oi := _) (v := ?_) rfl (by kernel_rfl) (by kernel_rfl) (by kernel_rfl) (fun _ _ _ h => h) (Or.inl ⟨by rfl, ?_⟩) (by assumption) ?_
          rotate_left
          · (intro w hSw; (try dsimp only at hSw); (try obtain ⟨s1_, s2_, s3_, s4_, s5_, s6_, s7_⟩ := hSw); go_simp <;> with_reducible rfl)
          simp only [List.getElem_toArray, List.getElem_cons_succ, List.getElem_cons_zero, Act.put, List.setIfInBounds_toArray, List.set_cons_zero, List.set_cons_succ]
          refine wpAnyH_take (i := 7) (oi := _) (v := ?_) rfl (by kernel_rfl) (by kernel_rfl) (by kernel_rfl) (fun _ _ _ h => h) (Or.inl ⟨by rfl, ?_⟩) (by assumption) ?_
          rotate_left
          · (intro w hSw; (try dsimp only at hSw); (try obtain ⟨s1_, s2_, s3_, s4_, s5_, s6_, s7_⟩ := hSw); go_simp <;> with_reducible rfl)
          simp only [List.getElem_toArray, List.getElem_cons_succ, List.getElem_cons_zero, Act.put, List.setIfInBounds_toArray, List.set_cons_zero, List.set_cons_succ]
          refine wpAnyH_ready (rs := [8]) (by kernel_rfl) (by simp) (AllReadyH.cons rfl (fun K hK => ?_) AllReadyH.nil)
          go_simp
          go_at_call 56
          refine (HMB.out _ HB4.out).mono ?_
          rintro e w5 ⟨rfl, hb5⟩
          have HB5 := Lib.hid (HB4.out.trans (hb5.mono HB4.out.size))
          clear hb5
          refine hK.out _ _ (HSW.out _ HB5.out) (fun hHeld2 => ?_)
          clear hK K hHeld
          have hHeld := hHeld2
          clear hHeld2
          refine wpAnyH_take (i := 9) (oi := _) (v := ?_) rfl (by kernel_rfl) (by kernel_rfl) (by kernel_rfl) (fun _ _ _ h => h) (Or.inl ⟨by rfl, ?_⟩) (by assumption) ?_
          rotate_left
          · (intro w hSw; (try dsimp only at hSw); (try obtain ⟨s1_, s2_, s3_, s4_, s5_, s6_, s7_⟩ := hSw); go_simp <;> with_reducible rfl)
          simp only [List.getElem_toArray, List.getElem_cons_succ, List.getElem_cons_zero, Act.put, List.setIfInBounds_toArray, List.set_cons_zero, List.set_cons_succ]
          refine wpAnyH_ready (rs := [13]) (by kernel_rfl) (by simp) (AllReadyH.cons rfl (fun K hK => ?_) AllReadyH.nil)
          go_simp
          go_at_call 57
          refine (HMH.out _ HB5.out).mono ?_
          rintro e w6 ⟨rfl, hb6⟩
          have HB6 := Lib.hid (HB5.out.trans (hb6.mono HB5.out.size))
          clear hb6
          refine hK.out _ _ (HSW.out _ HB6.out) (fun hHeld2 => ?_)
          clear hK K hHeld
          have hHeld := hHeld2
          clear hHeld2
          refine wpAnyH_take (i := 14) (oi := _) (v := ?_) rfl (by kernel_rfl) (by kernel_rfl) (by kernel_rfl) (fun _ _ _ h => h) (Or.inl ⟨by rfl, ?_⟩) (by assumption) ?_
          rotate_left
          · (intro w hSw; (try dsimp only at hSw); (try obtain ⟨s1_, s2_, s3_, s4_, s5_, s6_, s7_⟩ := hSw); go_simp <;> with_reducible rfl)
          simp only [List.getElem_toArray, List.getElem_cons_succ, List.getElem_cons_zero, Act.put, List.setIfInBounds_toArray, List.set_cons_zero, List.set_cons_succ]
          refine wpAnyH_done (by kernel_rfl) ?_ _
          have HM6 := Lib.hid (HM3.out.next HB6.out)
          have e0 := HM6.out.blk.c2
          clear HSW HMA HMB HMH
          cases q with
          | true =>
            cases r with
            | true =>
              have HFE := Lib.hid (show (L.take (k + 1)).filter F = (L.take k).filter F by rw [HFT.out, show F x = false from HFX.out]; exact List.append_nil _)
              go_wp2_with fail
              go_roundw
              case rel => exact ⟨k + 1, Ao, no, co, by omega, by go_num, by rw [HFE.out]; exact HM6⟩
              case measure => simp [intOf]; omega
            | false =>
              have HFE := Lib.hid (show (L.take (k + 1)).filter F = (L.take k).filter F ++ [x] by rw [HFT.out, show F x = true from HFX.out]; rfl)
              go_wp2_with (at_builtin; refine wpList_append_rd _ rfl (.tmp 53) (.tmp 55) _ rfl w2.heap.size 9 i0 _ 1 16 Tryz.underlying23 hi hz0 hz1 hz2 rfl (by decide) (.slice Ao no co) _ (txs ((L.take k).filter F)) rfl (HM6.out.oo.alloc _) _ (some ⟨w6.heap.size, 0, none⟩) 1 1 [.string X] rfl rfl (rd_new _ _ [.string X] _ (by simp)) (by simp [Value.oneCell']) (by have := HOL.out; unfold maxLen; omega) (by have := HOL.out; omega) (by have := HM6.out.bs; simp; omega) ?_; intro v7 w7 hown7 hgr7 _; rw [← HXE.out] at hown7; obtain ⟨A7, c7, rfl, _, _, _⟩ := own_form hown7; obtain ⟨hk7, hm7⟩ := MI.app (HM6.out.next ((Below.refl _ _).alloc (Nat.le_refl _) _)) hgr7 hown7; have e2 := hk7.c2; have f2 := hk7.fr 2; have HM7 := Lib.hid hm7; clear hown7 hgr7 hm7 hk7)
              go_roundw
              case rel => exact ⟨k + 1, A7, _, c7, by omega, by go_num, by rw [HFE.out]; exact HM7⟩
              case measure => simp [intOf]; omega
          | false =>
            cases r with
            | true =>
              have HFE := Lib.hid (show (L.take (k + 1)).filter F = (L.take k).filter F ++ [x] by rw [HFT.out, show F x = true from HFX.out]; rfl)
              go_wp2_with (at_builtin; refine wpList_append_rd _ rfl (.tmp 53) (.tmp 55) _ rfl w2.heap.size 9 i0 _ 1 16 Tryz.underlying23 hi hz0 hz1 hz2 rfl (by decide) (.slice Ao no co) _ (txs ((L.take k).filter F)) rfl (HM6.out.oo.alloc _) _ (some ⟨w6.heap.size, 0, none⟩) 1 1 [.string X] rfl rfl (rd_new _ _ [.string X] _ (by simp)) (by simp [Value.oneCell']) (by have := HOL.out; unfold maxLen; omega) (by have := HOL.out; omega) (by have := HM6.out.bs; simp; omega) ?_; intro v7 w7 hown7 hgr7 _; rw [← HXE.out] at hown7; obtain ⟨A7, c7, rfl, _, _, _⟩ := own_form hown7; obtain ⟨hk7, hm7⟩ := MI.app (HM6.out.next ((Below.refl _ _).alloc (Nat.le_refl _) _)) hgr7 hown7; have e2 := hk7.c2; have f2 := hk7.fr 2; have HM7 := Lib.hid hm7; clear hown7 hgr7 hm7 hk7)
              go_roundw
              case rel => exact ⟨k + 1, A7, _, c7, by omega, by go_num, by rw [HFE.out]; exact HM7⟩
              case measure => simp [intOf]; omega
            | false =>
              have HFE := Lib.hid (show (L.take (k + 1)).filter F = (L.take k).filter F by rw [HFT.out, show F x = false from HFX.out]; exact List.append_nil _)
              go_wp2_with fail
              go_roundw
              case rel => exact ⟨k + 1, Ao, no, co, by omega, by go_num, by rw [HFE.out]; exact HM6⟩
              case measure => simp [intOf]; omega
        | false =>
          go_wp2_with fail
          refine wp_region_held_drew (S := fun u => u.cell? ⟨g, 0, none⟩ = some (.slice A1 n1 c1) ∧ u.cell? ⟨g, 1, none⟩ = some (.slice A2 n2 c2) ∧ u.cell? ⟨g, 2, none⟩ = some (.slice A3 n3 c3) ∧ u.cell? ⟨g + 1, 0, none⟩ = some (.slice B1 m1 d1) ∧ u.cell? ⟨g + 1, 1, none⟩ = some (.slice B2 m2 d2) ∧ u.cell? ⟨g + 1, 2, none⟩ = some (.slice B3 m3 d3) ∧ u.cell? ⟨gs, 1, none⟩ = some (.slice P2 (meet a.m b.m).length k2)) (by kernel_rfl) (HSW.out _ (Below.refl _ _).drew) (fun hHeld => ?_)
          refine wpAnyH_take (i := 0) (oi := _) (v := ?_) rfl (by kernel_rfl) (by kernel_rfl) (by kernel_rfl) (fun _ _ _ h => h) (Or.inl ⟨by rfl, ?_⟩) (by assumption) ?_
          rotate_left
          · (intro w hSw; (try dsimp only at hSw); (try obtain ⟨s1_, s2_, s3_, s4_, s5_, s6_, s7_⟩ := hSw); go_simp <;> with_reducible rfl)
          simp only [List.getElem_toArray, List.getElem_cons_zero, Act.put, List.setIfInBounds_toArray, List.set_cons_zero, List.set_cons_succ]
          refine wpAnyH_take (i := 1) (oi := _) (v := ?_) rfl (by kernel_rfl) (by kernel_rfl) (by kernel_rfl) (fun _ _ _ h => h) (Or.inl ⟨by rfl, ?_⟩) (by assumption) ?_
          rotate_left
          · (intro w hSw; (try dsimp only at hSw); (try obtain ⟨s1_, s2_, s3_, s4_, s5_, s6_, s7_⟩ := hSw); go_simp <;> with_reducible rfl)
          simp only [List.getElem_toArray, List.getElem_cons_succ, List.getElem_cons_zero, Act.put, List.setIfInBounds_toArray, List.set_cons_zero, List.set_cons_succ]
          refine wpAnyH_take (i := 2) (oi := _) (v := ?_) rfl (by kernel_rfl) (by kernel_rfl) (by kernel_rfl) (fun _ _ _ h => h) (Or.inl ⟨by rfl, ?_⟩) (by assumption) ?_
          rotate_left
          · (intro w hSw; (try dsimp only at hSw); (try obtain ⟨s1_, s2_, s3_, s4_, s5_, s6_, s7_⟩ := hSw); go_simp <;> with_reducible rfl)
          simp only [List.getElem_toArray, List.getElem_cons_succ, List.getElem_cons_zero, Act.put, List.setIfInBounds_toArray, List.set_cons_zero, List.set_cons_succ]
          refine wpAnyH_take (i := 10) (oi := _) (v := ?_) rfl (by kernel_rfl) (by kernel_rfl) (by kernel_rfl) (fun _ _ _ h => h) (Or.inl ⟨by rfl, ?_⟩) (by assumption) ?_
          rotate_left
          · (intro w hSw; (try dsimp only at hSw); (try obtain ⟨s1_, s2_, s3_, s4_, s5_, s6_, s7_⟩ := hSw); go_simp <;> with_reducible rfl)
          simp only [List.getElem_toArray, List.getElem_cons_succ, List.getElem_cons_zero, Act.put, List.setIfInBounds_toArray, List.set_cons_zero, List.set_cons_succ]
          refine wpAnyH_take (i := 11) (oi := _) (v := ?_) rfl (by kernel_rfl) (by kernel_rfl) (by kernel_rfl) (fun _ _ _ h => h) (Or.inl ⟨by rfl, ?_⟩) (by assumption) ?_
          rotate_left
          · (intro w hSw; (try dsimp only at hSw); (try obtain ⟨s1_, s2_, s3_, s4_, s5_, s6_, s7_⟩ := hSw); go_simp <;> with_reducible rfl)
          simp only [List.getElem_toArray, List.getElem_cons_succ, List.getElem_cons_zero, Act.put, List.setIfInBounds_toArray, List.set_cons_zero, List.set_cons_succ]
          refine wpAnyH_take (i := 12) (oi := _) (v := ?_) rfl (by kernel_rfl) (by kernel_rfl) (by kernel_rfl) (fun _ _ _ h => h) (Or.inl ⟨by rfl, ?_⟩) (by assumption) ?_
          rotate_left
          · (intro w hSw; (try dsimp only at hSw); (try obtain ⟨s1_, s2_, s3_, s4_, s5_, s6_, s7_⟩ := hSw); go_simp <;> with_reducible rfl)
          simp only [List.getElem_toArray, List.getElem_cons_succ, List.getElem_cons_zero, Act.put, List.setIfInBounds_toArray, List.set_cons_zero, List.set_cons_succ]
          refine wpAnyH_ready (rs := [3]) (by kernel_rfl) (by simp) (AllReadyH.cons rfl (fun K hK => ?_) AllReadyH.nil)
          go_simp
          go_at_call 56
          refine (HMA.out _ (Below.refl _ _).drew).mono ?_
          rintro e w4 ⟨rfl, hb4⟩
          have HB4 := Lib.hid (show Below w3.heap.size w3 w4 from (Below.refl _ _).drew.trans hb4)
          clear hb4
          refine hK.out _ _ (HSW.out _ HB4.out) (fun hHeld2 => ?_)
          clear hK K hHeld
          have hHeld := hHeld2
          clear hHeld2
          refine wpAnyH_take (i := 4) (oi := _) (v := ?_) rfl (by kernel_rfl) (by kernel_rfl) (by kernel_rfl) (fun _ _ _ h => h) (Or.inl ⟨by rfl, ?_⟩) (by assumption) ?_
          rotate_left
          · (intro w hSw; (try dsimp only at hSw); (try obtain ⟨s1_, s2_, s3_, s4_, s5_, s6_, s7_⟩ := hSw); go_simp <;> with_reducible rfl)
          simp only [List.getElem_toArray, List.getElem_cons_succ, List.getElem_cons_zero, Act.put, List.setIfInBounds_toArray, List.set_cons_zero, List.set_cons_succ]
          refine wpAnyH_take (i := 5) (oi := _) (v := undef) rfl (by kernel_rfl) (by kernel_rfl) (by kernel_rfl) (fun _ _ _ h => h) (Or.inr ⟨by rfl, rfl⟩) (by assumption) ?_
          simp only [List.getElem_toArray, List.getElem_cons_succ, List.getElem_cons_zero, Act.put, List.setIfInBounds_toArray, List.set_cons_zero, List.set_cons_succ]
          refine wpAnyH_take (i := 6) (oi := _) (v := undef) rfl (by kernel_rfl) (by kernel_rfl) (by kernel_rfl) (fun _ _ _ h => h) (Or.inr ⟨by rfl, rfl⟩) (by assumption) ?_
          simp only [List.getElem_toArray, List.getElem_cons_succ, List.getElem_cons_zero, Act.put, List.setIfInBounds_toArray, List.set_cons_zero, List.set_cons_succ]
          refine wpAnyH_take (i := 7) (oi := _) (v := undef) rfl (by kernel_rfl) (by kernel_rfl) (by kernel_rfl) (fun _ _ _ h => h) (Or.inr ⟨by rfl, rfl⟩) (by assumption) ?_
          simp only [List.getElem_toArray, List.getElem_cons_succ, List.getElem_cons_zero, Act.put, List.setIfInBounds_toArray, List.set_cons_zero, List.set_cons_succ]
          refine wpAnyH_take (i := 8) (oi := _) (v := undef) rfl (by kernel_rfl) (by kernel_rfl) (by kernel_rfl) (fun _ _ _ h => h) (Or.inr ⟨by rfl, rfl⟩) (by assumption) ?_
          simp only [List.getElem_toArray, List.getElem_cons_succ, List.getElem_cons_zero, Act.put, List.setIfInBounds_toArray, List.set_cons_zero, List.set_cons_succ]
          have HB5 := HB4
          refine wpAnyH_take (i := 9) (oi := _) (v := ?_) rfl (by kernel_rfl) (by kernel_rfl) (by kernel_rfl) (fun _ _ _ h => h) (Or.inl ⟨by rfl, ?_⟩) (by assumption) ?_
          rotate_left
          · (intro w hSw; (try dsimp only at hSw); (try obtain ⟨s1_, s2_, s3_, s4_, s5_, s6_, s7_⟩ := hSw); go_simp <;> with_reducible rfl)
          simp only [List.getElem_toArray, List.getElem_cons_succ, List.getElem_cons_zero, Act.put, List.setIfInBounds_toArray, List.set_cons_zero, List.set_cons_succ]
          refine wpAnyH_ready (rs := [13]) (by kernel_rfl) (by simp) (AllReadyH.cons rfl (fun K hK => ?_) AllReadyH.nil)
          go_simp
          go_at_call 57
          refine (HMH.out _ HB5.out).mono ?_
          rintro e w6 ⟨rfl, hb6⟩
          have HB6 := Lib.hid (HB5.out.trans (hb6.mono HB5.out.size))
          clear hb6
          refine hK.out _ _ (HSW.out _ HB6.out) (fun hHeld2 => ?_)
          clear hK K hHeld
          have hHeld := hHeld2
          clear hHeld2
          refine wpAnyH_take (i := 14) (oi := _) (v := ?_) rfl (by kernel_rfl) (by kernel_rfl) (by kernel_rfl) (fun _ _ _ h => h) (Or.inl ⟨by rfl, ?_⟩) (by assumption) ?_
          rotate_left
          · (intro w hSw; (try dsimp only at hSw); (try obtain ⟨s1_, s2_, s3_, s4_, s5_, s6_, s7_⟩ := hSw); go_simp <;> with_reducible rfl)
          simp only [List.getElem_toArray, List.getElem_cons_succ, List.getElem_cons_zero, Act.put, List.setIfInBounds_toArray, List.set_cons_zero, List.set_cons_succ]
          refine wpAnyH_done (by kernel_rfl) ?_ _
          have HM6 := Lib.hid (HM3.out.next HB6.out)
          have e0 := HM6.out.blk.c2
          clear HSW HMA HMB HMH
          cases r with
          | true =>
            have HFE := Lib.hid (show (L.take (k + 1)).filter F = (L.take k).filter F ++ [x] by rw [HFT.out, show F x = true from HFX.out]; rfl)
            go_wp2_with (at_builtin; refine wpList_append_rd _ rfl (.tmp 53) (.tmp 55) _ rfl w2.heap.size 9 i0 _ 1 16 Tryz.underlying23 hi hz0 hz1 hz2 rfl (by decide) (.slice Ao no co) _ (txs ((L.take k).filter F)) rfl (HM6.out.oo.alloc _) _ (some ⟨w6.heap.size, 0, none⟩) 1 1 [.string X] rfl rfl (rd_new _ _ [.string X] _ (by simp)) (by simp [Value.oneCell']) (by have := HOL.out; unfold maxLen; omega) (by have := HOL.out; omega) (by have := HM6.out.bs; simp; omega) ?_; intro v7 w7 hown7 hgr7 _; rw [← HXE.out] at hown7; obtain ⟨A7, c7, rfl, _, _, _⟩ := own_form hown7; obtain ⟨hk7, hm7⟩ := MI.app (HM6.out.next ((Below.refl _ _).alloc (Nat.le_refl _) _)) hgr7 hown7; have e2 := hk7.c2; have f2 := hk7.fr 2; have HM7 := Lib.hid hm7; clear hown7 hgr7 hm7 hk7)
            go_roundw
            case rel => exact ⟨k + 1, A7, _, c7, by omega, by go_num, by rw [HFE.out]; exact HM7⟩
            case measure => simp [intOf]; omega
          | false =>
            have HFE := Lib.hid (show (L.take (k + 1)).filter F = (L.take k).filter F by rw [HFT.out, show F x = false from HFX.out]; exact List.append_nil _)
            go_wp2_with fail
            go_roundw
            case rel => exact ⟨k + 1, Ao, no, co, by omega, by go_num, by rw [HFE.out]; exact HM6⟩
            case measure => simp [intOf]; omega
      · have HXT := Lib.hid (show (L.take k).filter F = L.filter F by rw [List.take_of_length_le (by have := HNL.out; omega)])
        have HMN := HM
        rw [HXT.out] at HMN
        have e0 := HMN.out.blk.c0; have e1 := HMN.out.blk.c1; have e2 := HMN.out.blk.c2
        have HZ := Lib.hid (HK2.out.next HMN.out.bel)
        have d0 := HZ.out.c0; have d1 := HZ.out.c1; have d2 := HZ.out.c2; have f0 := HZ.out.fr 0; have f1 := HZ.out.fr 1; have f2 := HZ.out.fr 2
        clear HM HXT
        go_wp2_with fail
        refine (HZ.out.put _ _ _).ret rfl rfl rfl ?_
        have hno : no = (L.filter F).length := by
          obtain ⟨Ax, cx, hx, _⟩ := own_form HMN.out.oo
          injection hx
        rw [show meetS a b = ⟨meet a.s b.s, meet a.m b.m, L.filter F⟩ by
          have h1 := HOE.out; have h2 := HSE.out.1; have h3 := HSE.out.2
          rw [← HF.out] at h1
          rw [← h1, ← h2, ← h3]]
        exact OwnS.of HZ.out HMN.out.o1 HMN.out.o2 HMN.out.oo (HB0.out.trans (HMN.out.bel.mono HB0.out.size)) (by have := HG.out; omega) HB0.out.size HB0.out.size (Nat.le_trans HB0.out.size HMN.out.bb)
end Go.Proofs.YtipcbiecdabihaaGreat.Sset
