/-
  Whatever two sets and texts there are: each well-formed text is where it is said to be. Conditions: the arguments hold together at most 1048576 values.
-/
import Derived.Test.YtipcbiecdabihaaGreatSsetFixed
import Derived.Test.YtipcbiecdabihaaGreatSsetOpen
import Derived.Test.YtipcbiecdabihaaGreatSsetFloat
namespace Go.Proofs.YtipcbiecdabihaaGreat.LawSegsetMembers
open Go.ChangeShapes Go.WideShapes Go.ChangeAt Go.RowKit
open Utf (Rd Blk nums nums_len wpList_append_rd own_ne)
open Rset Sset
set_option maxRecDepth 100000

set_option maxHeartbeats 64000000 in
theorem walk (A1 A2 A3 B1 B2 B3 Tp : Option Addr) (n1 n2 n3 p1 p2 p3 m1 m2 m3 q1 q2 q3 nt ct : Nat) (a b : Sset.St) (T : List Tx) (w : World) (hA : Has3 w A1 n1 A2 n2 A3 n3 a) (hB : Has3 w B1 m1 B2 m2 B3 m3 b) (hT : ArgT w Tp nt T) (hn : n3 ≤ 1048576) (hm : m3 ≤ 1048576) (hl : nt ≤ 1048576) :
    Calls Tryz.prog 3 #[.agg #[.slice A1 n1 p1, .slice A2 n2 p2, .slice A3 n3 p3], .agg #[.slice B1 m1 q1, .slice B2 m2 q2, .slice B3 m3 q3], .slice Tp nt ct] w (Law w) := by
  obtain ⟨i0, hi, hz0, hz1, hz2⟩ := info_parts infoStr
  obtain ⟨g0, hg0⟩ : ∃ g0, g0 = w.heap.size := ⟨_, rfl⟩
  obtain ⟨g1, hg1⟩ : ∃ g1, g1 = w.heap.size + 1 := ⟨_, rfl⟩
  obtain ⟨W0, hW0⟩ : ∃ W0, W0 = ((w.alloc (.cells #[.slice A1 n1 p1, .slice A2 n2 p2, .slice A3 n3 p3] 25)).alloc (.cells #[.slice B1 m1 q1, .slice B2 m2 q2, .slice B3 m3 q3] 25)) := ⟨_, rfl⟩
  have XA := Lib.hid (show Bx W0 g0 A1 n1 p1 A2 n2 p2 A3 n3 p3 a from by rw [hW0, hg0]; exact (Bx.new hA).next (below_new _ _))
  have XB := Lib.hid (show Bx W0 g1 B1 m1 q1 B2 m2 q2 B3 m3 q3 b from by
    have := Bx.new (c1 := q1) (c2 := q2) (c3 := q3) (hB.next (below_new w (.cells #[.slice A1 n1 p1, .slice A2 n2 p2, .slice A3 n3 p3] 25)))
    rw [hW0, hg1]; simpa using this)
  have HB := Lib.hid (show Below w.heap.size w W0 from by rw [hW0]; exact ((Below.refl _ _).alloc (Nat.le_refl _) _).alloc (by simp) _)
  have HT := Lib.hid hT
  have HW0 := Lib.hid hW0; have HG0 := Lib.hid hg0; have HG1 := Lib.hid hg1
  clear hW0 hg0 hg1 hA hB hT
  go_enter Tryz.func3, Tryz.ntmps3
  go_wp2_with fail
  rw [← HW0.out, ← HG1.out, ← HG0.out]
  refine (fixed_any _).mono ?_
  rintro e w1 ⟨rfl, hb0⟩
  replace XA := Lib.hid (XA.out.next hb0); replace XB := Lib.hid (XB.out.next hb0)
  replace HB := Lib.hid (HB.out.trans (hb0.mono HB.out.size))
  clear hb0 HW0 HG0 HG1
  go_wp2_with fail
  have HSW := Lib.hid (show ∀ u, Below w1.heap.size w1 u → u.cell? ⟨g0, 0, none⟩ = some (.slice A1 n1 p1) ∧ u.cell? ⟨g0, 1, none⟩ = some (.slice A2 n2 p2) ∧ u.cell? ⟨g0, 2, none⟩ = some (.slice A3 n3 p3) ∧ u.cell? ⟨g1, 0, none⟩ = some (.slice B1 m1 q1) ∧ u.cell? ⟨g1, 1, none⟩ = some (.slice B2 m2 q2) ∧ u.cell? ⟨g1, 2, none⟩ = some (.slice B3 m3 q3) from fun u hu => ⟨(XA.out.blk.next hu).c0, (XA.out.blk.next hu).c1, (XA.out.blk.next hu).c2, (XB.out.blk.next hu).c0, (XB.out.blk.next hu).c1, (XB.out.blk.next hu).c2⟩)
  refine wp_region_held_drew (S := fun u => u.cell? ⟨g0, 0, none⟩ = some (.slice A1 n1 p1) ∧ u.cell? ⟨g0, 1, none⟩ = some (.slice A2 n2 p2) ∧ u.cell? ⟨g0, 2, none⟩ = some (.slice A3 n3 p3) ∧ u.cell? ⟨g1, 0, none⟩ = some (.slice B1 m1 q1) ∧ u.cell? ⟨g1, 1, none⟩ = some (.slice B2 m2 q2) ∧ u.cell? ⟨g1, 2, none⟩ = some (.slice B3 m3 q3)) (by kernel_rfl) (HSW.out _ (Below.refl _ _).drew) (fun hHeld => ?_)
  have HQ0 := Lib.hid (show Below w1.heap.size w1 w1.drew from (Below.refl _ _).drew)
  refine wpAnyH_take (i := 0) (oi := _) (v := ?_) rfl (by kernel_rfl) (by kernel_rfl) (by kernel_rfl) (fun _ _ _ h => h) (Or.inl ⟨by rfl, ?_⟩) (by assumption) ?_
  rotate_left
  · (intro w hSw; (try dsimp only at hSw); (try obtain ⟨s1_, s2_, s3_, s4_, s5_, s6_⟩ := hSw); go_simp <;> with_reducible rfl)
  simp only [List.getElem_toArray, List.getElem_cons_zero, Act.put, List.setIfInBounds_toArray, List.set_cons_zero, List.set_cons_succ]
  refine wpAnyH_take (i := 2) (oi := _) (v := ?_) rfl (by kernel_rfl) (by kernel_rfl) (by kernel_rfl) (fun _ _ _ h => h) (Or.inl ⟨by rfl, ?_⟩) (by assumption) ?_
  rotate_left
  · (intro w hSw; (try dsimp only at hSw); (try obtain ⟨s1_, s2_, s3_, s4_, s5_, s6_⟩ := hSw); go_simp <;> with_reducible rfl)
  simp only [List.getElem_toArray, List.getElem_cons_succ, List.getElem_cons_zero, Act.put, List.setIfInBounds_toArray, List.set_cons_zero, List.set_cons_succ]
  refine wpAnyH_named (fun a0 ha0 => ?_)
  have HA0 := Lib.hid ha0
  clear ha0
  refine wpAnyH_float (fuel := 2) (L := fun bs => #[true, bs.getD 0 false, true, bs.getD 1 false, bs.getD 2 false, bs.getD 3 false, false, false]) (ok := fun bs => (!bs.getD 1 false || bs.getD 0 false)) (M := [1, 3, 4, 5]) (fun bs ac u => ∃ x0 x1 x2 x3 : Value, Hid (ac = ((((a0.put (some 20) x0).put (some 22) x1).put (some 7) x2).put (some 8) x3)) ∧ Hid (bs.getD 0 false = true → ArgS u x0 (normS a)) ∧ Hid (bs.getD 1 false = true → ArgS u x1 (normS b)) ∧ Hid (bs.getD 2 false = true → Hz w1.heap.size u x2) ∧ Hid (bs.getD 3 false = true → Hz w1.heap.size u x3) ∧ Hid (bs.getD 2 false = true → bs.getD 3 false = true → x2 ≠ x3) ∧ Hid (Below w1.heap.size w1 u)) (by kernel_rfl) ?_ ?_ 4 [false, false, false, false] _ _ rfl rfl rfl hHeld ⟨undef, undef, undef, undef, Lib.hid (by rw [HA0.out]; simp only [Act.put, List.setIfInBounds_toArray, List.set_cons_zero, List.set_cons_succ]), Lib.hid (fun h => absurd (show false = true from h) (by decide)), Lib.hid (fun h => absurd (show false = true from h) (by decide)), Lib.hid (fun h => absurd (show false = true from h) (by decide)), Lib.hid (fun h => absurd (show false = true from h) (by decide)), Lib.hid (fun h _ => absurd (show false = true from h) (by decide)), HQ0⟩
  · intro j i bs ac u hM hl hb hok hS hJ
    obtain ⟨b0, b1, b2, b3, rfl⟩ : ∃ b0 b1 b2 b3, bs = [b0, b1, b2, b3] := by
      match bs, hl with
      | [b0, b1, b2, b3], _ => exact ⟨b0, b1, b2, b3, rfl⟩
    obtain ⟨x0, x1, x2, x3, ha, f0, f1, f2, f3, f2_3, HQ⟩ := hJ
    obtain rfl := ha.out
    clear ha hS
    rcases j with _ | _ | _ | _ | j
    · obtain rfl : 1 = i := Option.some.inj hM
      obtain rfl : b0 = false := hb
      clear hM hl hok; (try clear hb)
      refine ⟨_, rfl, fun K hK => ?_⟩
      rw [HA0.out]
      simp only [Act.put, List.setIfInBounds_toArray, List.set_cons_zero, List.set_cons_succ]
      go_simp
      refine (r_norm _ _ _ ((XA.out.next HQ.out).has)).mono ?_
      rintro e v ⟨Ra, Rb, Rc, Rd, Re, Rf, Rg, Rh, Ri, rfl, M⟩
      have hb := M.bel
      have HQ1 := HQ.out.trans (hb.mono HQ.out.size)
      exact hK.out _ _ (HSW.out _ HQ1) ⟨.agg #[.slice Ra Rb Rc, .slice Rd Re Rf, .slice Rg Rh Ri], x1, x2, x3, Lib.hid (by rw [HA0.out]; simp only [Act.put, List.setIfInBounds_toArray, List.set_cons_zero, List.set_cons_succ]), Lib.hid (fun _ => ⟨_, _, _, _, _, _, _, _, _, rfl, M.has⟩), Lib.hid (fun h => (f1.out h).next hb), Lib.hid (fun h => (f2.out h).next hb), Lib.hid (fun h => (f3.out h).next hb), f2_3, Lib.hid HQ1⟩
    · obtain rfl : 3 = i := Option.some.inj hM
      obtain rfl : b1 = false := hb
      obtain rfl : b0 = true := by simpa using hok
      clear hM hl hok; (try clear hb)
      refine ⟨_, rfl, fun K hK => ?_⟩
      rw [HA0.out]
      simp only [Act.put, List.setIfInBounds_toArray, List.set_cons_zero, List.set_cons_succ]
      go_simp
      refine (r_norm _ _ _ ((XB.out.next HQ.out).has)).mono ?_
      rintro e v ⟨Ra, Rb, Rc, Rd, Re, Rf, Rg, Rh, Ri, rfl, M⟩
      have hb := M.bel
      have HQ1 := HQ.out.trans (hb.mono HQ.out.size)
      exact hK.out _ _ (HSW.out _ HQ1) ⟨x0, .agg #[.slice Ra Rb Rc, .slice Rd Re Rf, .slice Rg Rh Ri], x2, x3, Lib.hid (by rw [HA0.out]; simp only [Act.put, List.setIfInBounds_toArray, List.set_cons_zero, List.set_cons_succ]), Lib.hid (fun h => (f0.out h).next hb), Lib.hid (fun _ => ⟨_, _, _, _, _, _, _, _, _, rfl, M.has⟩), Lib.hid (fun h => (f2.out h).next hb), Lib.hid (fun h => (f3.out h).next hb), f2_3, Lib.hid HQ1⟩
    · obtain rfl : 4 = i := Option.some.inj hM
      obtain rfl : b2 = false := hb
      clear hM hl hok; (try clear hb)
      refine ⟨_, rfl, fun K hK => ?_⟩
      rw [HA0.out]
      simp only [Act.put, List.setIfInBounds_toArray, List.set_cons_zero, List.set_cons_succ]
      go_simp
      have hb := below_new u (.cells #[.slice none 0 0, .slice none 0 0, .slice none 0 0] 25)
      have HQ1 := HQ.out.alloc HQ.out.size (.cells #[.slice none 0 0, .slice none 0 0, .slice none 0 0] 25)
      exact hK.out _ _ (HSW.out _ HQ1) ⟨x0, x1, .pointer (some ⟨u.heap.size, 0, none⟩), x3, Lib.hid (by rw [HA0.out]; simp only [Act.put, List.setIfInBounds_toArray, List.set_cons_zero, List.set_cons_succ]), Lib.hid (fun h => (f0.out h).next hb), Lib.hid (fun h => (f1.out h).next hb), Lib.hid (fun _ => Hz.new u HQ.out.size), Lib.hid (fun h => (f3.out h).next hb), Lib.hid (fun _ h => (f3.out h).ne'), Lib.hid HQ1⟩
    · obtain rfl : 5 = i := Option.some.inj hM
      obtain rfl : b3 = false := hb
      clear hM hl hok; (try clear hb)
      refine ⟨_, rfl, fun K hK => ?_⟩
      rw [HA0.out]
      simp only [Act.put, List.setIfInBounds_toArray, List.set_cons_zero, List.set_cons_succ]
      go_simp
      have hb := below_new u (.cells #[.slice none 0 0, .slice none 0 0, .slice none 0 0] 25)
      have HQ1 := HQ.out.alloc HQ.out.size (.cells #[.slice none 0 0, .slice none 0 0, .slice none 0 0] 25)
      exact hK.out _ _ (HSW.out _ HQ1) ⟨x0, x1, x2, .pointer (some ⟨u.heap.size, 0, none⟩), Lib.hid (by rw [HA0.out]; simp only [Act.put, List.setIfInBounds_toArray, List.set_cons_zero, List.set_cons_succ]), Lib.hid (fun h => (f0.out h).next hb), Lib.hid (fun h => (f1.out h).next hb), Lib.hid (fun h => (f2.out h).next hb), Lib.hid (fun _ => Hz.new u HQ.out.size), Lib.hid (fun h _ => (f2.out h).ne), Lib.hid HQ1⟩
    · simp at hM
  · intro ac u hS hJ
    obtain ⟨x0, x1, x2, x3, ha, f0, f1, f2, f3, f2_3, HQ⟩ := hJ
    obtain rfl := ha.out
    clear ha
    obtain ⟨X1, Xn1, Xc1, X2, Xn2, Xc2, X3, Xn3, Xc3, rfl, HX⟩ := f0.out rfl
    obtain ⟨Y1, Yn1, Yc1, Y2, Yn2, Yc2, Y3, Yn3, Yc3, rfl, HY⟩ := f1.out rfl
    obtain ⟨gX, zgX1, zgX2, zgX3, zgX4, zgX5, zgX6, zgX7, zgX8, zgX9, rfl, hggX, hzgX⟩ := f2.out rfl
    obtain ⟨gY, zgY1, zgY2, zgY3, zgY4, zgY5, zgY6, zgY7, zgY8, zgY9, rfl, hggY, hzgY⟩ := f3.out rfl
    have hne_gX_gY : gX ≠ gY := fun e => f2_3.out rfl rfl (by rw [e])
    clear f0 f1 f2 f3 f2_3
    rw [HA0.out]
    simp only [Act.put, List.setIfInBounds_toArray, List.set_cons_zero, List.set_cons_succ]
    show wpAnyH _ _ _ _ _ _ #[true, true, true, true, true, true, false, false] _ _
    clear HA0 a0
    have d0 := hzgX.c0; have d1 := hzgX.c1; have d2 := hzgX.c2; have e0 := hzgX.fr 0; have e1 := hzgX.fr 1; have e2 := hzgX.fr 2
    refine wpAnyH_ready (rs := [6]) (by kernel_rfl) (by simp) (AllReadyH.cons rfl (fun K hK => ?_) AllReadyH.nil)
    go_simp
    clear d0 d1 d2 e0 e1 e2
    have XgX : Bx _ gX X1 Xn1 Xc1 X2 Xn2 Xc2 X3 Xn3 Xc3 (normS a) := ⟨hzgX.put (.slice X1 Xn1 Xc1) (.slice X2 Xn2 Xc2) (.slice X3 Xn3 Xc3), has3_put HX hzgX (.slice X1 Xn1 Xc1) (.slice X2 Xn2 Xc2) (.slice X3 Xn3 Xc3)⟩
    replace HY := has3_put HY hzgX (.slice X1 Xn1 Xc1) (.slice X2 Xn2 Xc2) (.slice X3 Xn3 Xc3)
    replace HQ := Lib.hid (below_put3 HQ.out hggX (.slice X1 Xn1 Xc1) (.slice X2 Xn2 Xc2) (.slice X3 Xn3 Xc3))
    replace hzgY := blkS_far hzgY (fun e => hne_gX_gY e) (.slice X1 Xn1 Xc1) (.slice X2 Xn2 Xc2) (.slice X3 Xn3 Xc3)
    refine hK.out _ _ (HSW.out _ HQ.out) (fun hHeld2 => ?_)
    clear hK K hS
    have hS := hHeld2
    clear hHeld2 hzgX HX
    have d0 := hzgY.c0; have d1 := hzgY.c1; have d2 := hzgY.c2; have e0 := hzgY.fr 0; have e1 := hzgY.fr 1; have e2 := hzgY.fr 2
    refine wpAnyH_ready (rs := [7]) (by kernel_rfl) (by simp) (AllReadyH.cons rfl (fun K hK => ?_) AllReadyH.nil)
    go_simp
    clear d0 d1 d2 e0 e1 e2
    replace XgX := bx_far XgX (fun e => hne_gX_gY e.symm) hzgY (.slice Y1 Yn1 Yc1) (.slice Y2 Yn2 Yc2) (.slice Y3 Yn3 Yc3)
    have XgY : Bx _ gY Y1 Yn1 Yc1 Y2 Yn2 Yc2 Y3 Yn3 Yc3 (normS b) := ⟨hzgY.put (.slice Y1 Yn1 Yc1) (.slice Y2 Yn2 Yc2) (.slice Y3 Yn3 Yc3), has3_put HY hzgY (.slice Y1 Yn1 Yc1) (.slice Y2 Yn2 Yc2) (.slice Y3 Yn3 Yc3)⟩
    replace HQ := Lib.hid (below_put3 HQ.out hggY (.slice Y1 Yn1 Yc1) (.slice Y2 Yn2 Yc2) (.slice Y3 Yn3 Yc3))
    refine hK.out _ _ (HSW.out _ HQ.out) (fun hHeld2 => ?_)
    clear hK K hS
    have hS := hHeld2
    clear hHeld2 hzgY HY
    refine wpAnyH_done (by kernel_rfl) ?_ _
    obtain ⟨W5, hW5⟩ : ∃ W5, W5 = ((((((u.setCell ⟨gX, 0, none⟩ (.slice X1 Xn1 Xc1)).setCell ⟨gX, 1, none⟩ (.slice X2 Xn2 Xc2)).setCell ⟨gX, 2, none⟩ (.slice X3 Xn3 Xc3)).setCell ⟨gY, 0, none⟩ (.slice Y1 Yn1 Yc1)).setCell ⟨gY, 1, none⟩ (.slice Y2 Yn2 Yc2)).setCell ⟨gY, 2, none⟩ (.slice Y3 Yn3 Yc3)) := ⟨_, rfl⟩
    rw [← hW5] at XgX XgY HQ ⊢
    clear hW5 HSW hS hggX hggY hne_gX_gY
    replace XA := Lib.hid (XA.out.next HQ.out); replace XB := Lib.hid (XB.out.next HQ.out)
    replace HB := Lib.hid (HB.out.trans (HQ.out.mono HB.out.size))
    have XX := Lib.hid XgX; have XY := Lib.hid XgY
    clear XgX XgY HQ
    have HSW := Lib.hid (show ∀ u, Below W5.heap.size W5 u → u.cell? ⟨g0, 0, none⟩ = some (.slice A1 n1 p1) ∧ u.cell? ⟨g0, 1, none⟩ = some (.slice A2 n2 p2) ∧ u.cell? ⟨g0, 2, none⟩ = some (.slice A3 n3 p3) ∧ u.cell? ⟨g1, 0, none⟩ = some (.slice B1 m1 q1) ∧ u.cell? ⟨g1, 1, none⟩ = some (.slice B2 m2 q2) ∧ u.cell? ⟨g1, 2, none⟩ = some (.slice B3 m3 q3) from fun u hu => ⟨(XA.out.blk.next hu).c0, (XA.out.blk.next hu).c1, (XA.out.blk.next hu).c2, (XB.out.blk.next hu).c0, (XB.out.blk.next hu).c1, (XB.out.blk.next hu).c2⟩)
    go_wp2_with fail
    refine wp_region_held_drew (S := fun u => u.cell? ⟨g0, 0, none⟩ = some (.slice A1 n1 p1) ∧ u.cell? ⟨g0, 1, none⟩ = some (.slice A2 n2 p2) ∧ u.cell? ⟨g0, 2, none⟩ = some (.slice A3 n3 p3) ∧ u.cell? ⟨g1, 0, none⟩ = some (.slice B1 m1 q1) ∧ u.cell? ⟨g1, 1, none⟩ = some (.slice B2 m2 q2) ∧ u.cell? ⟨g1, 2, none⟩ = some (.slice B3 m3 q3)) (by kernel_rfl) (HSW.out _ (Below.refl _ _).drew) (fun hHeld => ?_)
    have HQ0 := Lib.hid (show Below W5.heap.size W5 W5.drew from (Below.refl _ _).drew)
    refine wpAnyH_take (i := 0) (oi := _) (v := ?_) rfl (by kernel_rfl) (by kernel_rfl) (by kernel_rfl) (fun _ _ _ h => h) (Or.inl ⟨by rfl, ?_⟩) (by assumption) ?_
    rotate_left
    · (intro w hSw; (try dsimp only at hSw); (try obtain ⟨s1_, s2_, s3_, s4_, s5_, s6_⟩ := hSw); go_simp <;> with_reducible rfl)
    simp only [List.getElem_toArray, List.getElem_cons_zero, Act.put, List.setIfInBounds_toArray, List.set_cons_zero, List.set_cons_succ]
    refine wpAnyH_take (i := 1) (oi := _) (v := ?_) rfl (by kernel_rfl) (by kernel_rfl) (by kernel_rfl) (fun _ _ _ h => h) (Or.inl ⟨by rfl, ?_⟩) (by assumption) ?_
    rotate_left
    · (intro w hSw; (try dsimp only at hSw); (try obtain ⟨s1_, s2_, s3_, s4_, s5_, s6_⟩ := hSw); go_simp <;> with_reducible rfl)
    simp only [List.getElem_toArray, List.getElem_cons_succ, List.getElem_cons_zero, Act.put, List.setIfInBounds_toArray, List.set_cons_zero, List.set_cons_succ]
    refine wpAnyH_take (i := 3) (oi := _) (v := ?_) rfl (by kernel_rfl) (by kernel_rfl) (by kernel_rfl) (fun _ _ _ h => h) (Or.inl ⟨by rfl, ?_⟩) (by assumption) ?_
    rotate_left
    · (intro w hSw; (try dsimp only at hSw); (try obtain ⟨s1_, s2_, s3_, s4_, s5_, s6_⟩ := hSw); go_simp <;> with_reducible rfl)
    simp only [List.getElem_toArray, List.getElem_cons_succ, List.getElem_cons_zero, Act.put, List.setIfInBounds_toArray, List.set_cons_zero, List.set_cons_succ]
    refine wpAnyH_take (i := 4) (oi := _) (v := ?_) rfl (by kernel_rfl) (by kernel_rfl) (by kernel_rfl) (fun _ _ _ h => h) (Or.inl ⟨by rfl, ?_⟩) (by assumption) ?_
    rotate_left
    · (intro w hSw; (try dsimp only at hSw); (try obtain ⟨s1_, s2_, s3_, s4_, s5_, s6_⟩ := hSw); go_simp <;> with_reducible rfl)
    simp only [List.getElem_toArray, List.getElem_cons_succ, List.getElem_cons_zero, Act.put, List.setIfInBounds_toArray, List.set_cons_zero, List.set_cons_succ]
    refine wpAnyH_take (i := 6) (oi := _) (v := ?_) rfl (by kernel_rfl) (by kernel_rfl) (by kernel_rfl) (fun _ _ _ h => h) (Or.inl ⟨by rfl, ?_⟩) (by assumption) ?_
    rotate_left
    · (intro w hSw; (try dsimp only at hSw); (try obtain ⟨s1_, s2_, s3_, s4_, s5_, s6_⟩ := hSw); go_simp <;> with_reducible rfl)
    simp only [List.getElem_toArray, List.getElem_cons_succ, List.getElem_cons_zero, Act.put, List.setIfInBounds_toArray, List.set_cons_zero, List.set_cons_succ]
    refine wpAnyH_take (i := 7) (oi := _) (v := ?_) rfl (by kernel_rfl) (by kernel_rfl) (by kernel_rfl) (fun _ _ _ h => h) (Or.inl ⟨by rfl, ?_⟩) (by assumption) ?_
    rotate_left
    · (intro w hSw; (try dsimp only at hSw); (try obtain ⟨s1_, s2_, s3_, s4_, s5_, s6_⟩ := hSw); go_simp <;> with_reducible rfl)
    simp only [List.getElem_toArray, List.getElem_cons_succ, List.getElem_cons_zero, Act.put, List.setIfInBounds_toArray, List.set_cons_zero, List.set_cons_succ]
    refine wpAnyH_take (i := 9) (oi := _) (v := ?_) rfl (by kernel_rfl) (by kernel_rfl) (by kernel_rfl) (fun _ _ _ h => h) (Or.inl ⟨by rfl, ?_⟩) (by assumption) ?_
    rotate_left
    · (intro w hSw; (try dsimp only at hSw); (try obtain ⟨s1_, s2_, s3_, s4_, s5_, s6_⟩ := hSw); go_simp <;> with_reducible rfl)
    simp only [List.getElem_toArray, List.getElem_cons_succ, List.getElem_cons_zero, Act.put, List.setIfInBounds_toArray, List.set_cons_zero, List.set_cons_succ]
    refine wpAnyH_named (fun a0 ha0 => ?_)
    have HA0 := Lib.hid ha0
    clear ha0
    refine wpAnyH_float (fuel := 4) (L := fun bs => #[true, true, bs.getD 0 false, true, true, bs.getD 1 false, true, true, bs.getD 2 false, true, bs.getD 3 false, bs.getD 4 false, bs.getD 5 false, bs.getD 6 false, bs.getD 7 false, false, false, false, false]) (ok := fun bs => (!bs.getD 1 false || bs.getD 0 false) && (!bs.getD 2 false || bs.getD 1 false) && (!bs.getD 3 false || bs.getD 2 false)) (M := [2, 5, 8, 10, 11, 12, 13, 14]) (fun bs ac u => ∃ x0 x1 x2 x3 x4 x5 x6 x7 : Value, Hid (ac = ((((((((a0.put (some 25) x0).put (some 28) x1).put (some 31) x2).put (some 33) x3).put (some 9) x4).put (some 10) x5).put (some 11) x6).put (some 12) x7)) ∧ Hid (bs.getD 0 false = true → ArgS u x0 (uni2 a b)) ∧ Hid (bs.getD 1 false = true → ArgS u x1 (meet2 a b)) ∧ Hid (bs.getD 2 false = true → ArgS u x2 (minus2 a b)) ∧ Hid (bs.getD 3 false = true → ArgS u x3 (not2 a)) ∧ Hid (bs.getD 4 false = true → Hz W5.heap.size u x4) ∧ Hid (bs.getD 5 false = true → Hz W5.heap.size u x5) ∧ Hid (bs.getD 6 false = true → Hz W5.heap.size u x6) ∧ Hid (bs.getD 7 false = true → Hz W5.heap.size u x7) ∧ Hid (bs.getD 4 false = true → bs.getD 5 false = true → x4 ≠ x5) ∧ Hid (bs.getD 4 false = true → bs.getD 6 false = true → x4 ≠ x6) ∧ Hid (bs.getD 4 false = true → bs.getD 7 false = true → x4 ≠ x7) ∧ Hid (bs.getD 5 false = true → bs.getD 6 false = true → x5 ≠ x6) ∧ Hid (bs.getD 5 false = true → bs.getD 7 false = true → x5 ≠ x7) ∧ Hid (bs.getD 6 false = true → bs.getD 7 false = true → x6 ≠ x7) ∧ Hid (Below W5.heap.size W5 u)) (by kernel_rfl) ?_ ?_ 8 [false, false, false, false, false, false, false, false] _ _ rfl rfl rfl hHeld ⟨undef, undef, undef, undef, undef, undef, undef, undef, Lib.hid (by rw [HA0.out]; simp only [Act.put, List.setIfInBounds_toArray, List.set_cons_zero, List.set_cons_succ]), Lib.hid (fun h => absurd (show false = true from h) (by decide)), Lib.hid (fun h => absurd (show false = true from h) (by decide)), Lib.hid (fun h => absurd (show false = true from h) (by decide)), Lib.hid (fun h => absurd (show false = true from h) (by decide)), Lib.hid (fun h => absurd (show false = true from h) (by decide)), Lib.hid (fun h => absurd (show false = true from h) (by decide)), Lib.hid (fun h => absurd (show false = true from h) (by decide)), Lib.hid (fun h => absurd (show false = true from h) (by decide)), Lib.hid (fun h _ => absurd (show false = true from h) (by decide)), Lib.hid (fun h _ => absurd (show false = true from h) (by decide)), Lib.hid (fun h _ => absurd (show false = true from h) (by decide)), Lib.hid (fun h _ => absurd (show false = true from h) (by decide)), Lib.hid (fun h _ => absurd (show false = true from h) (by decide)), Lib.hid (fun h _ => absurd (show false = true from h) (by decide)), HQ0⟩
    · intro j i bs ac u hM hl hb hok hS hJ
      obtain ⟨b0, b1, b2, b3, b4, b5, b6, b7, rfl⟩ : ∃ b0 b1 b2 b3 b4 b5 b6 b7, bs = [b0, b1, b2, b3, b4, b5, b6, b7] := by
        match bs, hl with
        | [b0, b1, b2, b3, b4, b5, b6, b7], _ => exact ⟨b0, b1, b2, b3, b4, b5, b6, b7, rfl⟩
      obtain ⟨x0, x1, x2, x3, x4, x5, x6, x7, ha, f0, f1, f2, f3, f4, f5, f6, f7, f4_5, f4_6, f4_7, f5_6, f5_7, f6_7, HQ⟩ := hJ
      obtain rfl := ha.out
      clear ha hS
      rcases j with _ | _ | _ | _ | _ | _ | _ | _ | j
      · obtain rfl : 2 = i := Option.some.inj hM
        obtain rfl : b0 = false := hb
        clear hM hl hok; (try clear hb)
        refine ⟨_, rfl, fun K hK => ?_⟩
        rw [HA0.out]
        simp only [Act.put, List.setIfInBounds_toArray, List.set_cons_zero, List.set_cons_succ]
        go_simp
        refine (r_union _ _ _ _ _ _ ((XA.out.next HQ.out).has) ((XB.out.next HQ.out).has) (by omega)).mono ?_
        rintro e v ⟨Ra, Rb, Rc, Rd, Re, Rf, Rg, Rh, Ri, rfl, M⟩
        have hb := M.bel
        have HQ1 := HQ.out.trans (hb.mono HQ.out.size)
        exact hK.out _ _ (HSW.out _ HQ1) ⟨.agg #[.slice Ra Rb Rc, .slice Rd Re Rf, .slice Rg Rh Ri], x1, x2, x3, x4, x5, x6, x7, Lib.hid (by rw [HA0.out]; simp only [Act.put, List.setIfInBounds_toArray, List.set_cons_zero, List.set_cons_succ]), Lib.hid (fun _ => ⟨_, _, _, _, _, _, _, _, _, rfl, M.has⟩), Lib.hid (fun h => (f1.out h).next hb), Lib.hid (fun h => (f2.out h).next hb), Lib.hid (fun h => (f3.out h).next hb), Lib.hid (fun h => (f4.out h).next hb), Lib.hid (fun h => (f5.out h).next hb), Lib.hid (fun h => (f6.out h).next hb), Lib.hid (fun h => (f7.out h).next hb), f4_5, f4_6, f4_7, f5_6, f5_7, f6_7, Lib.hid HQ1⟩
      · obtain rfl : 5 = i := Option.some.inj hM
        obtain rfl : b1 = false := hb
        obtain rfl : b0 = true := by (have h := hok; revert h; cases b0 <;> simp)
        clear hM hl hok; (try clear hb)
        refine ⟨_, rfl, fun K hK => ?_⟩
        rw [HA0.out]
        simp only [Act.put, List.setIfInBounds_toArray, List.set_cons_zero, List.set_cons_succ]
        go_simp
        refine (r_meet2 _ _ _ _ _ _ ((XA.out.next HQ.out).has) ((XB.out.next HQ.out).has) (by omega)).mono ?_
        rintro e v ⟨Ra, Rb, Rc, Rd, Re, Rf, Rg, Rh, Ri, rfl, M⟩
        have hb := M.bel
        have HQ1 := HQ.out.trans (hb.mono HQ.out.size)
        exact hK.out _ _ (HSW.out _ HQ1) ⟨x0, .agg #[.slice Ra Rb Rc, .slice Rd Re Rf, .slice Rg Rh Ri], x2, x3, x4, x5, x6, x7, Lib.hid (by rw [HA0.out]; simp only [Act.put, List.setIfInBounds_toArray, List.set_cons_zero, List.set_cons_succ]), Lib.hid (fun h => (f0.out h).next hb), Lib.hid (fun _ => ⟨_, _, _, _, _, _, _, _, _, rfl, M.has⟩), Lib.hid (fun h => (f2.out h).next hb), Lib.hid (fun h => (f3.out h).next hb), Lib.hid (fun h => (f4.out h).next hb), Lib.hid (fun h => (f5.out h).next hb), Lib.hid (fun h => (f6.out h).next hb), Lib.hid (fun h => (f7.out h).next hb), f4_5, f4_6, f4_7, f5_6, f5_7, f6_7, Lib.hid HQ1⟩
      · obtain rfl : 8 = i := Option.some.inj hM
        obtain rfl : b2 = false := hb
        obtain rfl : b1 = true := by (have h := hok; revert h; cases b1 <;> simp)
        clear hM hl hok; (try clear hb)
        refine ⟨_, rfl, fun K hK => ?_⟩
        rw [HA0.out]
        simp only [Act.put, List.setIfInBounds_toArray, List.set_cons_zero, List.set_cons_succ]
        go_simp
        refine (r_minus _ _ _ _ _ _ ((XA.out.next HQ.out).has) ((XB.out.next HQ.out).has) (by omega)).mono ?_
        rintro e v ⟨Ra, Rb, Rc, Rd, Re, Rf, Rg, Rh, Ri, rfl, M⟩
        have hb := M.bel
        have HQ1 := HQ.out.trans (hb.mono HQ.out.size)
        exact hK.out _ _ (HSW.out _ HQ1) ⟨x0, x1, .agg #[.slice Ra Rb Rc, .slice Rd Re Rf, .slice Rg Rh Ri], x3, x4, x5, x6, x7, Lib.hid (by rw [HA0.out]; simp only [Act.put, List.setIfInBounds_toArray, List.set_cons_zero, List.set_cons_succ]), Lib.hid (fun h => (f0.out h).next hb), Lib.hid (fun h => (f1.out h).next hb), Lib.hid (fun _ => ⟨_, _, _, _, _, _, _, _, _, rfl, M.has⟩), Lib.hid (fun h => (f3.out h).next hb), Lib.hid (fun h => (f4.out h).next hb), Lib.hid (fun h => (f5.out h).next hb), Lib.hid (fun h => (f6.out h).next hb), Lib.hid (fun h => (f7.out h).next hb), f4_5, f4_6, f4_7, f5_6, f5_7, f6_7, Lib.hid HQ1⟩
      · obtain rfl : 10 = i := Option.some.inj hM
        obtain rfl : b3 = false := hb
        obtain rfl : b2 = true := by (have h := hok; revert h; cases b2 <;> simp)
        clear hM hl hok; (try clear hb)
        refine ⟨_, rfl, fun K hK => ?_⟩
        rw [HA0.out]
        simp only [Act.put, List.setIfInBounds_toArray, List.set_cons_zero, List.set_cons_succ]
        go_simp
        refine (r_not2 _ _ _ ((XA.out.next HQ.out).has)).mono ?_
        rintro e v ⟨Ra, Rb, Rc, Rd, Re, Rf, Rg, Rh, Ri, rfl, M⟩
        have hb := M.bel
        have HQ1 := HQ.out.trans (hb.mono HQ.out.size)
        exact hK.out _ _ (HSW.out _ HQ1) ⟨x0, x1, x2, .agg #[.slice Ra Rb Rc, .slice Rd Re Rf, .slice Rg Rh Ri], x4, x5, x6, x7, Lib.hid (by rw [HA0.out]; simp only [Act.put, List.setIfInBounds_toArray, List.set_cons_zero, List.set_cons_succ]), Lib.hid (fun h => (f0.out h).next hb), Lib.hid (fun h => (f1.out h).next hb), Lib.hid (fun h => (f2.out h).next hb), Lib.hid (fun _ => ⟨_, _, _, _, _, _, _, _, _, rfl, M.has⟩), Lib.hid (fun h => (f4.out h).next hb), Lib.hid (fun h => (f5.out h).next hb), Lib.hid (fun h => (f6.out h).next hb), Lib.hid (fun h => (f7.out h).next hb), f4_5, f4_6, f4_7, f5_6, f5_7, f6_7, Lib.hid HQ1⟩
      · obtain rfl : 11 = i := Option.some.inj hM
        obtain rfl : b4 = false := hb
        clear hM hl hok; (try clear hb)
        refine ⟨_, rfl, fun K hK => ?_⟩
        rw [HA0.out]
        simp only [Act.put, List.setIfInBounds_toArray, List.set_cons_zero, List.set_cons_succ]
        go_simp
        have hb := below_new u (.cells #[.slice none 0 0, .slice none 0 0, .slice none 0 0] 25)
        have HQ1 := HQ.out.alloc HQ.out.size (.cells #[.slice none 0 0, .slice none 0 0, .slice none 0 0] 25)
        exact hK.out _ _ (HSW.out _ HQ1) ⟨x0, x1, x2, x3, .pointer (some ⟨u.heap.size, 0, none⟩), x5, x6, x7, Lib.hid (by rw [HA0.out]; simp only [Act.put, List.setIfInBounds_toArray, List.set_cons_zero, List.set_cons_succ]), Lib.hid (fun h => (f0.out h).next hb), Lib.hid (fun h => (f1.out h).next hb), Lib.hid (fun h => (f2.out h).next hb), Lib.hid (fun h => (f3.out h).next hb), Lib.hid (fun _ => Hz.new u HQ.out.size), Lib.hid (fun h => (f5.out h).next hb), Lib.hid (fun h => (f6.out h).next hb), Lib.hid (fun h => (f7.out h).next hb), Lib.hid (fun _ h => (f5.out h).ne'), Lib.hid (fun _ h => (f6.out h).ne'), Lib.hid (fun _ h => (f7.out h).ne'), f5_6, f5_7, f6_7, Lib.hid HQ1⟩
      · obtain rfl : 12 = i := Option.some.inj hM
        obtain rfl : b5 = false := hb
        clear hM hl hok; (try clear hb)
        refine ⟨_, rfl, fun K hK => ?_⟩
        rw [HA0.out]
        simp only [Act.put, List.setIfInBounds_toArray, List.set_cons_zero, List.set_cons_succ]
        go_simp
        have hb := below_new u (.cells #[.slice none 0 0, .slice none 0 0, .slice none 0 0] 25)
        have HQ1 := HQ.out.alloc HQ.out.size (.cells #[.slice none 0 0, .slice none 0 0, .slice none 0 0] 25)
        exact hK.out _ _ (HSW.out _ HQ1) ⟨x0, x1, x2, x3, x4, .pointer (some ⟨u.heap.size, 0, none⟩), x6, x7, Lib.hid (by rw [HA0.out]; simp only [Act.put, List.setIfInBounds_toArray, List.set_cons_zero, List.set_cons_succ]), Lib.hid (fun h => (f0.out h).next hb), Lib.hid (fun h => (f1.out h).next hb), Lib.hid (fun h => (f2.out h).next hb), Lib.hid (fun h => (f3.out h).next hb), Lib.hid (fun h => (f4.out h).next hb), Lib.hid (fun _ => Hz.new u HQ.out.size), Lib.hid (fun h => (f6.out h).next hb), Lib.hid (fun h => (f7.out h).next hb), Lib.hid (fun h _ => (f4.out h).ne), f4_6, f4_7, Lib.hid (fun _ h => (f6.out h).ne'), Lib.hid (fun _ h => (f7.out h).ne'), f6_7, Lib.hid HQ1⟩
      · obtain rfl : 13 = i := Option.some.inj hM
        obtain rfl : b6 = false := hb
        clear hM hl hok; (try clear hb)
        refine ⟨_, rfl, fun K hK => ?_⟩
        rw [HA0.out]
        simp only [Act.put, List.setIfInBounds_toArray, List.set_cons_zero, List.set_cons_succ]
        go_simp
        have hb := below_new u (.cells #[.slice none 0 0, .slice none 0 0, .slice none 0 0] 25)
        have HQ1 := HQ.out.alloc HQ.out.size (.cells #[.slice none 0 0, .slice none 0 0, .slice none 0 0] 25)
        exact hK.out _ _ (HSW.out _ HQ1) ⟨x0, x1, x2, x3, x4, x5, .pointer (some ⟨u.heap.size, 0, none⟩), x7, Lib.hid (by rw [HA0.out]; simp only [Act.put, List.setIfInBounds_toArray, List.set_cons_zero, List.set_cons_succ]), Lib.hid (fun h => (f0.out h).next hb), Lib.hid (fun h => (f1.out h).next hb), Lib.hid (fun h => (f2.out h).next hb), Lib.hid (fun h => (f3.out h).next hb), Lib.hid (fun h => (f4.out h).next hb), Lib.hid (fun h => (f5.out h).next hb), Lib.hid (fun _ => Hz.new u HQ.out.size), Lib.hid (fun h => (f7.out h).next hb), f4_5, Lib.hid (fun h _ => (f4.out h).ne), f4_7, Lib.hid (fun h _ => (f5.out h).ne), f5_7, Lib.hid (fun _ h => (f7.out h).ne'), Lib.hid HQ1⟩
      · obtain rfl : 14 = i := Option.some.inj hM
        obtain rfl : b7 = false := hb
        clear hM hl hok; (try clear hb)
        refine ⟨_, rfl, fun K hK => ?_⟩
        rw [HA0.out]
        simp only [Act.put, List.setIfInBounds_toArray, List.set_cons_zero, List.set_cons_succ]
        go_simp
        have hb := below_new u (.cells #[.slice none 0 0, .slice none 0 0, .slice none 0 0] 25)
        have HQ1 := HQ.out.alloc HQ.out.size (.cells #[.slice none 0 0, .slice none 0 0, .slice none 0 0] 25)
        exact hK.out _ _ (HSW.out _ HQ1) ⟨x0, x1, x2, x3, x4, x5, x6, .pointer (some ⟨u.heap.size, 0, none⟩), Lib.hid (by rw [HA0.out]; simp only [Act.put, List.setIfInBounds_toArray, List.set_cons_zero, List.set_cons_succ]), Lib.hid (fun h => (f0.out h).next hb), Lib.hid (fun h => (f1.out h).next hb), Lib.hid (fun h => (f2.out h).next hb), Lib.hid (fun h => (f3.out h).next hb), Lib.hid (fun h => (f4.out h).next hb), Lib.hid (fun h => (f5.out h).next hb), Lib.hid (fun h => (f6.out h).next hb), Lib.hid (fun _ => Hz.new u HQ.out.size), f4_5, f4_6, Lib.hid (fun h _ => (f4.out h).ne), f5_6, Lib.hid (fun h _ => (f5.out h).ne), Lib.hid (fun h _ => (f6.out h).ne), Lib.hid HQ1⟩
      · simp at hM
    · intro ac u hS hJ
      obtain ⟨x0, x1, x2, x3, x4, x5, x6, x7, ha, f0, f1, f2, f3, f4, f5, f6, f7, f4_5, f4_6, f4_7, f5_6, f5_7, f6_7, HQ⟩ := hJ
      obtain rfl := ha.out
      clear ha
      obtain ⟨U1, Un1, Uc1, U2, Un2, Uc2, U3, Un3, Uc3, rfl, HU⟩ := f0.out rfl
      obtain ⟨M1, Mn1, Mc1, M2, Mn2, Mc2, M3, Mn3, Mc3, rfl, HM⟩ := f1.out rfl
      obtain ⟨D1, Dn1, Dc1, D2, Dn2, Dc2, D3, Dn3, Dc3, rfl, HD⟩ := f2.out rfl
      obtain ⟨N1, Nn1, Nc1, N2, Nn2, Nc2, N3, Nn3, Nc3, rfl, HN⟩ := f3.out rfl
      obtain ⟨gU, zgU1, zgU2, zgU3, zgU4, zgU5, zgU6, zgU7, zgU8, zgU9, rfl, hggU, hzgU⟩ := f4.out rfl
      obtain ⟨gM, zgM1, zgM2, zgM3, zgM4, zgM5, zgM6, zgM7, zgM8, zgM9, rfl, hggM, hzgM⟩ := f5.out rfl
      obtain ⟨gD, zgD1, zgD2, zgD3, zgD4, zgD5, zgD6, zgD7, zgD8, zgD9, rfl, hggD, hzgD⟩ := f6.out rfl
      obtain ⟨gN, zgN1, zgN2, zgN3, zgN4, zgN5, zgN6, zgN7, zgN8, zgN9, rfl, hggN, hzgN⟩ := f7.out rfl
      have hne_gU_gM : gU ≠ gM := fun e => f4_5.out rfl rfl (by rw [e])
      have hne_gU_gD : gU ≠ gD := fun e => f4_6.out rfl rfl (by rw [e])
      have hne_gU_gN : gU ≠ gN := fun e => f4_7.out rfl rfl (by rw [e])
      have hne_gM_gD : gM ≠ gD := fun e => f5_6.out rfl rfl (by rw [e])
      have hne_gM_gN : gM ≠ gN := fun e => f5_7.out rfl rfl (by rw [e])
      have hne_gD_gN : gD ≠ gN := fun e => f6_7.out rfl rfl (by rw [e])
      clear f0 f1 f2 f3 f4 f5 f6 f7 f4_5 f4_6 f4_7 f5_6 f5_7 f6_7
      rw [HA0.out]
      simp only [Act.put, List.setIfInBounds_toArray, List.set_cons_zero, List.set_cons_succ]
      show wpAnyH _ _ _ _ _ _ #[true, true, true, true, true, true, true, true, true, true, true, true, true, true, true, false, false, false, false] _ _
      clear HA0 a0
      have d0 := hzgU.c0; have d1 := hzgU.c1; have d2 := hzgU.c2; have e0 := hzgU.fr 0; have e1 := hzgU.fr 1; have e2 := hzgU.fr 2
      refine wpAnyH_ready (rs := [15]) (by kernel_rfl) (by simp) (AllReadyH.cons rfl (fun K hK => ?_) AllReadyH.nil)
      go_simp
      clear d0 d1 d2 e0 e1 e2
      have XgU : Bx _ gU U1 Un1 Uc1 U2 Un2 Uc2 U3 Un3 Uc3 (uni2 a b) := ⟨hzgU.put (.slice U1 Un1 Uc1) (.slice U2 Un2 Uc2) (.slice U3 Un3 Uc3), has3_put HU hzgU (.slice U1 Un1 Uc1) (.slice U2 Un2 Uc2) (.slice U3 Un3 Uc3)⟩
      replace HM := has3_put HM hzgU (.slice U1 Un1 Uc1) (.slice U2 Un2 Uc2) (.slice U3 Un3 Uc3)
      replace HD := has3_put HD hzgU (.slice U1 Un1 Uc1) (.slice U2 Un2 Uc2) (.slice U3 Un3 Uc3)
      replace HN := has3_put HN hzgU (.slice U1 Un1 Uc1) (.slice U2 Un2 Uc2) (.slice U3 Un3 Uc3)
      replace HQ := Lib.hid (below_put3 HQ.out hggU (.slice U1 Un1 Uc1) (.slice U2 Un2 Uc2) (.slice U3 Un3 Uc3))
      replace hzgM := blkS_far hzgM (fun e => hne_gU_gM e) (.slice U1 Un1 Uc1) (.slice U2 Un2 Uc2) (.slice U3 Un3 Uc3)
      replace hzgD := blkS_far hzgD (fun e => hne_gU_gD e) (.slice U1 Un1 Uc1) (.slice U2 Un2 Uc2) (.slice U3 Un3 Uc3)
      replace hzgN := blkS_far hzgN (fun e => hne_gU_gN e) (.slice U1 Un1 Uc1) (.slice U2 Un2 Uc2) (.slice U3 Un3 Uc3)
      refine hK.out _ _ (HSW.out _ HQ.out) (fun hHeld2 => ?_)
      clear hK K hS
      have hS := hHeld2
      clear hHeld2 hzgU HU
      have d0 := hzgM.c0; have d1 := hzgM.c1; have d2 := hzgM.c2; have e0 := hzgM.fr 0; have e1 := hzgM.fr 1; have e2 := hzgM.fr 2
      refine wpAnyH_ready (rs := [16]) (by kernel_rfl) (by simp) (AllReadyH.cons rfl (fun K hK => ?_) AllReadyH.nil)
      go_simp
      clear d0 d1 d2 e0 e1 e2
      replace XgU := bx_far XgU (fun e => hne_gU_gM e.symm) hzgM (.slice M1 Mn1 Mc1) (.slice M2 Mn2 Mc2) (.slice M3 Mn3 Mc3)
      have XgM : Bx _ gM M1 Mn1 Mc1 M2 Mn2 Mc2 M3 Mn3 Mc3 (meet2 a b) := ⟨hzgM.put (.slice M1 Mn1 Mc1) (.slice M2 Mn2 Mc2) (.slice M3 Mn3 Mc3), has3_put HM hzgM (.slice M1 Mn1 Mc1) (.slice M2 Mn2 Mc2) (.slice M3 Mn3 Mc3)⟩
      replace HD := has3_put HD hzgM (.slice M1 Mn1 Mc1) (.slice M2 Mn2 Mc2) (.slice M3 Mn3 Mc3)
      replace HN := has3_put HN hzgM (.slice M1 Mn1 Mc1) (.slice M2 Mn2 Mc2) (.slice M3 Mn3 Mc3)
      replace HQ := Lib.hid (below_put3 HQ.out hggM (.slice M1 Mn1 Mc1) (.slice M2 Mn2 Mc2) (.slice M3 Mn3 Mc3))
      replace hzgD := blkS_far hzgD (fun e => hne_gM_gD e) (.slice M1 Mn1 Mc1) (.slice M2 Mn2 Mc2) (.slice M3 Mn3 Mc3)
      replace hzgN := blkS_far hzgN (fun e => hne_gM_gN e) (.slice M1 Mn1 Mc1) (.slice M2 Mn2 Mc2) (.slice M3 Mn3 Mc3)
      refine hK.out _ _ (HSW.out _ HQ.out) (fun hHeld2 => ?_)
      clear hK K hS
      have hS := hHeld2
      clear hHeld2 hzgM HM
      have d0 := hzgD.c0; have d1 := hzgD.c1; have d2 := hzgD.c2; have e0 := hzgD.fr 0; have e1 := hzgD.fr 1; have e2 := hzgD.fr 2
      refine wpAnyH_ready (rs := [17]) (by kernel_rfl) (by simp) (AllReadyH.cons rfl (fun K hK => ?_) AllReadyH.nil)
      go_simp
      clear d0 d1 d2 e0 e1 e2
      replace XgU := bx_far XgU (fun e => hne_gU_gD e.symm) hzgD (.slice D1 Dn1 Dc1) (.slice D2 Dn2 Dc2) (.slice D3 Dn3 Dc3)
      replace XgM := bx_far XgM (fun e => hne_gM_gD e.symm) hzgD (.slice D1 Dn1 Dc1) (.slice D2 Dn2 Dc2) (.slice D3 Dn3 Dc3)
      have XgD : Bx _ gD D1 Dn1 Dc1 D2 Dn2 Dc2 D3 Dn3 Dc3 (minus2 a b) := ⟨hzgD.put (.slice D1 Dn1 Dc1) (.slice D2 Dn2 Dc2) (.slice D3 Dn3 Dc3), has3_put HD hzgD (.slice D1 Dn1 Dc1) (.slice D2 Dn2 Dc2) (.slice D3 Dn3 Dc3)⟩
      replace HN := has3_put HN hzgD (.slice D1 Dn1 Dc1) (.slice D2 Dn2 Dc2) (.slice D3 Dn3 Dc3)
      replace HQ := Lib.hid (below_put3 HQ.out hggD (.slice D1 Dn1 Dc1) (.slice D2 Dn2 Dc2) (.slice D3 Dn3 Dc3))
      replace hzgN := blkS_far hzgN (fun e => hne_gD_gN e) (.slice D1 Dn1 Dc1) (.slice D2 Dn2 Dc2) (.slice D3 Dn3 Dc3)
      refine hK.out _ _ (HSW.out _ HQ.out) (fun hHeld2 => ?_)
      clear hK K hS
      have hS := hHeld2
      clear hHeld2 hzgD HD
      have d0 := hzgN.c0; have d1 := hzgN.c1; have d2 := hzgN.c2; have e0 := hzgN.fr 0; have e1 := hzgN.fr 1; have e2 := hzgN.fr 2
      refine wpAnyH_ready (rs := [18]) (by kernel_rfl) (by simp) (AllReadyH.cons rfl (fun K hK => ?_) AllReadyH.nil)
      go_simp
      clear d0 d1 d2 e0 e1 e2
      replace XgU := bx_far XgU (fun e => hne_gU_gN e.symm) hzgN (.slice N1 Nn1 Nc1) (.slice N2 Nn2 Nc2) (.slice N3 Nn3 Nc3)
      replace XgM := bx_far XgM (fun e => hne_gM_gN e.symm) hzgN (.slice N1 Nn1 Nc1) (.slice N2 Nn2 Nc2) (.slice N3 Nn3 Nc3)
      replace XgD := bx_far XgD (fun e => hne_gD_gN e.symm) hzgN (.slice N1 Nn1 Nc1) (.slice N2 Nn2 Nc2) (.slice N3 Nn3 Nc3)
      have XgN : Bx _ gN N1 Nn1 Nc1 N2 Nn2 Nc2 N3 Nn3 Nc3 (not2 a) := ⟨hzgN.put (.slice N1 Nn1 Nc1) (.slice N2 Nn2 Nc2) (.slice N3 Nn3 Nc3), has3_put HN hzgN (.slice N1 Nn1 Nc1) (.slice N2 Nn2 Nc2) (.slice N3 Nn3 Nc3)⟩
      replace HQ := Lib.hid (below_put3 HQ.out hggN (.slice N1 Nn1 Nc1) (.slice N2 Nn2 Nc2) (.slice N3 Nn3 Nc3))
      refine hK.out _ _ (HSW.out _ HQ.out) (fun hHeld2 => ?_)
      clear hK K hS
      have hS := hHeld2
      clear hHeld2 hzgN HN
      refine wpAnyH_done (by kernel_rfl) ?_ _
      obtain ⟨W6, hW6⟩ : ∃ W6, W6 = ((((((((((((u.setCell ⟨gU, 0, none⟩ (.slice U1 Un1 Uc1)).setCell ⟨gU, 1, none⟩ (.slice U2 Un2 Uc2)).setCell ⟨gU, 2, none⟩ (.slice U3 Un3 Uc3)).setCell ⟨gM, 0, none⟩ (.slice M1 Mn1 Mc1)).setCell ⟨gM, 1, none⟩ (.slice M2 Mn2 Mc2)).setCell ⟨gM, 2, none⟩ (.slice M3 Mn3 Mc3)).setCell ⟨gD, 0, none⟩ (.slice D1 Dn1 Dc1)).setCell ⟨gD, 1, none⟩ (.slice D2 Dn2 Dc2)).setCell ⟨gD, 2, none⟩ (.slice D3 Dn3 Dc3)).setCell ⟨gN, 0, none⟩ (.slice N1 Nn1 Nc1)).setCell ⟨gN, 1, none⟩ (.slice N2 Nn2 Nc2)).setCell ⟨gN, 2, none⟩ (.slice N3 Nn3 Nc3)) := ⟨_, rfl⟩
      rw [← hW6] at XgU XgM XgD XgN HQ ⊢
      replace XX := Lib.hid (XX.out.next HQ.out); replace XY := Lib.hid (XY.out.next HQ.out)
      replace HB := Lib.hid (HB.out.trans (HQ.out.mono HB.out.size))
      have XU := Lib.hid XgU; have XM := Lib.hid XgM; have XD := Lib.hid XgD; have XN := Lib.hid XgN
      have hXn : Xn3 ≤ 1048576 := by have h1 := XX.out.has.o.len; have h2 := normS_len a; have h3 := XA.out.has.o.len; omega
      have hYn : Yn3 ≤ 1048576 := by have h1 := XY.out.has.o.len; have h2 := normS_len b; have h3 := XB.out.has.o.len; omega
      clear hW6 HSW hS hggU hggM hggD hggN hne_gU_gM hne_gU_gD hne_gU_gN hne_gM_gD hne_gM_gN hne_gD_gN XgU XgM XgD XgN HQ XA XB
      have l0 := XU.out.blk.c0; have l1 := XU.out.blk.c1; have l2 := XU.out.blk.c2
      go_wp2_with fail
      refine (r_may _ _ _ XU.out.has (decide_eq_true (normS_id (uni2_nm a b)))).mono ?_
      rintro e y0 ⟨rfl, hb⟩
      clear l0 l1 l2
      replace XX := Lib.hid (XX.out.next hb)
      replace XY := Lib.hid (XY.out.next hb)
      replace XU := Lib.hid (XU.out.next hb)
      replace XM := Lib.hid (XM.out.next hb)
      replace XD := Lib.hid (XD.out.next hb)
      replace XN := Lib.hid (XN.out.next hb)
      replace HB := Lib.hid (HB.out.trans (hb.mono HB.out.size))
      clear hb
      have l0 := XM.out.blk.c0; have l1 := XM.out.blk.c1; have l2 := XM.out.blk.c2
      go_wp2_with fail
      refine (r_may _ _ _ XM.out.has (decide_eq_true (normS_id (meet2_nm a b)))).mono ?_
      rintro e y1 ⟨rfl, hb⟩
      clear l0 l1 l2
      replace XX := Lib.hid (XX.out.next hb)
      replace XY := Lib.hid (XY.out.next hb)
      replace XU := Lib.hid (XU.out.next hb)
      replace XM := Lib.hid (XM.out.next hb)
      replace XD := Lib.hid (XD.out.next hb)
      replace XN := Lib.hid (XN.out.next hb)
      replace HB := Lib.hid (HB.out.trans (hb.mono HB.out.size))
      clear hb
      have l0 := XD.out.blk.c0; have l1 := XD.out.blk.c1; have l2 := XD.out.blk.c2
      go_wp2_with fail
      refine (r_may _ _ _ XD.out.has (decide_eq_true (normS_id (minus2_nm a b)))).mono ?_
      rintro e y2 ⟨rfl, hb⟩
      clear l0 l1 l2
      replace XX := Lib.hid (XX.out.next hb)
      replace XY := Lib.hid (XY.out.next hb)
      replace XU := Lib.hid (XU.out.next hb)
      replace XM := Lib.hid (XM.out.next hb)
      replace XD := Lib.hid (XD.out.next hb)
      replace XN := Lib.hid (XN.out.next hb)
      replace HB := Lib.hid (HB.out.trans (hb.mono HB.out.size))
      clear hb
      have l0 := XN.out.blk.c0; have l1 := XN.out.blk.c1; have l2 := XN.out.blk.c2
      go_wp2_with fail
      refine (r_may _ _ _ XN.out.has (decide_eq_true (normS_id (not2_nm a)))).mono ?_
      rintro e y3 ⟨rfl, hb⟩
      clear l0 l1 l2
      replace XX := Lib.hid (XX.out.next hb)
      replace XY := Lib.hid (XY.out.next hb)
      replace XU := Lib.hid (XU.out.next hb)
      replace XM := Lib.hid (XM.out.next hb)
      replace XD := Lib.hid (XD.out.next hb)
      replace XN := Lib.hid (XN.out.next hb)
      replace HB := Lib.hid (HB.out.trans (hb.mono HB.out.size))
      clear hb
      have HTy := Lib.hid (HT.out.next HB.out)
      have hTy := HT.out.len
      have HSW := Lib.hid (show ∀ u, Below y3.heap.size y3 u → u.cell? ⟨gX, 2, none⟩ = some (.slice X3 Xn3 Xc3) ∧ u.cell? ⟨gY, 2, none⟩ = some (.slice Y3 Yn3 Yc3) from fun u hu => ⟨(XX.out.blk.next hu).c2, (XY.out.blk.next hu).c2⟩)
      go_wp2_with fail
      refine wp_region_held_drew (S := fun u => u.cell? ⟨gX, 2, none⟩ = some (.slice X3 Xn3 Xc3) ∧ u.cell? ⟨gY, 2, none⟩ = some (.slice Y3 Yn3 Yc3)) (by kernel_rfl) (HSW.out _ (Below.refl _ _).drew) (fun hHeld => ?_)
      have HQ0 := Lib.hid (show Below y3.heap.size y3 y3.drew from (Below.refl _ _).drew)
      refine wpAnyH_take (i := 1) (oi := _) (v := ?_) rfl (by kernel_rfl) (by kernel_rfl) (by kernel_rfl) (fun _ _ _ h => h) (Or.inl ⟨by rfl, ?_⟩) (by assumption) ?_
      rotate_left
      · (intro w hSw; (try dsimp only at hSw); (try obtain ⟨s1_, s2_⟩ := hSw); go_simp <;> with_reducible rfl)
      simp only [List.getElem_toArray, List.getElem_cons_succ, List.getElem_cons_zero, Act.put, List.setIfInBounds_toArray, List.set_cons_zero, List.set_cons_succ]
      refine wpAnyH_take (i := 3) (oi := _) (v := ?_) rfl (by kernel_rfl) (by kernel_rfl) (by kernel_rfl) (fun _ _ _ h => h) (Or.inl ⟨by rfl, ?_⟩) (by assumption) ?_
      rotate_left
      · (intro w hSw; (try dsimp only at hSw); (try obtain ⟨s1_, s2_⟩ := hSw); go_simp <;> with_reducible rfl)
      simp only [List.getElem_toArray, List.getElem_cons_succ, List.getElem_cons_zero, Act.put, List.setIfInBounds_toArray, List.set_cons_zero, List.set_cons_succ]
      refine wpAnyH_take (i := 4) (oi := _) (v := ?_) rfl (by kernel_rfl) (by kernel_rfl) (by kernel_rfl) (fun _ _ _ h => h) (Or.inl ⟨by rfl, ?_⟩) (by assumption) ?_
      rotate_left
      · (intro w hSw; (try dsimp only at hSw); (try obtain ⟨s1_, s2_⟩ := hSw); go_simp <;> with_reducible rfl)
      simp only [List.getElem_toArray, List.getElem_cons_succ, List.getElem_cons_zero, Act.put, List.setIfInBounds_toArray, List.set_cons_zero, List.set_cons_succ]
      refine wpAnyH_take (i := 6) (oi := _) (v := ?_) rfl (by kernel_rfl) (by kernel_rfl) (by kernel_rfl) (fun _ _ _ h => h) (Or.inl ⟨by rfl, ?_⟩) (by assumption) ?_
      rotate_left
      · (intro w hSw; (try dsimp only at hSw); (try obtain ⟨s1_, s2_⟩ := hSw); go_simp <;> with_reducible rfl)
      simp only [List.getElem_toArray, List.getElem_cons_succ, List.getElem_cons_zero, Act.put, List.setIfInBounds_toArray, List.set_cons_zero, List.set_cons_succ]
      refine wpAnyH_take (i := 7) (oi := _) (v := ?_) rfl (by kernel_rfl) (by kernel_rfl) (by kernel_rfl) (fun _ _ _ h => h) (Or.inl ⟨by rfl, ?_⟩) (by assumption) ?_
      rotate_left
      · (intro w hSw; (try dsimp only at hSw); (try obtain ⟨s1_, s2_⟩ := hSw); go_simp <;> with_reducible rfl)
      simp only [List.getElem_toArray, List.getElem_cons_succ, List.getElem_cons_zero, Act.put, List.setIfInBounds_toArray, List.set_cons_zero, List.set_cons_succ]
      refine wpAnyH_take (i := 10) (oi := _) (v := ?_) rfl (by kernel_rfl) (by kernel_rfl) (by kernel_rfl) (fun _ _ _ h => h) (Or.inl ⟨by rfl, ?_⟩) (by assumption) ?_
      rotate_left
      · (intro w hSw; (try dsimp only at hSw); (try obtain ⟨s1_, s2_⟩ := hSw); go_simp <;> with_reducible rfl)
      simp only [List.getElem_toArray, List.getElem_cons_succ, List.getElem_cons_zero, Act.put, List.setIfInBounds_toArray, List.set_cons_zero, List.set_cons_succ]
      refine wpAnyH_ready (rs := [0]) (by kernel_rfl) (by simp) (AllReadyH.cons rfl (fun K hK => ?_) AllReadyH.nil)
      go_simp
      have HQ1 := Lib.hid (HQ0.out.alloc HQ0.out.size (.cells #[] 9))
      have HO1 := Lib.hid (show (y3.drew.alloc (.cells #[] 9)).ownsRow y3.heap.size 9 1 (.slice (some ⟨y3.drew.heap.size, 0, none⟩) 0 0) 0 [] from World.ownsRow_lit y3.drew #[] 0 (Nat.le_refl _) (by unfold maxLen; omega) rfl)
      refine hK.out _ _ (HSW.out _ HQ1.out) (fun hHeld2 => ?_)
      clear hK K hHeld
      have hHeld := hHeld2
      clear hHeld2
      refine wpAnyH_ready (rs := [2]) (by kernel_rfl) (by simp) (AllReadyH.cons rfl (fun K hK => ?_) AllReadyH.nil)
      simp only [List.getElem_toArray, List.getElem_cons_succ, List.getElem_cons_zero, Act.put, List.setIfInBounds_toArray, List.set_cons_zero, List.set_cons_succ]
      rw [if_pos (by rfl)]
      refine Utf.wp_append_rd _ (.tmp 52) (.tmp 53) _ rfl y3.heap.size 9 i0 _ 1 16 Tryz.underlying23 hi hz0 hz1 hz2 rfl (by decide) _ (0) ([]) rfl HO1.out _ Tp nt ct (txs T) rfl (by rw [txs_len, Nat.mul_one]; exact hTy) ((HTy.out.rd.below HQ1.out)) (txs_one _) (by unfold maxLen; omega) (by omega) HQ1.out.size ?_
      intro v2 w5 ho hg hjunk
      clear hjunk
      rw [Nat.zero_add, List.nil_append] at ho
      have HQ2 := Lib.hid (HQ1.out.grown hg HQ1.out.size (fun g hg => (HO1.out.lt g hg).1))
      have HO2 := Lib.hid ho
      obtain ⟨Q2, e2, rfl, hqc2, hqd2, _⟩ := own_form ho
      simp only [Act.put, List.setIfInBounds_toArray, List.set_cons_zero, List.set_cons_succ]
      clear ho hg
      refine hK.out _ _ (HSW.out _ HQ2.out) (fun hHeld2 => ?_)
      clear hK K hHeld
      have hHeld := hHeld2
      clear hHeld2
      refine wpAnyH_ready (rs := [5]) (by kernel_rfl) (by simp) (AllReadyH.cons rfl (fun K hK => ?_) AllReadyH.nil)
      simp only [List.getElem_toArray, List.getElem_cons_succ, List.getElem_cons_zero, Act.put, List.setIfInBounds_toArray, List.set_cons_zero, List.set_cons_succ]
      rw [if_pos (by rfl)]
      refine Utf.wp_append_rd _ (.tmp 54) (.tmp 56) _ rfl y3.heap.size 9 i0 _ 1 16 Tryz.underlying23 hi hz0 hz1 hz2 rfl (by decide) _ (nt) (txs T) rfl HO2.out _ X3 Xn3 Xc3 (txs (normS a).o) rfl (by rw [txs_len, Nat.mul_one]; exact XX.out.has.o.len) ((XX.out.has.o.rd.below HQ2.out)) (txs_one _) (by unfold maxLen; omega) (by omega) HQ2.out.size ?_
      intro v3 w6 ho hg hjunk
      clear hjunk
      have HQ3 := Lib.hid (HQ2.out.grown hg HQ2.out.size (fun g hg => (HO2.out.lt g hg).1))
      have HO3 := Lib.hid ho
      obtain ⟨Q3, e3, rfl, hqc3, hqd3, _⟩ := own_form ho
      simp only [Act.put, List.setIfInBounds_toArray, List.set_cons_zero, List.set_cons_succ]
      clear ho hg
      refine hK.out _ _ (HSW.out _ HQ3.out) (fun hHeld2 => ?_)
      clear hK K hHeld
      have hHeld := hHeld2
      clear hHeld2
      refine wpAnyH_ready (rs := [8]) (by kernel_rfl) (by simp) (AllReadyH.cons rfl (fun K hK => ?_) AllReadyH.nil)
      simp only [List.getElem_toArray, List.getElem_cons_succ, List.getElem_cons_zero, Act.put, List.setIfInBounds_toArray, List.set_cons_zero, List.set_cons_succ]
      rw [if_pos (by rfl)]
      refine Utf.wp_append_rd _ (.tmp 57) (.tmp 59) _ rfl y3.heap.size 9 i0 _ 1 16 Tryz.underlying23 hi hz0 hz1 hz2 rfl (by decide) _ (nt + Xn3) (txs T ++ txs (normS a).o) rfl HO3.out _ Y3 Yn3 Yc3 (txs (normS b).o) rfl (by rw [txs_len, Nat.mul_one]; exact XY.out.has.o.len) ((XY.out.has.o.rd.below HQ3.out)) (txs_one _) (by unfold maxLen; omega) (by omega) HQ3.out.size ?_
      intro v4 w7 ho hg hjunk
      clear hjunk
      have HQ4 := Lib.hid (HQ3.out.grown hg HQ3.out.size (fun g hg => (HO3.out.lt g hg).1))
      have HO4 := Lib.hid ho
      obtain ⟨Q4, e4, rfl, hqc4, hqd4, _⟩ := own_form ho
      obtain ⟨N4, hN4⟩ : ∃ N4, N4 = nt + Xn3 + Yn3 := ⟨_, rfl⟩
      rw [← hN4]
      have HN4 := Lib.hid hN4
      clear hN4
      simp only [Act.put, List.setIfInBounds_toArray, List.set_cons_zero, List.set_cons_succ]
      clear ho hg
      refine hK.out _ _ (HSW.out _ HQ4.out) (fun hHeld2 => ?_)
      clear hK K hHeld
      have hHeld := hHeld2
      clear hHeld2
      refine wpAnyH_take (i := 9) (oi := _) (v := ?_) rfl (by kernel_rfl) (by kernel_rfl) (by kernel_rfl) (fun _ _ _ h => h) (Or.inl ⟨by rfl, ?_⟩) (by assumption) ?_
      rotate_left
      · (intro w hSw; (try dsimp only at hSw); (try obtain ⟨s1_, s2_⟩ := hSw); go_simp <;> with_reducible rfl)
      simp only [List.getElem_toArray, List.getElem_cons_succ, List.getElem_cons_zero, Act.put, List.setIfInBounds_toArray, List.set_cons_zero, List.set_cons_succ]
      refine wpAnyH_done (by kernel_rfl) ?_ _
      replace XX := Lib.hid (XX.out.next HQ4.out)
      replace XY := Lib.hid (XY.out.next HQ4.out)
      replace XU := Lib.hid (XU.out.next HQ4.out)
      replace XM := Lib.hid (XM.out.next HQ4.out)
      replace XD := Lib.hid (XD.out.next HQ4.out)
      replace XN := Lib.hid (XN.out.next HQ4.out)
      replace HB := Lib.hid (HB.out.trans (HQ4.out.mono HB.out.size))
      obtain ⟨L, hL⟩ : ∃ L, L = T ++ (normS a).o ++ (normS b).o := ⟨_, rfl⟩
      have hN4 := HN4.out
      have HL := Lib.hid (show ArgT w7 Q4 N4 L from by
        obtain ⟨A', c', e', _, _, hr⟩ := own_form HO4.out
        injection e' with e1 e2 e3
        subst e1
        refine ⟨?_, ?_, ?_, by omega⟩
        · rw [hL, txs_append, txs_append]; simpa using hr
        · rw [hL, List.length_append, List.length_append, hTy, XX.out.has.o.len, XY.out.has.o.len, hN4]
        · intro x hx
          rw [hL, List.mem_append, List.mem_append] at hx
          rcases hx with (hx | hx) | hx
          · exact HT.out.short x hx
          · exact XX.out.has.o.short x hx
          · exact XY.out.has.o.short x hx)
      have hN30 : N4 ≤ 3145728 := by omega
      clear HO1 HO2 HO3 HO4 HQ0 HQ1 HQ2 HQ3 HQ4 hN4 HN4 hL HTy HSW hTy hHeld hqc2 hqd2 hqc3 hqd3 hqc4 hqd4
      go_wp2_with fail
      go_loopw [62] (fun i wr => ∃ k : Nat, k ≤ N4 ∧ i = .int .i64 k ∧ Hid (Below w7.heap.size w7 wr)) (fun i _ => N4 - (intOf i).toNat)
      case atStart => exact ⟨0, Nat.zero_le _, rfl, Lib.hid (Below.refl _ _)⟩
      case round =>
        obtain ⟨k, hk, rfl, HBR⟩ := hrel
        by_cases hlt : k < N4
        · have hkl : k < L.length := by rw [HL.out.len]; exact hlt
          have hT2 := HL.out.next HBR.out
          obtain ⟨bt, ot, rfl, _⟩ := rd_form_tx hT2.rd (by omega)
          have c0 := rd_tx hT2.rd hkl
          have hxl := HL.out.short _ (List.getElem_mem hkl)
          obtain ⟨x, hx⟩ : ∃ x, x = L[k] := ⟨_, rfl⟩
          rw [← hx] at c0 hxl
          obtain ⟨X, hX⟩ : ∃ X : ByteArray, X = ⟨x.toArray⟩ := ⟨_, rfl⟩
          have cX : wr.cell? ⟨bt, ot + k, none⟩ = some (.string X) := by rw [c0, hX]
          have HX := Lib.hid (show X.toList = x by rw [hX, mk_toList])
          have HXL := Lib.hid hxl
          clear c0 hX hx hkl hT2 hxl
          replace XX := Lib.hid (XX.out.next HBR.out); replace XY := Lib.hid (XY.out.next HBR.out); replace XU := Lib.hid (XU.out.next HBR.out)
          replace XM := Lib.hid (XM.out.next HBR.out); replace XD := Lib.hid (XD.out.next HBR.out); replace XN := Lib.hid (XN.out.next HBR.out)
          obtain ⟨ib, hib⟩ : ∃ ib, hasS (normS a) x = ib := ⟨_, rfl⟩
          obtain ⟨jb, hjb⟩ : ∃ jb, hasS (normS b) x = jb := ⟨_, rfl⟩
          have E1 := Lib.hid hib; have E2 := Lib.hid hjb
          clear hib hjb
          have HSW := Lib.hid (show ∀ u, Below wr.heap.size wr u → u.cell? ⟨gX, 0, none⟩ = some (.slice X1 Xn1 Xc1) ∧ u.cell? ⟨gX, 1, none⟩ = some (.slice X2 Xn2 Xc2) ∧ u.cell? ⟨gX, 2, none⟩ = some (.slice X3 Xn3 Xc3) ∧ u.cell? ⟨gY, 0, none⟩ = some (.slice Y1 Yn1 Yc1) ∧ u.cell? ⟨gY, 1, none⟩ = some (.slice Y2 Yn2 Yc2) ∧ u.cell? ⟨gY, 2, none⟩ = some (.slice Y3 Yn3 Yc3) from fun u hu => ⟨(XX.out.blk.next hu).c0, (XX.out.blk.next hu).c1, (XX.out.blk.next hu).c2, (XY.out.blk.next hu).c0, (XY.out.blk.next hu).c1, (XY.out.blk.next hu).c2⟩)
          go_wp2_with fail
          clear cX
          refine wp_region_held_drew (S := fun u => u.cell? ⟨gX, 0, none⟩ = some (.slice X1 Xn1 Xc1) ∧ u.cell? ⟨gX, 1, none⟩ = some (.slice X2 Xn2 Xc2) ∧ u.cell? ⟨gX, 2, none⟩ = some (.slice X3 Xn3 Xc3) ∧ u.cell? ⟨gY, 0, none⟩ = some (.slice Y1 Yn1 Yc1) ∧ u.cell? ⟨gY, 1, none⟩ = some (.slice Y2 Yn2 Yc2) ∧ u.cell? ⟨gY, 2, none⟩ = some (.slice Y3 Yn3 Yc3)) (by kernel_rfl) (HSW.out _ (Below.refl _ _).drew) (fun hHeld => ?_)
          have HQ0 := Lib.hid (show Below wr.heap.size wr wr.drew from (Below.refl _ _).drew)
          refine wpAnyH_take (i := 0) (oi := _) (v := ?_) rfl (by kernel_rfl) (by kernel_rfl) (by kernel_rfl) (fun _ _ _ h => h) (Or.inl ⟨by rfl, ?_⟩) (by assumption) ?_
          rotate_left
          · (intro w hSw; (try dsimp only at hSw); (try obtain ⟨s1_, s2_, s3_, s4_, s5_, s6_⟩ := hSw); go_simp <;> with_reducible rfl)
          simp only [List.getElem_toArray, List.getElem_cons_zero, Act.put, List.setIfInBounds_toArray, List.set_cons_zero, List.set_cons_succ]
          refine wpAnyH_take (i := 1) (oi := _) (v := ?_) rfl (by kernel_rfl) (by kernel_rfl) (by kernel_rfl) (fun _ _ _ h => h) (Or.inl ⟨by rfl, ?_⟩) (by assumption) ?_
          rotate_left
          · (intro w hSw; (try dsimp only at hSw); (try obtain ⟨s1_, s2_, s3_, s4_, s5_, s6_⟩ := hSw); go_simp <;> with_reducible rfl)
          simp only [List.getElem_toArray, List.getElem_cons_succ, List.getElem_cons_zero, Act.put, List.setIfInBounds_toArray, List.set_cons_zero, List.set_cons_succ]
          refine wpAnyH_take (i := 3) (oi := _) (v := ?_) rfl (by kernel_rfl) (by kernel_rfl) (by kernel_rfl) (fun _ _ _ h => h) (Or.inl ⟨by rfl, ?_⟩) (by assumption) ?_
          rotate_left
          · (intro w hSw; (try dsimp only at hSw); (try obtain ⟨s1_, s2_, s3_, s4_, s5_, s6_⟩ := hSw); go_simp <;> with_reducible rfl)
          simp only [List.getElem_toArray, List.getElem_cons_succ, List.getElem_cons_zero, Act.put, List.setIfInBounds_toArray, List.set_cons_zero, List.set_cons_succ]
          refine wpAnyH_take (i := 4) (oi := _) (v := ?_) rfl (by kernel_rfl) (by kernel_rfl) (by kernel_rfl) (fun _ _ _ h => h) (Or.inl ⟨by rfl, ?_⟩) (by assumption) ?_
          rotate_left
          · (intro w hSw; (try dsimp only at hSw); (try obtain ⟨s1_, s2_, s3_, s4_, s5_, s6_⟩ := hSw); go_simp <;> with_reducible rfl)
          simp only [List.getElem_toArray, List.getElem_cons_succ, List.getElem_cons_zero, Act.put, List.setIfInBounds_toArray, List.set_cons_zero, List.set_cons_succ]
          refine wpAnyH_ready (rs := [2]) (by kernel_rfl) (by simp) (AllReadyH.cons rfl (fun K hK => ?_) AllReadyH.nil)
          go_simp
          refine (r_has _ _ _ (XX.out.next HQ0.out).has X x HX.out HXL.out E1.out).mono ?_
          rintro e z1 ⟨rfl, hb⟩
          have HQ1 := Lib.hid (show Below wr.heap.size wr z1 from HQ0.out.trans (hb.mono HQ0.out.size))
          clear hb
          refine hK.out _ _ (HSW.out _ HQ1.out) (fun hHeld2 => ?_)
          clear hK K hHeld
          have hHeld := hHeld2
          clear hHeld2
          refine wpAnyH_ready (rs := [5]) (by kernel_rfl) (by simp) (AllReadyH.cons rfl (fun K hK => ?_) AllReadyH.nil)
          go_simp
          refine (r_has _ _ _ (XY.out.next HQ1.out).has X x HX.out HXL.out E2.out).mono ?_
          rintro e z2 ⟨rfl, hb⟩
          have HQ2 := Lib.hid (show Below wr.heap.size wr z2 from HQ1.out.trans (hb.mono HQ1.out.size))
          clear hb
          refine hK.out _ _ (HSW.out _ HQ2.out) (fun hHeld2 => ?_)
          clear hK K hHeld
          have hHeld := hHeld2
          clear hHeld2
          refine wpAnyH_take (i := 6) (oi := _) (v := ?_) rfl (by kernel_rfl) (by kernel_rfl) (by kernel_rfl) (fun _ _ _ h => h) (Or.inl ⟨by rfl, ?_⟩) (by assumption) ?_
          rotate_left
          · (intro w hSw; (try dsimp only at hSw); (try obtain ⟨s1_, s2_, s3_, s4_, s5_, s6_⟩ := hSw); go_simp <;> with_reducible rfl)
          simp only [List.getElem_toArray, List.getElem_cons_succ, List.getElem_cons_zero, Act.put, List.setIfInBounds_toArray, List.set_cons_zero, List.set_cons_succ]
          refine wpAnyH_take (i := 7) (oi := _) (v := ?_) rfl (by kernel_rfl) (by kernel_rfl) (by kernel_rfl) (fun _ _ _ h => h) (Or.inl ⟨by rfl, ?_⟩) (by assumption) ?_
          rotate_left
          · (intro w hSw; (try dsimp only at hSw); (try obtain ⟨s1_, s2_, s3_, s4_, s5_, s6_⟩ := hSw); go_simp <;> with_reducible rfl)
          simp only [List.getElem_toArray, List.getElem_cons_succ, List.getElem_cons_zero, Act.put, List.setIfInBounds_toArray, List.set_cons_zero, List.set_cons_succ]
          refine wpAnyH_done (by kernel_rfl) ?_ _
          replace XX := Lib.hid (XX.out.next HQ2.out)
          replace XY := Lib.hid (XY.out.next HQ2.out)
          replace XU := Lib.hid (XU.out.next HQ2.out)
          replace XM := Lib.hid (XM.out.next HQ2.out)
          replace XD := Lib.hid (XD.out.next HQ2.out)
          replace XN := Lib.hid (XN.out.next HQ2.out)
          replace HBR := Lib.hid (HBR.out.trans (HQ2.out.mono HBR.out.size))
          clear HSW HQ0 HQ1 HQ2 hHeld
          go_wp2_with fail
          refine (good_any X x HX.out HXL.out _).mono ?_
          rintro e z3 ⟨rfl, hb⟩
          replace XX := Lib.hid (XX.out.next hb)
          replace XY := Lib.hid (XY.out.next hb)
          replace XU := Lib.hid (XU.out.next hb)
          replace XM := Lib.hid (XM.out.next hb)
          replace XD := Lib.hid (XD.out.next hb)
          replace XN := Lib.hid (XN.out.next hb)
          replace HBR := Lib.hid (HBR.out.trans (hb.mono HBR.out.size))
          clear hb
          obtain ⟨gb, hgb⟩ : ∃ gb, good x = gb := ⟨_, rfl⟩
          rw [hgb]
          have HGB := Lib.hid hgb
          clear hgb
          cases gb with
          | false =>
            go_wp2_with fail
            go_roundw
            case rel => exact ⟨k + 1, by omega, by go_num, HBR⟩
            case measure => simp [intOf]; omega
          | true =>
            have hgb := HGB.out
            have na := norm_mem a hgb; have nb := norm_mem b hgb
            have E3 := Lib.hid (show hasS (uni2 a b) x = (ib || jb) from by rw [uni2_has a b hgb, ← na, ← nb, E1.out, E2.out])
            have E4 := Lib.hid (show hasS (meet2 a b) x = (ib && jb) from by rw [meet2_mem a b hgb, ← na, ← nb, E1.out, E2.out])
            have E5 := Lib.hid (show hasS (minus2 a b) x = (ib && !jb) from by rw [minus2_mem a b hgb, ← na, ← nb, E1.out, E2.out])
            have E6 := Lib.hid (show hasS (not2 a) x = (!ib && !decide (x = [])) from by rw [not2_mem a hgb, ← na, E1.out])
            clear na nb hgb
            by_cases hxe : x = []
            · subst hxe
              obtain rfl : ib = false := E1.out.symm
              obtain rfl : jb = false := E2.out.symm
              have HXE := HX.out
              have l0 := XX.out.blk.c0; have l1 := XX.out.blk.c1; have l2 := XX.out.blk.c2
              go_wp2_with fail
              refine (r_rhas _ _ _ XX.out.has X _ HX.out HXL.out E1.out).mono ?_
              rintro e t0 ⟨rfl, hb⟩
              clear l0 l1 l2
              replace XX := Lib.hid (XX.out.next hb)
              replace XY := Lib.hid (XY.out.next hb)
              replace XU := Lib.hid (XU.out.next hb)
              replace XM := Lib.hid (XM.out.next hb)
              replace XD := Lib.hid (XD.out.next hb)
              replace XN := Lib.hid (XN.out.next hb)
              replace HBR := Lib.hid (HBR.out.trans (hb.mono HBR.out.size))
              clear hb
              have l0 := XU.out.blk.c0; have l1 := XU.out.blk.c1; have l2 := XU.out.blk.c2
              go_wp2_with fail
              refine (r_has _ _ _ XU.out.has X _ HX.out HXL.out E3.out).mono ?_
              rintro e t1 ⟨rfl, hb⟩
              clear l0 l1 l2
              replace XX := Lib.hid (XX.out.next hb)
              replace XY := Lib.hid (XY.out.next hb)
              replace XU := Lib.hid (XU.out.next hb)
              replace XM := Lib.hid (XM.out.next hb)
              replace XD := Lib.hid (XD.out.next hb)
              replace XN := Lib.hid (XN.out.next hb)
              replace HBR := Lib.hid (HBR.out.trans (hb.mono HBR.out.size))
              clear hb
              have l0 := XM.out.blk.c0; have l1 := XM.out.blk.c1; have l2 := XM.out.blk.c2
              go_wp2_with fail
              refine (r_has _ _ _ XM.out.has X _ HX.out HXL.out E4.out).mono ?_
              rintro e t2 ⟨rfl, hb⟩
              clear l0 l1 l2
              replace XX := Lib.hid (XX.out.next hb)
              replace XY := Lib.hid (XY.out.next hb)
              replace XU := Lib.hid (XU.out.next hb)
              replace XM := Lib.hid (XM.out.next hb)
              replace XD := Lib.hid (XD.out.next hb)
              replace XN := Lib.hid (XN.out.next hb)
              replace HBR := Lib.hid (HBR.out.trans (hb.mono HBR.out.size))
              clear hb
              have l0 := XD.out.blk.c0; have l1 := XD.out.blk.c1; have l2 := XD.out.blk.c2
              go_wp2_with fail
              refine (r_has _ _ _ XD.out.has X _ HX.out HXL.out E5.out).mono ?_
              rintro e t3 ⟨rfl, hb⟩
              clear l0 l1 l2
              replace XX := Lib.hid (XX.out.next hb)
              replace XY := Lib.hid (XY.out.next hb)
              replace XU := Lib.hid (XU.out.next hb)
              replace XM := Lib.hid (XM.out.next hb)
              replace XD := Lib.hid (XD.out.next hb)
              replace XN := Lib.hid (XN.out.next hb)
              replace HBR := Lib.hid (HBR.out.trans (hb.mono HBR.out.size))
              clear hb
              have l0 := XN.out.blk.c0; have l1 := XN.out.blk.c1; have l2 := XN.out.blk.c2
              go_wp2_with fail
              refine (r_has _ _ _ XN.out.has X _ HX.out HXL.out E6.out).mono ?_
              rintro e t4 ⟨rfl, hb⟩
              clear l0 l1 l2
              replace XX := Lib.hid (XX.out.next hb)
              replace XY := Lib.hid (XY.out.next hb)
              replace XU := Lib.hid (XU.out.next hb)
              replace XM := Lib.hid (XM.out.next hb)
              replace XD := Lib.hid (XD.out.next hb)
              replace XN := Lib.hid (XN.out.next hb)
              replace HBR := Lib.hid (HBR.out.trans (hb.mono HBR.out.size))
              clear hb
              go_wp2_with fail
              go_roundw
              case rel => exact ⟨k + 1, by omega, by go_num, HBR⟩
              case measure => simp [intOf]; omega
            · rw [decide_eq_false hxe] at E6
              have h2 : (X.toList == []) = false := by rw [HX.out, beq_eq_false_iff_ne]; exact hxe
              clear hxe
              cases ib with
              | true =>
                cases jb with
                | true =>
                  have l0 := XX.out.blk.c0; have l1 := XX.out.blk.c1; have l2 := XX.out.blk.c2
                  go_wp2_with fail
                  refine (r_rhas _ _ _ XX.out.has X _ HX.out HXL.out E1.out).mono ?_
                  rintro e t0 ⟨rfl, hb⟩
                  clear l0 l1 l2
                  replace XX := Lib.hid (XX.out.next hb)
                  replace XY := Lib.hid (XY.out.next hb)
                  replace XU := Lib.hid (XU.out.next hb)
                  replace XM := Lib.hid (XM.out.next hb)
                  replace XD := Lib.hid (XD.out.next hb)
                  replace XN := Lib.hid (XN.out.next hb)
                  replace HBR := Lib.hid (HBR.out.trans (hb.mono HBR.out.size))
                  clear hb
                  have l0 := XU.out.blk.c0; have l1 := XU.out.blk.c1; have l2 := XU.out.blk.c2
                  go_wp2_with fail
                  refine (r_has _ _ _ XU.out.has X _ HX.out HXL.out E3.out).mono ?_
                  rintro e t1 ⟨rfl, hb⟩
                  clear l0 l1 l2
                  replace XX := Lib.hid (XX.out.next hb)
                  replace XY := Lib.hid (XY.out.next hb)
                  replace XU := Lib.hid (XU.out.next hb)
                  replace XM := Lib.hid (XM.out.next hb)
                  replace XD := Lib.hid (XD.out.next hb)
                  replace XN := Lib.hid (XN.out.next hb)
                  replace HBR := Lib.hid (HBR.out.trans (hb.mono HBR.out.size))
                  clear hb
                  have l0 := XM.out.blk.c0; have l1 := XM.out.blk.c1; have l2 := XM.out.blk.c2
                  go_wp2_with fail
                  refine (r_has _ _ _ XM.out.has X _ HX.out HXL.out E4.out).mono ?_
                  rintro e t2 ⟨rfl, hb⟩
                  clear l0 l1 l2
                  replace XX := Lib.hid (XX.out.next hb)
                  replace XY := Lib.hid (XY.out.next hb)
                  replace XU := Lib.hid (XU.out.next hb)
                  replace XM := Lib.hid (XM.out.next hb)
                  replace XD := Lib.hid (XD.out.next hb)
                  replace XN := Lib.hid (XN.out.next hb)
                  replace HBR := Lib.hid (HBR.out.trans (hb.mono HBR.out.size))
                  clear hb
                  have l0 := XD.out.blk.c0; have l1 := XD.out.blk.c1; have l2 := XD.out.blk.c2
                  go_wp2_with fail
                  refine (r_has _ _ _ XD.out.has X _ HX.out HXL.out E5.out).mono ?_
                  rintro e t3 ⟨rfl, hb⟩
                  clear l0 l1 l2
                  replace XX := Lib.hid (XX.out.next hb)
                  replace XY := Lib.hid (XY.out.next hb)
                  replace XU := Lib.hid (XU.out.next hb)
                  replace XM := Lib.hid (XM.out.next hb)
                  replace XD := Lib.hid (XD.out.next hb)
                  replace XN := Lib.hid (XN.out.next hb)
                  replace HBR := Lib.hid (HBR.out.trans (hb.mono HBR.out.size))
                  clear hb
                  have l0 := XN.out.blk.c0; have l1 := XN.out.blk.c1; have l2 := XN.out.blk.c2
                  go_wp2_with fail
                  refine (r_has _ _ _ XN.out.has X _ HX.out HXL.out E6.out).mono ?_
                  rintro e t4 ⟨rfl, hb⟩
                  clear l0 l1 l2
                  replace XX := Lib.hid (XX.out.next hb)
                  replace XY := Lib.hid (XY.out.next hb)
                  replace XU := Lib.hid (XU.out.next hb)
                  replace XM := Lib.hid (XM.out.next hb)
                  replace XD := Lib.hid (XD.out.next hb)
                  replace XN := Lib.hid (XN.out.next hb)
                  replace HBR := Lib.hid (HBR.out.trans (hb.mono HBR.out.size))
                  clear hb
                  go_wp2_with fail
                  go_roundw
                  case rel => exact ⟨k + 1, by omega, by go_num, HBR⟩
                  case measure => simp [intOf]; omega
                | false =>
                  have l0 := XX.out.blk.c0; have l1 := XX.out.blk.c1; have l2 := XX.out.blk.c2
                  go_wp2_with fail
                  refine (r_rhas _ _ _ XX.out.has X _ HX.out HXL.out E1.out).mono ?_
                  rintro e t0 ⟨rfl, hb⟩
                  clear l0 l1 l2
                  replace XX := Lib.hid (XX.out.next hb)
                  replace XY := Lib.hid (XY.out.next hb)
                  replace XU := Lib.hid (XU.out.next hb)
                  replace XM := Lib.hid (XM.out.next hb)
                  replace XD := Lib.hid (XD.out.next hb)
                  replace XN := Lib.hid (XN.out.next hb)
                  replace HBR := Lib.hid (HBR.out.trans (hb.mono HBR.out.size))
                  clear hb
                  have l0 := XU.out.blk.c0; have l1 := XU.out.blk.c1; have l2 := XU.out.blk.c2
                  go_wp2_with fail
                  refine (r_has _ _ _ XU.out.has X _ HX.out HXL.out E3.out).mono ?_
                  rintro e t1 ⟨rfl, hb⟩
                  clear l0 l1 l2
                  replace XX := Lib.hid (XX.out.next hb)
                  replace XY := Lib.hid (XY.out.next hb)
                  replace XU := Lib.hid (XU.out.next hb)
                  replace XM := Lib.hid (XM.out.next hb)
                  replace XD := Lib.hid (XD.out.next hb)
                  replace XN := Lib.hid (XN.out.next hb)
                  replace HBR := Lib.hid (HBR.out.trans (hb.mono HBR.out.size))
                  clear hb
                  have l0 := XM.out.blk.c0; have l1 := XM.out.blk.c1; have l2 := XM.out.blk.c2
                  go_wp2_with fail
                  refine (r_has _ _ _ XM.out.has X _ HX.out HXL.out E4.out).mono ?_
                  rintro e t2 ⟨rfl, hb⟩
                  clear l0 l1 l2
                  replace XX := Lib.hid (XX.out.next hb)
                  replace XY := Lib.hid (XY.out.next hb)
                  replace XU := Lib.hid (XU.out.next hb)
                  replace XM := Lib.hid (XM.out.next hb)
                  replace XD := Lib.hid (XD.out.next hb)
                  replace XN := Lib.hid (XN.out.next hb)
                  replace HBR := Lib.hid (HBR.out.trans (hb.mono HBR.out.size))
                  clear hb
                  have l0 := XD.out.blk.c0; have l1 := XD.out.blk.c1; have l2 := XD.out.blk.c2
                  go_wp2_with fail
                  refine (r_has _ _ _ XD.out.has X _ HX.out HXL.out E5.out).mono ?_
                  rintro e t3 ⟨rfl, hb⟩
                  clear l0 l1 l2
                  replace XX := Lib.hid (XX.out.next hb)
                  replace XY := Lib.hid (XY.out.next hb)
                  replace XU := Lib.hid (XU.out.next hb)
                  replace XM := Lib.hid (XM.out.next hb)
                  replace XD := Lib.hid (XD.out.next hb)
                  replace XN := Lib.hid (XN.out.next hb)
                  replace HBR := Lib.hid (HBR.out.trans (hb.mono HBR.out.size))
                  clear hb
                  have l0 := XN.out.blk.c0; have l1 := XN.out.blk.c1; have l2 := XN.out.blk.c2
                  go_wp2_with fail
                  refine (r_has _ _ _ XN.out.has X _ HX.out HXL.out E6.out).mono ?_
                  rintro e t4 ⟨rfl, hb⟩
                  clear l0 l1 l2
                  replace XX := Lib.hid (XX.out.next hb)
                  replace XY := Lib.hid (XY.out.next hb)
                  replace XU := Lib.hid (XU.out.next hb)
                  replace XM := Lib.hid (XM.out.next hb)
                  replace XD := Lib.hid (XD.out.next hb)
                  replace XN := Lib.hid (XN.out.next hb)
                  replace HBR := Lib.hid (HBR.out.trans (hb.mono HBR.out.size))
                  clear hb
                  go_wp2_with fail
                  go_roundw
                  case rel => exact ⟨k + 1, by omega, by go_num, HBR⟩
                  case measure => simp [intOf]; omega
              | false =>
                cases jb with
                | true =>
                  have l0 := XX.out.blk.c0; have l1 := XX.out.blk.c1; have l2 := XX.out.blk.c2
                  go_wp2_with fail
                  refine (r_rhas _ _ _ XX.out.has X _ HX.out HXL.out E1.out).mono ?_
                  rintro e t0 ⟨rfl, hb⟩
                  clear l0 l1 l2
                  replace XX := Lib.hid (XX.out.next hb)
                  replace XY := Lib.hid (XY.out.next hb)
                  replace XU := Lib.hid (XU.out.next hb)
                  replace XM := Lib.hid (XM.out.next hb)
                  replace XD := Lib.hid (XD.out.next hb)
                  replace XN := Lib.hid (XN.out.next hb)
                  replace HBR := Lib.hid (HBR.out.trans (hb.mono HBR.out.size))
                  clear hb
                  have l0 := XU.out.blk.c0; have l1 := XU.out.blk.c1; have l2 := XU.out.blk.c2
                  go_wp2_with fail
                  refine (r_has _ _ _ XU.out.has X _ HX.out HXL.out E3.out).mono ?_
                  rintro e t1 ⟨rfl, hb⟩
                  clear l0 l1 l2
                  replace XX := Lib.hid (XX.out.next hb)
                  replace XY := Lib.hid (XY.out.next hb)
                  replace XU := Lib.hid (XU.out.next hb)
                  replace XM := Lib.hid (XM.out.next hb)
                  replace XD := Lib.hid (XD.out.next hb)
                  replace XN := Lib.hid (XN.out.next hb)
                  replace HBR := Lib.hid (HBR.out.trans (hb.mono HBR.out.size))
                  clear hb
                  have l0 := XM.out.blk.c0; have l1 := XM.out.blk.c1; have l2 := XM.out.blk.c2
                  go_wp2_with fail
                  refine (r_has _ _ _ XM.out.has X _ HX.out HXL.out E4.out).mono ?_
                  rintro e t2 ⟨rfl, hb⟩
                  clear l0 l1 l2
                  replace XX := Lib.hid (XX.out.next hb)
                  replace XY := Lib.hid (XY.out.next hb)
                  replace XU := Lib.hid (XU.out.next hb)
                  replace XM := Lib.hid (XM.out.next hb)
                  replace XD := Lib.hid (XD.out.next hb)
                  replace XN := Lib.hid (XN.out.next hb)
                  replace HBR := Lib.hid (HBR.out.trans (hb.mono HBR.out.size))
                  clear hb
                  have l0 := XD.out.blk.c0; have l1 := XD.out.blk.c1; have l2 := XD.out.blk.c2
                  go_wp2_with fail
                  refine (r_has _ _ _ XD.out.has X _ HX.out HXL.out E5.out).mono ?_
                  rintro e t3 ⟨rfl, hb⟩
                  clear l0 l1 l2
                  replace XX := Lib.hid (XX.out.next hb)
                  replace XY := Lib.hid (XY.out.next hb)
                  replace XU := Lib.hid (XU.out.next hb)
                  replace XM := Lib.hid (XM.out.next hb)
                  replace XD := Lib.hid (XD.out.next hb)
                  replace XN := Lib.hid (XN.out.next hb)
                  replace HBR := Lib.hid (HBR.out.trans (hb.mono HBR.out.size))
                  clear hb
                  have l0 := XN.out.blk.c0; have l1 := XN.out.blk.c1; have l2 := XN.out.blk.c2
                  go_wp2_with fail
                  refine (r_has _ _ _ XN.out.has X _ HX.out HXL.out E6.out).mono ?_
                  rintro e t4 ⟨rfl, hb⟩
                  clear l0 l1 l2
                  replace XX := Lib.hid (XX.out.next hb)
                  replace XY := Lib.hid (XY.out.next hb)
                  replace XU := Lib.hid (XU.out.next hb)
                  replace XM := Lib.hid (XM.out.next hb)
                  replace XD := Lib.hid (XD.out.next hb)
                  replace XN := Lib.hid (XN.out.next hb)
                  replace HBR := Lib.hid (HBR.out.trans (hb.mono HBR.out.size))
                  clear hb
                  go_wp2_with fail
                  go_roundw
                  case rel => exact ⟨k + 1, by omega, by go_num, HBR⟩
                  case measure => simp [intOf]; omega
                | false =>
                  have l0 := XX.out.blk.c0; have l1 := XX.out.blk.c1; have l2 := XX.out.blk.c2
                  go_wp2_with fail
                  refine (r_rhas _ _ _ XX.out.has X _ HX.out HXL.out E1.out).mono ?_
                  rintro e t0 ⟨rfl, hb⟩
                  clear l0 l1 l2
                  replace XX := Lib.hid (XX.out.next hb)
                  replace XY := Lib.hid (XY.out.next hb)
                  replace XU := Lib.hid (XU.out.next hb)
                  replace XM := Lib.hid (XM.out.next hb)
                  replace XD := Lib.hid (XD.out.next hb)
                  replace XN := Lib.hid (XN.out.next hb)
                  replace HBR := Lib.hid (HBR.out.trans (hb.mono HBR.out.size))
                  clear hb
                  have l0 := XU.out.blk.c0; have l1 := XU.out.blk.c1; have l2 := XU.out.blk.c2
                  go_wp2_with fail
                  refine (r_has _ _ _ XU.out.has X _ HX.out HXL.out E3.out).mono ?_
                  rintro e t1 ⟨rfl, hb⟩
                  clear l0 l1 l2
                  replace XX := Lib.hid (XX.out.next hb)
                  replace XY := Lib.hid (XY.out.next hb)
                  replace XU := Lib.hid (XU.out.next hb)
                  replace XM := Lib.hid (XM.out.next hb)
                  replace XD := Lib.hid (XD.out.next hb)
                  replace XN := Lib.hid (XN.out.next hb)
                  replace HBR := Lib.hid (HBR.out.trans (hb.mono HBR.out.size))
                  clear hb
                  have l0 := XM.out.blk.c0; have l1 := XM.out.blk.c1; have l2 := XM.out.blk.c2
                  go_wp2_with fail
                  refine (r_has _ _ _ XM.out.has X _ HX.out HXL.out E4.out).mono ?_
                  rintro e t2 ⟨rfl, hb⟩
                  clear l0 l1 l2
                  replace XX := Lib.hid (XX.out.next hb)
                  replace XY := Lib.hid (XY.out.next hb)
                  replace XU := Lib.hid (XU.out.next hb)
                  replace XM := Lib.hid (XM.out.next hb)
                  replace XD := Lib.hid (XD.out.next hb)
                  replace XN := Lib.hid (XN.out.next hb)
                  replace HBR := Lib.hid (HBR.out.trans (hb.mono HBR.out.size))
                  clear hb
                  have l0 := XD.out.blk.c0; have l1 := XD.out.blk.c1; have l2 := XD.out.blk.c2
                  go_wp2_with fail
                  refine (r_has _ _ _ XD.out.has X _ HX.out HXL.out E5.out).mono ?_
                  rintro e t3 ⟨rfl, hb⟩
                  clear l0 l1 l2
                  replace XX := Lib.hid (XX.out.next hb)
                  replace XY := Lib.hid (XY.out.next hb)
                  replace XU := Lib.hid (XU.out.next hb)
                  replace XM := Lib.hid (XM.out.next hb)
                  replace XD := Lib.hid (XD.out.next hb)
                  replace XN := Lib.hid (XN.out.next hb)
                  replace HBR := Lib.hid (HBR.out.trans (hb.mono HBR.out.size))
                  clear hb
                  have l0 := XN.out.blk.c0; have l1 := XN.out.blk.c1; have l2 := XN.out.blk.c2
                  go_wp2_with fail
                  refine (r_has _ _ _ XN.out.has X _ HX.out HXL.out E6.out).mono ?_
                  rintro e t4 ⟨rfl, hb⟩
                  clear l0 l1 l2
                  replace XX := Lib.hid (XX.out.next hb)
                  replace XY := Lib.hid (XY.out.next hb)
                  replace XU := Lib.hid (XU.out.next hb)
                  replace XM := Lib.hid (XM.out.next hb)
                  replace XD := Lib.hid (XD.out.next hb)
                  replace XN := Lib.hid (XN.out.next hb)
                  replace HBR := Lib.hid (HBR.out.trans (hb.mono HBR.out.size))
                  clear hb
                  go_wp2_with fail
                  go_roundw
                  case rel => exact ⟨k + 1, by omega, by go_num, HBR⟩
                  case measure => simp [intOf]; omega
        · go_wp2_with fail
          go_ret
          exact ⟨rfl, HB.out.trans (HBR.out.mono HB.out.size)⟩

theorem contract (H : Type) (enc : TypeId × Value → H) (W : World) (base : Nat) (args : Array Value) (ds gs : List (DataW H)) (before : List MemPlace)
    (hval : ∀ (j : Nat) t v, Tryz.f3.params[j]? = some t → args[j]? = some v → Value.okWide Tryz.prog W .any base t v)
    (hW : DataW.Whole enc Tryz.prog Tryz.f3.params.toList Rows.segsetMembersSpec.vars false W args.toList ds gs before) (hk : Rows.uptoSmall H (ds ++ gs) = true) :
    Calls Tryz.prog 3 args W fun e W' => ∃ v, e = .returned v ∧ Rows.segsetMembersSpec.post enc Tryz.prog Tryz.f3 false true false false W args v W' := by
  have hW' := hW
  obtain ⟨p, q, hA0, hV, rfl, hfz, hnd⟩ := hW
  have hA : DataW.TrodAll enc Tryz.prog W 0 (fun _ => true) true Tryz.f3.params.toList args.toList ds p := hA0
  rw [Tryz.params3] at hA hval
  obtain ⟨v0, vs0, d0, ds0, p0, q0, hargs, rfl, rfl, h0, r0⟩ := trodAll_cons hA
  obtain ⟨v1, vs1, d1, ds1, p1, q1, rfl, rfl, rfl, h1, r1⟩ := trodAll_cons r0
  obtain ⟨v2, vs2, d2, ds2, p2, q2, rfl, rfl, rfl, h2, r2⟩ := trodAll_cons r1
  obtain ⟨rfl, rfl, rfl⟩ := trodAll_nil r2
  obtain rfl : args = #[v0, v1, v2] := by cases args; simp_all
  obtain ⟨rfl, rfl⟩ := trodVars_none hV
  have hbd := bulk_bound hk
  simp only [List.append_nil, Rows.uptoBulkAll] at hbd
  have k0 := h0
  have lt0 : ∀ x ∈ p0, x.block < W.heap.size := by obtain ⟨m, hm⟩ := k0; exact DataW.trod_lt m _ _ _ hm
  obtain ⟨A0_1, n0_1, c0_1, A0_2, n0_2, c0_2, A0_3, n0_3, c0_3, x0, rfl, HS0, b0_1, b0_2, b0_3⟩ := open_set (hval 0 25 v0 rfl rfl) h0 (by omega)
  have k1 := h1
  have lt1 : ∀ x ∈ p1, x.block < W.heap.size := by obtain ⟨m, hm⟩ := k1; exact DataW.trod_lt m _ _ _ hm
  obtain ⟨A1_1, n1_1, c1_1, A1_2, n1_2, c1_2, A1_3, n1_3, c1_3, x1, rfl, HS1, b1_1, b1_2, b1_3⟩ := open_set (hval 1 25 v1 rfl rfl) h1 (by omega)
  have k2 := h2
  have lt2 : ∀ x ∈ p2, x.block < W.heap.size := by obtain ⟨m, hm⟩ := k2; exact DataW.trod_lt m _ _ _ hm
  obtain ⟨a2, len2, cap2, rfl⟩ := okWide_slice Tryz.underlying23 (hval 2 23 v2 rfl rfl)
  obtain ⟨l2, hl2, hc2, hm2, hr2, ht2, hn2⟩ := open_texts h2
  have HT2 : ArgT W a2 len2 l2 := argT_texts hl2 hr2 ht2 hn2 (by omega)
  have bn2 : len2 ≤ 1048576 := by omega
  clear hA0
  refine (walk A0_1 A0_2 A0_3 A1_1 A1_2 A1_3 a2 n0_1 n0_2 n0_3 c0_1 c0_2 c0_3 n1_1 n1_2 n1_3 c1_1 c1_2 c1_3 len2 cap2 x0 x1 l2 W HS0 HS1 HT2 (by omega) (by omega) (by omega)).mono fun e W' ⟨he, bel⟩ => ?_
  subst he
  exact ⟨_, rfl, _, _, _, [], _, [], hW', trodAll_mk1 (shut_bool Tryz.underlying4 _), (trodAll_cons_mk (Below.trod laidOut (by kernel_rfl) (of_decide_eq_true (by kernel_rfl)) k0 bel lt0) (trodAll_cons_mk (Below.trod laidOut (by kernel_rfl) (of_decide_eq_true (by kernel_rfl)) k1 bel lt1) (trodAll_cons_mk (Below.trod laidOut (by kernel_rfl) (of_decide_eq_true (by kernel_rfl)) k2 bel lt2) trodAll_mk0))), rfl, bel.frame _, fun h => by cases h⟩

set_option maxRecDepth 100000 in
theorem lifted (os : Os) (started : os.Started) (H : Type) (enc : TypeId × Value → H) (F : Stop.Interp) :
    ReturnsInHanded {} Tryz.checked os 3 .any ((Rows.OpenSpec.upto Rows.segsetMembersSpec).pre6 enc Tryz.prog Tryz.f3 Rows.segsetMembersUptoRow.domain false) (((Rows.OpenSpec.upto Rows.segsetMembersSpec).at F).post enc Tryz.prog Tryz.f3 false true false false) := by
  refine returnsInHanded_of_cond (C := Tryz.checked) (s := Rows.OpenSpec.upto Rows.segsetMembersSpec) (k := Rows.uptoSmall) rfl own started (by kernel_rfl) Tryz.func3
    (OpenSpec.witness (enc := enc) (C := Tryz.checked) (s := Rows.OpenSpec.upto Rows.segsetMembersSpec) (k := Rows.uptoSmall) rfl false ⟨#[], #[.agg #[.slice none 0 0, .slice none 0 0, .slice none 0 0], .agg #[.slice none 0 0, .slice none 0 0, .slice none 0 0], .slice none 0 0], []⟩ 8 (by kernel_rfl) (by kernel_rfl) (by kernel_rfl)
      (x := ([.agg [.nil, .nil, .nil], .agg [.nil, .nil, .nil], .nil], [], [])) (by kernel_rfl) rfl (by kernel_rfl)) ?_
  intro W base args ds gs before hval hW _ hk _
  exact contract H enc W base args ds gs before hval hW hk

/-- THE STATEMENT -/
theorem proved : Rows.SegsetMembersUptoSaid :=
  OpenClaim.holds_of_cond 3 Tryz.f3 rfl rfl rfl rfl rfl rfl rfl ⟨rfl, rfl, rfl, rfl, rfl⟩ rfl rfl rfl rfl rfl (by kernel_rfl) Tryz.func3 (by kernel_rfl)
    (of_decide_eq_true (by kernel_rfl)) (by unfold Func.isWrapper; first | (rw [if_pos (by decide +kernel)]; kernel_rfl) | (rw [if_neg (by decide +kernel)]; exact ⟨rfl, rfl⟩))
    (fun os started H enc _ F => lifted os started H enc F)
end Go.Proofs.YtipcbiecdabihaaGreat.LawSegsetMembers
