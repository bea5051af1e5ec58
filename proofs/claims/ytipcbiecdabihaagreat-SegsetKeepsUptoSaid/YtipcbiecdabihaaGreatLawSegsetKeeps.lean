/-
  Whatever two sets there are: what is handed in stays; what is told is its own. Conditions: the arguments hold together at most 1048576 values.
-/
import Derived.Test.YtipcbiecdabihaaGreatSsetFixed
import Derived.Test.YtipcbiecdabihaaGreatSsetOpen
import Derived.Test.YtipcbiecdabihaaGreatSsetKept
namespace Go.Proofs.YtipcbiecdabihaaGreat.LawSegsetKeeps
open Go.ChangeShapes Go.WideShapes Go.ChangeAt Go.RowKit
open Utf (Rd Blk nums nums_len wpList_append_rd own_ne)
open Rset Sset
set_option maxRecDepth 100000

set_option maxHeartbeats 64000000 in
theorem walk (A1 A2 A3 B1 B2 B3 : Option Addr) (n1 n2 n3 p1 p2 p3 m1 m2 m3 q1 q2 q3 : Nat) (a b : Sset.St) (w : World) (hA : Has3 w A1 n1 A2 n2 A3 n3 a) (hB : Has3 w B1 m1 B2 m2 B3 m3 b) (hn : n3 ≤ 1048576) (hm : m3 ≤ 1048576) :
    Calls Tryz.prog 5 #[.agg #[.slice A1 n1 p1, .slice A2 n2 p2, .slice A3 n3 p3], .agg #[.slice B1 m1 q1, .slice B2 m2 q2, .slice B3 m3 q3]] w (Law w) := by
  obtain ⟨g0, hg0⟩ : ∃ g0, g0 = w.heap.size := ⟨_, rfl⟩
  obtain ⟨g1, hg1⟩ : ∃ g1, g1 = w.heap.size + 1 := ⟨_, rfl⟩
  obtain ⟨W0, hW0⟩ : ∃ W0, W0 = ((w.alloc (.cells #[.slice A1 n1 p1, .slice A2 n2 p2, .slice A3 n3 p3] 25)).alloc (.cells #[.slice B1 m1 q1, .slice B2 m2 q2, .slice B3 m3 q3] 25)) := ⟨_, rfl⟩
  have XA := Lib.hid (show Bx W0 g0 A1 n1 p1 A2 n2 p2 A3 n3 p3 a from by rw [hW0, hg0]; exact (Bx.new hA).next (below_new _ _))
  have XB := Lib.hid (show Bx W0 g1 B1 m1 q1 B2 m2 q2 B3 m3 q3 b from by
    have := Bx.new (c1 := q1) (c2 := q2) (c3 := q3) (hB.next (below_new w (.cells #[.slice A1 n1 p1, .slice A2 n2 p2, .slice A3 n3 p3] 25)))
    rw [hW0, hg1]; simpa using this)
  have HB := Lib.hid (show Below w.heap.size w W0 from by rw [hW0]; exact ((Below.refl _ _).alloc (Nat.le_refl _) _).alloc (by simp) _)
  have HW0 := Lib.hid hW0; have HG0 := Lib.hid hg0; have HG1 := Lib.hid hg1
  clear hW0 hg0 hg1 hA hB
  go_enter Tryz.func5, Tryz.ntmps5
  go_wp2_with fail
  rw [← HW0.out, ← HG1.out, ← HG0.out]
  refine (fixed_any _).mono ?_
  rintro e w1 ⟨rfl, hb0⟩
  replace XA := Lib.hid (XA.out.next hb0); replace XB := Lib.hid (XB.out.next hb0)
  replace HB := Lib.hid (HB.out.trans (hb0.mono HB.out.size))
  clear hb0 HW0 HG0 HG1
  have l0 := XA.out.blk.c0; have l1 := XA.out.blk.c1; have l2 := XA.out.blk.c2
  go_wp2_with fail
  refine (rcopy_any _ _ _ _ _ _ _ _ _ _ _ XA.out.has).mono ?_
  rintro e w2 ⟨I1, i1, j1, I2, i2, j2, I3, i3, j3, rfl, hI, hb0⟩
  clear l0 l1 l2
  replace XA := Lib.hid (XA.out.next hb0); replace XB := Lib.hid (XB.out.next hb0)
  replace HB := Lib.hid (HB.out.trans (hb0.mono HB.out.size))
  have HI := Lib.hid hI
  clear hI hb0
  obtain ⟨W3, hW3⟩ : ∃ W3, W3 = w2.alloc (.cells #[.slice I1 i1 j1, .slice I2 i2 j2, .slice I3 i3 j3] 25) := ⟨_, rfl⟩
  obtain ⟨gI, hgI⟩ : ∃ gI, gI = w2.heap.size := ⟨_, rfl⟩
  have XI := Lib.hid (show Bx W3 gI I1 i1 j1 I2 i2 j2 I3 i3 j3 a from by rw [hW3, hgI]; exact Bx.new HI.out)
  replace XA := Lib.hid (show Bx W3 g0 A1 n1 p1 A2 n2 p2 A3 n3 p3 a from by rw [hW3]; exact XA.out.next (below_new _ _))
  replace XB := Lib.hid (show Bx W3 g1 B1 m1 q1 B2 m2 q2 B3 m3 q3 b from by rw [hW3]; exact XB.out.next (below_new _ _))
  replace HB := Lib.hid (show Below w.heap.size w W3 from by rw [hW3]; exact HB.out.alloc HB.out.size _)
  have HW3 := Lib.hid hW3; have HGI := Lib.hid hgI
  have hi3 : i3 ≤ 1048576 := by have h1 := XI.out.has.o.len; have h2 := XA.out.has.o.len; omega
  clear hW3 hgI HI
  go_wp2_with fail
  rw [← HW3.out, ← HGI.out]
  clear HW3 HGI
  have HSW := Lib.hid (show ∀ u, Below W3.heap.size W3 u → u.cell? ⟨gI, 0, none⟩ = some (.slice I1 i1 j1) ∧ u.cell? ⟨gI, 1, none⟩ = some (.slice I2 i2 j2) ∧ u.cell? ⟨gI, 2, none⟩ = some (.slice I3 i3 j3) ∧ u.cell? ⟨g1, 0, none⟩ = some (.slice B1 m1 q1) ∧ u.cell? ⟨g1, 1, none⟩ = some (.slice B2 m2 q2) ∧ u.cell? ⟨g1, 2, none⟩ = some (.slice B3 m3 q3) from fun u hu => ⟨(XI.out.blk.next hu).c0, (XI.out.blk.next hu).c1, (XI.out.blk.next hu).c2, (XB.out.blk.next hu).c0, (XB.out.blk.next hu).c1, (XB.out.blk.next hu).c2⟩)
  refine wp_region_held_drew (S := fun u => u.cell? ⟨gI, 0, none⟩ = some (.slice I1 i1 j1) ∧ u.cell? ⟨gI, 1, none⟩ = some (.slice I2 i2 j2) ∧ u.cell? ⟨gI, 2, none⟩ = some (.slice I3 i3 j3) ∧ u.cell? ⟨g1, 0, none⟩ = some (.slice B1 m1 q1) ∧ u.cell? ⟨g1, 1, none⟩ = some (.slice B2 m2 q2) ∧ u.cell? ⟨g1, 2, none⟩ = some (.slice B3 m3 q3)) (by kernel_rfl) (HSW.out _ (Below.refl _ _).drew) (fun hHeld => ?_)
  have HQ0 := Lib.hid (show Below W3.heap.size W3 W3.drew from (Below.refl _ _).drew)
  refine wpAnyH_take (i := 0) (oi := _) (v := ?_) rfl (by kernel_rfl) (by kernel_rfl) (by kernel_rfl) (fun _ _ _ h => h) (Or.inl ⟨by rfl, ?_⟩) (by assumption) ?_
  rotate_left
  · (intro w hSw; (try dsimp only at hSw); (try obtain ⟨s1_, s2_, s3_, s4_, s5_, s6_⟩ := hSw); go_simp <;> with_reducible rfl)
  simp only [List.getElem_toArray, List.getElem_cons_zero, Act.put, List.setIfInBounds_toArray, List.set_cons_zero, List.set_cons_succ]
  refine wpAnyH_take (i := 1) (oi := _) (v := ?_) rfl (by kernel_rfl) (by kernel_rfl) (by kernel_rfl) (fun _ _ _ h => h) (Or.inl ⟨by rfl, ?_⟩) (by assumption) ?_
  rotate_left
  · (intro w hSw; (try dsimp only at hSw); (try obtain ⟨s1_, s2_, s3_, s4_, s5_, s6_⟩ := hSw); go_simp <;> with_reducible rfl)
  simp only [List.getElem_toArray, List.getElem_cons_succ, List.getElem_cons_zero, Act.put, List.setIfInBounds_toArray, List.set_cons_zero, List.set_cons_succ]
  refine wpAnyH_take (i := 3) (oi := _) (v := ?_) rfl (by kernel_rfl) (by kernel_rfl) (by kernel_rfl) (fun _ _ _ h => h) (Or.inl ⟨by rfl, ?_⟩) (by assumption) ?_
  rotate_left
  · (intro w hSw; (try dsimp only at hSw); (try obtain ⟨s1_, s2_, s3_, s4_, s5_, s6_⟩ := hSw); go_simp <;> with_reducible rfl)
  simp only [List.getElem_toArray, List.getElem_cons_succ, List.getElem_cons_zero, Act.put, List.setIfInBounds_toArray, List.set_cons_zero, List.set_cons_succ]
  refine wpAnyH_take (i := 5) (oi := _) (v := ?_) rfl (by kernel_rfl) (by kernel_rfl) (by kernel_rfl) (fun _ _ _ h => h) (Or.inl ⟨by rfl, ?_⟩) (by assumption) ?_
  rotate_left
  · (intro w hSw; (try dsimp only at hSw); (try obtain ⟨s1_, s2_, s3_, s4_, s5_, s6_⟩ := hSw); go_simp <;> with_reducible rfl)
  simp only [List.getElem_toArray, List.getElem_cons_succ, List.getElem_cons_zero, Act.put, List.setIfInBounds_toArray, List.set_cons_zero, List.set_cons_succ]
  refine wpAnyH_named (fun a0 ha0 => ?_)
  have HA0 := Lib.hid ha0
  clear ha0
  refine wpAnyH_float (fuel := 3) (L := fun bs => #[true, true, bs.getD 0 false, true, bs.getD 1 false, true, bs.getD 2 false, bs.getD 3 false, bs.getD 4 false, bs.getD 5 false, false, false, false]) (ok := fun bs => (!bs.getD 1 false || bs.getD 0 false) && (!bs.getD 2 false || bs.getD 1 false)) (M := [2, 4, 6, 7, 8, 9]) (fun bs ac u => ∃ x0 x1 x2 x3 x4 x5 : Value, Hid (ac = ((((((a0.put (some 22) x0).put (some 24) x1).put (some 26) x2).put (some 6) x3).put (some 7) x4).put (some 8) x5)) ∧ Hid (bs.getD 0 false = true → ArgW W3.heap.size u x0 (uni2 a b)) ∧ Hid (bs.getD 1 false = true → ArgW W3.heap.size u x1 (normS a)) ∧ Hid (bs.getD 2 false = true → ArgW W3.heap.size u x2 (not2 a)) ∧ Hid (bs.getD 3 false = true → Hz W3.heap.size u x3) ∧ Hid (bs.getD 4 false = true → Hz W3.heap.size u x4) ∧ Hid (bs.getD 5 false = true → Hz W3.heap.size u x5) ∧ Hid (bs.getD 3 false = true → bs.getD 4 false = true → x3 ≠ x4) ∧ Hid (bs.getD 3 false = true → bs.getD 5 false = true → x3 ≠ x5) ∧ Hid (bs.getD 4 false = true → bs.getD 5 false = true → x4 ≠ x5) ∧ Hid (Below W3.heap.size W3 u)) (by kernel_rfl) ?_ ?_ 6 [false, false, false, false, false, false] _ _ rfl rfl rfl hHeld ⟨undef, undef, undef, undef, undef, undef, Lib.hid (by rw [HA0.out]; simp only [Act.put, List.setIfInBounds_toArray, List.set_cons_zero, List.set_cons_succ]), Lib.hid (fun h => absurd (show false = true from h) (by decide)), Lib.hid (fun h => absurd (show false = true from h) (by decide)), Lib.hid (fun h => absurd (show false = true from h) (by decide)), Lib.hid (fun h => absurd (show false = true from h) (by decide)), Lib.hid (fun h => absurd (show false = true from h) (by decide)), Lib.hid (fun h => absurd (show false = true from h) (by decide)), Lib.hid (fun h _ => absurd (show false = true from h) (by decide)), Lib.hid (fun h _ => absurd (show false = true from h) (by decide)), Lib.hid (fun h _ => absurd (show false = true from h) (by decide)), HQ0⟩
  · intro j i bs ac u hM hl hb hok hS hJ
    obtain ⟨b0, b1, b2, b3, b4, b5, rfl⟩ : ∃ b0 b1 b2 b3 b4 b5, bs = [b0, b1, b2, b3, b4, b5] := by
      match bs, hl with
      | [b0, b1, b2, b3, b4, b5], _ => exact ⟨b0, b1, b2, b3, b4, b5, rfl⟩
    obtain ⟨x0, x1, x2, x3, x4, x5, ha, f0, f1, f2, f3, f4, f5, f3_4, f3_5, f4_5, HQ⟩ := hJ
    obtain rfl := ha.out
    clear ha hS
    rcases j with _ | _ | _ | _ | _ | _ | j
    · obtain rfl : 2 = i := Option.some.inj hM
      obtain rfl : b0 = false := hb
      clear hM hl hok; (try clear hb)
      refine ⟨_, rfl, fun K hK => ?_⟩
      rw [HA0.out]
      simp only [Act.put, List.setIfInBounds_toArray, List.set_cons_zero, List.set_cons_succ]
      go_simp
      refine (r_union _ _ _ _ _ _ ((XI.out.next HQ.out).has) ((XB.out.next HQ.out).has) (by omega)).mono ?_
      rintro e v ⟨Ra, Rb, Rc, Rd, Re, Rf, Rg, Rh, Ri, rfl, M⟩
      have hb := M.bel
      have HQ1 := HQ.out.trans (hb.mono HQ.out.size)
      exact hK.out _ _ (HSW.out _ HQ1) ⟨.agg #[.slice Ra Rb Rc, .slice Rd Re Rf, .slice Rg Rh Ri], x1, x2, x3, x4, x5, Lib.hid (by rw [HA0.out]; simp only [Act.put, List.setIfInBounds_toArray, List.set_cons_zero, List.set_cons_succ]), Lib.hid (fun _ => ⟨_, _, _, _, _, _, _, _, _, rfl, (M.wide (HQ.out.size))⟩), Lib.hid (fun h => (f1.out h).next hb), Lib.hid (fun h => (f2.out h).next hb), Lib.hid (fun h => (f3.out h).next hb), Lib.hid (fun h => (f4.out h).next hb), Lib.hid (fun h => (f5.out h).next hb), f3_4, f3_5, f4_5, Lib.hid HQ1⟩
    · obtain rfl : 4 = i := Option.some.inj hM
      obtain rfl : b1 = false := hb
      obtain rfl : b0 = true := by (have h := hok; revert h; cases b0 <;> simp)
      clear hM hl hok; (try clear hb)
      refine ⟨_, rfl, fun K hK => ?_⟩
      rw [HA0.out]
      simp only [Act.put, List.setIfInBounds_toArray, List.set_cons_zero, List.set_cons_succ]
      go_simp
      refine (r_norm _ _ _ ((XI.out.next HQ.out).has)).mono ?_
      rintro e v ⟨Ra, Rb, Rc, Rd, Re, Rf, Rg, Rh, Ri, rfl, M⟩
      have hb := M.bel
      have HQ1 := HQ.out.trans (hb.mono HQ.out.size)
      exact hK.out _ _ (HSW.out _ HQ1) ⟨x0, .agg #[.slice Ra Rb Rc, .slice Rd Re Rf, .slice Rg Rh Ri], x2, x3, x4, x5, Lib.hid (by rw [HA0.out]; simp only [Act.put, List.setIfInBounds_toArray, List.set_cons_zero, List.set_cons_succ]), Lib.hid (fun h => (f0.out h).next hb), Lib.hid (fun _ => ⟨_, _, _, _, _, _, _, _, _, rfl, (M.wide (HQ.out.size))⟩), Lib.hid (fun h => (f2.out h).next hb), Lib.hid (fun h => (f3.out h).next hb), Lib.hid (fun h => (f4.out h).next hb), Lib.hid (fun h => (f5.out h).next hb), f3_4, f3_5, f4_5, Lib.hid HQ1⟩
    · obtain rfl : 6 = i := Option.some.inj hM
      obtain rfl : b2 = false := hb
      obtain rfl : b1 = true := by (have h := hok; revert h; cases b1 <;> simp)
      clear hM hl hok; (try clear hb)
      refine ⟨_, rfl, fun K hK => ?_⟩
      rw [HA0.out]
      simp only [Act.put, List.setIfInBounds_toArray, List.set_cons_zero, List.set_cons_succ]
      go_simp
      refine (r_not2 _ _ _ ((XI.out.next HQ.out).has)).mono ?_
      rintro e v ⟨Ra, Rb, Rc, Rd, Re, Rf, Rg, Rh, Ri, rfl, M⟩
      have hb := M.bel
      have HQ1 := HQ.out.trans (hb.mono HQ.out.size)
      exact hK.out _ _ (HSW.out _ HQ1) ⟨x0, x1, .agg #[.slice Ra Rb Rc, .slice Rd Re Rf, .slice Rg Rh Ri], x3, x4, x5, Lib.hid (by rw [HA0.out]; simp only [Act.put, List.setIfInBounds_toArray, List.set_cons_zero, List.set_cons_succ]), Lib.hid (fun h => (f0.out h).next hb), Lib.hid (fun h => (f1.out h).next hb), Lib.hid (fun _ => ⟨_, _, _, _, _, _, _, _, _, rfl, (M.wide (HQ.out.size))⟩), Lib.hid (fun h => (f3.out h).next hb), Lib.hid (fun h => (f4.out h).next hb), Lib.hid (fun h => (f5.out h).next hb), f3_4, f3_5, f4_5, Lib.hid HQ1⟩
    · obtain rfl : 7 = i := Option.some.inj hM
      obtain rfl : b3 = false := hb
      clear hM hl hok; (try clear hb)
      refine ⟨_, rfl, fun K hK => ?_⟩
      rw [HA0.out]
      simp only [Act.put, List.setIfInBounds_toArray, List.set_cons_zero, List.set_cons_succ]
      go_simp
      have hb := below_new u (.cells #[.slice none 0 0, .slice none 0 0, .slice none 0 0] 25)
      have HQ1 := HQ.out.alloc HQ.out.size (.cells #[.slice none 0 0, .slice none 0 0, .slice none 0 0] 25)
      exact hK.out _ _ (HSW.out _ HQ1) ⟨x0, x1, x2, .pointer (some ⟨u.heap.size, 0, none⟩), x4, x5, Lib.hid (by rw [HA0.out]; simp only [Act.put, List.setIfInBounds_toArray, List.set_cons_zero, List.set_cons_succ]), Lib.hid (fun h => (f0.out h).next hb), Lib.hid (fun h => (f1.out h).next hb), Lib.hid (fun h => (f2.out h).next hb), Lib.hid (fun _ => Hz.new u HQ.out.size), Lib.hid (fun h => (f4.out h).next hb), Lib.hid (fun h => (f5.out h).next hb), Lib.hid (fun _ h => (f4.out h).ne'), Lib.hid (fun _ h => (f5.out h).ne'), f4_5, Lib.hid HQ1⟩
    · obtain rfl : 8 = i := Option.some.inj hM
      obtain rfl : b4 = false := hb
      clear hM hl hok; (try clear hb)
      refine ⟨_, rfl, fun K hK => ?_⟩
      rw [HA0.out]
      simp only [Act.put, List.setIfInBounds_toArray, List.set_cons_zero, List.set_cons_succ]
      go_simp
      have hb := below_new u (.cells #[.slice none 0 0, .slice none 0 0, .slice none 0 0] 25)
      have HQ1 := HQ.out.alloc HQ.out.size (.cells #[.slice none 0 0, .slice none 0 0, .slice none 0 0] 25)
      exact hK.out _ _ (HSW.out _ HQ1) ⟨x0, x1, x2, x3, .pointer (some ⟨u.heap.size, 0, none⟩), x5, Lib.hid (by rw [HA0.out]; simp only [Act.put, List.setIfInBounds_toArray, List.set_cons_zero, List.set_cons_succ]), Lib.hid (fun h => (f0.out h).next hb), Lib.hid (fun h => (f1.out h).next hb), Lib.hid (fun h => (f2.out h).next hb), Lib.hid (fun h => (f3.out h).next hb), Lib.hid (fun _ => Hz.new u HQ.out.size), Lib.hid (fun h => (f5.out h).next hb), Lib.hid (fun h _ => (f3.out h).ne), f3_5, Lib.hid (fun _ h => (f5.out h).ne'), Lib.hid HQ1⟩
    · obtain rfl : 9 = i := Option.some.inj hM
      obtain rfl : b5 = false := hb
      clear hM hl hok; (try clear hb)
      refine ⟨_, rfl, fun K hK => ?_⟩
      rw [HA0.out]
      simp only [Act.put, List.setIfInBounds_toArray, List.set_cons_zero, List.set_cons_succ]
      go_simp
      have hb := below_new u (.cells #[.slice none 0 0, .slice none 0 0, .slice none 0 0] 25)
      have HQ1 := HQ.out.alloc HQ.out.size (.cells #[.slice none 0 0, .slice none 0 0, .slice none 0 0] 25)
      exact hK.out _ _ (HSW.out _ HQ1) ⟨x0, x1, x2, x3, x4, .pointer (some ⟨u.heap.size, 0, none⟩), Lib.hid (by rw [HA0.out]; simp only [Act.put, List.setIfInBounds_toArray, List.set_cons_zero, List.set_cons_succ]), Lib.hid (fun h => (f0.out h).next hb), Lib.hid (fun h => (f1.out h).next hb), Lib.hid (fun h => (f2.out h).next hb), Lib.hid (fun h => (f3.out h).next hb), Lib.hid (fun h => (f4.out h).next hb), Lib.hid (fun _ => Hz.new u HQ.out.size), f3_4, Lib.hid (fun h _ => (f3.out h).ne), Lib.hid (fun h _ => (f4.out h).ne), Lib.hid HQ1⟩
    · simp at hM
  · intro ac u hS hJ
    obtain ⟨x0, x1, x2, x3, x4, x5, ha, f0, f1, f2, f3, f4, f5, f3_4, f3_5, f4_5, HQ⟩ := hJ
    obtain rfl := ha.out
    clear ha
    obtain ⟨X1, Xn1, Xc1, X2, Xn2, Xc2, X3, Xn3, Xc3, rfl, HX⟩ := f0.out rfl
    obtain ⟨Y1, Yn1, Yc1, Y2, Yn2, Yc2, Y3, Yn3, Yc3, rfl, HY⟩ := f1.out rfl
    obtain ⟨Z1, Zn1, Zc1, Z2, Zn2, Zc2, Z3, Zn3, Zc3, rfl, HZ⟩ := f2.out rfl
    obtain ⟨gX, zgX1, zgX2, zgX3, zgX4, zgX5, zgX6, zgX7, zgX8, zgX9, rfl, hggX, hzgX⟩ := f3.out rfl
    obtain ⟨gY, zgY1, zgY2, zgY3, zgY4, zgY5, zgY6, zgY7, zgY8, zgY9, rfl, hggY, hzgY⟩ := f4.out rfl
    obtain ⟨gZ, zgZ1, zgZ2, zgZ3, zgZ4, zgZ5, zgZ6, zgZ7, zgZ8, zgZ9, rfl, hggZ, hzgZ⟩ := f5.out rfl
    have hne_gX_gY : gX ≠ gY := fun e => f3_4.out rfl rfl (by rw [e])
    have hne_gX_gZ : gX ≠ gZ := fun e => f3_5.out rfl rfl (by rw [e])
    have hne_gY_gZ : gY ≠ gZ := fun e => f4_5.out rfl rfl (by rw [e])
    clear f0 f1 f2 f3 f4 f5 f3_4 f3_5 f4_5
    rw [HA0.out]
    simp only [Act.put, List.setIfInBounds_toArray, List.set_cons_zero, List.set_cons_succ]
    show wpAnyH _ _ _ _ _ _ #[true, true, true, true, true, true, true, true, true, true, false, false, false] _ _
    clear HA0 a0
    have d0 := hzgX.c0; have d1 := hzgX.c1; have d2 := hzgX.c2; have e0 := hzgX.fr 0; have e1 := hzgX.fr 1; have e2 := hzgX.fr 2
    refine wpAnyH_ready (rs := [10]) (by kernel_rfl) (by simp) (AllReadyH.cons rfl (fun K hK => ?_) AllReadyH.nil)
    go_simp
    clear d0 d1 d2 e0 e1 e2
    have XgX : BxW W3.heap.size _ gX X1 Xn1 Xc1 X2 Xn2 Xc2 X3 Xn3 Xc3 (uni2 a b) := ⟨hzgX.put (.slice X1 Xn1 Xc1) (.slice X2 Xn2 Xc2) (.slice X3 Xn3 Xc3), hasW_put HX hzgX (.slice X1 Xn1 Xc1) (.slice X2 Xn2 Xc2) (.slice X3 Xn3 Xc3)⟩
    replace HY := hasW_put HY hzgX (.slice X1 Xn1 Xc1) (.slice X2 Xn2 Xc2) (.slice X3 Xn3 Xc3)
    replace HZ := hasW_put HZ hzgX (.slice X1 Xn1 Xc1) (.slice X2 Xn2 Xc2) (.slice X3 Xn3 Xc3)
    replace HQ := Lib.hid (below_put3 HQ.out hggX (.slice X1 Xn1 Xc1) (.slice X2 Xn2 Xc2) (.slice X3 Xn3 Xc3))
    replace hzgY := blkS_far hzgY (fun e => hne_gX_gY e) (.slice X1 Xn1 Xc1) (.slice X2 Xn2 Xc2) (.slice X3 Xn3 Xc3)
    replace hzgZ := blkS_far hzgZ (fun e => hne_gX_gZ e) (.slice X1 Xn1 Xc1) (.slice X2 Xn2 Xc2) (.slice X3 Xn3 Xc3)
    refine hK.out _ _ (HSW.out _ HQ.out) (fun hHeld2 => ?_)
    clear hK K hS
    have hS := hHeld2
    clear hHeld2 hzgX HX
    have d0 := hzgY.c0; have d1 := hzgY.c1; have d2 := hzgY.c2; have e0 := hzgY.fr 0; have e1 := hzgY.fr 1; have e2 := hzgY.fr 2
    refine wpAnyH_ready (rs := [11]) (by kernel_rfl) (by simp) (AllReadyH.cons rfl (fun K hK => ?_) AllReadyH.nil)
    go_simp
    clear d0 d1 d2 e0 e1 e2
    replace XgX := bxW_far XgX (fun e => hne_gX_gY e.symm) hzgY (.slice Y1 Yn1 Yc1) (.slice Y2 Yn2 Yc2) (.slice Y3 Yn3 Yc3)
    have XgY : BxW W3.heap.size _ gY Y1 Yn1 Yc1 Y2 Yn2 Yc2 Y3 Yn3 Yc3 (normS a) := ⟨hzgY.put (.slice Y1 Yn1 Yc1) (.slice Y2 Yn2 Yc2) (.slice Y3 Yn3 Yc3), hasW_put HY hzgY (.slice Y1 Yn1 Yc1) (.slice Y2 Yn2 Yc2) (.slice Y3 Yn3 Yc3)⟩
    replace HZ := hasW_put HZ hzgY (.slice Y1 Yn1 Yc1) (.slice Y2 Yn2 Yc2) (.slice Y3 Yn3 Yc3)
    replace HQ := Lib.hid (below_put3 HQ.out hggY (.slice Y1 Yn1 Yc1) (.slice Y2 Yn2 Yc2) (.slice Y3 Yn3 Yc3))
    replace hzgZ := blkS_far hzgZ (fun e => hne_gY_gZ e) (.slice Y1 Yn1 Yc1) (.slice Y2 Yn2 Yc2) (.slice Y3 Yn3 Yc3)
    refine hK.out _ _ (HSW.out _ HQ.out) (fun hHeld2 => ?_)
    clear hK K hS
    have hS := hHeld2
    clear hHeld2 hzgY HY
    have d0 := hzgZ.c0; have d1 := hzgZ.c1; have d2 := hzgZ.c2; have e0 := hzgZ.fr 0; have e1 := hzgZ.fr 1; have e2 := hzgZ.fr 2
    refine wpAnyH_ready (rs := [12]) (by kernel_rfl) (by simp) (AllReadyH.cons rfl (fun K hK => ?_) AllReadyH.nil)
    go_simp
    clear d0 d1 d2 e0 e1 e2
    replace XgX := bxW_far XgX (fun e => hne_gX_gZ e.symm) hzgZ (.slice Z1 Zn1 Zc1) (.slice Z2 Zn2 Zc2) (.slice Z3 Zn3 Zc3)
    replace XgY := bxW_far XgY (fun e => hne_gY_gZ e.symm) hzgZ (.slice Z1 Zn1 Zc1) (.slice Z2 Zn2 Zc2) (.slice Z3 Zn3 Zc3)
    have XgZ : BxW W3.heap.size _ gZ Z1 Zn1 Zc1 Z2 Zn2 Zc2 Z3 Zn3 Zc3 (not2 a) := ⟨hzgZ.put (.slice Z1 Zn1 Zc1) (.slice Z2 Zn2 Zc2) (.slice Z3 Zn3 Zc3), hasW_put HZ hzgZ (.slice Z1 Zn1 Zc1) (.slice Z2 Zn2 Zc2) (.slice Z3 Zn3 Zc3)⟩
    replace HQ := Lib.hid (below_put3 HQ.out hggZ (.slice Z1 Zn1 Zc1) (.slice Z2 Zn2 Zc2) (.slice Z3 Zn3 Zc3))
    refine hK.out _ _ (HSW.out _ HQ.out) (fun hHeld2 => ?_)
    clear hK K hS
    have hS := hHeld2
    clear hHeld2 hzgZ HZ
    refine wpAnyH_done (by kernel_rfl) ?_ _
    obtain ⟨W5, hW5⟩ : ∃ W5, W5 = (((((((((u.setCell ⟨gX, 0, none⟩ (.slice X1 Xn1 Xc1)).setCell ⟨gX, 1, none⟩ (.slice X2 Xn2 Xc2)).setCell ⟨gX, 2, none⟩ (.slice X3 Xn3 Xc3)).setCell ⟨gY, 0, none⟩ (.slice Y1 Yn1 Yc1)).setCell ⟨gY, 1, none⟩ (.slice Y2 Yn2 Yc2)).setCell ⟨gY, 2, none⟩ (.slice Y3 Yn3 Yc3)).setCell ⟨gZ, 0, none⟩ (.slice Z1 Zn1 Zc1)).setCell ⟨gZ, 1, none⟩ (.slice Z2 Zn2 Zc2)).setCell ⟨gZ, 2, none⟩ (.slice Z3 Zn3 Zc3)) := ⟨_, rfl⟩
    rw [← hW5] at XgX XgY XgZ HQ ⊢
    clear hW5 HSW hS hggX hggY hggZ hne_gX_gY hne_gX_gZ hne_gY_gZ
    have HX := Lib.hid XgX; have HY := Lib.hid XgY; have HZ := Lib.hid XgZ
    have x0 := HX.out.blk.c0; have x1 := HX.out.blk.c1; have x2 := HX.out.blk.c2
    have y0 := HY.out.blk.c0; have y1 := HY.out.blk.c1; have y2 := HY.out.blk.c2
    have z0 := HZ.out.blk.c0; have z1 := HZ.out.blk.c1; have z2 := HZ.out.blk.c2
    clear XgX XgY XgZ
    obtain ⟨gA, hgA⟩ : ∃ gA, gA = W5.heap.size := ⟨_, rfl⟩
    obtain ⟨W6, hW6⟩ : ∃ W6, W6 = W5.alloc (.cells #[.slice X1 Xn1 Xc1, .slice X2 Xn2 Xc2, .slice X3 Xn3 Xc3, .slice Y1 Yn1 Yc1, .slice Y2 Yn2 Yc2, .slice Y3 Yn3 Yc3, .slice Z1 Zn1 Zc1, .slice Z2 Zn2 Zc2, .slice Z3 Zn3 Zc3] 25) := ⟨_, rfl⟩
    have HB6 := Lib.hid (show Below W5.heap.size W5 W6 from by rw [hW6]; exact below_new _ _)
    have kA : Blk W6 gA 25 [.slice X1 Xn1 Xc1, .slice X2 Xn2 Xc2, .slice X3 Xn3 Xc3, .slice Y1 Yn1 Yc1, .slice Y2 Yn2 Yc2, .slice Y3 Yn3 Yc3, .slice Z1 Zn1 Zc1, .slice Z2 Zn2 Zc2, .slice Z3 Zn3 Zc3] := by rw [hW6, hgA]; exact Blk.new W5 _ [.slice X1 Xn1 Xc1, .slice X2 Xn2 Xc2, .slice X3 Xn3 Xc3, .slice Y1 Yn1 Yc1, .slice Y2 Yn2 Yc2, .slice Y3 Yn3 Yc3, .slice Z1 Zn1 Zc1, .slice Z2 Zn2 Zc2, .slice Z3 Zn3 Zc3]
    have HKW := Lib.hid (show KW W3.heap.size W5.heap.size W3 W6 gA from
      ⟨HQ.out.trans (HB6.out.mono HQ.out.size), HQ.out.size, by omega, kA.lt, HX.out.has.trio HB6.out (kA.cell 0) (kA.cell 1) (kA.cell 2), HY.out.has.trio HB6.out (kA.cell 3) (kA.cell 4) (kA.cell 5), HZ.out.has.trio HB6.out (kA.cell 6) (kA.cell 7) (kA.cell 8)⟩)
    have HW6 := Lib.hid hW6; have HGA := Lib.hid hgA
    clear hW6 hgA kA
    go_wp2_with fail
    rw [← HW6.out, ← HGA.out]
    obtain ⟨E, hE⟩ : ∃ E, E = W5.heap.size := ⟨_, rfl⟩
    rw [← hE] at HKW
    clear HW6 HGA HB6 hE HQ HX HY HZ x0 x1 x2 y0 y1 y2 z0 z1 z2
    go_loopw [32] (fun i wr => ∃ k : Nat, k ≤ 3 ∧ i = .int .i64 k ∧ Hid (KW W3.heap.size E W3 wr gA)) (fun i _ => 3 - (intOf i).toNat)
    case atStart => exact ⟨0, Nat.zero_le _, rfl, HKW⟩
    case round =>
      clear HKW
      obtain ⟨k, hk, rfl, HW⟩ := hrel
      by_cases hlt : k < 3
      · obtain ⟨X1, x1, y1, X2, x2, y2, X3, x3, y3, e0, e1, e2, r1, r2, r3, hx1, hx2, hx3⟩ := HW.out.trio hlt
        obtain ⟨gs, hgs⟩ : ∃ gs, gs = wr.heap.size := ⟨_, rfl⟩
        obtain ⟨U0, hU0⟩ : ∃ U0, U0 = wr.alloc (.cells #[.slice X1 x1 y1, .slice X2 x2 y2, .slice X3 x3 y3] 25) := ⟨_, rfl⟩
        have HKB := Lib.hid (show KB W3.heap.size E W3 U0 gA gs X1 x1 y1 X2 x2 y2 X3 x3 y3 from by rw [hU0, hgs]; exact HW.out.box r1 r2 r3)
        have HU0 := Lib.hid hU0; have HGS := Lib.hid hgs
        clear hU0 hgs r1 r2 r3 HW
        go_wp2_with fail
        rw [← HU0.out, ← HGS.out]
        clear HU0 HGS e0 e1 e2
        have q0 := HKB.out.blk.c0
        go_wp2_with fail
        clear q0
        go_loopw [39] (fun i wr => ∃ s : Nat, s ≤ x1 ∧ i = .int .i64 s ∧ Hid (KB W3.heap.size E W3 wr gA gs X1 x1 y1 X2 x2 y2 X3 x3 y3)) (fun i _ => x1 - (intOf i).toNat)
        case atStart => exact ⟨0, Nat.zero_le _, rfl, HKB⟩
        case round =>
          clear HKB
          obtain ⟨s, hs, rfl, HK⟩ := hrel
          have q0 := HK.out.blk.c0
          by_cases hls : s < x1
          · obtain ⟨g, rfl, hgB, hgE, hc⟩ := HK.out.r1.resolve_left (by omega)
            obtain ⟨⟨v0, c0⟩, f0⟩ := hc (s * 2) (by omega)
            obtain ⟨⟨v1, c1⟩, f1⟩ := hc (s * 2 + 1) (by omega)
            have HK2 := Lib.hid ((HK.out.set (j := s * 2) hgB hgE (.int .i32 0)).set (j := s * 2 + 1) hgB hgE (.int .i32 0))
            clear hc hgB hgE
            go_wp2_with fail
            go_roundw
            case rel => exact ⟨s + 1, by omega, by go_num, HK2⟩
            case measure => simp [intOf]; omega
          · clear q0
            have q1 := HK.out.blk.c1
            go_wp2_with fail
            clear q1
            clear hs hls
            go_loopw [51] (fun i wr => ∃ s : Nat, s ≤ x2 ∧ i = .int .i64 s ∧ Hid (KB W3.heap.size E W3 wr gA gs X1 x1 y1 X2 x2 y2 X3 x3 y3)) (fun i _ => x2 - (intOf i).toNat)
            case atStart => exact ⟨0, Nat.zero_le _, rfl, HK⟩
            case round =>
              clear HK
              obtain ⟨s, hs, rfl, HK⟩ := hrel
              have q1 := HK.out.blk.c1
              by_cases hls : s < x2
              · obtain ⟨g, rfl, hgB, hgE, hc⟩ := HK.out.r2.resolve_left (by omega)
                obtain ⟨⟨v0, c0⟩, f0⟩ := hc (s * 2) (by omega)
                obtain ⟨⟨v1, c1⟩, f1⟩ := hc (s * 2 + 1) (by omega)
                have HK2 := Lib.hid ((HK.out.set (j := s * 2) hgB hgE (.int .i32 0)).set (j := s * 2 + 1) hgB hgE (.int .i32 0))
                clear hc hgB hgE
                go_wp2_with fail
                go_roundw
                case rel => exact ⟨s + 1, by omega, by go_num, HK2⟩
                case measure => simp [intOf]; omega
              · clear q1
                have q2 := HK.out.blk.c2
                go_wp2_with fail
                clear q2
                clear hs hls
                go_loopw [63] (fun i wr => ∃ s : Nat, s ≤ x3 ∧ i = .int .i64 s ∧ Hid (KB W3.heap.size E W3 wr gA gs X1 x1 y1 X2 x2 y2 X3 x3 y3)) (fun i _ => x3 - (intOf i).toNat)
                case atStart => exact ⟨0, Nat.zero_le _, rfl, HK⟩
                case round =>
                  clear HK
                  obtain ⟨s, hs, rfl, HK⟩ := hrel
                  have q2 := HK.out.blk.c2
                  by_cases hls : s < x3
                  · obtain ⟨g, rfl, hgB, hgE, hc⟩ := HK.out.r3.resolve_left (by omega)
                    obtain ⟨⟨v0, c0⟩, f0⟩ := hc s (by omega)
                    have HK2 := Lib.hid (HK.out.set (j := s) hgB hgE (.string ⟨#[119, 105, 112, 101, 100]⟩))
                    clear hc hgB hgE
                    go_wp2_with fail
                    go_roundw
                    case rel => exact ⟨s + 1, by omega, by go_num, HK2⟩
                    case measure => simp [intOf]; omega
                  · clear q2
                    go_wp2_with fail
                    go_roundw
                    case rel => exact ⟨k + 1, by omega, by go_num, Lib.hid HK.out.kw⟩
                    case measure => simp [intOf]; omega
      · have HQ := Lib.hid HW.out.bel
        clear HW
        replace XA := Lib.hid (XA.out.next HQ.out)
        replace XB := Lib.hid (XB.out.next HQ.out)
        replace XI := Lib.hid (XI.out.next HQ.out)
        replace HB := Lib.hid (HB.out.trans (HQ.out.mono HB.out.size))
        clear HQ XB
        obtain rfl : k = 3 := by omega
        clear hlt hk
        generalize wr = w9 at *
        have l0 := XI.out.blk.c0
        go_wp2_with fail
        refine (sfirst_two _ _ _ _ _ XI.out.has.s).mono ?_
        rintro e w7 ⟨EF, F1, f1, h1, F2, f2, h2, rfl, hr1, ho2, hf1, hE1, hE2, hb⟩
        clear l0
        obtain ⟨gF, hgF⟩ : ∃ gF, gF = w7.heap.size := ⟨_, rfl⟩
        obtain ⟨W8, hW8⟩ : ∃ W8, W8 = w7.alloc (.cells #[.slice F1 f1 h1, .slice F2 f2 h2, .slice none 0 0] 25) := ⟨_, rfl⟩
        have HKF := Lib.hid (show KF w9.heap.size EF w9 W8 gF F1 f1 h1 F2 f2 h2 none 0 0 (norm a.s) from by
          rw [hW8, hgF]
          exact ⟨hb.alloc hb.size _, hE1, hE2, BlkS.new w7 _ _ _, hr1.below (below_new _ _) hE2, ho2.alloc _⟩)
        have hf2 : f1 ≤ 8388608 := by rw [hf1]; exact Nat.le_trans (nm_len (norm_nm a.s)) (by omega)
        have HW8 := Lib.hid hW8; have HGF := Lib.hid hgF
        clear hW8 hgF hr1 ho2 hE1 hE2 hb hf1
        go_wp2_with fail
        rw [← HW8.out, ← HGF.out]
        clear HW8 HGF
        have q0 := HKF.out.blk.c0
        go_wp2_with fail
        clear q0
        go_loopw [78] (fun i u => ∃ s : Nat, s ≤ f1 ∧ i = .int .i64 s ∧ Hid (KF w9.heap.size EF w9 u gF F1 f1 h1 F2 f2 h2 none 0 0 (norm a.s))) (fun i _ => f1 - (intOf i).toNat)
        case atStart => exact ⟨0, Nat.zero_le _, rfl, HKF⟩
        case round =>
          clear HKF
          obtain ⟨s, hs, rfl, HK⟩ := hrel
          by_cases hls : s < f1
          · have q0 := HK.out.blk.c0
            obtain ⟨g, rfl, hgB, hgE, hc⟩ := HK.out.r1.resolve_left (by omega)
            obtain ⟨⟨v0, c0⟩, f0⟩ := hc (s * 2) (by omega)
            obtain ⟨⟨v1, c1⟩, f1_⟩ := hc (s * 2 + 1) (by omega)
            have HK2 := Lib.hid ((HK.out.set (j := s * 2) hgB hgE (.int .i32 3)).set (j := s * 2 + 1) hgB hgE (.int .i32 3))
            clear hc hgB hgE
            go_wp2_with fail
            go_roundw
            case rel => exact ⟨s + 1, by omega, by go_num, HK2⟩
            case measure => simp [intOf]; omega
          · have HQ := Lib.hid HK.out.bel
            replace XA := Lib.hid (XA.out.next HQ.out)
            replace XI := Lib.hid (XI.out.next HQ.out)
            replace HB := Lib.hid (HB.out.trans (HQ.out.mono HB.out.size))
            have HM := Lib.hid (show Arg wr F2 f2 (norm a.s) from by
              obtain ⟨A', c', e', _, _, hr⟩ := own_form HK.out.o2
              injection e' with e1 e2 e3
              subst e1
              exact ⟨hr, e2.symm, (norm_nm a.s).fit, by rw [e2]; exact Nat.le_trans (nm_len (norm_nm a.s)) (by omega)⟩)
            have HF := Lib.hid HK.out.blk
            have HSW := Lib.hid (show ∀ u, Below wr.heap.size wr u → u.cell? ⟨gI, 0, none⟩ = some (.slice I1 i1 j1) ∧ u.cell? ⟨gI, 1, none⟩ = some (.slice I2 i2 j2) ∧ u.cell? ⟨gI, 2, none⟩ = some (.slice I3 i3 j3) ∧ u.cell? ⟨g0, 0, none⟩ = some (.slice A1 n1 p1) ∧ u.cell? ⟨g0, 1, none⟩ = some (.slice A2 n2 p2) ∧ u.cell? ⟨g0, 2, none⟩ = some (.slice A3 n3 p3) ∧ u.cell? ⟨gF, 1, none⟩ = some (.slice F2 f2 h2) from fun u hu => ⟨(XI.out.blk.next hu).c0, (XI.out.blk.next hu).c1, (XI.out.blk.next hu).c2, (XA.out.blk.next hu).c0, (XA.out.blk.next hu).c1, (XA.out.blk.next hu).c2, (HF.out.next hu).c1⟩)
            have HQ0 := Lib.hid (show Below wr.heap.size wr wr.drew from (Below.refl _ _).drew)
            clear HK HQ
            go_wp2_with fail
            clear hs hls
            refine wp_region_held_drew (S := fun u => u.cell? ⟨gI, 0, none⟩ = some (.slice I1 i1 j1) ∧ u.cell? ⟨gI, 1, none⟩ = some (.slice I2 i2 j2) ∧ u.cell? ⟨gI, 2, none⟩ = some (.slice I3 i3 j3) ∧ u.cell? ⟨g0, 0, none⟩ = some (.slice A1 n1 p1) ∧ u.cell? ⟨g0, 1, none⟩ = some (.slice A2 n2 p2) ∧ u.cell? ⟨g0, 2, none⟩ = some (.slice A3 n3 p3) ∧ u.cell? ⟨gF, 1, none⟩ = some (.slice F2 f2 h2)) (by kernel_rfl) (HSW.out _ HQ0.out) (fun hHeld => ?_)
            refine wpAnyH_take (i := 0) (oi := _) (v := ?_) rfl (by kernel_rfl) (by kernel_rfl) (by kernel_rfl) (fun _ _ _ h => h) (Or.inl ⟨by rfl, ?_⟩) (by assumption) ?_
            rotate_left
            · (intro w hSw; (try dsimp only at hSw); (try obtain ⟨s1_, s2_, s3_, s4_, s5_, s6_, s7_⟩ := hSw); go_simp <;> with_reducible rfl)
            simp only [List.getElem_toArray, List.getElem_cons_zero, Act.put, List.setIfInBounds_toArray, List.set_cons_zero, List.set_cons_succ]
            refine wpAnyH_take (i := 1) (oi := _) (v := ?_) rfl (by kernel_rfl) (by kernel_rfl) (by kernel_rfl) (fun _ _ _ h => h) (Or.inl ⟨by rfl, ?_⟩) (by assumption) ?_
            rotate_left
            · (intro w hSw; (try dsimp only at hSw); (try obtain ⟨s1_, s2_, s3_, s4_, s5_, s6_, s7_⟩ := hSw); go_simp <;> with_reducible rfl)
            simp only [List.getElem_toArray, List.getElem_cons_succ, List.getElem_cons_zero, Act.put, List.setIfInBounds_toArray, List.set_cons_zero, List.set_cons_succ]
            refine wpAnyH_ready (rs := [2]) (by kernel_rfl) (by simp) (AllReadyH.cons rfl (fun K hK => ?_) AllReadyH.nil)
            go_simp
            refine (r_rsame _ _ _ _ _ _ (XI.out.next HQ0.out).has (XA.out.next HQ0.out).has (decide_eq_true rfl)).mono ?_
            rintro e u1 ⟨rfl, hb⟩
            have HQ1 := Lib.hid (show Below wr.heap.size wr u1 from HQ0.out.trans (hb.mono HQ0.out.size))
            clear hb
            refine hK.out _ _ (HSW.out _ HQ1.out) (fun hHeld2 => ?_)
            clear hK K hHeld
            have hHeld := hHeld2
            clear hHeld2
            refine wpAnyH_take (i := 3) (oi := _) (v := ?_) rfl (by kernel_rfl) (by kernel_rfl) (by kernel_rfl) (fun _ _ _ h => h) (Or.inl ⟨by rfl, ?_⟩) (by assumption) ?_
            rotate_left
            · (intro w hSw; (try dsimp only at hSw); (try obtain ⟨s1_, s2_, s3_, s4_, s5_, s6_, s7_⟩ := hSw); go_simp <;> with_reducible rfl)
            simp only [List.getElem_toArray, List.getElem_cons_succ, List.getElem_cons_zero, Act.put, List.setIfInBounds_toArray, List.set_cons_zero, List.set_cons_succ]
            refine wpAnyH_take (i := 4) (oi := _) (v := ?_) rfl (by kernel_rfl) (by kernel_rfl) (by kernel_rfl) (fun _ _ _ h => h) (Or.inl ⟨by rfl, ?_⟩) (by assumption) ?_
            rotate_left
            · (intro w hSw; (try dsimp only at hSw); (try obtain ⟨s1_, s2_, s3_, s4_, s5_, s6_, s7_⟩ := hSw); go_simp <;> with_reducible rfl)
            simp only [List.getElem_toArray, List.getElem_cons_succ, List.getElem_cons_zero, Act.put, List.setIfInBounds_toArray, List.set_cons_zero, List.set_cons_succ]
            refine wpAnyH_take (i := 5) (oi := _) (v := ?_) rfl (by kernel_rfl) (by kernel_rfl) (by kernel_rfl) (fun _ _ _ h => h) (Or.inl ⟨by rfl, ?_⟩) (by assumption) ?_
            rotate_left
            · (intro w hSw; (try dsimp only at hSw); (try obtain ⟨s1_, s2_, s3_, s4_, s5_, s6_, s7_⟩ := hSw); go_simp <;> with_reducible rfl)
            simp only [List.getElem_toArray, List.getElem_cons_succ, List.getElem_cons_zero, Act.put, List.setIfInBounds_toArray, List.set_cons_zero, List.set_cons_succ]
            refine wpAnyH_take (i := 6) (oi := _) (v := ?_) rfl (by kernel_rfl) (by kernel_rfl) (by kernel_rfl) (fun _ _ _ h => h) (Or.inl ⟨by rfl, ?_⟩) (by assumption) ?_
            rotate_left
            · (intro w hSw; (try dsimp only at hSw); (try obtain ⟨s1_, s2_, s3_, s4_, s5_, s6_, s7_⟩ := hSw); go_simp <;> with_reducible rfl)
            simp only [List.getElem_toArray, List.getElem_cons_succ, List.getElem_cons_zero, Act.put, List.setIfInBounds_toArray, List.set_cons_zero, List.set_cons_succ]
            refine wpAnyH_take (i := 7) (oi := _) (v := ?_) rfl (by kernel_rfl) (by kernel_rfl) (by kernel_rfl) (fun _ _ _ h => h) (Or.inl ⟨by rfl, ?_⟩) (by assumption) ?_
            rotate_left
            · (intro w hSw; (try dsimp only at hSw); (try obtain ⟨s1_, s2_, s3_, s4_, s5_, s6_, s7_⟩ := hSw); go_simp <;> with_reducible rfl)
            simp only [List.getElem_toArray, List.getElem_cons_succ, List.getElem_cons_zero, Act.put, List.setIfInBounds_toArray, List.set_cons_zero, List.set_cons_succ]
            refine wpAnyH_ready (rs := [8]) (by kernel_rfl) (by simp) (AllReadyH.cons rfl (fun K hK => ?_) AllReadyH.nil)
            go_simp
            refine (Rset.a_rnorm _ (show Arg u1 A1 n1 a.s from by have k := (XA.out.next HQ1.out).has.s; exact ⟨k.rd, k.len, k.fit, k.sm⟩)).mono ?_
            rintro e u2 ⟨R1, r1, k1, rfl, hR, hb⟩
            have HQ2 := Lib.hid (show Below wr.heap.size wr u2 from HQ1.out.trans (hb.mono HQ1.out.size))
            have HR := Lib.hid hR
            clear hR
            clear hb
            refine hK.out _ _ (HSW.out _ HQ2.out) (fun hHeld2 => ?_)
            clear hK K hHeld
            have hHeld := hHeld2
            clear hHeld2
            refine wpAnyH_ready (rs := [9]) (by kernel_rfl) (by simp) (AllReadyH.cons rfl (fun K hK => ?_) AllReadyH.nil)
            go_simp
            refine (Rset.a_same _ _ (HM.out.next HQ2.out) HR.out (decide_eq_true rfl)).mono ?_
            rintro e u3 ⟨rfl, hb⟩
            have HQ3 := Lib.hid (show Below wr.heap.size wr u3 from HQ2.out.trans (hb.mono HQ2.out.size))
            clear hb
            refine hK.out _ _ (HSW.out _ HQ3.out) (fun hHeld2 => ?_)
            clear hK K hHeld
            have hHeld := hHeld2
            clear hHeld2
            refine wpAnyH_take (i := 10) (oi := _) (v := ?_) rfl (by kernel_rfl) (by kernel_rfl) (by kernel_rfl) (fun _ _ _ h => h) (Or.inl ⟨by rfl, ?_⟩) (by assumption) ?_
            rotate_left
            · (intro w hSw; (try dsimp only at hSw); (try obtain ⟨s1_, s2_, s3_, s4_, s5_, s6_, s7_⟩ := hSw); go_simp <;> with_reducible rfl)
            simp only [List.getElem_toArray, List.getElem_cons_succ, List.getElem_cons_zero, Act.put, List.setIfInBounds_toArray, List.set_cons_zero, List.set_cons_succ]
            refine wpAnyH_take (i := 11) (oi := _) (v := ?_) rfl (by kernel_rfl) (by kernel_rfl) (by kernel_rfl) (fun _ _ _ h => h) (Or.inl ⟨by rfl, ?_⟩) (by assumption) ?_
            rotate_left
            · (intro w hSw; (try dsimp only at hSw); (try obtain ⟨s1_, s2_, s3_, s4_, s5_, s6_, s7_⟩ := hSw); go_simp <;> with_reducible rfl)
            simp only [List.getElem_toArray, List.getElem_cons_succ, List.getElem_cons_zero, Act.put, List.setIfInBounds_toArray, List.set_cons_zero, List.set_cons_succ]
            refine wpAnyH_take (i := 12) (oi := _) (v := ?_) rfl (by kernel_rfl) (by kernel_rfl) (by kernel_rfl) (fun _ _ _ h => h) (Or.inl ⟨by rfl, ?_⟩) (by assumption) ?_
            rotate_left
            · (intro w hSw; (try dsimp only at hSw); (try obtain ⟨s1_, s2_, s3_, s4_, s5_, s6_, s7_⟩ := hSw); go_simp <;> with_reducible rfl)
            simp only [List.getElem_toArray, List.getElem_cons_succ, List.getElem_cons_zero, Act.put, List.setIfInBounds_toArray, List.set_cons_zero, List.set_cons_succ]
            refine wpAnyH_take (i := 14) (oi := _) (v := ?_) rfl (by kernel_rfl) (by kernel_rfl) (by kernel_rfl) (fun _ _ _ h => h) (Or.inl ⟨by rfl, ?_⟩) (by assumption) ?_
            rotate_left
            · (intro w hSw; (try dsimp only at hSw); (try obtain ⟨s1_, s2_, s3_, s4_, s5_, s6_, s7_⟩ := hSw); go_simp <;> with_reducible rfl)
            simp only [List.getElem_toArray, List.getElem_cons_succ, List.getElem_cons_zero, Act.put, List.setIfInBounds_toArray, List.set_cons_zero, List.set_cons_succ]
            refine wpAnyH_ready (rs := [13]) (by kernel_rfl) (by simp) (AllReadyH.cons rfl (fun K hK => ?_) AllReadyH.nil)
            go_simp
            refine (r_norm _ _ _ (XI.out.next HQ3.out).has).mono ?_
            rintro e u4 ⟨X1, x1, y1, X2, x2, y2, X3, x3, y3, rfl, MX⟩
            have HQ4 := Lib.hid (show Below wr.heap.size wr u4 from HQ3.out.trans (MX.bel.mono HQ3.out.size))
            have HX := Lib.hid MX.has
            clear MX
            refine hK.out _ _ (HSW.out _ HQ4.out) (fun hHeld2 => ?_)
            clear hK K hHeld
            have hHeld := hHeld2
            clear hHeld2
            refine wpAnyH_ready (rs := [15]) (by kernel_rfl) (by simp) (AllReadyH.cons rfl (fun K hK => ?_) AllReadyH.nil)
            go_simp
            refine (r_rsnorm _ _ _ (XA.out.next HQ4.out).has).mono ?_
            rintro e u5 ⟨Y1, s1, z1, Y2, s2, z2, Y3, s3, z3, rfl, MY⟩
            have HQ5 := Lib.hid (show Below wr.heap.size wr u5 from HQ4.out.trans (MY.bel.mono HQ4.out.size))
            have HY := Lib.hid MY.has
            replace HX := Lib.hid (HX.out.next MY.bel)
            clear MY
            refine hK.out _ _ (HSW.out _ HQ5.out) (fun hHeld2 => ?_)
            clear hK K hHeld
            have hHeld := hHeld2
            clear hHeld2
            refine wpAnyH_ready (rs := [16]) (by kernel_rfl) (by simp) (AllReadyH.cons rfl (fun K hK => ?_) AllReadyH.nil)
            go_simp
            refine (r_rsame _ _ _ _ _ _ HX.out HY.out (decide_eq_true rfl)).mono ?_
            rintro e u6 ⟨rfl, hb⟩
            have HQ6 := Lib.hid (show Below wr.heap.size wr u6 from HQ5.out.trans (hb.mono HQ5.out.size))
            clear hb
            refine hK.out _ _ (HSW.out _ HQ6.out) (fun hHeld2 => ?_)
            clear hK K hHeld
            have hHeld := hHeld2
            clear hHeld2
            refine wpAnyH_take (i := 17) (oi := _) (v := ?_) rfl (by kernel_rfl) (by kernel_rfl) (by kernel_rfl) (fun _ _ _ h => h) (Or.inl ⟨by rfl, ?_⟩) (by assumption) ?_
            rotate_left
            · (intro w hSw; (try dsimp only at hSw); (try obtain ⟨s1_, s2_, s3_, s4_, s5_, s6_, s7_⟩ := hSw); go_simp <;> with_reducible rfl)
            simp only [List.getElem_toArray, List.getElem_cons_succ, List.getElem_cons_zero, Act.put, List.setIfInBounds_toArray, List.set_cons_zero, List.set_cons_succ]
            refine wpAnyH_take (i := 18) (oi := _) (v := ?_) rfl (by kernel_rfl) (by kernel_rfl) (by kernel_rfl) (fun _ _ _ h => h) (Or.inl ⟨by rfl, ?_⟩) (by assumption) ?_
            rotate_left
            · (intro w hSw; (try dsimp only at hSw); (try obtain ⟨s1_, s2_, s3_, s4_, s5_, s6_, s7_⟩ := hSw); go_simp <;> with_reducible rfl)
            simp only [List.getElem_toArray, List.getElem_cons_succ, List.getElem_cons_zero, Act.put, List.setIfInBounds_toArray, List.set_cons_zero, List.set_cons_succ]
            refine wpAnyH_done (by kernel_rfl) ?_ _
            go_wp2_with fail
            go_ret
            exact ⟨rfl, HB.out.trans (HQ6.out.mono HB.out.size)⟩

theorem contract (H : Type) (enc : TypeId × Value → H) (W : World) (base : Nat) (args : Array Value) (ds gs : List (DataW H)) (before : List MemPlace)
    (hval : ∀ (j : Nat) t v, Tryz.f5.params[j]? = some t → args[j]? = some v → Value.okWide Tryz.prog W .any base t v)
    (hW : DataW.Whole enc Tryz.prog Tryz.f5.params.toList Rows.segsetKeepsSpec.vars false W args.toList ds gs before) (hk : Rows.uptoSmall H (ds ++ gs) = true) :
    Calls Tryz.prog 5 args W fun e W' => ∃ v, e = .returned v ∧ Rows.segsetKeepsSpec.post enc Tryz.prog Tryz.f5 false true false false W args v W' := by
  have hW' := hW
  obtain ⟨p, q, hA0, hV, rfl, hfz, hnd⟩ := hW
  have hA : DataW.TrodAll enc Tryz.prog W 0 (fun _ => true) true Tryz.f5.params.toList args.toList ds p := hA0
  rw [Tryz.params5] at hA hval
  obtain ⟨v0, vs0, d0, ds0, p0, q0, hargs, rfl, rfl, h0, r0⟩ := trodAll_cons hA
  obtain ⟨v1, vs1, d1, ds1, p1, q1, rfl, rfl, rfl, h1, r1⟩ := trodAll_cons r0
  obtain ⟨rfl, rfl, rfl⟩ := trodAll_nil r1
  obtain rfl : args = #[v0, v1] := by cases args; simp_all
  obtain ⟨rfl, rfl⟩ := trodVars_none hV
  have hbd := bulk_bound hk
  simp only [List.append_nil, Rows.uptoBulkAll] at hbd
  have k0 := h0
  have lt0 : ∀ x ∈ p0, x.block < W.heap.size := by obtain ⟨m, hm⟩ := k0; exact DataW.trod_lt m _ _ _ hm
  obtain ⟨A0_1, n0_1, c0_1, A0_2, n0_2, c0_2, A0_3, n0_3, c0_3, x0, rfl, HS0, b0_1, b0_2, b0_3⟩ := open_set (hval 0 25 v0 rfl rfl) h0 (by omega)
  have k1 := h1
  have lt1 : ∀ x ∈ p1, x.block < W.heap.size := by obtain ⟨m, hm⟩ := k1; exact DataW.trod_lt m _ _ _ hm
  obtain ⟨A1_1, n1_1, c1_1, A1_2, n1_2, c1_2, A1_3, n1_3, c1_3, x1, rfl, HS1, b1_1, b1_2, b1_3⟩ := open_set (hval 1 25 v1 rfl rfl) h1 (by omega)
  clear hA0
  refine (walk A0_1 A0_2 A0_3 A1_1 A1_2 A1_3 n0_1 n0_2 n0_3 c0_1 c0_2 c0_3 n1_1 n1_2 n1_3 c1_1 c1_2 c1_3 x0 x1 W HS0 HS1 (by omega) (by omega)).mono fun e W' ⟨he, bel⟩ => ?_
  subst he
  exact ⟨_, rfl, _, _, _, [], _, [], hW', trodAll_mk1 (shut_bool Tryz.underlying4 _), (trodAll_cons_mk (Below.trod laidOut (by kernel_rfl) (of_decide_eq_true (by kernel_rfl)) k0 bel lt0) (trodAll_cons_mk (Below.trod laidOut (by kernel_rfl) (of_decide_eq_true (by kernel_rfl)) k1 bel lt1) trodAll_mk0)), rfl, bel.frame _, fun h => by cases h⟩

set_option maxRecDepth 100000 in
theorem lifted (os : Os) (started : os.Started) (H : Type) (enc : TypeId × Value → H) (F : Stop.Interp) :
    ReturnsInHanded {} Tryz.checked os 5 .any ((Rows.OpenSpec.upto Rows.segsetKeepsSpec).pre6 enc Tryz.prog Tryz.f5 Rows.segsetKeepsUptoRow.domain false) (((Rows.OpenSpec.upto Rows.segsetKeepsSpec).at F).post enc Tryz.prog Tryz.f5 false true false false) := by
  refine returnsInHanded_of_cond (C := Tryz.checked) (s := Rows.OpenSpec.upto Rows.segsetKeepsSpec) (k := Rows.uptoSmall) rfl own started (by kernel_rfl) Tryz.func5
    (OpenSpec.witness (enc := enc) (C := Tryz.checked) (s := Rows.OpenSpec.upto Rows.segsetKeepsSpec) (k := Rows.uptoSmall) rfl false ⟨#[], #[.agg #[.slice none 0 0, .slice none 0 0, .slice none 0 0], .agg #[.slice none 0 0, .slice none 0 0, .slice none 0 0]], []⟩ 8 (by kernel_rfl) (by kernel_rfl) (by kernel_rfl)
      (x := ([.agg [.nil, .nil, .nil], .agg [.nil, .nil, .nil]], [], [])) (by kernel_rfl) rfl (by kernel_rfl)) ?_
  intro W base args ds gs before hval hW _ hk _
  exact contract H enc W base args ds gs before hval hW hk

/-- THE STATEMENT -/
theorem proved : Rows.SegsetKeepsUptoSaid :=
  OpenClaim.holds_of_cond 5 Tryz.f5 rfl rfl rfl rfl rfl rfl rfl ⟨rfl, rfl, rfl, rfl, rfl⟩ rfl rfl rfl rfl rfl (by kernel_rfl) Tryz.func5 (by kernel_rfl)
    (of_decide_eq_true (by kernel_rfl)) (by unfold Func.isWrapper; first | (rw [if_pos (by decide +kernel)]; kernel_rfl) | (rw [if_neg (by decide +kernel)]; exact ⟨rfl, rfl⟩))
    (fun os started H enc _ F => lifted os started H enc F)
end Go.Proofs.YtipcbiecdabihaaGreat.LawSegsetKeeps
