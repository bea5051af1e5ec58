/-
  Whatever three sets there are: the laws of sets hold. Conditions: the arguments hold together at most 1048576 values.
-/
import Derived.Test.YtipcbiecdabihaaGreatSsetFixed
import Derived.Test.YtipcbiecdabihaaGreatSsetOpen
import Derived.Test.YtipcbiecdabihaaGreatSsetFloat
namespace Go.Proofs.YtipcbiecdabihaaGreat.LawSegsetAlgebra
open Go.ChangeShapes Go.WideShapes Go.ChangeAt Go.RowKit
open Utf (Rd Blk nums nums_len wpList_append_rd own_ne)
open Rset Sset
set_option maxRecDepth 100000

theorem eqS_of {a b : Sset.St} (ha : NmS a) (hb : NmS b) (h1 : ∀ x, inR x = true → has a.s x = has b.s x) (h2 : ∀ x, inR x = true → has a.m x = has b.m x) (h3 : ∀ t, okT t = true → isIn a.o t = isIn b.o t) : a = b ∧ eqS a b = true := by
  have e : a = b := st_ext ha hb (fun x => by
      cases hx : inR x with
      | true => exact h1 x hx
      | false => rw [has_out hx, has_out hx]) (fun x => by
      cases hx : inR x with
      | true => exact h2 x hx
      | false => rw [has_out hx, has_out hx]) (fun t => by
      cases ho : okT t with
      | true => exact h3 t ho
      | false => rw [odd_okT ha t, odd_okT hb t, ho, Bool.and_false, Bool.and_false])
  exact ⟨e, by unfold eqS; rw [e]; exact decide_eq_true rfl⟩
section
variable (a b c : Sset.St)
theorem g1 : decide (not2 (not2 a) = normS a) = true := decide_eq_true notnot
theorem g2 : eqS (not2 (uni2 a b)) (meet2 (not2 a) (not2 b)) = true := (eqS_of (not2_nm _) (meet2_nm _ _)
  (fun x hx => by rw [not2_s, uni2_s, meet2_s, not2_s, not2_s, hx]; cases has a.s x <;> cases has b.s x <;> rfl)
  (fun x hx => by rw [not2_m, uni2_m, meet2_m, not2_m, not2_m, hx]; cases has a.m x <;> cases has b.m x <;> rfl)
  (fun t ho => by
    have hr := fst_inR ho
    rw [not2_o, uni2_o, meet2_o, not2_o, not2_o, not2_m, not2_m, ho, hr]
    cases has a.m (fst t) <;> cases has b.m (fst t) <;> cases isIn a.o t <;> cases isIn b.o t <;> rfl)).2
theorem g3 : eqS (uni2 (meet2 a b) c) (meet2 (uni2 a c) (uni2 b c)) = true := (eqS_of (uni2_nm _ _) (meet2_nm _ _)
  (fun x _ => by rw [uni2_s, meet2_s, meet2_s, uni2_s, uni2_s]; cases has a.s x <;> cases has b.s x <;> cases has c.s x <;> rfl)
  (fun x _ => by rw [uni2_m, meet2_m, meet2_m, uni2_m, uni2_m]; cases has a.m x <;> cases has b.m x <;> cases has c.m x <;> rfl)
  (fun t ho => by
    rw [uni2_o, meet2_o, meet2_o, uni2_o, uni2_o, meet2_m, uni2_m, uni2_m, ho]
    cases has a.m (fst t) <;> cases has b.m (fst t) <;> cases has c.m (fst t) <;> cases isIn a.o t <;> cases isIn b.o t <;> cases isIn c.o t <;> rfl)).2
theorem g4 : eqS (uni2 a b) (uni2 b a) = true := (eqS_of (uni2_nm _ _) (uni2_nm _ _)
  (fun x _ => by rw [uni2_s, uni2_s, Bool.or_comm])
  (fun x _ => by rw [uni2_m, uni2_m, Bool.or_comm])
  (fun t ho => by
    rw [uni2_o, uni2_o, ho]
    cases has a.m (fst t) <;> cases has b.m (fst t) <;> cases isIn a.o t <;> cases isIn b.o t <;> rfl)).2
theorem g5 : normS (meet2 a (not2 a)) = none_ := by
  rw [normS_id (meet2_nm _ _)]
  exact (eqS_of (meet2_nm _ _) none_nm
    (fun x hx => by rw [meet2_s, not2_s, hx]; show _ = has [] x; rw [has_nil]; cases has a.s x <;> rfl)
    (fun x hx => by rw [meet2_m, not2_m, hx]; show _ = has [] x; rw [has_nil]; cases has a.m x <;> rfl)
    (fun t ho => by
      have hr := fst_inR ho
      rw [meet2_o, not2_o, not2_m, ho, hr]; show _ = isIn [] t; rw [isIn_nil]
      cases has a.m (fst t) <;> cases isIn a.o t <;> rfl)).1
theorem all_has : (∀ x, has allS.s x = inR x) ∧ (∀ x, has allS.m x = inR x) ∧ ∀ t, isIn allS.o t = false :=
  ⟨fun x => by unfold allS; rw [notS_s]; show (inR x && !has [] x) = _; rw [has_nil]; cases inR x <;> rfl, fun x => by unfold allS; rw [notS_m]; show (inR x && !has [] x) = _; rw [has_nil]; cases inR x <;> rfl, fun t => isIn_nil t⟩
theorem g6 : eqS (uni2 a (not2 a)) allS = true := (eqS_of (uni2_nm _ _) allS_nm
  (fun x hx => by rw [uni2_s, not2_s, all_has.1, hx]; cases has a.s x <;> rfl)
  (fun x hx => by rw [uni2_m, not2_m, all_has.2.1, hx]; cases has a.m x <;> rfl)
  (fun t ho => by
    have hr := fst_inR ho
    rw [uni2_o, not2_o, not2_m, all_has.2.2, ho, hr]
    cases has a.m (fst t) <;> cases isIn a.o t <;> rfl)).2
theorem g7 : eqS (minus2 a b) (minus2 a (meet2 a b)) = true := (eqS_of (minus2_nm _ _) (minus2_nm _ _)
  (fun x _ => by rw [minus2_s, minus2_s, meet2_s]; cases has a.s x <;> cases has b.s x <;> rfl)
  (fun x _ => by rw [minus2_m, minus2_m, meet2_m]; cases has a.m x <;> cases has b.m x <;> rfl)
  (fun t ho => by
    rw [minus2_o, minus2_o, meet2_o, meet2_m, ho]
    cases has a.m (fst t) <;> cases has b.m (fst t) <;> cases isIn a.o t <;> cases isIn b.o t <;> rfl)).2
end

set_option maxHeartbeats 32000000 in
theorem walk (A1 A2 A3 B1 B2 B3 C1 C2 C3 : Option Addr) (n1 n2 n3 p1 p2 p3 m1 m2 m3 q1 q2 q3 l1 l2 l3 r1 r2 r3 : Nat) (a b c : Sset.St) (w : World) (hA : Has3 w A1 n1 A2 n2 A3 n3 a) (hB : Has3 w B1 m1 B2 m2 B3 m3 b) (hC : Has3 w C1 l1 C2 l2 C3 l3 c) (hn : n3 ≤ 1048576) (hm : m3 ≤ 1048576) (hl : l3 ≤ 1048576) :
    Calls Tryz.prog 4 #[.agg #[.slice A1 n1 p1, .slice A2 n2 p2, .slice A3 n3 p3], .agg #[.slice B1 m1 q1, .slice B2 m2 q2, .slice B3 m3 q3], .agg #[.slice C1 l1 r1, .slice C2 l2 r2, .slice C3 l3 r3]] w (Law w) := by
  obtain ⟨g0, hg0⟩ : ∃ g0, g0 = w.heap.size := ⟨_, rfl⟩
  obtain ⟨g1, hg1⟩ : ∃ g1, g1 = w.heap.size + 1 := ⟨_, rfl⟩
  obtain ⟨g2, hg2⟩ : ∃ g2, g2 = w.heap.size + 2 := ⟨_, rfl⟩
  obtain ⟨W0, hW0⟩ : ∃ W0, W0 = (((w.alloc (.cells #[.slice A1 n1 p1, .slice A2 n2 p2, .slice A3 n3 p3] 25)).alloc (.cells #[.slice B1 m1 q1, .slice B2 m2 q2, .slice B3 m3 q3] 25)).alloc (.cells #[.slice C1 l1 r1, .slice C2 l2 r2, .slice C3 l3 r3] 25)) := ⟨_, rfl⟩
  have XA := Lib.hid (show Bx W0 g0 A1 n1 p1 A2 n2 p2 A3 n3 p3 a from by rw [hW0, hg0]; exact ((Bx.new hA).next (below_new _ _)).next (below_new _ _))
  have XB := Lib.hid (show Bx W0 g1 B1 m1 q1 B2 m2 q2 B3 m3 q3 b from by
    have := (Bx.new (c1 := q1) (c2 := q2) (c3 := q3) (hB.next (below_new w (.cells #[.slice A1 n1 p1, .slice A2 n2 p2, .slice A3 n3 p3] 25)))).next (below_new _ (.cells #[.slice C1 l1 r1, .slice C2 l2 r2, .slice C3 l3 r3] 25))
    rw [hW0, hg1]; simpa using this)
  have XC := Lib.hid (show Bx W0 g2 C1 l1 r1 C2 l2 r2 C3 l3 r3 c from by
    have := Bx.new (c1 := r1) (c2 := r2) (c3 := r3) ((hC.next (below_new w (.cells #[.slice A1 n1 p1, .slice A2 n2 p2, .slice A3 n3 p3] 25))).next (below_new _ (.cells #[.slice B1 m1 q1, .slice B2 m2 q2, .slice B3 m3 q3] 25)))
    rw [hW0, hg2]; simpa using this)
  have HB := Lib.hid (show Below w.heap.size w W0 from by rw [hW0]; exact (((Below.refl _ _).alloc (Nat.le_refl _) _).alloc (by simp) _).alloc (by simp; omega) _)
  have HW0 := Lib.hid hW0; have HG0 := Lib.hid hg0; have HG1 := Lib.hid hg1; have HG2 := Lib.hid hg2
  clear hW0 hg0 hg1 hg2 hA hB hC
  go_enter Tryz.func4, Tryz.ntmps4
  go_wp2_with fail
  rw [← HW0.out, ← HG2.out, ← HG1.out, ← HG0.out]
  refine (fixed_any _).mono ?_
  rintro e w1 ⟨rfl, hb0⟩
  replace XA := Lib.hid (XA.out.next hb0); replace XB := Lib.hid (XB.out.next hb0); replace XC := Lib.hid (XC.out.next hb0)
  replace HB := Lib.hid (HB.out.trans (hb0.mono HB.out.size))
  clear hb0 HW0 HG0 HG1 HG2
  go_wp2_with fail
  have HSW := Lib.hid (show ∀ u, Below w1.heap.size w1 u → u.cell? ⟨g0, 0, none⟩ = some (.slice A1 n1 p1) ∧ u.cell? ⟨g0, 1, none⟩ = some (.slice A2 n2 p2) ∧ u.cell? ⟨g0, 2, none⟩ = some (.slice A3 n3 p3) ∧ u.cell? ⟨g1, 0, none⟩ = some (.slice B1 m1 q1) ∧ u.cell? ⟨g1, 1, none⟩ = some (.slice B2 m2 q2) ∧ u.cell? ⟨g1, 2, none⟩ = some (.slice B3 m3 q3) from fun u hu => ⟨(XA.out.blk.next hu).c0, (XA.out.blk.next hu).c1, (XA.out.blk.next hu).c2, (XB.out.blk.next hu).c0, (XB.out.blk.next hu).c1, (XB.out.blk.next hu).c2⟩)
  refine wp_region_held_drew (S := fun u => u.cell? ⟨g0, 0, none⟩ = some (.slice A1 n1 p1) ∧ u.cell? ⟨g0, 1, none⟩ = some (.slice A2 n2 p2) ∧ u.cell? ⟨g0, 2, none⟩ = some (.slice A3 n3 p3) ∧ u.cell? ⟨g1, 0, none⟩ = some (.slice B1 m1 q1) ∧ u.cell? ⟨g1, 1, none⟩ = some (.slice B2 m2 q2) ∧ u.cell? ⟨g1, 2, none⟩ = some (.slice B3 m3 q3)) (by kernel_rfl) (HSW.out _ (Below.refl _ _).drew) (fun hHeld => ?_)
  have HQ0 := Lib.hid (show Below w1.heap.size w1 w1.drew from (Below.refl _ _).drew)
  refine wpAnyH_take (i := 0) (oi := _) (v := ?_) rfl (by kernel_rfl) (by kernel_rfl) (by kernel_rfl) (fun _ _ _ h => h) (Or.inl ⟨by rfl, ?_⟩) (by assumption) ?_
  rotate_left
  · (intro w hSw; (try dsimp only at hSw); (try obtain ⟨s1_, s2_, s3_, s4_, s5_, s6_⟩ := hSw); go_simp <;> with_reducible rfl)
  simp only [List.getElem_toArray, List.getElem_cons_zero, Act.put, List.setIfInBounds_toArray, List.set_cons_zero, List.set_cons_succ]
  refine wpAnyH_take (i := 1) (oi := _) (v := ?_) rfl (by kernel_rfl) (by kernel_rfl) (by kernel_rfl) (fun _ _ _ h => h) (Or.inl ⟨by rfl, ?_⟩) (by assumption) ?_
  rotate_left
  · (intro w hSw; (try dsimp only at hSw); (try obtain ⟨s1_, s2_, s3_, s4_, s5_, s6_⟩ := hSw); go_simp <;> with_reducible rfl)
  simp only [List.getElem_toArray, List.getElem_cons_succ, List.getElem_cons_zero, Act.put, List.setIfInBounds_toArray, List.set_cons_zero, List.set_cons_succ]
  refine wpAnyH_take (i := 3) (oi := _) (v := ?_) rfl (by kernel_rfl) (by kernel_rfl) (by kernel_rfl) (fun _ _ _ h => h) (Or.inl ⟨by rfl, ?_⟩) (by assumption) ?_
  rotate_left
  · (intro w hSw; (try dsimp only at hSw); (try obtain ⟨s1_, s2_, s3_, s4_, s5_, s6_⟩ := hSw); go_simp <;> with_reducible rfl)
  simp only [List.getElem_toArray, List.getElem_cons_succ, List.getElem_cons_zero, Act.put, List.setIfInBounds_toArray, List.set_cons_zero, List.set_cons_succ]
  refine wpAnyH_take (i := 4) (oi := _) (v := ?_) rfl (by kernel_rfl) (by kernel_rfl) (by kernel_rfl) (fun _ _ _ h => h) (Or.inl ⟨by rfl, ?_⟩) (by assumption) ?_
  rotate_left
  · (intro w hSw; (try dsimp only at hSw); (try obtain ⟨s1_, s2_, s3_, s4_, s5_, s6_⟩ := hSw); go_simp <;> with_reducible rfl)
  simp only [List.getElem_toArray, List.getElem_cons_succ, List.getElem_cons_zero, Act.put, List.setIfInBounds_toArray, List.set_cons_zero, List.set_cons_succ]
  refine wpAnyH_named (fun a0 ha0 => ?_)
  have HA0 := Lib.hid ha0
  clear ha0
  refine wpAnyH_float (fuel := 2) (L := fun bs => #[true, true, bs.getD 0 false, true, true, bs.getD 1 false, bs.getD 2 false, bs.getD 3 false, false, false]) (ok := fun bs => (!bs.getD 1 false || bs.getD 0 false)) (M := [2, 5, 6, 7]) (fun bs ac u => ∃ x0 x1 x2 x3 : Value, Hid (ac = ((((a0.put (some 13) x0).put (some 16) x1).put (some 7) x2).put (some 8) x3)) ∧ Hid (bs.getD 0 false = true → ArgS u x0 (uni2 a b)) ∧ Hid (bs.getD 1 false = true → ArgS u x1 (meet2 a b)) ∧ Hid (bs.getD 2 false = true → Hz w1.heap.size u x2) ∧ Hid (bs.getD 3 false = true → Hz w1.heap.size u x3) ∧ Hid (bs.getD 2 false = true → bs.getD 3 false = true → x2 ≠ x3) ∧ Hid (Below w1.heap.size w1 u)) (by kernel_rfl) ?_ ?_ 4 [false, false, false, false] _ _ rfl rfl rfl hHeld ⟨undef, undef, undef, undef, Lib.hid (by rw [HA0.out]; rfl), Lib.hid (fun h => absurd (show false = true from h) (by decide)), Lib.hid (fun h => absurd (show false = true from h) (by decide)), Lib.hid (fun h => absurd (show false = true from h) (by decide)), Lib.hid (fun h => absurd (show false = true from h) (by decide)), Lib.hid (fun h _ => absurd (show false = true from h) (by decide)), HQ0⟩
  · intro j i bs ac u hM hl hb hok hS hJ
    obtain ⟨b0, b1, b2, b3, rfl⟩ : ∃ b0 b1 b2 b3, bs = [b0, b1, b2, b3] := by
      match bs, hl with
      | [b0, b1, b2, b3], _ => exact ⟨b0, b1, b2, b3, rfl⟩
    obtain ⟨x0, x1, x2, x3, ha, f0, f1, f2, f3, f2_3, HQ⟩ := hJ
    obtain rfl := ha.out
    clear ha hS
    rcases j with _ | _ | _ | _ | j
    · obtain rfl : 2 = i := Option.some.inj hM
      obtain rfl : b0 = false := hb
      clear hM hl hok; (try clear hb)
      refine ⟨_, rfl, fun K hK => ?_⟩
      rw [HA0.out]
      simp only [Act.put, List.setIfInBounds_toArray, List.set_cons_zero, List.set_cons_succ]
      go_simp
      refine (r_union _ _ _ _ _ _ ((XA.out.next HQ.out).has) ((XB.out.next HQ.out).has) (by omega)).mono ?_
      rintro e v ⟨Ra, Rb, Rc, Rd, Re, Rf, Rg, Rh, Ri, rfl, M⟩
      have hb := M.bel
      have HQ1 := HQ.out.trans (hb.mono HQ.out.size)
      exact hK.out _ _ (HSW.out _ HQ1) ⟨.agg #[.slice Ra Rb Rc, .slice Rd Re Rf, .slice Rg Rh Ri], x1, x2, x3, Lib.hid (by rw [HA0.out]; rfl), Lib.hid (fun _ => ⟨_, _, _, _, _, _, _, _, _, rfl, M.has⟩), Lib.hid (fun h => (f1.out h).next hb), Lib.hid (fun h => (f2.out h).next hb), Lib.hid (fun h => (f3.out h).next hb), f2_3, Lib.hid HQ1⟩
    · obtain rfl : 5 = i := Option.some.inj hM
      obtain rfl : b1 = false := hb
      obtain rfl : b0 = true := by simpa using hok
      clear hM hl hok; (try clear hb)
      refine ⟨_, rfl, fun K hK => ?_⟩
      rw [HA0.out]
      simp only [Act.put, List.setIfInBounds_toArray, List.set_cons_zero, List.set_cons_succ]
      go_simp
      refine (r_meet2 _ _ _ _ _ _ ((XA.out.next HQ.out).has) ((XB.out.next HQ.out).has) (by omega)).mono ?_
      rintro e v ⟨Ra, Rb, Rc, Rd, Re, Rf, Rg, Rh, Ri, rfl, M⟩
      have hb := M.bel
      have HQ1 := HQ.out.trans (hb.mono HQ.out.size)
      exact hK.out _ _ (HSW.out _ HQ1) ⟨x0, .agg #[.slice Ra Rb Rc, .slice Rd Re Rf, .slice Rg Rh Ri], x2, x3, Lib.hid (by rw [HA0.out]; rfl), Lib.hid (fun h => (f0.out h).next hb), Lib.hid (fun _ => ⟨_, _, _, _, _, _, _, _, _, rfl, M.has⟩), Lib.hid (fun h => (f2.out h).next hb), Lib.hid (fun h => (f3.out h).next hb), f2_3, Lib.hid HQ1⟩
    · obtain rfl : 6 = i := Option.some.inj hM
      obtain rfl : b2 = false := hb
      clear hM hl hok; (try clear hb)
      refine ⟨_, rfl, fun K hK => ?_⟩
      rw [HA0.out]
      simp only [Act.put, List.setIfInBounds_toArray, List.set_cons_zero, List.set_cons_succ]
      go_simp
      have hb := below_new u (.cells #[.slice none 0 0, .slice none 0 0, .slice none 0 0] 25)
      have HQ1 := HQ.out.alloc HQ.out.size (.cells #[.slice none 0 0, .slice none 0 0, .slice none 0 0] 25)
      exact hK.out _ _ (HSW.out _ HQ1) ⟨x0, x1, .pointer (some ⟨u.heap.size, 0, none⟩), x3, Lib.hid (by rw [HA0.out]; rfl), Lib.hid (fun h => (f0.out h).next hb), Lib.hid (fun h => (f1.out h).next hb), Lib.hid (fun _ => Hz.new u HQ.out.size), Lib.hid (fun h => (f3.out h).next hb), Lib.hid (fun _ h => (f3.out h).ne'), Lib.hid HQ1⟩
    · obtain rfl : 7 = i := Option.some.inj hM
      obtain rfl : b3 = false := hb
      clear hM hl hok; (try clear hb)
      refine ⟨_, rfl, fun K hK => ?_⟩
      rw [HA0.out]
      simp only [Act.put, List.setIfInBounds_toArray, List.set_cons_zero, List.set_cons_succ]
      go_simp
      have hb := below_new u (.cells #[.slice none 0 0, .slice none 0 0, .slice none 0 0] 25)
      have HQ1 := HQ.out.alloc HQ.out.size (.cells #[.slice none 0 0, .slice none 0 0, .slice none 0 0] 25)
      exact hK.out _ _ (HSW.out _ HQ1) ⟨x0, x1, x2, .pointer (some ⟨u.heap.size, 0, none⟩), Lib.hid (by rw [HA0.out]; rfl), Lib.hid (fun h => (f0.out h).next hb), Lib.hid (fun h => (f1.out h).next hb), Lib.hid (fun h => (f2.out h).next hb), Lib.hid (fun _ => Hz.new u HQ.out.size), Lib.hid (fun h _ => (f2.out h).ne), Lib.hid HQ1⟩
    · simp at hM
  · intro ac u hS hJ
    obtain ⟨x0, x1, x2, x3, ha, f0, f1, f2, f3, f2_3, HQ⟩ := hJ
    obtain rfl := ha.out
    clear ha
    obtain ⟨U1, Un1, Uc1, U2, Un2, Uc2, U3, Un3, Uc3, rfl, HU⟩ := f0.out rfl
    obtain ⟨M1, Mn1, Mc1, M2, Mn2, Mc2, M3, Mn3, Mc3, rfl, HM⟩ := f1.out rfl
    obtain ⟨gU, zgU1, zgU2, zgU3, zgU4, zgU5, zgU6, zgU7, zgU8, zgU9, rfl, hggU, hzgU⟩ := f2.out rfl
    obtain ⟨gM, zgM1, zgM2, zgM3, zgM4, zgM5, zgM6, zgM7, zgM8, zgM9, rfl, hggM, hzgM⟩ := f3.out rfl
    have hne_gU_gM : gU ≠ gM := fun e => f2_3.out rfl rfl (by rw [e])
    clear f0 f1 f2 f3 f2_3
    rw [HA0.out]
    simp only [Act.put, List.setIfInBounds_toArray, List.set_cons_zero, List.set_cons_succ]
    show wpAnyH _ _ _ _ _ _ #[true, true, true, true, true, true, true, true, false, false] _ _
    clear HA0 a0
    have d0 := hzgU.c0; have d1 := hzgU.c1; have d2 := hzgU.c2; have e0 := hzgU.fr 0; have e1 := hzgU.fr 1; have e2 := hzgU.fr 2
    refine wpAnyH_ready (rs := [8]) (by kernel_rfl) (by simp) (AllReadyH.cons rfl (fun K hK => ?_) AllReadyH.nil)
    go_simp
    clear d0 d1 d2 e0 e1 e2
    have XgU : Bx _ gU U1 Un1 Uc1 U2 Un2 Uc2 U3 Un3 Uc3 (uni2 a b) := ⟨hzgU.put (.slice U1 Un1 Uc1) (.slice U2 Un2 Uc2) (.slice U3 Un3 Uc3), has3_put HU hzgU (.slice U1 Un1 Uc1) (.slice U2 Un2 Uc2) (.slice U3 Un3 Uc3)⟩
    replace HM := has3_put HM hzgU (.slice U1 Un1 Uc1) (.slice U2 Un2 Uc2) (.slice U3 Un3 Uc3)
    replace HQ := Lib.hid (below_put3 HQ.out hggU (.slice U1 Un1 Uc1) (.slice U2 Un2 Uc2) (.slice U3 Un3 Uc3))
    replace hzgM := blkS_far hzgM (fun e => hne_gU_gM e) (.slice U1 Un1 Uc1) (.slice U2 Un2 Uc2) (.slice U3 Un3 Uc3)
    refine hK.out _ _ (HSW.out _ HQ.out) (fun hHeld2 => ?_)
    clear hK K hS
    have hS := hHeld2
    clear hHeld2 hzgU HU
    have d0 := hzgM.c0; have d1 := hzgM.c1; have d2 := hzgM.c2; have e0 := hzgM.fr 0; have e1 := hzgM.fr 1; have e2 := hzgM.fr 2
    refine wpAnyH_ready (rs := [9]) (by kernel_rfl) (by simp) (AllReadyH.cons rfl (fun K hK => ?_) AllReadyH.nil)
    go_simp
    clear d0 d1 d2 e0 e1 e2
    replace XgU := bx_far XgU (fun e => hne_gU_gM e.symm) hzgM (.slice M1 Mn1 Mc1) (.slice M2 Mn2 Mc2) (.slice M3 Mn3 Mc3)
    have XgM : Bx _ gM M1 Mn1 Mc1 M2 Mn2 Mc2 M3 Mn3 Mc3 (meet2 a b) := ⟨hzgM.put (.slice M1 Mn1 Mc1) (.slice M2 Mn2 Mc2) (.slice M3 Mn3 Mc3), has3_put HM hzgM (.slice M1 Mn1 Mc1) (.slice M2 Mn2 Mc2) (.slice M3 Mn3 Mc3)⟩
    replace HQ := Lib.hid (below_put3 HQ.out hggM (.slice M1 Mn1 Mc1) (.slice M2 Mn2 Mc2) (.slice M3 Mn3 Mc3))
    refine hK.out _ _ (HSW.out _ HQ.out) (fun hHeld2 => ?_)
    clear hK K hS
    have hS := hHeld2
    clear hHeld2 hzgM HM
    refine wpAnyH_done (by kernel_rfl) ?_ _
    obtain ⟨W5, hW5⟩ : ∃ W5, W5 = ((((((u.setCell ⟨gU, 0, none⟩ (.slice U1 Un1 Uc1)).setCell ⟨gU, 1, none⟩ (.slice U2 Un2 Uc2)).setCell ⟨gU, 2, none⟩ (.slice U3 Un3 Uc3)).setCell ⟨gM, 0, none⟩ (.slice M1 Mn1 Mc1)).setCell ⟨gM, 1, none⟩ (.slice M2 Mn2 Mc2)).setCell ⟨gM, 2, none⟩ (.slice M3 Mn3 Mc3)) := ⟨_, rfl⟩
    rw [← hW5] at XgU XgM HQ ⊢
    clear hW5 HSW hS hggU hggM hne_gU_gM
    replace XA := Lib.hid (XA.out.next HQ.out); replace XB := Lib.hid (XB.out.next HQ.out); replace XC := Lib.hid (XC.out.next HQ.out)
    replace HB := Lib.hid (HB.out.trans (HQ.out.mono HB.out.size))
    have XU := Lib.hid XgU; have XM := Lib.hid XgM
    have hUn : Un3 ≤ 2097152 := by have h1 := XU.out.has.o.len; have h2 := uni2_len a b; have h3 := XA.out.has.o.len; have h4 := XB.out.has.o.len; omega
    have hMn : Mn3 ≤ 2097152 := by have h1 := XM.out.has.o.len; have h2 := meet2_len a b; have h3 := XA.out.has.o.len; have h4 := XB.out.has.o.len; omega
    clear XgU XgM HQ
    have HSW := Lib.hid (show ∀ u, Below W5.heap.size W5 u → u.cell? ⟨g0, 0, none⟩ = some (.slice A1 n1 p1) ∧ u.cell? ⟨g0, 1, none⟩ = some (.slice A2 n2 p2) ∧ u.cell? ⟨g0, 2, none⟩ = some (.slice A3 n3 p3) ∧ u.cell? ⟨g1, 0, none⟩ = some (.slice B1 m1 q1) ∧ u.cell? ⟨g1, 1, none⟩ = some (.slice B2 m2 q2) ∧ u.cell? ⟨g1, 2, none⟩ = some (.slice B3 m3 q3) ∧ u.cell? ⟨g2, 0, none⟩ = some (.slice C1 l1 r1) ∧ u.cell? ⟨g2, 1, none⟩ = some (.slice C2 l2 r2) ∧ u.cell? ⟨g2, 2, none⟩ = some (.slice C3 l3 r3) ∧ u.cell? ⟨gU, 0, none⟩ = some (.slice U1 Un1 Uc1) ∧ u.cell? ⟨gU, 1, none⟩ = some (.slice U2 Un2 Uc2) ∧ u.cell? ⟨gU, 2, none⟩ = some (.slice U3 Un3 Uc3) ∧ u.cell? ⟨gM, 0, none⟩ = some (.slice M1 Mn1 Mc1) ∧ u.cell? ⟨gM, 1, none⟩ = some (.slice M2 Mn2 Mc2) ∧ u.cell? ⟨gM, 2, none⟩ = some (.slice M3 Mn3 Mc3) from fun u hu => ⟨(XA.out.blk.next hu).c0, (XA.out.blk.next hu).c1, (XA.out.blk.next hu).c2, (XB.out.blk.next hu).c0, (XB.out.blk.next hu).c1, (XB.out.blk.next hu).c2, (XC.out.blk.next hu).c0, (XC.out.blk.next hu).c1, (XC.out.blk.next hu).c2, (XU.out.blk.next hu).c0, (XU.out.blk.next hu).c1, (XU.out.blk.next hu).c2, (XM.out.blk.next hu).c0, (XM.out.blk.next hu).c1, (XM.out.blk.next hu).c2⟩)
    go_wp2_with fail
    (try simp only [List.append])
    refine wp_region_held_drew (S := fun u => u.cell? ⟨g0, 0, none⟩ = some (.slice A1 n1 p1) ∧ u.cell? ⟨g0, 1, none⟩ = some (.slice A2 n2 p2) ∧ u.cell? ⟨g0, 2, none⟩ = some (.slice A3 n3 p3) ∧ u.cell? ⟨g1, 0, none⟩ = some (.slice B1 m1 q1) ∧ u.cell? ⟨g1, 1, none⟩ = some (.slice B2 m2 q2) ∧ u.cell? ⟨g1, 2, none⟩ = some (.slice B3 m3 q3) ∧ u.cell? ⟨g2, 0, none⟩ = some (.slice C1 l1 r1) ∧ u.cell? ⟨g2, 1, none⟩ = some (.slice C2 l2 r2) ∧ u.cell? ⟨g2, 2, none⟩ = some (.slice C3 l3 r3) ∧ u.cell? ⟨gU, 0, none⟩ = some (.slice U1 Un1 Uc1) ∧ u.cell? ⟨gU, 1, none⟩ = some (.slice U2 Un2 Uc2) ∧ u.cell? ⟨gU, 2, none⟩ = some (.slice U3 Un3 Uc3) ∧ u.cell? ⟨gM, 0, none⟩ = some (.slice M1 Mn1 Mc1) ∧ u.cell? ⟨gM, 1, none⟩ = some (.slice M2 Mn2 Mc2) ∧ u.cell? ⟨gM, 2, none⟩ = some (.slice M3 Mn3 Mc3)) (by kernel_rfl) (HSW.out _ (Below.refl _ _).drew) (fun hHeld => ?_)
    have HQ0 := Lib.hid (show Below W5.heap.size W5 W5.drew from (Below.refl _ _).drew)
    refine wpAnyH_take (i := 0) (oi := _) (v := ?_) rfl (by kernel_rfl) (by kernel_rfl) (by kernel_rfl) (fun _ _ _ h => h) (Or.inl ⟨by rfl, ?_⟩) (by assumption) ?_
    rotate_left
    · (intro w hSw; (try dsimp only at hSw); (try obtain ⟨s1_, s2_, s3_, s4_, s5_, s6_, s7_, s8_, s9_, s10_, s11_, s12_, s13_, s14_, s15_⟩ := hSw); go_simp <;> with_reducible rfl)
    simp only [List.getElem_toArray, List.getElem_cons_zero, Act.put, List.setIfInBounds_toArray, List.set_cons_zero, List.set_cons_succ]
    refine wpAnyH_take (i := 3) (oi := _) (v := ?_) rfl (by kernel_rfl) (by kernel_rfl) (by kernel_rfl) (fun _ _ _ h => h) (Or.inl ⟨by rfl, ?_⟩) (by assumption) ?_
    rotate_left
    · (intro w hSw; (try dsimp only at hSw); (try obtain ⟨s1_, s2_, s3_, s4_, s5_, s6_, s7_, s8_, s9_, s10_, s11_, s12_, s13_, s14_, s15_⟩ := hSw); go_simp <;> with_reducible rfl)
    simp only [List.getElem_toArray, List.getElem_cons_succ, List.getElem_cons_zero, Act.put, List.setIfInBounds_toArray, List.set_cons_zero, List.set_cons_succ]
    refine wpAnyH_ready (rs := [1]) (by kernel_rfl) (by simp) (AllReadyH.cons rfl (fun K hK => ?_) AllReadyH.nil)
    go_simp
    refine (r_not2 _ _ _ ((XA.out.next HQ0.out).has)).mono ?_
    rintro e v1 ⟨R1a, R1b, R1c, R1d, R1e, R1f, R1g, R1h, R1i, rfl, M⟩
    have hb := M.bel
    have HQ1 := Lib.hid (show Below W5.heap.size W5 v1 from HQ0.out.trans (hb.mono HQ0.out.size))
    have Y1 := Lib.hid M.has
    have lY1 : R1h ≤ 1048576 := by have z8 := Y1.out.o.len; have z9 := not2_len a; have z0 := ((XA.out.next HQ0.out).has).o.len; omega
    clear M hb
    refine hK.out _ _ (HSW.out _ HQ1.out) (fun hHeld2 => ?_)
    clear hK K hHeld
    have hHeld := hHeld2
    clear hHeld2
    refine wpAnyH_ready (rs := [2]) (by kernel_rfl) (by simp) (AllReadyH.cons rfl (fun K hK => ?_) AllReadyH.nil)
    go_simp
    refine (r_not2 _ _ _ (Y1.out)).mono ?_
    rintro e v2 ⟨R2a, R2b, R2c, R2d, R2e, R2f, R2g, R2h, R2i, rfl, M⟩
    have hb := M.bel
    have HQ2 := Lib.hid (show Below W5.heap.size W5 v2 from HQ1.out.trans (hb.mono HQ1.out.size))
    replace Y1 := Lib.hid (Y1.out.next hb)
    have Y2 := Lib.hid M.has
    have lY2 : R2h ≤ 1048576 := by have z8 := Y2.out.o.len; have z9 := not2_len (not2 a); have z0 := (Y1.out).o.len; omega
    clear M hb
    clear Y1 lY1
    refine hK.out _ _ (HSW.out _ HQ2.out) (fun hHeld2 => ?_)
    clear hK K hHeld
    have hHeld := hHeld2
    clear hHeld2
    refine wpAnyH_ready (rs := [4]) (by kernel_rfl) (by simp) (AllReadyH.cons rfl (fun K hK => ?_) AllReadyH.nil)
    go_simp
    refine (r_norm _ _ _ ((XA.out.next HQ2.out).has)).mono ?_
    rintro e v3 ⟨R3a, R3b, R3c, R3d, R3e, R3f, R3g, R3h, R3i, rfl, M⟩
    have hb := M.bel
    have HQ3 := Lib.hid (show Below W5.heap.size W5 v3 from HQ2.out.trans (hb.mono HQ2.out.size))
    replace Y2 := Lib.hid (Y2.out.next hb)
    have Y3 := Lib.hid M.has
    have lY3 : R3h ≤ 1048576 := by have z8 := Y3.out.o.len; have z9 := normS_len a; have z0 := ((XA.out.next HQ2.out).has).o.len; omega
    clear M hb
    refine hK.out _ _ (HSW.out _ HQ3.out) (fun hHeld2 => ?_)
    clear hK K hHeld
    have hHeld := hHeld2
    clear hHeld2
    refine wpAnyH_ready (rs := [5]) (by kernel_rfl) (by simp) (AllReadyH.cons rfl (fun K hK => ?_) AllReadyH.nil)
    go_simp
    refine (r_rsame _ _ _ _ _ _ (Y2.out) (Y3.out) (LawSegsetAlgebra.g1 ..)).mono ?_
    rintro e v4 ⟨rfl, hb⟩
    have HQ4 := Lib.hid (show Below W5.heap.size W5 v4 from HQ3.out.trans (hb.mono HQ3.out.size))
    replace Y2 := Lib.hid (Y2.out.next hb)
    replace Y3 := Lib.hid (Y3.out.next hb)
    clear hb
    clear Y2 lY2
    clear Y3 lY3
    refine hK.out _ _ (HSW.out _ HQ4.out) (fun hHeld2 => ?_)
    clear hK K hHeld
    have hHeld := hHeld2
    clear hHeld2
    refine wpAnyH_take (i := 6) (oi := _) (v := ?_) rfl (by kernel_rfl) (by kernel_rfl) (by kernel_rfl) (fun _ _ _ h => h) (Or.inl ⟨by rfl, ?_⟩) (by assumption) ?_
    rotate_left
    · (intro w hSw; (try dsimp only at hSw); (try obtain ⟨s1_, s2_, s3_, s4_, s5_, s6_, s7_, s8_, s9_, s10_, s11_, s12_, s13_, s14_, s15_⟩ := hSw); go_simp <;> with_reducible rfl)
    simp only [List.getElem_toArray, List.getElem_cons_succ, List.getElem_cons_zero, Act.put, List.setIfInBounds_toArray, List.set_cons_zero, List.set_cons_succ]
    refine wpAnyH_take (i := 7) (oi := _) (v := ?_) rfl (by kernel_rfl) (by kernel_rfl) (by kernel_rfl) (fun _ _ _ h => h) (Or.inl ⟨by rfl, ?_⟩) (by assumption) ?_
    rotate_left
    · (intro w hSw; (try dsimp only at hSw); (try obtain ⟨s1_, s2_, s3_, s4_, s5_, s6_, s7_, s8_, s9_, s10_, s11_, s12_, s13_, s14_, s15_⟩ := hSw); go_simp <;> with_reducible rfl)
    simp only [List.getElem_toArray, List.getElem_cons_succ, List.getElem_cons_zero, Act.put, List.setIfInBounds_toArray, List.set_cons_zero, List.set_cons_succ]
    refine wpAnyH_take (i := 9) (oi := _) (v := ?_) rfl (by kernel_rfl) (by kernel_rfl) (by kernel_rfl) (fun _ _ _ h => h) (Or.inl ⟨by rfl, ?_⟩) (by assumption) ?_
    rotate_left
    · (intro w hSw; (try dsimp only at hSw); (try obtain ⟨s1_, s2_, s3_, s4_, s5_, s6_, s7_, s8_, s9_, s10_, s11_, s12_, s13_, s14_, s15_⟩ := hSw); go_simp <;> with_reducible rfl)
    simp only [List.getElem_toArray, List.getElem_cons_succ, List.getElem_cons_zero, Act.put, List.setIfInBounds_toArray, List.set_cons_zero, List.set_cons_succ]
    refine wpAnyH_take (i := 11) (oi := _) (v := ?_) rfl (by kernel_rfl) (by kernel_rfl) (by kernel_rfl) (fun _ _ _ h => h) (Or.inl ⟨by rfl, ?_⟩) (by assumption) ?_
    rotate_left
    · (intro w hSw; (try dsimp only at hSw); (try obtain ⟨s1_, s2_, s3_, s4_, s5_, s6_, s7_, s8_, s9_, s10_, s11_, s12_, s13_, s14_, s15_⟩ := hSw); go_simp <;> with_reducible rfl)
    simp only [List.getElem_toArray, List.getElem_cons_succ, List.getElem_cons_zero, Act.put, List.setIfInBounds_toArray, List.set_cons_zero, List.set_cons_succ]
    refine wpAnyH_ready (rs := [8]) (by kernel_rfl) (by simp) (AllReadyH.cons rfl (fun K hK => ?_) AllReadyH.nil)
    go_simp
    refine (r_not2 _ _ _ ((XU.out.next HQ4.out).has)).mono ?_
    rintro e v5 ⟨R5a, R5b, R5c, R5d, R5e, R5f, R5g, R5h, R5i, rfl, M⟩
    have hb := M.bel
    have HQ5 := Lib.hid (show Below W5.heap.size W5 v5 from HQ4.out.trans (hb.mono HQ4.out.size))
    have Y4 := Lib.hid M.has
    have lY4 : R5h ≤ 2097152 := by have z8 := Y4.out.o.len; have z9 := not2_len (uni2 a b); have z0 := ((XU.out.next HQ4.out).has).o.len; omega
    clear M hb
    refine hK.out _ _ (HSW.out _ HQ5.out) (fun hHeld2 => ?_)
    clear hK K hHeld
    have hHeld := hHeld2
    clear hHeld2
    refine wpAnyH_ready (rs := [10]) (by kernel_rfl) (by simp) (AllReadyH.cons rfl (fun K hK => ?_) AllReadyH.nil)
    go_simp
    refine (r_not2 _ _ _ ((XA.out.next HQ5.out).has)).mono ?_
    rintro e v6 ⟨R6a, R6b, R6c, R6d, R6e, R6f, R6g, R6h, R6i, rfl, M⟩
    have hb := M.bel
    have HQ6 := Lib.hid (show Below W5.heap.size W5 v6 from HQ5.out.trans (hb.mono HQ5.out.size))
    replace Y4 := Lib.hid (Y4.out.next hb)
    have Y5 := Lib.hid M.has
    have lY5 : R6h ≤ 1048576 := by have z8 := Y5.out.o.len; have z9 := not2_len a; have z0 := ((XA.out.next HQ5.out).has).o.len; omega
    clear M hb
    refine hK.out _ _ (HSW.out _ HQ6.out) (fun hHeld2 => ?_)
    clear hK K hHeld
    have hHeld := hHeld2
    clear hHeld2
    refine wpAnyH_ready (rs := [12]) (by kernel_rfl) (by simp) (AllReadyH.cons rfl (fun K hK => ?_) AllReadyH.nil)
    go_simp
    refine (r_not2 _ _ _ ((XB.out.next HQ6.out).has)).mono ?_
    rintro e v7 ⟨R7a, R7b, R7c, R7d, R7e, R7f, R7g, R7h, R7i, rfl, M⟩
    have hb := M.bel
    have HQ7 := Lib.hid (show Below W5.heap.size W5 v7 from HQ6.out.trans (hb.mono HQ6.out.size))
    replace Y4 := Lib.hid (Y4.out.next hb)
    replace Y5 := Lib.hid (Y5.out.next hb)
    have Y6 := Lib.hid M.has
    have lY6 : R7h ≤ 1048576 := by have z8 := Y6.out.o.len; have z9 := not2_len b; have z0 := ((XB.out.next HQ6.out).has).o.len; omega
    clear M hb
    refine hK.out _ _ (HSW.out _ HQ7.out) (fun hHeld2 => ?_)
    clear hK K hHeld
    have hHeld := hHeld2
    clear hHeld2
    refine wpAnyH_ready (rs := [13]) (by kernel_rfl) (by simp) (AllReadyH.cons rfl (fun K hK => ?_) AllReadyH.nil)
    go_simp
    refine (r_meet2 _ _ _ _ _ _ (Y5.out) (Y6.out) (by have z0 := (Y5.out).o.len; have z1 := (Y6.out).o.len; omega)).mono ?_
    rintro e v8 ⟨R8a, R8b, R8c, R8d, R8e, R8f, R8g, R8h, R8i, rfl, M⟩
    have hb := M.bel
    have HQ8 := Lib.hid (show Below W5.heap.size W5 v8 from HQ7.out.trans (hb.mono HQ7.out.size))
    replace Y4 := Lib.hid (Y4.out.next hb)
    replace Y5 := Lib.hid (Y5.out.next hb)
    replace Y6 := Lib.hid (Y6.out.next hb)
    have Y7 := Lib.hid M.has
    have lY7 : R8h ≤ 2097152 := by have z8 := Y7.out.o.len; have z9 := meet2_len (not2 a) (not2 b); have z0 := (Y5.out).o.len; have z1 := (Y6.out).o.len; omega
    clear M hb
    clear Y5 lY5
    clear Y6 lY6
    refine hK.out _ _ (HSW.out _ HQ8.out) (fun hHeld2 => ?_)
    clear hK K hHeld
    have hHeld := hHeld2
    clear hHeld2
    refine wpAnyH_ready (rs := [14]) (by kernel_rfl) (by simp) (AllReadyH.cons rfl (fun K hK => ?_) AllReadyH.nil)
    go_simp
    refine (r_equal _ _ _ _ _ _ (Y4.out) (Y7.out) (by have z0 := (Y4.out).o.len; have z1 := (Y7.out).o.len; omega) (LawSegsetAlgebra.g2 ..)).mono ?_
    rintro e v9 ⟨rfl, hb⟩
    have HQ9 := Lib.hid (show Below W5.heap.size W5 v9 from HQ8.out.trans (hb.mono HQ8.out.size))
    replace Y4 := Lib.hid (Y4.out.next hb)
    replace Y7 := Lib.hid (Y7.out.next hb)
    clear hb
    clear Y4 lY4
    clear Y7 lY7
    refine hK.out _ _ (HSW.out _ HQ9.out) (fun hHeld2 => ?_)
    clear hK K hHeld
    have hHeld := hHeld2
    clear hHeld2
    refine wpAnyH_take (i := 15) (oi := _) (v := ?_) rfl (by kernel_rfl) (by kernel_rfl) (by kernel_rfl) (fun _ _ _ h => h) (Or.inl ⟨by rfl, ?_⟩) (by assumption) ?_
    rotate_left
    · (intro w hSw; (try dsimp only at hSw); (try obtain ⟨s1_, s2_, s3_, s4_, s5_, s6_, s7_, s8_, s9_, s10_, s11_, s12_, s13_, s14_, s15_⟩ := hSw); go_simp <;> with_reducible rfl)
    simp only [List.getElem_toArray, List.getElem_cons_succ, List.getElem_cons_zero, Act.put, List.setIfInBounds_toArray, List.set_cons_zero, List.set_cons_succ]
    refine wpAnyH_take (i := 16) (oi := _) (v := ?_) rfl (by kernel_rfl) (by kernel_rfl) (by kernel_rfl) (fun _ _ _ h => h) (Or.inl ⟨by rfl, ?_⟩) (by assumption) ?_
    rotate_left
    · (intro w hSw; (try dsimp only at hSw); (try obtain ⟨s1_, s2_, s3_, s4_, s5_, s6_, s7_, s8_, s9_, s10_, s11_, s12_, s13_, s14_, s15_⟩ := hSw); go_simp <;> with_reducible rfl)
    simp only [List.getElem_toArray, List.getElem_cons_succ, List.getElem_cons_zero, Act.put, List.setIfInBounds_toArray, List.set_cons_zero, List.set_cons_succ]
    refine wpAnyH_take (i := 17) (oi := _) (v := ?_) rfl (by kernel_rfl) (by kernel_rfl) (by kernel_rfl) (fun _ _ _ h => h) (Or.inl ⟨by rfl, ?_⟩) (by assumption) ?_
    rotate_left
    · (intro w hSw; (try dsimp only at hSw); (try obtain ⟨s1_, s2_, s3_, s4_, s5_, s6_, s7_, s8_, s9_, s10_, s11_, s12_, s13_, s14_, s15_⟩ := hSw); go_simp <;> with_reducible rfl)
    simp only [List.getElem_toArray, List.getElem_cons_succ, List.getElem_cons_zero, Act.put, List.setIfInBounds_toArray, List.set_cons_zero, List.set_cons_succ]
    refine wpAnyH_take (i := 18) (oi := _) (v := ?_) rfl (by kernel_rfl) (by kernel_rfl) (by kernel_rfl) (fun _ _ _ h => h) (Or.inl ⟨by rfl, ?_⟩) (by assumption) ?_
    rotate_left
    · (intro w hSw; (try dsimp only at hSw); (try obtain ⟨s1_, s2_, s3_, s4_, s5_, s6_, s7_, s8_, s9_, s10_, s11_, s12_, s13_, s14_, s15_⟩ := hSw); go_simp <;> with_reducible rfl)
    simp only [List.getElem_toArray, List.getElem_cons_succ, List.getElem_cons_zero, Act.put, List.setIfInBounds_toArray, List.set_cons_zero, List.set_cons_succ]
    refine wpAnyH_take (i := 20) (oi := _) (v := ?_) rfl (by kernel_rfl) (by kernel_rfl) (by kernel_rfl) (fun _ _ _ h => h) (Or.inl ⟨by rfl, ?_⟩) (by assumption) ?_
    rotate_left
    · (intro w hSw; (try dsimp only at hSw); (try obtain ⟨s1_, s2_, s3_, s4_, s5_, s6_, s7_, s8_, s9_, s10_, s11_, s12_, s13_, s14_, s15_⟩ := hSw); go_simp <;> with_reducible rfl)
    simp only [List.getElem_toArray, List.getElem_cons_succ, List.getElem_cons_zero, Act.put, List.setIfInBounds_toArray, List.set_cons_zero, List.set_cons_succ]
    refine wpAnyH_take (i := 21) (oi := _) (v := ?_) rfl (by kernel_rfl) (by kernel_rfl) (by kernel_rfl) (fun _ _ _ h => h) (Or.inl ⟨by rfl, ?_⟩) (by assumption) ?_
    rotate_left
    · (intro w hSw; (try dsimp only at hSw); (try obtain ⟨s1_, s2_, s3_, s4_, s5_, s6_, s7_, s8_, s9_, s10_, s11_, s12_, s13_, s14_, s15_⟩ := hSw); go_simp <;> with_reducible rfl)
    simp only [List.getElem_toArray, List.getElem_cons_succ, List.getElem_cons_zero, Act.put, List.setIfInBounds_toArray, List.set_cons_zero, List.set_cons_succ]
    refine wpAnyH_take (i := 23) (oi := _) (v := ?_) rfl (by kernel_rfl) (by kernel_rfl) (by kernel_rfl) (fun _ _ _ h => h) (Or.inl ⟨by rfl, ?_⟩) (by assumption) ?_
    rotate_left
    · (intro w hSw; (try dsimp only at hSw); (try obtain ⟨s1_, s2_, s3_, s4_, s5_, s6_, s7_, s8_, s9_, s10_, s11_, s12_, s13_, s14_, s15_⟩ := hSw); go_simp <;> with_reducible rfl)
    simp only [List.getElem_toArray, List.getElem_cons_succ, List.getElem_cons_zero, Act.put, List.setIfInBounds_toArray, List.set_cons_zero, List.set_cons_succ]
    refine wpAnyH_take (i := 24) (oi := _) (v := ?_) rfl (by kernel_rfl) (by kernel_rfl) (by kernel_rfl) (fun _ _ _ h => h) (Or.inl ⟨by rfl, ?_⟩) (by assumption) ?_
    rotate_left
    · (intro w hSw; (try dsimp only at hSw); (try obtain ⟨s1_, s2_, s3_, s4_, s5_, s6_, s7_, s8_, s9_, s10_, s11_, s12_, s13_, s14_, s15_⟩ := hSw); go_simp <;> with_reducible rfl)
    simp only [List.getElem_toArray, List.getElem_cons_succ, List.getElem_cons_zero, Act.put, List.setIfInBounds_toArray, List.set_cons_zero, List.set_cons_succ]
    refine wpAnyH_ready (rs := [19]) (by kernel_rfl) (by simp) (AllReadyH.cons rfl (fun K hK => ?_) AllReadyH.nil)
    go_simp
    refine (r_union _ _ _ _ _ _ ((XM.out.next HQ9.out).has) ((XC.out.next HQ9.out).has) (by have z0 := ((XM.out.next HQ9.out).has).o.len; have z1 := ((XC.out.next HQ9.out).has).o.len; omega)).mono ?_
    rintro e v10 ⟨R10a, R10b, R10c, R10d, R10e, R10f, R10g, R10h, R10i, rfl, M⟩
    have hb := M.bel
    have HQ10 := Lib.hid (show Below W5.heap.size W5 v10 from HQ9.out.trans (hb.mono HQ9.out.size))
    have Y8 := Lib.hid M.has
    have lY8 : R10h ≤ 3145728 := by have z8 := Y8.out.o.len; have z9 := uni2_len (meet2 a b) c; have z0 := ((XM.out.next HQ9.out).has).o.len; have z1 := ((XC.out.next HQ9.out).has).o.len; omega
    clear M hb
    refine hK.out _ _ (HSW.out _ HQ10.out) (fun hHeld2 => ?_)
    clear hK K hHeld
    have hHeld := hHeld2
    clear hHeld2
    refine wpAnyH_ready (rs := [22]) (by kernel_rfl) (by simp) (AllReadyH.cons rfl (fun K hK => ?_) AllReadyH.nil)
    go_simp
    refine (r_union _ _ _ _ _ _ ((XA.out.next HQ10.out).has) ((XC.out.next HQ10.out).has) (by have z0 := ((XA.out.next HQ10.out).has).o.len; have z1 := ((XC.out.next HQ10.out).has).o.len; omega)).mono ?_
    rintro e v11 ⟨R11a, R11b, R11c, R11d, R11e, R11f, R11g, R11h, R11i, rfl, M⟩
    have hb := M.bel
    have HQ11 := Lib.hid (show Below W5.heap.size W5 v11 from HQ10.out.trans (hb.mono HQ10.out.size))
    replace Y8 := Lib.hid (Y8.out.next hb)
    have Y9 := Lib.hid M.has
    have lY9 : R11h ≤ 2097152 := by have z8 := Y9.out.o.len; have z9 := uni2_len a c; have z0 := ((XA.out.next HQ10.out).has).o.len; have z1 := ((XC.out.next HQ10.out).has).o.len; omega
    clear M hb
    refine hK.out _ _ (HSW.out _ HQ11.out) (fun hHeld2 => ?_)
    clear hK K hHeld
    have hHeld := hHeld2
    clear hHeld2
    refine wpAnyH_ready (rs := [25]) (by kernel_rfl) (by simp) (AllReadyH.cons rfl (fun K hK => ?_) AllReadyH.nil)
    go_simp
    refine (r_union _ _ _ _ _ _ ((XB.out.next HQ11.out).has) ((XC.out.next HQ11.out).has) (by have z0 := ((XB.out.next HQ11.out).has).o.len; have z1 := ((XC.out.next HQ11.out).has).o.len; omega)).mono ?_
    rintro e v12 ⟨R12a, R12b, R12c, R12d, R12e, R12f, R12g, R12h, R12i, rfl, M⟩
    have hb := M.bel
    have HQ12 := Lib.hid (show Below W5.heap.size W5 v12 from HQ11.out.trans (hb.mono HQ11.out.size))
    replace Y8 := Lib.hid (Y8.out.next hb)
    replace Y9 := Lib.hid (Y9.out.next hb)
    have Y10 := Lib.hid M.has
    have lY10 : R12h ≤ 2097152 := by have z8 := Y10.out.o.len; have z9 := uni2_len b c; have z0 := ((XB.out.next HQ11.out).has).o.len; have z1 := ((XC.out.next HQ11.out).has).o.len; omega
    clear M hb
    refine hK.out _ _ (HSW.out _ HQ12.out) (fun hHeld2 => ?_)
    clear hK K hHeld
    have hHeld := hHeld2
    clear hHeld2
    refine wpAnyH_ready (rs := [26]) (by kernel_rfl) (by simp) (AllReadyH.cons rfl (fun K hK => ?_) AllReadyH.nil)
    go_simp
    refine (r_meet2 _ _ _ _ _ _ (Y9.out) (Y10.out) (by have z0 := (Y9.out).o.len; have z1 := (Y10.out).o.len; omega)).mono ?_
    rintro e v13 ⟨R13a, R13b, R13c, R13d, R13e, R13f, R13g, R13h, R13i, rfl, M⟩
    have hb := M.bel
    have HQ13 := Lib.hid (show Below W5.heap.size W5 v13 from HQ12.out.trans (hb.mono HQ12.out.size))
    replace Y8 := Lib.hid (Y8.out.next hb)
    replace Y9 := Lib.hid (Y9.out.next hb)
    replace Y10 := Lib.hid (Y10.out.next hb)
    have Y11 := Lib.hid M.has
    have lY11 : R13h ≤ 4194304 := by have z8 := Y11.out.o.len; have z9 := meet2_len (uni2 a c) (uni2 b c); have z0 := (Y9.out).o.len; have z1 := (Y10.out).o.len; omega
    clear M hb
    clear Y9 lY9
    clear Y10 lY10
    refine hK.out _ _ (HSW.out _ HQ13.out) (fun hHeld2 => ?_)
    clear hK K hHeld
    have hHeld := hHeld2
    clear hHeld2
    refine wpAnyH_ready (rs := [27]) (by kernel_rfl) (by simp) (AllReadyH.cons rfl (fun K hK => ?_) AllReadyH.nil)
    go_simp
    refine (r_equal _ _ _ _ _ _ (Y8.out) (Y11.out) (by have z0 := (Y8.out).o.len; have z1 := (Y11.out).o.len; omega) (LawSegsetAlgebra.g3 ..)).mono ?_
    rintro e v14 ⟨rfl, hb⟩
    have HQ14 := Lib.hid (show Below W5.heap.size W5 v14 from HQ13.out.trans (hb.mono HQ13.out.size))
    replace Y8 := Lib.hid (Y8.out.next hb)
    replace Y11 := Lib.hid (Y11.out.next hb)
    clear hb
    clear Y8 lY8
    clear Y11 lY11
    refine hK.out _ _ (HSW.out _ HQ14.out) (fun hHeld2 => ?_)
    clear hK K hHeld
    have hHeld := hHeld2
    clear hHeld2
    refine wpAnyH_take (i := 28) (oi := _) (v := ?_) rfl (by kernel_rfl) (by kernel_rfl) (by kernel_rfl) (fun _ _ _ h => h) (Or.inl ⟨by rfl, ?_⟩) (by assumption) ?_
    rotate_left
    · (intro w hSw; (try dsimp only at hSw); (try obtain ⟨s1_, s2_, s3_, s4_, s5_, s6_, s7_, s8_, s9_, s10_, s11_, s12_, s13_, s14_, s15_⟩ := hSw); go_simp <;> with_reducible rfl)
    simp only [List.getElem_toArray, List.getElem_cons_succ, List.getElem_cons_zero, Act.put, List.setIfInBounds_toArray, List.set_cons_zero, List.set_cons_succ]
    refine wpAnyH_take (i := 29) (oi := _) (v := ?_) rfl (by kernel_rfl) (by kernel_rfl) (by kernel_rfl) (fun _ _ _ h => h) (Or.inl ⟨by rfl, ?_⟩) (by assumption) ?_
    rotate_left
    · (intro w hSw; (try dsimp only at hSw); (try obtain ⟨s1_, s2_, s3_, s4_, s5_, s6_, s7_, s8_, s9_, s10_, s11_, s12_, s13_, s14_, s15_⟩ := hSw); go_simp <;> with_reducible rfl)
    simp only [List.getElem_toArray, List.getElem_cons_succ, List.getElem_cons_zero, Act.put, List.setIfInBounds_toArray, List.set_cons_zero, List.set_cons_succ]
    refine wpAnyH_take (i := 30) (oi := _) (v := ?_) rfl (by kernel_rfl) (by kernel_rfl) (by kernel_rfl) (fun _ _ _ h => h) (Or.inl ⟨by rfl, ?_⟩) (by assumption) ?_
    rotate_left
    · (intro w hSw; (try dsimp only at hSw); (try obtain ⟨s1_, s2_, s3_, s4_, s5_, s6_, s7_, s8_, s9_, s10_, s11_, s12_, s13_, s14_, s15_⟩ := hSw); go_simp <;> with_reducible rfl)
    simp only [List.getElem_toArray, List.getElem_cons_succ, List.getElem_cons_zero, Act.put, List.setIfInBounds_toArray, List.set_cons_zero, List.set_cons_succ]
    refine wpAnyH_take (i := 31) (oi := _) (v := ?_) rfl (by kernel_rfl) (by kernel_rfl) (by kernel_rfl) (fun _ _ _ h => h) (Or.inl ⟨by rfl, ?_⟩) (by assumption) ?_
    rotate_left
    · (intro w hSw; (try dsimp only at hSw); (try obtain ⟨s1_, s2_, s3_, s4_, s5_, s6_, s7_, s8_, s9_, s10_, s11_, s12_, s13_, s14_, s15_⟩ := hSw); go_simp <;> with_reducible rfl)
    simp only [List.getElem_toArray, List.getElem_cons_succ, List.getElem_cons_zero, Act.put, List.setIfInBounds_toArray, List.set_cons_zero, List.set_cons_succ]
    refine wpAnyH_take (i := 32) (oi := _) (v := ?_) rfl (by kernel_rfl) (by kernel_rfl) (by kernel_rfl) (fun _ _ _ h => h) (Or.inl ⟨by rfl, ?_⟩) (by assumption) ?_
    rotate_left
    · (intro w hSw; (try dsimp only at hSw); (try obtain ⟨s1_, s2_, s3_, s4_, s5_, s6_, s7_, s8_, s9_, s10_, s11_, s12_, s13_, s14_, s15_⟩ := hSw); go_simp <;> with_reducible rfl)
    simp only [List.getElem_toArray, List.getElem_cons_succ, List.getElem_cons_zero, Act.put, List.setIfInBounds_toArray, List.set_cons_zero, List.set_cons_succ]
    refine wpAnyH_ready (rs := [33]) (by kernel_rfl) (by simp) (AllReadyH.cons rfl (fun K hK => ?_) AllReadyH.nil)
    go_simp
    refine (r_union _ _ _ _ _ _ ((XB.out.next HQ14.out).has) ((XA.out.next HQ14.out).has) (by have z0 := ((XB.out.next HQ14.out).has).o.len; have z1 := ((XA.out.next HQ14.out).has).o.len; omega)).mono ?_
    rintro e v15 ⟨R15a, R15b, R15c, R15d, R15e, R15f, R15g, R15h, R15i, rfl, M⟩
    have hb := M.bel
    have HQ15 := Lib.hid (show Below W5.heap.size W5 v15 from HQ14.out.trans (hb.mono HQ14.out.size))
    have Y12 := Lib.hid M.has
    have lY12 : R15h ≤ 2097152 := by have z8 := Y12.out.o.len; have z9 := uni2_len b a; have z0 := ((XB.out.next HQ14.out).has).o.len; have z1 := ((XA.out.next HQ14.out).has).o.len; omega
    clear M hb
    refine hK.out _ _ (HSW.out _ HQ15.out) (fun hHeld2 => ?_)
    clear hK K hHeld
    have hHeld := hHeld2
    clear hHeld2
    refine wpAnyH_ready (rs := [34]) (by kernel_rfl) (by simp) (AllReadyH.cons rfl (fun K hK => ?_) AllReadyH.nil)
    go_simp
    refine (r_equal _ _ _ _ _ _ ((XU.out.next HQ15.out).has) (Y12.out) (by have z0 := ((XU.out.next HQ15.out).has).o.len; have z1 := (Y12.out).o.len; omega) (LawSegsetAlgebra.g4 ..)).mono ?_
    rintro e v16 ⟨rfl, hb⟩
    have HQ16 := Lib.hid (show Below W5.heap.size W5 v16 from HQ15.out.trans (hb.mono HQ15.out.size))
    replace Y12 := Lib.hid (Y12.out.next hb)
    clear hb
    clear Y12 lY12
    refine hK.out _ _ (HSW.out _ HQ16.out) (fun hHeld2 => ?_)
    clear hK K hHeld
    have hHeld := hHeld2
    clear hHeld2
    refine wpAnyH_take (i := 35) (oi := _) (v := ?_) rfl (by kernel_rfl) (by kernel_rfl) (by kernel_rfl) (fun _ _ _ h => h) (Or.inl ⟨by rfl, ?_⟩) (by assumption) ?_
    rotate_left
    · (intro w hSw; (try dsimp only at hSw); (try obtain ⟨s1_, s2_, s3_, s4_, s5_, s6_, s7_, s8_, s9_, s10_, s11_, s12_, s13_, s14_, s15_⟩ := hSw); go_simp <;> with_reducible rfl)
    simp only [List.getElem_toArray, List.getElem_cons_succ, List.getElem_cons_zero, Act.put, List.setIfInBounds_toArray, List.set_cons_zero, List.set_cons_succ]
    refine wpAnyH_take (i := 36) (oi := _) (v := ?_) rfl (by kernel_rfl) (by kernel_rfl) (by kernel_rfl) (fun _ _ _ h => h) (Or.inl ⟨by rfl, ?_⟩) (by assumption) ?_
    rotate_left
    · (intro w hSw; (try dsimp only at hSw); (try obtain ⟨s1_, s2_, s3_, s4_, s5_, s6_, s7_, s8_, s9_, s10_, s11_, s12_, s13_, s14_, s15_⟩ := hSw); go_simp <;> with_reducible rfl)
    simp only [List.getElem_toArray, List.getElem_cons_succ, List.getElem_cons_zero, Act.put, List.setIfInBounds_toArray, List.set_cons_zero, List.set_cons_succ]
    refine wpAnyH_take (i := 37) (oi := _) (v := ?_) rfl (by kernel_rfl) (by kernel_rfl) (by kernel_rfl) (fun _ _ _ h => h) (Or.inl ⟨by rfl, ?_⟩) (by assumption) ?_
    rotate_left
    · (intro w hSw; (try dsimp only at hSw); (try obtain ⟨s1_, s2_, s3_, s4_, s5_, s6_, s7_, s8_, s9_, s10_, s11_, s12_, s13_, s14_, s15_⟩ := hSw); go_simp <;> with_reducible rfl)
    simp only [List.getElem_toArray, List.getElem_cons_succ, List.getElem_cons_zero, Act.put, List.setIfInBounds_toArray, List.set_cons_zero, List.set_cons_succ]
    refine wpAnyH_take (i := 38) (oi := _) (v := ?_) rfl (by kernel_rfl) (by kernel_rfl) (by kernel_rfl) (fun _ _ _ h => h) (Or.inl ⟨by rfl, ?_⟩) (by assumption) ?_
    rotate_left
    · (intro w hSw; (try dsimp only at hSw); (try obtain ⟨s1_, s2_, s3_, s4_, s5_, s6_, s7_, s8_, s9_, s10_, s11_, s12_, s13_, s14_, s15_⟩ := hSw); go_simp <;> with_reducible rfl)
    simp only [List.getElem_toArray, List.getElem_cons_succ, List.getElem_cons_zero, Act.put, List.setIfInBounds_toArray, List.set_cons_zero, List.set_cons_succ]
    refine wpAnyH_ready (rs := [39]) (by kernel_rfl) (by simp) (AllReadyH.cons rfl (fun K hK => ?_) AllReadyH.nil)
    go_simp
    refine (r_not2 _ _ _ ((XA.out.next HQ16.out).has)).mono ?_
    rintro e v17 ⟨R17a, R17b, R17c, R17d, R17e, R17f, R17g, R17h, R17i, rfl, M⟩
    have hb := M.bel
    have HQ17 := Lib.hid (show Below W5.heap.size W5 v17 from HQ16.out.trans (hb.mono HQ16.out.size))
    have Y13 := Lib.hid M.has
    have lY13 : R17h ≤ 1048576 := by have z8 := Y13.out.o.len; have z9 := not2_len a; have z0 := ((XA.out.next HQ16.out).has).o.len; omega
    clear M hb
    refine hK.out _ _ (HSW.out _ HQ17.out) (fun hHeld2 => ?_)
    clear hK K hHeld
    have hHeld := hHeld2
    clear hHeld2
    refine wpAnyH_ready (rs := [40]) (by kernel_rfl) (by simp) (AllReadyH.cons rfl (fun K hK => ?_) AllReadyH.nil)
    go_simp
    refine (r_meet2 _ _ _ _ _ _ ((XA.out.next HQ17.out).has) (Y13.out) (by have z0 := ((XA.out.next HQ17.out).has).o.len; have z1 := (Y13.out).o.len; omega)).mono ?_
    rintro e v18 ⟨R18a, R18b, R18c, R18d, R18e, R18f, R18g, R18h, R18i, rfl, M⟩
    have hb := M.bel
    have HQ18 := Lib.hid (show Below W5.heap.size W5 v18 from HQ17.out.trans (hb.mono HQ17.out.size))
    replace Y13 := Lib.hid (Y13.out.next hb)
    have Y14 := Lib.hid M.has
    have lY14 : R18h ≤ 2097152 := by have z8 := Y14.out.o.len; have z9 := meet2_len a (not2 a); have z0 := ((XA.out.next HQ17.out).has).o.len; have z1 := (Y13.out).o.len; omega
    clear M hb
    clear Y13 lY13
    refine hK.out _ _ (HSW.out _ HQ18.out) (fun hHeld2 => ?_)
    clear hK K hHeld
    have hHeld := hHeld2
    clear hHeld2
    refine wpAnyH_ready (rs := [41]) (by kernel_rfl) (by simp) (AllReadyH.cons rfl (fun K hK => ?_) AllReadyH.nil)
    go_simp
    refine (r_none _ _ _ (Y14.out) (LawSegsetAlgebra.g5 ..)).mono ?_
    rintro e v19 ⟨rfl, hb⟩
    have HQ19 := Lib.hid (show Below W5.heap.size W5 v19 from HQ18.out.trans (hb.mono HQ18.out.size))
    replace Y14 := Lib.hid (Y14.out.next hb)
    clear hb
    clear Y14 lY14
    refine hK.out _ _ (HSW.out _ HQ19.out) (fun hHeld2 => ?_)
    clear hK K hHeld
    have hHeld := hHeld2
    clear hHeld2
    refine wpAnyH_take (i := 42) (oi := _) (v := ?_) rfl (by kernel_rfl) (by kernel_rfl) (by kernel_rfl) (fun _ _ _ h => h) (Or.inl ⟨by rfl, ?_⟩) (by assumption) ?_
    rotate_left
    · (intro w hSw; (try dsimp only at hSw); (try obtain ⟨s1_, s2_, s3_, s4_, s5_, s6_, s7_, s8_, s9_, s10_, s11_, s12_, s13_, s14_, s15_⟩ := hSw); go_simp <;> with_reducible rfl)
    simp only [List.getElem_toArray, List.getElem_cons_succ, List.getElem_cons_zero, Act.put, List.setIfInBounds_toArray, List.set_cons_zero, List.set_cons_succ]
    refine wpAnyH_take (i := 43) (oi := _) (v := ?_) rfl (by kernel_rfl) (by kernel_rfl) (by kernel_rfl) (fun _ _ _ h => h) (Or.inl ⟨by rfl, ?_⟩) (by assumption) ?_
    rotate_left
    · (intro w hSw; (try dsimp only at hSw); (try obtain ⟨s1_, s2_, s3_, s4_, s5_, s6_, s7_, s8_, s9_, s10_, s11_, s12_, s13_, s14_, s15_⟩ := hSw); go_simp <;> with_reducible rfl)
    simp only [List.getElem_toArray, List.getElem_cons_succ, List.getElem_cons_zero, Act.put, List.setIfInBounds_toArray, List.set_cons_zero, List.set_cons_succ]
    refine wpAnyH_take (i := 44) (oi := _) (v := ?_) rfl (by kernel_rfl) (by kernel_rfl) (by kernel_rfl) (fun _ _ _ h => h) (Or.inl ⟨by rfl, ?_⟩) (by assumption) ?_
    rotate_left
    · (intro w hSw; (try dsimp only at hSw); (try obtain ⟨s1_, s2_, s3_, s4_, s5_, s6_, s7_, s8_, s9_, s10_, s11_, s12_, s13_, s14_, s15_⟩ := hSw); go_simp <;> with_reducible rfl)
    simp only [List.getElem_toArray, List.getElem_cons_succ, List.getElem_cons_zero, Act.put, List.setIfInBounds_toArray, List.set_cons_zero, List.set_cons_succ]
    refine wpAnyH_take (i := 45) (oi := _) (v := ?_) rfl (by kernel_rfl) (by kernel_rfl) (by kernel_rfl) (fun _ _ _ h => h) (Or.inl ⟨by rfl, ?_⟩) (by assumption) ?_
    rotate_left
    · (intro w hSw; (try dsimp only at hSw); (try obtain ⟨s1_, s2_, s3_, s4_, s5_, s6_, s7_, s8_, s9_, s10_, s11_, s12_, s13_, s14_, s15_⟩ := hSw); go_simp <;> with_reducible rfl)
    simp only [List.getElem_toArray, List.getElem_cons_succ, List.getElem_cons_zero, Act.put, List.setIfInBounds_toArray, List.set_cons_zero, List.set_cons_succ]
    refine wpAnyH_ready (rs := [46]) (by kernel_rfl) (by simp) (AllReadyH.cons rfl (fun K hK => ?_) AllReadyH.nil)
    go_simp
    refine (r_not2 _ _ _ ((XA.out.next HQ19.out).has)).mono ?_
    rintro e v20 ⟨R20a, R20b, R20c, R20d, R20e, R20f, R20g, R20h, R20i, rfl, M⟩
    have hb := M.bel
    have HQ20 := Lib.hid (show Below W5.heap.size W5 v20 from HQ19.out.trans (hb.mono HQ19.out.size))
    have Y15 := Lib.hid M.has
    have lY15 : R20h ≤ 1048576 := by have z8 := Y15.out.o.len; have z9 := not2_len a; have z0 := ((XA.out.next HQ19.out).has).o.len; omega
    clear M hb
    refine hK.out _ _ (HSW.out _ HQ20.out) (fun hHeld2 => ?_)
    clear hK K hHeld
    have hHeld := hHeld2
    clear hHeld2
    refine wpAnyH_ready (rs := [47]) (by kernel_rfl) (by simp) (AllReadyH.cons rfl (fun K hK => ?_) AllReadyH.nil)
    go_simp
    refine (r_union _ _ _ _ _ _ ((XA.out.next HQ20.out).has) (Y15.out) (by have z0 := ((XA.out.next HQ20.out).has).o.len; have z1 := (Y15.out).o.len; omega)).mono ?_
    rintro e v21 ⟨R21a, R21b, R21c, R21d, R21e, R21f, R21g, R21h, R21i, rfl, M⟩
    have hb := M.bel
    have HQ21 := Lib.hid (show Below W5.heap.size W5 v21 from HQ20.out.trans (hb.mono HQ20.out.size))
    replace Y15 := Lib.hid (Y15.out.next hb)
    have Y16 := Lib.hid M.has
    have lY16 : R21h ≤ 2097152 := by have z8 := Y16.out.o.len; have z9 := uni2_len a (not2 a); have z0 := ((XA.out.next HQ20.out).has).o.len; have z1 := (Y15.out).o.len; omega
    clear M hb
    clear Y15 lY15
    refine hK.out _ _ (HSW.out _ HQ21.out) (fun hHeld2 => ?_)
    clear hK K hHeld
    have hHeld := hHeld2
    clear hHeld2
    refine wpAnyH_ready (rs := [48]) (by kernel_rfl) (by simp) (AllReadyH.cons rfl (fun K hK => ?_) AllReadyH.nil)
    go_simp
    refine (r_all _).mono ?_
    rintro e v22 ⟨R22a, R22b, R22c, R22d, R22e, R22f, R22g, R22h, R22i, rfl, M⟩
    have hb := M.bel
    have HQ22 := Lib.hid (show Below W5.heap.size W5 v22 from HQ21.out.trans (hb.mono HQ21.out.size))
    replace Y16 := Lib.hid (Y16.out.next hb)
    have Y17 := Lib.hid M.has
    have lY17 : R22h ≤ 1048576 := by have z8 := Y17.out.o.len; have z9 : allS.o.length = 0 := rfl; skip; omega
    clear M hb
    refine hK.out _ _ (HSW.out _ HQ22.out) (fun hHeld2 => ?_)
    clear hK K hHeld
    have hHeld := hHeld2
    clear hHeld2
    refine wpAnyH_ready (rs := [49]) (by kernel_rfl) (by simp) (AllReadyH.cons rfl (fun K hK => ?_) AllReadyH.nil)
    go_simp
    refine (r_equal _ _ _ _ _ _ (Y16.out) (Y17.out) (by have z0 := (Y16.out).o.len; have z1 := (Y17.out).o.len; omega) (LawSegsetAlgebra.g6 ..)).mono ?_
    rintro e v23 ⟨rfl, hb⟩
    have HQ23 := Lib.hid (show Below W5.heap.size W5 v23 from HQ22.out.trans (hb.mono HQ22.out.size))
    replace Y16 := Lib.hid (Y16.out.next hb)
    replace Y17 := Lib.hid (Y17.out.next hb)
    clear hb
    clear Y16 lY16
    clear Y17 lY17
    refine hK.out _ _ (HSW.out _ HQ23.out) (fun hHeld2 => ?_)
    clear hK K hHeld
    have hHeld := hHeld2
    clear hHeld2
    refine wpAnyH_take (i := 50) (oi := _) (v := ?_) rfl (by kernel_rfl) (by kernel_rfl) (by kernel_rfl) (fun _ _ _ h => h) (Or.inl ⟨by rfl, ?_⟩) (by assumption) ?_
    rotate_left
    · (intro w hSw; (try dsimp only at hSw); (try obtain ⟨s1_, s2_, s3_, s4_, s5_, s6_, s7_, s8_, s9_, s10_, s11_, s12_, s13_, s14_, s15_⟩ := hSw); go_simp <;> with_reducible rfl)
    simp only [List.getElem_toArray, List.getElem_cons_succ, List.getElem_cons_zero, Act.put, List.setIfInBounds_toArray, List.set_cons_zero, List.set_cons_succ]
    refine wpAnyH_take (i := 51) (oi := _) (v := ?_) rfl (by kernel_rfl) (by kernel_rfl) (by kernel_rfl) (fun _ _ _ h => h) (Or.inl ⟨by rfl, ?_⟩) (by assumption) ?_
    rotate_left
    · (intro w hSw; (try dsimp only at hSw); (try obtain ⟨s1_, s2_, s3_, s4_, s5_, s6_, s7_, s8_, s9_, s10_, s11_, s12_, s13_, s14_, s15_⟩ := hSw); go_simp <;> with_reducible rfl)
    simp only [List.getElem_toArray, List.getElem_cons_succ, List.getElem_cons_zero, Act.put, List.setIfInBounds_toArray, List.set_cons_zero, List.set_cons_succ]
    refine wpAnyH_take (i := 52) (oi := _) (v := ?_) rfl (by kernel_rfl) (by kernel_rfl) (by kernel_rfl) (fun _ _ _ h => h) (Or.inl ⟨by rfl, ?_⟩) (by assumption) ?_
    rotate_left
    · (intro w hSw; (try dsimp only at hSw); (try obtain ⟨s1_, s2_, s3_, s4_, s5_, s6_, s7_, s8_, s9_, s10_, s11_, s12_, s13_, s14_, s15_⟩ := hSw); go_simp <;> with_reducible rfl)
    simp only [List.getElem_toArray, List.getElem_cons_succ, List.getElem_cons_zero, Act.put, List.setIfInBounds_toArray, List.set_cons_zero, List.set_cons_succ]
    refine wpAnyH_take (i := 53) (oi := _) (v := ?_) rfl (by kernel_rfl) (by kernel_rfl) (by kernel_rfl) (fun _ _ _ h => h) (Or.inl ⟨by rfl, ?_⟩) (by assumption) ?_
    rotate_left
    · (intro w hSw; (try dsimp only at hSw); (try obtain ⟨s1_, s2_, s3_, s4_, s5_, s6_, s7_, s8_, s9_, s10_, s11_, s12_, s13_, s14_, s15_⟩ := hSw); go_simp <;> with_reducible rfl)
    simp only [List.getElem_toArray, List.getElem_cons_succ, List.getElem_cons_zero, Act.put, List.setIfInBounds_toArray, List.set_cons_zero, List.set_cons_succ]
    refine wpAnyH_take (i := 55) (oi := _) (v := ?_) rfl (by kernel_rfl) (by kernel_rfl) (by kernel_rfl) (fun _ _ _ h => h) (Or.inl ⟨by rfl, ?_⟩) (by assumption) ?_
    rotate_left
    · (intro w hSw; (try dsimp only at hSw); (try obtain ⟨s1_, s2_, s3_, s4_, s5_, s6_, s7_, s8_, s9_, s10_, s11_, s12_, s13_, s14_, s15_⟩ := hSw); go_simp <;> with_reducible rfl)
    simp only [List.getElem_toArray, List.getElem_cons_succ, List.getElem_cons_zero, Act.put, List.setIfInBounds_toArray, List.set_cons_zero, List.set_cons_succ]
    refine wpAnyH_take (i := 56) (oi := _) (v := ?_) rfl (by kernel_rfl) (by kernel_rfl) (by kernel_rfl) (fun _ _ _ h => h) (Or.inl ⟨by rfl, ?_⟩) (by assumption) ?_
    rotate_left
    · (intro w hSw; (try dsimp only at hSw); (try obtain ⟨s1_, s2_, s3_, s4_, s5_, s6_, s7_, s8_, s9_, s10_, s11_, s12_, s13_, s14_, s15_⟩ := hSw); go_simp <;> with_reducible rfl)
    simp only [List.getElem_toArray, List.getElem_cons_succ, List.getElem_cons_zero, Act.put, List.setIfInBounds_toArray, List.set_cons_zero, List.set_cons_succ]
    refine wpAnyH_ready (rs := [54]) (by kernel_rfl) (by simp) (AllReadyH.cons rfl (fun K hK => ?_) AllReadyH.nil)
    go_simp
    refine (r_minus _ _ _ _ _ _ ((XA.out.next HQ23.out).has) ((XB.out.next HQ23.out).has) (by have z0 := ((XA.out.next HQ23.out).has).o.len; have z1 := ((XB.out.next HQ23.out).has).o.len; omega)).mono ?_
    rintro e v24 ⟨R24a, R24b, R24c, R24d, R24e, R24f, R24g, R24h, R24i, rfl, M⟩
    have hb := M.bel
    have HQ24 := Lib.hid (show Below W5.heap.size W5 v24 from HQ23.out.trans (hb.mono HQ23.out.size))
    have Y18 := Lib.hid M.has
    have lY18 : R24h ≤ 2097152 := by have z8 := Y18.out.o.len; have z9 := minus2_len a b; have z0 := ((XA.out.next HQ23.out).has).o.len; have z1 := ((XB.out.next HQ23.out).has).o.len; omega
    clear M hb
    refine hK.out _ _ (HSW.out _ HQ24.out) (fun hHeld2 => ?_)
    clear hK K hHeld
    have hHeld := hHeld2
    clear hHeld2
    refine wpAnyH_ready (rs := [57]) (by kernel_rfl) (by simp) (AllReadyH.cons rfl (fun K hK => ?_) AllReadyH.nil)
    go_simp
    refine (r_minus _ _ _ _ _ _ ((XA.out.next HQ24.out).has) ((XM.out.next HQ24.out).has) (by have z0 := ((XA.out.next HQ24.out).has).o.len; have z1 := ((XM.out.next HQ24.out).has).o.len; omega)).mono ?_
    rintro e v25 ⟨R25a, R25b, R25c, R25d, R25e, R25f, R25g, R25h, R25i, rfl, M⟩
    have hb := M.bel
    have HQ25 := Lib.hid (show Below W5.heap.size W5 v25 from HQ24.out.trans (hb.mono HQ24.out.size))
    replace Y18 := Lib.hid (Y18.out.next hb)
    have Y19 := Lib.hid M.has
    have lY19 : R25h ≤ 3145728 := by have z8 := Y19.out.o.len; have z9 := minus2_len a (meet2 a b); have z0 := ((XA.out.next HQ24.out).has).o.len; have z1 := ((XM.out.next HQ24.out).has).o.len; omega
    clear M hb
    refine hK.out _ _ (HSW.out _ HQ25.out) (fun hHeld2 => ?_)
    clear hK K hHeld
    have hHeld := hHeld2
    clear hHeld2
    refine wpAnyH_ready (rs := [58]) (by kernel_rfl) (by simp) (AllReadyH.cons rfl (fun K hK => ?_) AllReadyH.nil)
    go_simp
    refine (r_equal _ _ _ _ _ _ (Y18.out) (Y19.out) (by have z0 := (Y18.out).o.len; have z1 := (Y19.out).o.len; omega) (LawSegsetAlgebra.g7 ..)).mono ?_
    rintro e v26 ⟨rfl, hb⟩
    have HQ26 := Lib.hid (show Below W5.heap.size W5 v26 from HQ25.out.trans (hb.mono HQ25.out.size))
    replace Y18 := Lib.hid (Y18.out.next hb)
    replace Y19 := Lib.hid (Y19.out.next hb)
    clear hb
    clear Y18 lY18
    clear Y19 lY19
    refine hK.out _ _ (HSW.out _ HQ26.out) (fun hHeld2 => ?_)
    clear hK K hHeld
    have hHeld := hHeld2
    clear hHeld2
    refine wpAnyH_take (i := 59) (oi := _) (v := ?_) rfl (by kernel_rfl) (by kernel_rfl) (by kernel_rfl) (fun _ _ _ h => h) (Or.inl ⟨by rfl, ?_⟩) (by assumption) ?_
    rotate_left
    · (intro w hSw; (try dsimp only at hSw); (try obtain ⟨s1_, s2_, s3_, s4_, s5_, s6_, s7_, s8_, s9_, s10_, s11_, s12_, s13_, s14_, s15_⟩ := hSw); go_simp <;> with_reducible rfl)
    simp only [List.getElem_toArray, List.getElem_cons_succ, List.getElem_cons_zero, Act.put, List.setIfInBounds_toArray, List.set_cons_zero, List.set_cons_succ]
    refine wpAnyH_take (i := 60) (oi := _) (v := ?_) rfl (by kernel_rfl) (by kernel_rfl) (by kernel_rfl) (fun _ _ _ h => h) (Or.inl ⟨by rfl, ?_⟩) (by assumption) ?_
    rotate_left
    · (intro w hSw; (try dsimp only at hSw); (try obtain ⟨s1_, s2_, s3_, s4_, s5_, s6_, s7_, s8_, s9_, s10_, s11_, s12_, s13_, s14_, s15_⟩ := hSw); go_simp <;> with_reducible rfl)
    simp only [List.getElem_toArray, List.getElem_cons_succ, List.getElem_cons_zero, Act.put, List.setIfInBounds_toArray, List.set_cons_zero, List.set_cons_succ]
    refine wpAnyH_done (by kernel_rfl) ?_ _
    go_wp2_with fail
    go_ret
    exact ⟨rfl, HB.out.trans (HQ26.out.mono HB.out.size)⟩

theorem contract (H : Type) (enc : TypeId × Value → H) (W : World) (base : Nat) (args : Array Value) (ds gs : List (DataW H)) (before : List MemPlace)
    (hval : ∀ (j : Nat) t v, Tryz.f4.params[j]? = some t → args[j]? = some v → Value.okWide Tryz.prog W .any base t v)
    (hW : DataW.Whole enc Tryz.prog Tryz.f4.params.toList Rows.segsetAlgebraSpec.vars false W args.toList ds gs before) (hk : Rows.uptoSmall H (ds ++ gs) = true) :
    Calls Tryz.prog 4 args W fun e W' => ∃ v, e = .returned v ∧ Rows.segsetAlgebraSpec.post enc Tryz.prog Tryz.f4 false true false false W args v W' := by
  have hW' := hW
  obtain ⟨p, q, hA0, hV, rfl, hfz, hnd⟩ := hW
  have hA : DataW.TrodAll enc Tryz.prog W 0 (fun _ => true) true Tryz.f4.params.toList args.toList ds p := hA0
  rw [Tryz.params4] at hA hval
  obtain ⟨v0, vs0, d0, ds0, p0, q0, hargs, rfl, rfl, h0, r0⟩ := trodAll_cons hA
  obtain ⟨v1, vs1, d1, ds1, p1, q1, rfl, rfl, rfl, h1, r1⟩ := trodAll_cons r0
  obtain ⟨v2, vs2, d2, ds2, p2, q2, rfl, rfl, rfl, h2, r2⟩ := trodAll_cons r1
  obtain ⟨rfl, rfl, rfl⟩ := trodAll_nil r2
  obtain rfl : args = #[v0, v1, v2] := by cases args; simp_all
  obtain ⟨rfl, rfl⟩ := trodVars_none hV
  have hbd := bulk_bound hk
  simp only [List.append_nil, Rows.uptoBulkAll] at hbd
  have k0 := h0
  have lt0 : ∀ x ∈ p0, x.block < W.heap.size := by obtain ⟨m, hm⟩ := k0; exact DataW.trod_lt m _ _ _ hm
  obtain ⟨A0_1, n0_1, c0_1, A0_2, n0_2, c0_2, A0_3, n0_3, c0_3, x0, rfl, HS0, b0_1, b0_2, b0_3⟩ := open_set (hval 0 25 v0 rfl rfl) h0 (by omega)
  have k1 := h1
  have lt1 : ∀ x ∈ p1, x.block < W.heap.size := by obtain ⟨m, hm⟩ := k1; exact DataW.trod_lt m _ _ _ hm
  obtain ⟨A1_1, n1_1, c1_1, A1_2, n1_2, c1_2, A1_3, n1_3, c1_3, x1, rfl, HS1, b1_1, b1_2, b1_3⟩ := open_set (hval 1 25 v1 rfl rfl) h1 (by omega)
  have k2 := h2
  have lt2 : ∀ x ∈ p2, x.block < W.heap.size := by obtain ⟨m, hm⟩ := k2; exact DataW.trod_lt m _ _ _ hm
  obtain ⟨A2_1, n2_1, c2_1, A2_2, n2_2, c2_2, A2_3, n2_3, c2_3, x2, rfl, HS2, b2_1, b2_2, b2_3⟩ := open_set (hval 2 25 v2 rfl rfl) h2 (by omega)
  clear hA0
  refine (walk A0_1 A0_2 A0_3 A1_1 A1_2 A1_3 A2_1 A2_2 A2_3 n0_1 n0_2 n0_3 c0_1 c0_2 c0_3 n1_1 n1_2 n1_3 c1_1 c1_2 c1_3 n2_1 n2_2 n2_3 c2_1 c2_2 c2_3 x0 x1 x2 W HS0 HS1 HS2 (by omega) (by omega) (by omega)).mono fun e W' ⟨he, bel⟩ => ?_
  subst he
  exact ⟨_, rfl, _, _, _, [], _, [], hW', trodAll_mk1 (shut_bool Tryz.underlying4 _), (trodAll_cons_mk (Below.trod laidOut (by kernel_rfl) (of_decide_eq_true (by kernel_rfl)) k0 bel lt0) (trodAll_cons_mk (Below.trod laidOut (by kernel_rfl) (of_decide_eq_true (by kernel_rfl)) k1 bel lt1) (trodAll_cons_mk (Below.trod laidOut (by kernel_rfl) (of_decide_eq_true (by kernel_rfl)) k2 bel lt2) trodAll_mk0))), rfl, bel.frame _, fun h => by cases h⟩

set_option maxRecDepth 100000 in
theorem lifted (os : Os) (started : os.Started) (H : Type) (enc : TypeId × Value → H) (F : Stop.Interp) :
    ReturnsInHanded {} Tryz.checked os 4 .any ((Rows.OpenSpec.upto Rows.segsetAlgebraSpec).pre6 enc Tryz.prog Tryz.f4 Rows.segsetAlgebraUptoRow.domain false) (((Rows.OpenSpec.upto Rows.segsetAlgebraSpec).at F).post enc Tryz.prog Tryz.f4 false true false false) := by
  refine returnsInHanded_of_cond (C := Tryz.checked) (s := Rows.OpenSpec.upto Rows.segsetAlgebraSpec) (k := Rows.uptoSmall) rfl own started (by kernel_rfl) Tryz.func4
    (OpenSpec.witness (enc := enc) (C := Tryz.checked) (s := Rows.OpenSpec.upto Rows.segsetAlgebraSpec) (k := Rows.uptoSmall) rfl false ⟨#[], #[.agg #[.slice none 0 0, .slice none 0 0, .slice none 0 0], .agg #[.slice none 0 0, .slice none 0 0, .slice none 0 0], .agg #[.slice none 0 0, .slice none 0 0, .slice none 0 0]], []⟩ 8 (by kernel_rfl) (by kernel_rfl) (by kernel_rfl)
      (x := ([.agg [.nil, .nil, .nil], .agg [.nil, .nil, .nil], .agg [.nil, .nil, .nil]], [], [])) (by kernel_rfl) rfl (by kernel_rfl)) ?_
  intro W base args ds gs before hval hW _ hk _
  exact contract H enc W base args ds gs before hval hW hk

/-- THE STATEMENT -/
theorem proved : Rows.SegsetAlgebraUptoSaid :=
  OpenClaim.holds_of_cond 4 Tryz.f4 rfl rfl rfl rfl rfl rfl rfl ⟨rfl, rfl, rfl, rfl, rfl⟩ rfl rfl rfl rfl rfl (by kernel_rfl) Tryz.func4 (by kernel_rfl)
    (of_decide_eq_true (by kernel_rfl)) (by unfold Func.isWrapper; first | (rw [if_pos (by decide +kernel)]; kernel_rfl) | (rw [if_neg (by decide +kernel)]; exact ⟨rfl, rfl⟩))
    (fun os started H enc _ F => lifted os started H enc F)
end Go.Proofs.YtipcbiecdabihaaGreat.LawSegsetAlgebra
