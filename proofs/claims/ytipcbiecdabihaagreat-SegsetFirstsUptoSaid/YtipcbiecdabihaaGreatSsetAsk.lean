/-
  CONTRACTS OF May, Has, Empty, Of.
-/
import Derived.Test.YtipcbiecdabihaaGreatSsetMore
namespace Go.Proofs.YtipcbiecdabihaaGreat.Sset
open Go.RowKit
open Utf (Rd Blk pts pts_len Pts Pt rune wid)
open Rset
set_option maxRecDepth 100000

set_option maxHeartbeats 8000000 in
theorem smay_any (A1 A2 A3 : Option Addr) (n1 c1 n2 c2 n3 c3 : Nat) (a : St) (w : World) (h : Has3 w A1 n1 A2 n2 A3 n3 a) :
    Calls Tryz.prog 14 #[.agg #[.slice A1 n1 c1, .slice A2 n2 c2, .slice A3 n3 c3]] w (Ret w (.bool (decide (normS a = a)))) := by
  obtain ⟨g, hg⟩ : ∃ g, g = w.heap.size := ⟨_, rfl⟩
  obtain ⟨W0, hW0⟩ : ∃ W0, W0 = w.alloc (.cells #[.slice A1 n1 c1, .slice A2 n2 c2, .slice A3 n3 c3] 25) := ⟨_, rfl⟩
  have k0 : BlkS W0 g (.slice A1 n1 c1) (.slice A2 n2 c2) (.slice A3 n3 c3) := by rw [hW0, hg]; exact BlkS.new w _ _ _
  have hb0 : Below w.heap.size w W0 := by rw [hW0]; exact (Below.refl _ _).alloc (Nat.le_refl _) _
  have H := Lib.hid (h.next hb0)
  have HK := Lib.hid k0; have HW := Lib.hid hW0; have HG := Lib.hid hg; have HB0 := Lib.hid hb0
  have HSW := Lib.hid (show ∀ u, Below W0.heap.size W0 u → u.cell? ⟨g, 0, none⟩ = some (.slice A1 n1 c1) ∧ u.cell? ⟨g, 1, none⟩ = some (.slice A2 n2 c2) ∧ u.cell? ⟨g, 2, none⟩ = some (.slice A3 n3 c3) from fun u hu => ⟨(HK.out.next hu).c0, (HK.out.next hu).c1, (HK.out.next hu).c2⟩)
  have HM1 := Lib.hid (show ∀ u, Below W0.heap.size W0 u → Calls Tryz.prog 35 #[.slice A1 n1 c1] u (Ret u (.bool (eqL (norm a.s) a.s))) from fun u hu => by
    have k := (H.out.next hu).s; exact Rset.may_any A1 a.s n1 c1 u k.rd k.len k.fit (by have := k.sm; omega))
  have HM2 := Lib.hid (show ∀ u, Below W0.heap.size W0 u → Calls Tryz.prog 35 #[.slice A2 n2 c2] u (Ret u (.bool (eqL (norm a.m) a.m))) from fun u hu => by
    have k := (H.out.next hu).m; exact Rset.may_any A2 a.m n2 c2 u k.rd k.len k.fit (by have := k.sm; omega))
  have HE := Lib.hid (show decide (normS a = a) = (eqL (norm a.s) a.s && eqL (norm a.m) a.m && decide ((rise a.o).filter okT = a.o)) from st_eq (normS a) a)
  have HLN := Lib.hid (show ((rise a.o).filter okT).length ≤ 1099511627776 from Nat.le_trans (List.length_filter_le _ _) (Nat.le_trans (rise_len _) (by have := h.o.len; have := h.o.sm; omega)))
  clear h hg hW0 hb0 k0
  rw [HE.out]
  generalize eqL (norm a.s) a.s = p1 at HM1 ⊢
  generalize eqL (norm a.m) a.m = p2 at HM2 ⊢
  obtain ⟨p3, hp3⟩ : ∃ p3, decide ((rise a.o).filter okT = a.o) = p3 := ⟨_, rfl⟩
  rw [hp3]
  have HP3 := Lib.hid hp3
  clear hp3
  go_enter Tryz.func14, Tryz.ntmps14
  go_wp2_with fail
  rw [← HW.out, ← HG.out]
  refine wp_region_held_drew (S := fun u => u.cell? ⟨g, 0, none⟩ = some (.slice A1 n1 c1) ∧ u.cell? ⟨g, 1, none⟩ = some (.slice A2 n2 c2) ∧ u.cell? ⟨g, 2, none⟩ = some (.slice A3 n3 c3)) (by kernel_rfl) (HSW.out _ (Below.refl _ _).drew) (fun hHeld => ?_)
  refine wpAnyH_take (i := 0) (oi := _) (v := ?_) rfl (by kernel_rfl) (by kernel_rfl) (by kernel_rfl) (fun _ _ _ h => h) (Or.inl ⟨by rfl, ?_⟩) (by assumption) ?_
  rotate_left
  · (intro w hSw; (try dsimp only at hSw); (try obtain ⟨s1_, s2_, s3_⟩ := hSw); go_simp <;> with_reducible rfl)
  simp only [List.getElem_toArray, List.getElem_cons_zero, Act.put, List.setIfInBounds_toArray, List.set_cons_zero, List.set_cons_succ]
  refine wpAnyH_take (i := 1) (oi := _) (v := ?_) rfl (by kernel_rfl) (by kernel_rfl) (by kernel_rfl) (fun _ _ _ h => h) (Or.inl ⟨by rfl, ?_⟩) (by assumption) ?_
  rotate_left
  · (intro w hSw; (try dsimp only at hSw); (try obtain ⟨s1_, s2_, s3_⟩ := hSw); go_simp <;> with_reducible rfl)
  simp only [List.getElem_toArray, List.getElem_cons_succ, List.getElem_cons_zero, Act.put, List.setIfInBounds_toArray, List.set_cons_zero, List.set_cons_succ]
  refine wpAnyH_ready (rs := [2]) (by kernel_rfl) (by simp) (AllReadyH.cons rfl (fun K hK => ?_) AllReadyH.nil)
  go_simp
  go_at_call 35
  refine (HM1.out _ (Below.refl _ _).drew).mono ?_
  rintro e w1 ⟨rfl, hb1⟩
  have HB1 := Lib.hid (show Below W0.heap.size W0 w1 from below_drewl hb1)
  clear hb1
  refine hK.out _ _ (HSW.out _ HB1.out) (fun hHeld2 => ?_)
  clear hK K hHeld
  have hHeld := hHeld2
  clear hHeld2
  cases p1 with
  | false =>
    refine wpAnyH_take (i := 3) (oi := _) (v := ?_) rfl (by kernel_rfl) (by kernel_rfl) (by kernel_rfl) (fun _ _ _ h => h) (Or.inl ⟨by rfl, ?_⟩) (by assumption) ?_
    rotate_left
    · (intro w hSw; (try dsimp only at hSw); (try obtain ⟨s1_, s2_, s3_⟩ := hSw); go_simp <;> with_reducible rfl)
    simp only [List.getElem_toArray, List.getElem_cons_succ, List.getElem_cons_zero, Act.put, List.setIfInBounds_toArray, List.set_cons_zero, List.set_cons_succ]
    refine wpAnyH_take (i := 4) (oi := _) (v := undef) rfl (by kernel_rfl) (by kernel_rfl) (by kernel_rfl) (fun _ _ _ h => h) (Or.inr ⟨by rfl, rfl⟩) (by assumption) ?_
    simp only [List.getElem_toArray, List.getElem_cons_succ, List.getElem_cons_zero, Act.put, List.setIfInBounds_toArray, List.set_cons_zero, List.set_cons_succ]
    refine wpAnyH_take (i := 5) (oi := _) (v := undef) rfl (by kernel_rfl) (by kernel_rfl) (by kernel_rfl) (fun _ _ _ h => h) (Or.inr ⟨by rfl, rfl⟩) (by assumption) ?_
    simp only [List.getElem_toArray, List.getElem_cons_succ, List.getElem_cons_zero, Act.put, List.setIfInBounds_toArray, List.set_cons_zero, List.set_cons_succ]
    refine wpAnyH_take (i := 6) (oi := _) (v := undef) rfl (by kernel_rfl) (by kernel_rfl) (by kernel_rfl) (fun _ _ _ h => h) (Or.inr ⟨by rfl, rfl⟩) (by assumption) ?_
    simp only [List.getElem_toArray, List.getElem_cons_succ, List.getElem_cons_zero, Act.put, List.setIfInBounds_toArray, List.set_cons_zero, List.set_cons_succ]
    refine wpAnyH_take (i := 7) (oi := _) (v := ?_) rfl (by kernel_rfl) (by kernel_rfl) (by kernel_rfl) (fun _ _ _ h => h) (Or.inl ⟨by rfl, ?_⟩) (by assumption) ?_
    rotate_left
    · (intro w hSw; (try dsimp only at hSw); (try obtain ⟨s1_, s2_, s3_⟩ := hSw); go_simp <;> with_reducible rfl)
    simp only [List.getElem_toArray, List.getElem_cons_succ, List.getElem_cons_zero, Act.put, List.setIfInBounds_toArray, List.set_cons_zero, List.set_cons_succ]
    refine wpAnyH_take (i := 8) (oi := _) (v := ?_) rfl (by kernel_rfl) (by kernel_rfl) (by kernel_rfl) (fun _ _ _ h => h) (Or.inl ⟨by rfl, ?_⟩) (by assumption) ?_
    rotate_left
    · (intro w hSw; (try dsimp only at hSw); (try obtain ⟨s1_, s2_, s3_⟩ := hSw); go_simp <;> with_reducible rfl)
    simp only [List.getElem_toArray, List.getElem_cons_succ, List.getElem_cons_zero, Act.put, List.setIfInBounds_toArray, List.set_cons_zero, List.set_cons_succ]
    refine wpAnyH_take (i := 9) (oi := _) (v := undef) rfl (by kernel_rfl) (by kernel_rfl) (by kernel_rfl) (fun _ _ _ h => h) (Or.inr ⟨by rfl, rfl⟩) (by assumption) ?_
    simp only [List.getElem_toArray, List.getElem_cons_succ, List.getElem_cons_zero, Act.put, List.setIfInBounds_toArray, List.set_cons_zero, List.set_cons_succ]
    refine wpAnyH_take (i := 10) (oi := _) (v := undef) rfl (by kernel_rfl) (by kernel_rfl) (by kernel_rfl) (fun _ _ _ h => h) (Or.inr ⟨by rfl, rfl⟩) (by assumption) ?_
    simp only [List.getElem_toArray, List.getElem_cons_succ, List.getElem_cons_zero, Act.put, List.setIfInBounds_toArray, List.set_cons_zero, List.set_cons_succ]
    refine wpAnyH_take (i := 11) (oi := _) (v := undef) rfl (by kernel_rfl) (by kernel_rfl) (by kernel_rfl) (fun _ _ _ h => h) (Or.inr ⟨by rfl, rfl⟩) (by assumption) ?_
    simp only [List.getElem_toArray, List.getElem_cons_succ, List.getElem_cons_zero, Act.put, List.setIfInBounds_toArray, List.set_cons_zero, List.set_cons_succ]
    refine wpAnyH_take (i := 12) (oi := _) (v := undef) rfl (by kernel_rfl) (by kernel_rfl) (by kernel_rfl) (fun _ _ _ h => h) (Or.inr ⟨by rfl, rfl⟩) (by assumption) ?_
    simp only [List.getElem_toArray, List.getElem_cons_succ, List.getElem_cons_zero, Act.put, List.setIfInBounds_toArray, List.set_cons_zero, List.set_cons_succ]
    refine wpAnyH_take (i := 13) (oi := _) (v := undef) rfl (by kernel_rfl) (by kernel_rfl) (by kernel_rfl) (fun _ _ _ h => h) (Or.inr ⟨by rfl, rfl⟩) (by assumption) ?_
    simp only [List.getElem_toArray, List.getElem_cons_succ, List.getElem_cons_zero, Act.put, List.setIfInBounds_toArray, List.set_cons_zero, List.set_cons_succ]
    refine wpAnyH_take (i := 14) (oi := _) (v := undef) rfl (by kernel_rfl) (by kernel_rfl) (by kernel_rfl) (fun _ _ _ h => h) (Or.inr ⟨by rfl, rfl⟩) (by assumption) ?_
    simp only [List.getElem_toArray, List.getElem_cons_succ, List.getElem_cons_zero, Act.put, List.setIfInBounds_toArray, List.set_cons_zero, List.set_cons_succ]
    refine wpAnyH_take (i := 15) (oi := _) (v := ?_) rfl (by kernel_rfl) (by kernel_rfl) (by kernel_rfl) (fun _ _ _ h => h) (Or.inl ⟨by rfl, ?_⟩) (by assumption) ?_
    rotate_left
    · (intro w hSw; (try dsimp only at hSw); (try obtain ⟨s1_, s2_, s3_⟩ := hSw); go_simp <;> with_reducible rfl)
    simp only [List.getElem_toArray, List.getElem_cons_succ, List.getElem_cons_zero, Act.put, List.setIfInBounds_toArray, List.set_cons_zero, List.set_cons_succ]
    refine wpAnyH_take (i := 16) (oi := _) (v := ?_) rfl (by kernel_rfl) (by kernel_rfl) (by kernel_rfl) (fun _ _ _ h => h) (Or.inl ⟨by rfl, ?_⟩) (by assumption) ?_
    rotate_left
    · (intro w hSw; (try dsimp only at hSw); (try obtain ⟨s1_, s2_, s3_⟩ := hSw); go_simp <;> with_reducible rfl)
    simp only [List.getElem_toArray, List.getElem_cons_succ, List.getElem_cons_zero, Act.put, List.setIfInBounds_toArray, List.set_cons_zero, List.set_cons_succ]
    refine wpAnyH_done (by kernel_rfl) ?_ _
    go_wp2_with fail
    go_ret
    exact ⟨rfl, HB0.out.trans (HB1.out.mono HB0.out.size)⟩
  | true =>
    refine wpAnyH_take (i := 3) (oi := _) (v := ?_) rfl (by kernel_rfl) (by kernel_rfl) (by kernel_rfl) (fun _ _ _ h => h) (Or.inl ⟨by rfl, ?_⟩) (by assumption) ?_
    rotate_left
    · (intro w hSw; (try dsimp only at hSw); (try obtain ⟨s1_, s2_, s3_⟩ := hSw); go_simp <;> with_reducible rfl)
    simp only [List.getElem_toArray, List.getElem_cons_succ, List.getElem_cons_zero, Act.put, List.setIfInBounds_toArray, List.set_cons_zero, List.set_cons_succ]
    refine wpAnyH_take (i := 4) (oi := _) (v := ?_) rfl (by kernel_rfl) (by kernel_rfl) (by kernel_rfl) (fun _ _ _ h => h) (Or.inl ⟨by rfl, ?_⟩) (by assumption) ?_
    rotate_left
    · (intro w hSw; (try dsimp only at hSw); (try obtain ⟨s1_, s2_, s3_⟩ := hSw); go_simp <;> with_reducible rfl)
    simp only [List.getElem_toArray, List.getElem_cons_succ, List.getElem_cons_zero, Act.put, List.setIfInBounds_toArray, List.set_cons_zero, List.set_cons_succ]
    refine wpAnyH_take (i := 5) (oi := _) (v := ?_) rfl (by kernel_rfl) (by kernel_rfl) (by kernel_rfl) (fun _ _ _ h => h) (Or.inl ⟨by rfl, ?_⟩) (by assumption) ?_
    rotate_left
    · (intro w hSw; (try dsimp only at hSw); (try obtain ⟨s1_, s2_, s3_⟩ := hSw); go_simp <;> with_reducible rfl)
    simp only [List.getElem_toArray, List.getElem_cons_succ, List.getElem_cons_zero, Act.put, List.setIfInBounds_toArray, List.set_cons_zero, List.set_cons_succ]
    refine wpAnyH_ready (rs := [6]) (by kernel_rfl) (by simp) (AllReadyH.cons rfl (fun K hK => ?_) AllReadyH.nil)
    go_simp
    go_at_call 35
    refine (HM2.out _ HB1.out).mono ?_
    rintro e w2 ⟨rfl, hb2⟩
    have HB2 := Lib.hid (HB1.out.trans (hb2.mono HB1.out.size))
    clear hb2
    refine hK.out _ _ (HSW.out _ HB2.out) (fun hHeld2 => ?_)
    clear hK K hHeld
    have hHeld := hHeld2
    clear hHeld2
    cases p2 with
    | false =>
      refine wpAnyH_take (i := 7) (oi := _) (v := ?_) rfl (by kernel_rfl) (by kernel_rfl) (by kernel_rfl) (fun _ _ _ h => h) (Or.inl ⟨by rfl, ?_⟩) (by assumption) ?_
      rotate_left
      · (intro w hSw; (try dsimp only at hSw); (try obtain ⟨s1_, s2_, s3_⟩ := hSw); go_simp <;> with_reducible rfl)
      simp only [List.getElem_toArray, List.getElem_cons_succ, List.getElem_cons_zero, Act.put, List.setIfInBounds_toArray, List.set_cons_zero, List.set_cons_succ]
      refine wpAnyH_take (i := 8) (oi := _) (v := ?_) rfl (by kernel_rfl) (by kernel_rfl) (by kernel_rfl) (fun _ _ _ h => h) (Or.inl ⟨by rfl, ?_⟩) (by assumption) ?_
      rotate_left
      · (intro w hSw; (try dsimp only at hSw); (try obtain ⟨s1_, s2_, s3_⟩ := hSw); go_simp <;> with_reducible rfl)
      simp only [List.getElem_toArray, List.getElem_cons_succ, List.getElem_cons_zero, Act.put, List.setIfInBounds_toArray, List.set_cons_zero, List.set_cons_succ]
      refine wpAnyH_take (i := 9) (oi := _) (v := undef) rfl (by kernel_rfl) (by kernel_rfl) (by kernel_rfl) (fun _ _ _ h => h) (Or.inr ⟨by rfl, rfl⟩) (by assumption) ?_
      simp only [List.getElem_toArray, List.getElem_cons_succ, List.getElem_cons_zero, Act.put, List.setIfInBounds_toArray, List.set_cons_zero, List.set_cons_succ]
      refine wpAnyH_take (i := 10) (oi := _) (v := undef) rfl (by kernel_rfl) (by kernel_rfl) (by kernel_rfl) (fun _ _ _ h => h) (Or.inr ⟨by rfl, rfl⟩) (by assumption) ?_
      simp only [List.getElem_toArray, List.getElem_cons_succ, List.getElem_cons_zero, Act.put, List.setIfInBounds_toArray, List.set_cons_zero, List.set_cons_succ]
      refine wpAnyH_take (i := 11) (oi := _) (v := undef) rfl (by kernel_rfl) (by kernel_rfl) (by kernel_rfl) (fun _ _ _ h => h) (Or.inr ⟨by rfl, rfl⟩) (by assumption) ?_
      simp only [List.getElem_toArray, List.getElem_cons_succ, List.getElem_cons_zero, Act.put, List.setIfInBounds_toArray, List.set_cons_zero, List.set_cons_succ]
      refine wpAnyH_take (i := 12) (oi := _) (v := undef) rfl (by kernel_rfl) (by kernel_rfl) (by kernel_rfl) (fun _ _ _ h => h) (Or.inr ⟨by rfl, rfl⟩) (by assumption) ?_
      simp only [List.getElem_toArray, List.getElem_cons_succ, List.getElem_cons_zero, Act.put, List.setIfInBounds_toArray, List.set_cons_zero, List.set_cons_succ]
      refine wpAnyH_take (i := 13) (oi := _) (v := undef) rfl (by kernel_rfl) (by kernel_rfl) (by kernel_rfl) (fun _ _ _ h => h) (Or.inr ⟨by rfl, rfl⟩) (by assumption) ?_
      simp only [List.getElem_toArray, List.getElem_cons_succ, List.getElem_cons_zero, Act.put, List.setIfInBounds_toArray, List.set_cons_zero, List.set_cons_succ]
      refine wpAnyH_take (i := 14) (oi := _) (v := undef) rfl (by kernel_rfl) (by kernel_rfl) (by kernel_rfl) (fun _ _ _ h => h) (Or.inr ⟨by rfl, rfl⟩) (by assumption) ?_
      simp only [List.getElem_toArray, List.getElem_cons_succ, List.getElem_cons_zero, Act.put, List.setIfInBounds_toArray, List.set_cons_zero, List.set_cons_succ]
      refine wpAnyH_take (i := 15) (oi := _) (v := ?_) rfl (by kernel_rfl) (by kernel_rfl) (by kernel_rfl) (fun _ _ _ h => h) (Or.inl ⟨by rfl, ?_⟩) (by assumption) ?_
      rotate_left
      · (intro w hSw; (try dsimp only at hSw); (try obtain ⟨s1_, s2_, s3_⟩ := hSw); go_simp <;> with_reducible rfl)
      simp only [List.getElem_toArray, List.getElem_cons_succ, List.getElem_cons_zero, Act.put, List.setIfInBounds_toArray, List.set_cons_zero, List.set_cons_succ]
      refine wpAnyH_take (i := 16) (oi := _) (v := ?_) rfl (by kernel_rfl) (by kernel_rfl) (by kernel_rfl) (fun _ _ _ h => h) (Or.inl ⟨by rfl, ?_⟩) (by assumption) ?_
      rotate_left
      · (intro w hSw; (try dsimp only at hSw); (try obtain ⟨s1_, s2_, s3_⟩ := hSw); go_simp <;> with_reducible rfl)
      simp only [List.getElem_toArray, List.getElem_cons_succ, List.getElem_cons_zero, Act.put, List.setIfInBounds_toArray, List.set_cons_zero, List.set_cons_succ]
      refine wpAnyH_done (by kernel_rfl) ?_ _
      go_wp2_with fail
      go_ret
      exact ⟨rfl, HB0.out.trans (HB2.out.mono HB0.out.size)⟩
    | true =>
      refine wpAnyH_take (i := 7) (oi := _) (v := ?_) rfl (by kernel_rfl) (by kernel_rfl) (by kernel_rfl) (fun _ _ _ h => h) (Or.inl ⟨by rfl, ?_⟩) (by assumption) ?_
      rotate_left
      · (intro w hSw; (try dsimp only at hSw); (try obtain ⟨s1_, s2_, s3_⟩ := hSw); go_simp <;> with_reducible rfl)
      simp only [List.getElem_toArray, List.getElem_cons_succ, List.getElem_cons_zero, Act.put, List.setIfInBounds_toArray, List.set_cons_zero, List.set_cons_succ]
      refine wpAnyH_take (i := 8) (oi := _) (v := ?_) rfl (by kernel_rfl) (by kernel_rfl) (by kernel_rfl) (fun _ _ _ h => h) (Or.inl ⟨by rfl, ?_⟩) (by assumption) ?_
      rotate_left
      · (intro w hSw; (try dsimp only at hSw); (try obtain ⟨s1_, s2_, s3_⟩ := hSw); go_simp <;> with_reducible rfl)
      simp only [List.getElem_toArray, List.getElem_cons_succ, List.getElem_cons_zero, Act.put, List.setIfInBounds_toArray, List.set_cons_zero, List.set_cons_succ]
      refine wpAnyH_take (i := 9) (oi := _) (v := ?_) rfl (by kernel_rfl) (by kernel_rfl) (by kernel_rfl) (fun _ _ _ h => h) (Or.inl ⟨by rfl, ?_⟩) (by assumption) ?_
      rotate_left
      · (intro w hSw; (try dsimp only at hSw); (try obtain ⟨s1_, s2_, s3_⟩ := hSw); go_simp <;> with_reducible rfl)
      simp only [List.getElem_toArray, List.getElem_cons_succ, List.getElem_cons_zero, Act.put, List.setIfInBounds_toArray, List.set_cons_zero, List.set_cons_succ]
      refine wpAnyH_take (i := 10) (oi := _) (v := ?_) rfl (by kernel_rfl) (by kernel_rfl) (by kernel_rfl) (fun _ _ _ h => h) (Or.inl ⟨by rfl, ?_⟩) (by assumption) ?_
      rotate_left
      · (intro w hSw; (try dsimp only at hSw); (try obtain ⟨s1_, s2_, s3_⟩ := hSw); go_simp <;> with_reducible rfl)
      simp only [List.getElem_toArray, List.getElem_cons_succ, List.getElem_cons_zero, Act.put, List.setIfInBounds_toArray, List.set_cons_zero, List.set_cons_succ]
      refine wpAnyH_take (i := 12) (oi := _) (v := ?_) rfl (by kernel_rfl) (by kernel_rfl) (by kernel_rfl) (fun _ _ _ h => h) (Or.inl ⟨by rfl, ?_⟩) (by assumption) ?_
      rotate_left
      · (intro w hSw; (try dsimp only at hSw); (try obtain ⟨s1_, s2_, s3_⟩ := hSw); go_simp <;> with_reducible rfl)
      simp only [List.getElem_toArray, List.getElem_cons_succ, List.getElem_cons_zero, Act.put, List.setIfInBounds_toArray, List.set_cons_zero, List.set_cons_succ]
      refine wpAnyH_take (i := 13) (oi := _) (v := ?_) rfl (by kernel_rfl) (by kernel_rfl) (by kernel_rfl) (fun _ _ _ h => h) (Or.inl ⟨by rfl, ?_⟩) (by assumption) ?_
      rotate_left
      · (intro w hSw; (try dsimp only at hSw); (try obtain ⟨s1_, s2_, s3_⟩ := hSw); go_simp <;> with_reducible rfl)
      simp only [List.getElem_toArray, List.getElem_cons_succ, List.getElem_cons_zero, Act.put, List.setIfInBounds_toArray, List.set_cons_zero, List.set_cons_succ]
      refine wpAnyH_ready (rs := [11]) (by kernel_rfl) (by simp) (AllReadyH.cons rfl (fun K hK => ?_) AllReadyH.nil)
      go_simp
      go_at_call 32
      refine (longer_any A3 n3 c3 a.o _ (H.out.next HB2.out).o).mono ?_
      rintro e w3 ⟨v3, rfl, o3, hb3⟩
      obtain ⟨P3, k3, rfl, _, _, r3⟩ := own_form o3
      have HB3 := Lib.hid (HB2.out.trans (hb3.mono HB2.out.size))
      have HR3 := Lib.hid r3
      clear o3 r3 hb3
      refine hK.out _ _ (HSW.out _ HB3.out) (fun hHeld2 => ?_)
      clear hK K hHeld
      have hHeld := hHeld2
      clear hHeld2
      refine wpAnyH_ready (rs := [14]) (by kernel_rfl) (by simp) (AllReadyH.cons rfl (fun K hK => ?_) AllReadyH.nil)
      go_simp
      go_at_call 36
      have hq3 := eqT_any P3 A3 _ a.o _ n3 k3 c3 w3 HR3.out (H.out.next HB3.out).o.rd rfl (H.out.next HB3.out).o.len HLN.out (by have := H.out.o.sm; omega)
      rw [HP3.out] at hq3
      refine hq3.mono ?_
      clear hq3
      rintro e w4 ⟨rfl, q4, rfl⟩
      have HB4 := Lib.hid (below_drewN HB3.out q4)
      refine hK.out _ _ (HSW.out _ HB4.out) (fun hHeld2 => ?_)
      clear hK K hHeld
      have hHeld := hHeld2
      clear hHeld2
      refine wpAnyH_take (i := 15) (oi := _) (v := ?_) rfl (by kernel_rfl) (by kernel_rfl) (by kernel_rfl) (fun _ _ _ h => h) (Or.inl ⟨by rfl, ?_⟩) (by assumption) ?_
      rotate_left
      · (intro w hSw; (try dsimp only at hSw); (try obtain ⟨s1_, s2_, s3_⟩ := hSw); go_simp <;> with_reducible rfl)
      simp only [List.getElem_toArray, List.getElem_cons_succ, List.getElem_cons_zero, Act.put, List.setIfInBounds_toArray, List.set_cons_zero, List.set_cons_succ]
      refine wpAnyH_take (i := 16) (oi := _) (v := ?_) rfl (by kernel_rfl) (by kernel_rfl) (by kernel_rfl) (fun _ _ _ h => h) (Or.inl ⟨by rfl, ?_⟩) (by assumption) ?_
      rotate_left
      · (intro w hSw; (try dsimp only at hSw); (try obtain ⟨s1_, s2_, s3_⟩ := hSw); go_simp <;> with_reducible rfl)
      simp only [List.getElem_toArray, List.getElem_cons_succ, List.getElem_cons_zero, Act.put, List.setIfInBounds_toArray, List.set_cons_zero, List.set_cons_succ]
      refine wpAnyH_done (by kernel_rfl) ?_ _
      go_wp2_with fail
      go_ret
      exact ⟨rfl, HB0.out.trans (HB4.out.mono HB0.out.size)⟩

theorem has_key (a : St) (x : Tx) (hne : x ≠ []) : hasS a x = if two x then (has a.m (fst x) != isIn a.o x) else has a.s (fst x) := by
  unfold hasS; rw [if_neg hne]; rfl
set_option maxHeartbeats 4000000 in
theorem shas_none (A1 A2 A3 : Option Addr) (n1 c1 n2 c2 n3 c3 : Nat) (a : St) (X : ByteArray) (hX : X.toList = []) (w : World) :
    Calls Tryz.prog 15 #[.agg #[.slice A1 n1 c1, .slice A2 n2 c2, .slice A3 n3 c3], .string X] w (Ret w (.bool (hasS a []))) := by
  have e : X = ⟨#[]⟩ := toList_mk hX
  subst e
  clear hX
  go_enter Tryz.func15, Tryz.ntmps15
  go_wp2_with fail
  go_ret
  exact ⟨rfl, (Below.refl _ _).alloc (Nat.le_refl _) _⟩
set_option maxHeartbeats 4000000 in
theorem shas_some (A1 A2 A3 : Option Addr) (n1 c1 n2 c2 n3 c3 : Nat) (a : St) (X : ByteArray) (x : Tx) (hX : X.toList = x) (hne : x ≠ []) (hl : x.length ≤ 1099511627770) (w : World) (h : Has3 w A1 n1 A2 n2 A3 n3 a) :
    Calls Tryz.prog 15 #[.agg #[.slice A1 n1 c1, .slice A2 n2 c2, .slice A3 n3 c3], .string X] w (Ret w (.bool (hasS a x))) := by
  obtain ⟨g, hg⟩ : ∃ g, g = w.heap.size := ⟨_, rfl⟩
  obtain ⟨W0, hW0⟩ : ∃ W0, W0 = w.alloc (.cells #[.slice A1 n1 c1, .slice A2 n2 c2, .slice A3 n3 c3] 25) := ⟨_, rfl⟩
  have k0 : BlkS W0 g (.slice A1 n1 c1) (.slice A2 n2 c2) (.slice A3 n3 c3) := by rw [hW0, hg]; exact BlkS.new w _ _ _
  have hb0 : Below w.heap.size w W0 := by rw [hW0]; exact (Below.refl _ _).alloc (Nat.le_refl _) _
  have H := Lib.hid (h.next hb0)
  have HK := Lib.hid k0; have HW := Lib.hid hW0; have HG := Lib.hid hg; have HB0 := Lib.hid hb0
  have hemp : (X.toList == []) = false := by rw [hX, beq_eq_false_iff_ne]; exact hne
  have HE := Lib.hid (has_key a x hne)
  have HX := Lib.hid hX
  have HFI := Lib.hid (first_any X x hX hne hl W0)
  clear h hg hW0 hb0 k0 hX hne hl
  generalize hasS a x = res at HE ⊢
  generalize fst x = r at *
  go_enter Tryz.func15, Tryz.ntmps15
  go_wp2_with fail
  rw [← HW.out, ← HG.out]
  refine HFI.out.mono ?_
  rintro e w1 ⟨rfl, hb1⟩
  have HB1 := Lib.hid (HB0.out.trans (hb1.mono HB0.out.size))
  have HK1 := Lib.hid (HK.out.next hb1)
  have H1 := Lib.hid (H.out.next hb1)
  clear hb1 HFI hemp
  generalize two x = tw at *
  cases tw with
  | false =>
    have HE2 := Lib.hid (show res = has a.s r from HE.out)
    have e0 := HK1.out.c0
    go_wp2_with fail
    refine (Rset.has_any A1 a.s n1 c1 r w1 H1.out.s.rd H1.out.s.len (by have := H1.out.s.sm; omega)).mono ?_
    rintro e w2 ⟨rfl, hb2⟩
    have HB2 := Lib.hid (HB1.out.trans (hb2.mono HB1.out.size))
    clear hb2
    go_wp2_with fail
    go_ret
    exact ⟨ret_bool HE2.out.symm, HB2.out⟩
  | true =>
    have HE2 := Lib.hid (show res = (has a.m r != isIn a.o x) from HE.out)
    have HSW := Lib.hid (show ∀ u, Below w1.heap.size w1 u → u.cell? ⟨g, 1, none⟩ = some (.slice A2 n2 c2) ∧ u.cell? ⟨g, 2, none⟩ = some (.slice A3 n3 c3) from fun u hu => ⟨(HK1.out.next hu).c1, (HK1.out.next hu).c2⟩)
    go_wp2_with fail
    refine wp_region_held_drew (S := fun u => u.cell? ⟨g, 1, none⟩ = some (.slice A2 n2 c2) ∧ u.cell? ⟨g, 2, none⟩ = some (.slice A3 n3 c3)) (by kernel_rfl) (HSW.out _ (Below.refl _ _).drew) (fun hHeld => ?_)
    refine wpAnyH_take (i := 0) (oi := _) (v := ?_) rfl (by kernel_rfl) (by kernel_rfl) (by kernel_rfl) (fun _ _ _ h => h) (Or.inl ⟨by rfl, ?_⟩) (by assumption) ?_
    rotate_left
    · (intro w hSw; (try dsimp only at hSw); (try obtain ⟨s1_, s2_⟩ := hSw); go_simp <;> with_reducible rfl)
    simp only [List.getElem_toArray, List.getElem_cons_zero, Act.put, List.setIfInBounds_toArray, List.set_cons_zero, List.set_cons_succ]
    refine wpAnyH_take (i := 1) (oi := _) (v := ?_) rfl (by kernel_rfl) (by kernel_rfl) (by kernel_rfl) (fun _ _ _ h => h) (Or.inl ⟨by rfl, ?_⟩) (by assumption) ?_
    rotate_left
    · (intro w hSw; (try dsimp only at hSw); (try obtain ⟨s1_, s2_⟩ := hSw); go_simp <;> with_reducible rfl)
    simp only [List.getElem_toArray, List.getElem_cons_succ, List.getElem_cons_zero, Act.put, List.setIfInBounds_toArray, List.set_cons_zero, List.set_cons_succ]
    refine wpAnyH_take (i := 2) (oi := _) (v := ?_) rfl (by kernel_rfl) (by kernel_rfl) (by kernel_rfl) (fun _ _ _ h => h) (Or.inl ⟨by rfl, ?_⟩) (by assumption) ?_
    rotate_left
    · (intro w hSw; (try dsimp only at hSw); (try obtain ⟨s1_, s2_⟩ := hSw); go_simp <;> with_reducible rfl)
    simp only [List.getElem_toArray, List.getElem_cons_succ, List.getElem_cons_zero, Act.put, List.setIfInBounds_toArray, List.set_cons_zero, List.set_cons_succ]
    refine wpAnyH_take (i := 4) (oi := _) (v := ?_) rfl (by kernel_rfl) (by kernel_rfl) (by kernel_rfl) (fun _ _ _ h => h) (Or.inl ⟨by rfl, ?_⟩) (by assumption) ?_
    rotate_left
    · (intro w hSw; (try dsimp only at hSw); (try obtain ⟨s1_, s2_⟩ := hSw); go_simp <;> with_reducible rfl)
    simp only [List.getElem_toArray, List.getElem_cons_succ, List.getElem_cons_zero, Act.put, List.setIfInBounds_toArray, List.set_cons_zero, List.set_cons_succ]
    refine wpAnyH_take (i := 5) (oi := _) (v := ?_) rfl (by kernel_rfl) (by kernel_rfl) (by kernel_rfl) (fun _ _ _ h => h) (Or.inl ⟨by rfl, ?_⟩) (by assumption) ?_
    rotate_left
    · (intro w hSw; (try dsimp only at hSw); (try obtain ⟨s1_, s2_⟩ := hSw); go_simp <;> with_reducible rfl)
    simp only [List.getElem_toArray, List.getElem_cons_succ, List.getElem_cons_zero, Act.put, List.setIfInBounds_toArray, List.set_cons_zero, List.set_cons_succ]
    refine wpAnyH_take (i := 6) (oi := _) (v := ?_) rfl (by kernel_rfl) (by kernel_rfl) (by kernel_rfl) (fun _ _ _ h => h) (Or.inl ⟨by rfl, ?_⟩) (by assumption) ?_
    rotate_left
    · (intro w hSw; (try dsimp only at hSw); (try obtain ⟨s1_, s2_⟩ := hSw); go_simp <;> with_reducible rfl)
    simp only [List.getElem_toArray, List.getElem_cons_succ, List.getElem_cons_zero, Act.put, List.setIfInBounds_toArray, List.set_cons_zero, List.set_cons_succ]
    refine wpAnyH_ready (rs := [3]) (by kernel_rfl) (by simp) (AllReadyH.cons rfl (fun K hK => ?_) AllReadyH.nil)
    go_simp
    go_at_call 38
    refine (Rset.has_any A2 a.m n2 c2 r _ (H1.out.m.next (Below.refl _ _).drew).rd H1.out.m.len (by have := H1.out.m.sm; omega)).mono ?_
    rintro e w2 ⟨rfl, hb2⟩
    have HB2 := Lib.hid (show Below w1.heap.size w1 w2 from below_drewl hb2)
    clear hb2
    refine hK.out _ _ (HSW.out _ HB2.out) (fun hHeld2 => ?_)
    clear hK K hHeld
    have hHeld := hHeld2
    clear hHeld2
    refine wpAnyH_ready (rs := [7]) (by kernel_rfl) (by simp) (AllReadyH.cons rfl (fun K hK => ?_) AllReadyH.nil)
    go_simp
    go_at_call 39
    refine (con_any A3 a.o n3 c3 X x HX.out w2 (H1.out.o.next HB2.out).rd H1.out.o.len (by have := H1.out.o.sm; omega)).mono ?_
    rintro e w3 ⟨rfl, rfl⟩
    refine hK.out _ _ (HSW.out _ HB2.out) (fun hHeld2 => ?_)
    clear hK K hHeld
    have hHeld := hHeld2
    clear hHeld2
    refine wpAnyH_take (i := 8) (oi := _) (v := ?_) rfl (by kernel_rfl) (by kernel_rfl) (by kernel_rfl) (fun _ _ _ h => h) (Or.inl ⟨by rfl, ?_⟩) (by assumption) ?_
    rotate_left
    · (intro w hSw; (try dsimp only at hSw); (try obtain ⟨s1_, s2_⟩ := hSw); go_simp <;> with_reducible rfl)
    simp only [List.getElem_toArray, List.getElem_cons_succ, List.getElem_cons_zero, Act.put, List.setIfInBounds_toArray, List.set_cons_zero, List.set_cons_succ]
    refine wpAnyH_take (i := 9) (oi := _) (v := ?_) rfl (by kernel_rfl) (by kernel_rfl) (by kernel_rfl) (fun _ _ _ h => h) (Or.inl ⟨by rfl, ?_⟩) (by assumption) ?_
    rotate_left
    · (intro w hSw; (try dsimp only at hSw); (try obtain ⟨s1_, s2_⟩ := hSw); go_simp <;> with_reducible rfl)
    simp only [List.getElem_toArray, List.getElem_cons_succ, List.getElem_cons_zero, Act.put, List.setIfInBounds_toArray, List.set_cons_zero, List.set_cons_succ]
    refine wpAnyH_done (by kernel_rfl) ?_ _
    go_wp2_with fail
    go_ret
    refine ⟨ret_bool ?_, HB1.out.trans (HB2.out.mono HB1.out.size)⟩
    rw [HE2.out]
    cases has a.m r <;> cases isIn a.o x <;> rfl
theorem shas_any (A1 A2 A3 : Option Addr) (n1 c1 n2 c2 n3 c3 : Nat) (a : St) (X : ByteArray) (x : Tx) (hX : X.toList = x) (hl : x.length ≤ 1099511627770) (w : World) (h : Has3 w A1 n1 A2 n2 A3 n3 a) :
    Calls Tryz.prog 15 #[.agg #[.slice A1 n1 c1, .slice A2 n2 c2, .slice A3 n3 c3], .string X] w (Ret w (.bool (hasS a x))) := by
  by_cases hne : x = []
  · subst hne; exact shas_none A1 A2 A3 n1 c1 n2 c2 n3 c3 a X hX w
  · exact shas_some A1 A2 A3 n1 c1 n2 c2 n3 c3 a X x hX hne hl w h

theorem begins_nil (A : Option Addr) (c : Nat) (w : World) : Calls Tryz.prog 43 #[.slice A 0 c] w (Ret w (.bool false)) := by
  have HI : Hid (∀ u, Calls Tryz.prog 86 #[.slice A 0 c, .func (.func 63) #[] #[]] u (fun e w' => e = .returned (.int .i64 (-1)) ∧ u = w')) := fun u => by
    go_enter Tryz.func86, Tryz.ntmps86
    go_wp2_with fail
    refine wp_loop_rounds 1 ?_
    rw [rounds_succ]
    go_wp2_with fail
    go_ret
    exact ⟨rfl, rfl⟩
  have HC : Hid (∀ u, Calls Tryz.prog 59 #[.slice A 0 c, .func (.func 63) #[] #[]] u (fun e w' => e = .returned (.bool false) ∧ u = w')) := fun u => by
    go_enter Tryz.func59, Tryz.ntmps59
    go_wp2_with fail
    refine (HI.out _).mono ?_
    rintro e w1 ⟨rfl, rfl⟩
    go_wp2_with fail
    go_ret
    exact ⟨rfl, rfl⟩
  go_enter Tryz.func43, Tryz.ntmps43
  go_wp2_with fail
  refine (HC.out _).mono ?_
  rintro e w1 ⟨rfl, rfl⟩
  go_wp2_with fail
  go_ret
  exact ⟨rfl, Below.refl _ _⟩
set_option maxHeartbeats 4000000 in
theorem semp_some (A1 A2 A3 : Option Addr) (n1 c1 n2 c2 n3 c3 : Nat) (a : St) (w : World) (h : Has3 w A1 n1 A2 n2 A3 n3 a) (ho : (normS a).o ≠ []) :
    Calls Tryz.prog 20 #[.agg #[.slice A1 n1 c1, .slice A2 n2 c2, .slice A3 n3 c3]] w (Ret w (.bool false)) := by
  obtain ⟨g, hg⟩ : ∃ g, g = w.heap.size := ⟨_, rfl⟩
  obtain ⟨W0, hW0⟩ : ∃ W0, W0 = w.alloc (.cells #[.slice A1 n1 c1, .slice A2 n2 c2, .slice A3 n3 c3] 25) := ⟨_, rfl⟩
  have k0 : BlkS W0 g (.slice A1 n1 c1) (.slice A2 n2 c2) (.slice A3 n3 c3) := by rw [hW0, hg]; exact BlkS.new w _ _ _
  have hb0 : Below w.heap.size w W0 := by rw [hW0]; exact (Below.refl _ _).alloc (Nat.le_refl _) _
  have H := Lib.hid (h.next hb0)
  have HK := Lib.hid k0; have HW := Lib.hid hW0; have HG := Lib.hid hg; have HB0 := Lib.hid hb0
  have HN := Lib.hid (r_norm c1 c2 c3 H.out)
  have x0 := k0.c0; have x1 := k0.c1; have x2 := k0.c2
  have HO := Lib.hid ho
  clear h hg hW0 hb0 k0 ho
  go_enter Tryz.func20, Tryz.ntmps20
  go_wp2_with fail
  rw [← HW.out, ← HG.out]
  go_wp2_with fail
  refine HN.out.mono ?_
  rintro e w1 ⟨P1, p1, q1, P2, p2, q2, P3, p3, q3, rfl, M1⟩
  have HM := Lib.hid M1
  have HB1 := Lib.hid (show Below w.heap.size w (w1.alloc (.cells #[.slice P1 p1 q1, .slice P2 p2 q2, .slice P3 p3 q3] 25)) from (HB0.out.trans (M1.bel.mono HB0.out.size)).alloc (Nat.le_trans HB0.out.size M1.bel.size) _)
  clear M1 x0 x1 x2
  have h3 := HM.out.has.o.len
  have hp3 : p3 ≠ 0 := fun e => HO.out (List.eq_nil_of_length_eq_zero (h3.trans e))
  have hq : ((p3 : Int) == 0) = false := by rw [beq_eq_false_iff_ne]; omega
  clear h3
  go_wp2_with fail
  go_ret
  exact ⟨rfl, HB1.out⟩
set_option maxHeartbeats 4000000 in
theorem semp_none (A1 A2 A3 : Option Addr) (n1 c1 n2 c2 n3 c3 : Nat) (a : St) (w : World) (h : Has3 w A1 n1 A2 n2 A3 n3 a) (ho : normS a = none_) :
    Calls Tryz.prog 20 #[.agg #[.slice A1 n1 c1, .slice A2 n2 c2, .slice A3 n3 c3]] w (Ret w (.bool true)) := by
  obtain ⟨g, hg⟩ : ∃ g, g = w.heap.size := ⟨_, rfl⟩
  obtain ⟨W0, hW0⟩ : ∃ W0, W0 = w.alloc (.cells #[.slice A1 n1 c1, .slice A2 n2 c2, .slice A3 n3 c3] 25) := ⟨_, rfl⟩
  have k0 : BlkS W0 g (.slice A1 n1 c1) (.slice A2 n2 c2) (.slice A3 n3 c3) := by rw [hW0, hg]; exact BlkS.new w _ _ _
  have hb0 : Below w.heap.size w W0 := by rw [hW0]; exact (Below.refl _ _).alloc (Nat.le_refl _) _
  have H := Lib.hid (h.next hb0)
  have HK := Lib.hid k0; have HW := Lib.hid hW0; have HG := Lib.hid hg; have HB0 := Lib.hid hb0
  have HN := Lib.hid (r_norm c1 c2 c3 H.out)
  have x0 := k0.c0; have x1 := k0.c1; have x2 := k0.c2
  have HO := Lib.hid ho
  clear h hg hW0 hb0 k0 ho
  go_enter Tryz.func20, Tryz.ntmps20
  go_wp2_with fail
  rw [← HW.out, ← HG.out]
  go_wp2_with fail
  refine HN.out.mono ?_
  rintro e w1 ⟨P1, p1, q1, P2, p2, q2, P3, p3, q3, rfl, M1⟩
  have HM := Lib.hid M1
  have HB1 := Lib.hid (show Below w.heap.size w (w1.alloc (.cells #[.slice P1 p1 q1, .slice P2 p2 q2, .slice P3 p3 q3] 25)) from (HB0.out.trans (M1.bel.mono HB0.out.size)).alloc (Nat.le_trans HB0.out.size M1.bel.size) _)
  clear M1 x0 x1 x2
  have h1 := HM.out.has.s.len; have h2 := HM.out.has.m.len; have h3 := HM.out.has.o.len
  rw [HO.out] at h1 h2 h3
  have e1 : p1 = 0 := h1.symm
  have e2 : p2 = 0 := h2.symm
  have e3 : p3 = 0 := h3.symm
  subst e1 e2 e3
  clear h1 h2 h3
  have HZ := Lib.hid (BlkS.new w1 (.slice P1 0 q1) (.slice P2 0 q2) (.slice P3 0 q3))
  have HNX := Lib.hid (show ∀ u, Below (w1.heap.size + 1) (w1.alloc (.cells #[.slice P1 0 q1, .slice P2 0 q2, .slice P3 0 q3] 25)) u → u.cell? ⟨w1.heap.size, 1, none⟩ = some (.slice P2 0 q2) from fun u hu => (HZ.out.below hu (Nat.lt_succ_self _)).c1)
  have hs1 : (w1.alloc (.cells #[.slice P1 0 q1, .slice P2 0 q2, .slice P3 0 q3] 25)).heap.size = w1.heap.size + 1 := by simp
  have HS1 := Lib.hid hs1
  clear hs1
  go_wp2_with fail
  refine (begins_nil P1 q1 _).mono ?_
  rintro e w2 ⟨rfl, hb2⟩
  have x1 := HNX.out w2 (by rw [HS1.out] at hb2; exact hb2)
  have HB2 := Lib.hid (HB1.out.trans (hb2.mono HB1.out.size))
  clear hb2
  go_wp2_with fail
  refine (begins_nil P2 q2 _).mono ?_
  rintro e w3 ⟨rfl, hb3⟩
  have HB3 := Lib.hid (HB2.out.trans (hb3.mono HB2.out.size))
  clear hb3
  go_wp2_with fail
  go_ret
  exact ⟨rfl, HB3.out⟩

theorem gpts_one {x : Tx} (h : (gpts x).length = 1) : good x = true ∧ gpts x = [⟨rune x, 0, wid x⟩] ∧ ofS x = onesS [(fst x, fst x)] := by
  unfold gpts at h ⊢
  cases hg : good x with
  | false => rw [hg] at h; simp at h
  | true =>
    rw [hg, if_pos rfl] at h
    have hne : x ≠ [] := by rintro rfl; simp [pnts_nil] at h
    have h2 : two x = false := by
      have := two_len x hne
      rw [← this, decide_eq_false_iff_not]; omega
    refine ⟨rfl, by rw [if_pos rfl]; exact one_len hne h2, ?_⟩
    unfold ofS
    rw [hg, h]; rfl
theorem gpts_not {x : Tx} (h : ¬ (gpts x).length = 1) : ofS x = normS ⟨[], [], [x]⟩ := by
  unfold ofS
  unfold gpts at h
  cases hg : good x with
  | false => rfl
  | true => rw [hg, if_pos rfl] at h; rw [decide_eq_false h]; rfl
set_option maxHeartbeats 4000000 in
theorem sof_any (X : ByteArray) (x : Tx) (hX : X.toList = x) (hl : x.length ≤ 1073741824) (w : World) :
    Calls Tryz.prog 27 #[.string X] w (OwnS w (ofS x)) := by
  obtain ⟨g, hg⟩ : ∃ g, g = w.heap.size := ⟨_, rfl⟩
  obtain ⟨W0, hW0⟩ : ∃ W0, W0 = w.alloc (.cells #[.slice none 0 0, .slice none 0 0, .slice none 0 0] 25) := ⟨_, rfl⟩
  have k0 : BlkS W0 g (.slice none 0 0) (.slice none 0 0) (.slice none 0 0) := by rw [hW0, hg]; exact BlkS.new w _ _ _
  have hb0 : Below w.heap.size w W0 := by rw [hW0]; exact (Below.refl _ _).alloc (Nat.le_refl _) _
  have HK := Lib.hid k0; have HW := Lib.hid hW0; have HG := Lib.hid hg; have HB0 := Lib.hid hb0; have HL := Lib.hid hl
  have HP := Lib.hid (points_any X x hX (by omega) W0)
  have HXX := Lib.hid (toList_mk hX)
  have HFR := Lib.hid (show fst x = (rune x : Int) from rfl)
  have HBD := Lib.hid (show -2147483648 ≤ (rune x : Int) ∧ (rune x : Int) ≤ 2147483647 by have := Utf.rune_lt x; omega)
  clear hg hW0 hb0 k0 hX hl
  go_enter Tryz.func27, Tryz.ntmps27
  go_wp2_with fail
  rw [← HW.out, ← HG.out]
  refine HP.out.mono ?_
  rintro e w1 ⟨v, rfl, ho, hb1⟩
  obtain ⟨A1, c1, rfl, _, _, hr⟩ := own_form ho
  have HB1 := Lib.hid hb1
  have HK1 := Lib.hid (HK.out.next hb1)
  by_cases h1 : (gpts x).length = 1
  · obtain ⟨_, hp, hof⟩ := gpts_one h1
    have HOF := Lib.hid hof
    rw [hp] at hr
    obtain ⟨b, o, rfl, hbl⟩ := hr.form (by rw [pts_len]; simp)
    obtain ⟨p0, _, _⟩ := hr.pt (k := 0) (by simp)
    simp only [List.getElem_cons_zero, Nat.zero_mul, Nat.add_zero] at p0
    have HP0 := Lib.hid p0
    have HBL := Lib.hid hbl
    rw [h1]
    generalize rune x = r at *
    have HSW := Lib.hid (show ∀ u, Below g w1 u → g ≤ w1.heap.size → True from fun _ _ _ => trivial)
    have HCE := Lib.hid (show ∀ u, Below w1.heap.size w1 u → u.cell? ⟨b, o, none⟩ = some (.int .i32 (r : Int)) from fun u hu => (hu.cell (p := ⟨b, o, none⟩) HBL.out).trans HP0.out)
    have HGB := Lib.hid (show g ≠ b from by
      intro e
      have hz := HK1.out
      rcases ho.2 with ⟨h0, _⟩ | ⟨gg, cap, cur, hv, h2, h3, _⟩
      · cases h0
      · simp only [Value.slice.injEq, Option.some.injEq, Addr.mk.injEq, and_true] at hv
        obtain ⟨⟨rfl, _⟩, _⟩ := hv
        have := HK.out.lt
        omega)
    clear ho hb1 hr hp hof h1 hbl HP
    go_wp2_with fail
    refine wp_region_held_drew (S := fun u => u.cell? ⟨b, o, none⟩ = some (.int .i32 (r : Int))) (by kernel_rfl) (HCE.out _ (Below.refl _ _).drew) (fun hHeld => ?_)
    refine wpAnyH_take (i := 0) (oi := _) (v := ?_) rfl (by kernel_rfl) (by kernel_rfl) (by kernel_rfl) (fun _ _ _ h => h) (Or.inl ⟨by rfl, ?_⟩) (by assumption) ?_
    rotate_left
    · (intro w hSw; (try dsimp only at hSw); go_simp <;> with_reducible rfl)
    simp only [List.getElem_toArray, List.getElem_cons_zero, Act.put, List.setIfInBounds_toArray, List.set_cons_zero, List.set_cons_succ]
    refine wpAnyH_take (i := 1) (oi := _) (v := ?_) rfl (by kernel_rfl) (by kernel_rfl) (by kernel_rfl) (fun _ _ _ h => h) (Or.inl ⟨by rfl, ?_⟩) (by assumption) ?_
    rotate_left
    · (intro w hSw; (try dsimp only at hSw); go_simp <;> with_reducible rfl)
    simp only [List.getElem_toArray, List.getElem_cons_succ, List.getElem_cons_zero, Act.put, List.setIfInBounds_toArray, List.set_cons_zero, List.set_cons_succ]
    refine wpAnyH_take (i := 2) (oi := _) (v := ?_) rfl (by kernel_rfl) (by kernel_rfl) (by kernel_rfl) (fun _ _ _ h => h) (Or.inl ⟨by rfl, ?_⟩) (by assumption) ?_
    rotate_left
    · (intro w hSw; (try dsimp only at hSw); go_simp <;> with_reducible rfl)
    simp only [List.getElem_toArray, List.getElem_cons_succ, List.getElem_cons_zero, Act.put, List.setIfInBounds_toArray, List.set_cons_zero, List.set_cons_succ]
    refine wpAnyH_take (i := 3) (oi := _) (v := ?_) rfl (by kernel_rfl) (by kernel_rfl) (by kernel_rfl) (fun _ _ _ h => h) (Or.inl ⟨by rfl, ?_⟩) (by assumption) ?_
    rotate_left
    · (intro w hSw; (try dsimp only at hSw); go_simp <;> with_reducible rfl)
    simp only [List.getElem_toArray, List.getElem_cons_succ, List.getElem_cons_zero, Act.put, List.setIfInBounds_toArray, List.set_cons_zero, List.set_cons_succ]
    refine wpAnyH_take (i := 4) (oi := _) (v := ?_) rfl (by kernel_rfl) (by kernel_rfl) (by kernel_rfl) (fun _ _ _ h => h) (Or.inl ⟨by rfl, ?_⟩) (by assumption) ?_
    rotate_left
    · (intro w hSw; (try dsimp only at hSw); go_simp <;> with_reducible rfl)
    simp only [List.getElem_toArray, List.getElem_cons_succ, List.getElem_cons_zero, Act.put, List.setIfInBounds_toArray, List.set_cons_zero, List.set_cons_succ]
    refine wpAnyH_take (i := 5) (oi := _) (v := ?_) rfl (by kernel_rfl) (by kernel_rfl) (by kernel_rfl) (fun _ _ _ h => h) (Or.inl ⟨by rfl, ?_⟩) (by assumption) ?_
    rotate_left
    · (intro w hSw; (try dsimp only at hSw); go_simp <;> with_reducible rfl)
    simp only [List.getElem_toArray, List.getElem_cons_succ, List.getElem_cons_zero, Act.put, List.setIfInBounds_toArray, List.set_cons_zero, List.set_cons_succ]
    refine wpAnyH_take (i := 6) (oi := _) (v := ?_) rfl (by kernel_rfl) (by kernel_rfl) (by kernel_rfl) (fun _ _ _ h => h) (Or.inl ⟨by rfl, ?_⟩) (by assumption) ?_
    rotate_left
    · (intro w hSw; (try dsimp only at hSw); go_simp <;> with_reducible rfl)
    simp only [List.getElem_toArray, List.getElem_cons_succ, List.getElem_cons_zero, Act.put, List.setIfInBounds_toArray, List.set_cons_zero, List.set_cons_succ]
    refine wpAnyH_take (i := 7) (oi := _) (v := ?_) rfl (by kernel_rfl) (by kernel_rfl) (by kernel_rfl) (fun _ _ _ h => h) (Or.inl ⟨by rfl, ?_⟩) (by assumption) ?_
    rotate_left
    · (intro w hSw; (try dsimp only at hSw); go_simp <;> with_reducible rfl)
    simp only [List.getElem_toArray, List.getElem_cons_succ, List.getElem_cons_zero, Act.put, List.setIfInBounds_toArray, List.set_cons_zero, List.set_cons_succ]
    refine wpAnyH_take (i := 8) (oi := _) (v := ?_) rfl (by kernel_rfl) (by kernel_rfl) (by kernel_rfl) (fun _ _ _ h => h) (Or.inl ⟨by rfl, ?_⟩) (by assumption) ?_
    rotate_left
    · (intro w hSw; (try dsimp only at hSw); go_simp <;> with_reducible rfl)
    simp only [List.getElem_toArray, List.getElem_cons_succ, List.getElem_cons_zero, Act.put, List.setIfInBounds_toArray, List.set_cons_zero, List.set_cons_succ]
    refine wpAnyH_ready (rs := [9]) (by kernel_rfl) (by simp) (AllReadyH.cons rfl (fun K hK => ?_) AllReadyH.nil)
    have HBA := Lib.hid (show Below w1.heap.size w1 (w1.alloc (.cells #[.int .i32 (r : Int), .int .i32 (r : Int)] 38)).drew from ((Below.refl _ _).alloc (Nat.le_refl _) _).drew)
    have HAR := Lib.hid (show ArgR (w1.alloc (.cells #[.int .i32 (r : Int), .int .i32 (r : Int)] 38)).drew (some ⟨w1.heap.size, 0, none⟩) 1 [((r : Int), (r : Int))] from ⟨Rd.drew ((rd_new w1 _ (rgs [((r : Int), (r : Int))]) _ rfl).more (by simp)), rfl, fun q hq => by rw [List.mem_singleton.1 hq]; exact ⟨HBD.out, HBD.out⟩, by omega⟩)
    go_simp
    generalize (w1.alloc (.cells #[.int .i32 (r : Int), .int .i32 (r : Int)] 38)).drew = w2 at *
    refine hK.out _ _ (HCE.out _ HBA.out) (fun hHeld2 => ?_)
    clear hK K hHeld
    have hHeld := hHeld2
    clear hHeld2
    refine wpAnyH_ready (rs := [10]) (by kernel_rfl) (by simp) (AllReadyH.cons rfl (fun K hK => ?_) AllReadyH.nil)
    go_simp
    go_at_call 28
    refine (sones_any _ _ _ _ _ HAR.out).mono ?_
    rintro e w3 ⟨v1, v2, v3, rfl, o1, o2, o3, b3⟩
    obtain ⟨P1, p1, rfl, _, _, _⟩ := own_form o1; obtain ⟨P2, p2, rfl, _, _, _⟩ := own_form o2; obtain ⟨P3, p3, rfl, _, _, _⟩ := own_form o3
    have HO1 := Lib.hid o1; have HO2 := Lib.hid o2; have HO3 := Lib.hid o3
    have HB3 := Lib.hid (HBA.out.trans (b3.mono HBA.out.size))
    clear o1 o2 o3 b3
    refine hK.out _ _ (HCE.out _ HB3.out) (fun hHeld2 => ?_)
    clear hK K hHeld
    have hHeld := hHeld2
    clear hHeld2
    refine wpAnyH_ready (rs := [11]) (by kernel_rfl) (by simp) (AllReadyH.cons rfl (fun K hK => ?_) AllReadyH.nil)
    have HZ := Lib.hid (HK1.out.next HB3.out)
    have d0 := HZ.out.c0; have d1 := HZ.out.c1; have d2 := HZ.out.c2; have f0 := HZ.out.fr 0; have f1 := HZ.out.fr 1; have f2 := HZ.out.fr 2
    go_simp
    clear d0 d1 d2 f0 f1 f2
    refine hK.out _ _ ((World.cell?_of_block ((grown_put w3 g _ _ _).block b (Nat.lt_of_lt_of_le HBL.out HB3.out.size) (fun e => HGB.out (Option.some.inj e).symm))).trans (HCE.out _ HB3.out)) (fun hHeld2 => ?_)
    clear hK K hHeld
    have hHeld := hHeld2
    clear hHeld2
    refine wpAnyH_done (by kernel_rfl) ?_ _
    go_wp2_with fail
    refine (HZ.out.put _ _ _).ret rfl rfl rfl ?_
    have hs := HB0.out.size
    have hs1 := HB1.out.size
    have hs2 := HBA.out.size
    rw [HOF.out, HFR.out]
    exact OwnS.of HZ.out HO1.out HO2.out HO3.out (HB0.out.trans ((HB1.out.trans (HB3.out.mono hs1)).mono hs)) (by have := HG.out; omega) (by omega) (by omega) (by omega)
  · have HOF := Lib.hid (gpts_not h1)
    have hq : (((gpts x).length : Int) == 1) = false := by rw [beq_eq_false_iff_ne]; omega
    generalize (gpts x).length = N at hq ⊢
    obtain ⟨W2, hW2⟩ : ∃ W2, W2 = w1.alloc (.cells #[.string X] 9) := ⟨_, rfl⟩
    have hbl : Blk W2 w1.heap.size 9 [.string X] := by rw [hW2]; exact Blk.new w1 _ [.string X]
    have hb2 : Below w1.heap.size w1 W2 := by rw [hW2]; exact (Below.refl _ _).alloc (Nat.le_refl _) _
    have hH : Has3 W2 none 0 none 0 (some ⟨w1.heap.size, 0, none⟩) 1 ⟨[], [], [x]⟩ := ⟨⟨rd_nil _ _ _, rfl, fit_nil, by omega⟩, ⟨rd_nil _ _ _, rfl, fit_nil, by omega⟩,
      ⟨by
        rw [show txs [x] = [Value.string X] by rw [HXX.out]; rfl, hW2]
        exact (rd_new w1 _ [Value.string X] _ rfl).more (by simp), rfl, fun t ht => by rw [List.mem_singleton.1 ht]; exact HL.out, by omega⟩⟩
    have HN := Lib.hid (snorm_any none none (some ⟨w1.heap.size, 0, none⟩) 0 0 0 0 1 1 ⟨[], [], [x]⟩ W2 hH)
    have HW2 := Lib.hid hW2
    have HB2 := Lib.hid (HB1.out.trans (hb2.mono HB1.out.size))
    have HK2 := Lib.hid (HK1.out.next hb2)
    generalize normS ⟨[], [], [x]⟩ = R at HN HOF
    clear ho hb1 hr h1 HP hW2 hbl hb2 hH
    go_wp2_with fail
    rw [← HW2.out]
    refine HN.out.mono ?_
    rintro e w3 ⟨v1, v2, v3, rfl, o1, o2, o3, b3⟩
    obtain ⟨P1, p1, rfl, _, _, _⟩ := own_form o1; obtain ⟨P2, p2, rfl, _, _, _⟩ := own_form o2; obtain ⟨P3, p3, rfl, _, _, _⟩ := own_form o3
    have HO1 := Lib.hid o1; have HO2 := Lib.hid o2; have HO3 := Lib.hid o3
    have HB3 := Lib.hid (HB2.out.trans (b3.mono HB2.out.size))
    have HZ := Lib.hid (HK2.out.next b3)
    have d0 := HZ.out.c0; have d1 := HZ.out.c1; have d2 := HZ.out.c2; have f0 := HZ.out.fr 0; have f1 := HZ.out.fr 1; have f2 := HZ.out.fr 2
    clear o1 o2 o3 b3
    go_wp2_with fail
    refine (HZ.out.put _ _ _).ret rfl rfl rfl ?_
    have hs := HB0.out.size
    have hs2 := HB2.out.size
    rw [HOF.out]
    exact OwnS.of HZ.out HO1.out HO2.out HO3.out (HB0.out.trans (HB3.out.mono hs)) (by have := HG.out; omega) (by omega) (by omega) (by omega)
end Go.Proofs.YtipcbiecdabihaaGreat.Sset
