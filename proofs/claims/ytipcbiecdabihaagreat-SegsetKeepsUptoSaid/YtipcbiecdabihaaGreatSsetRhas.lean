/-
  CONTRACT OF THE DOCUMENT's Has.
-/
import Derived.Test.YtipcbiecdabihaaGreatSsetRef
namespace Go.Proofs.YtipcbiecdabihaaGreat.Sset
open Go.RowKit
open Utf (Rd Blk bys bys_len pts pts_len nums nums_len nums_append nums_one dec enc wpList_append_rd own_ne Pts)
open Rset
set_option maxRecDepth 100000

/-! ### Has -/
theorem rns_nil : rns [] = [] := rfl
theorem rns_key (a : St) (x : Tx) : ((rns x).length = 0 → hasS a x = false) ∧ ((rns x).length = 1 → hasS a x = has a.s ((rns x).getD 0 0)) ∧ (2 ≤ (rns x).length → hasS a x = (has a.m ((rns x).getD 0 0) != isIn a.o x)) := by
  by_cases hne : x = []
  · subst hne
    refine ⟨fun _ => by unfold hasS; rw [if_pos rfl], fun h => by simp [rns_nil] at h, fun h => by simp [rns_nil] at h⟩
  · have hl : (rns x).length = (pnts x).length := by unfold rns; rw [List.length_map]
    have hf : (rns x).getD 0 0 = fst x := by unfold rns; rw [pnts_cons hne]; rfl
    have h2 := two_len x hne
    rw [hl, hf, has_key a x hne, ← h2]
    refine ⟨fun h => ?_, fun h => ?_, fun h => ?_⟩
    · rw [pnts_cons hne] at h; simp at h
    · rw [decide_eq_false (by omega)]; rfl
    · rw [decide_eq_true h]; rfl
theorem isIn_take {l : List Tx} {k : Nat} (hk : k < l.length) (x : Tx) : isIn (l.take (k + 1)) x = (isIn (l.take k) x || decide (x = l[k])) := by
  rw [List.take_succ_eq_append_getElem hk, isIn_append, isIn_one]
set_option maxHeartbeats 8000000 in
theorem rshas_any (A1 A2 A3 : Option Addr) (n1 c1 n2 c2 n3 c3 : Nat) (a : St) (X : ByteArray) (x : Tx) (hX : X.toList = x) (hl : x.length ≤ 1073741824) (w : World) (h : Has3 w A1 n1 A2 n2 A3 n3 a) :
    Calls Tryz.prog 17 #[.agg #[.slice A1 n1 c1, .slice A2 n2 c2, .slice A3 n3 c3], .string X] w (Ret w (.bool (hasS a x))) := by
  obtain ⟨g, hg⟩ : ∃ g, g = w.heap.size := ⟨_, rfl⟩
  obtain ⟨W0, hW0⟩ : ∃ W0, W0 = w.alloc (.cells #[.slice A1 n1 c1, .slice A2 n2 c2, .slice A3 n3 c3] 25) := ⟨_, rfl⟩
  have k0 : BlkS W0 g (.slice A1 n1 c1) (.slice A2 n2 c2) (.slice A3 n3 c3) := by rw [hW0, hg]; exact BlkS.new w _ _ _
  have hb0 : Below w.heap.size w W0 := by rw [hW0]; exact (Below.refl _ _).alloc (Nat.le_refl _) _
  have H := Lib.hid (h.next hb0)
  have HK := Lib.hid k0; have HW := Lib.hid hW0; have HG := Lib.hid hg; have HB0 := Lib.hid hb0
  obtain ⟨n, hn⟩ : ∃ n, x.length = n := ⟨_, rfl⟩
  obtain ⟨gx, C, W1, hcv, hr1, hb1, hC1, hC2⟩ := conv_str W0 X x hX n hn (by omega)
  have HR := Lib.hid (rrunes_any (some ⟨gx, 0, none⟩) x n C W1 hr1 hn (by omega))
  have HB1 := Lib.hid hb1
  have hrl := rns_len x
  have HKY := Lib.hid (rns_key a x)
  have HX := Lib.hid hX
  rw [hn] at hrl
  have hn2 : n ≤ 1073741824 := by omega
  clear h hg hW0 hb0 k0 hr1 hb1 hC1 hC2 hX hl hn
  generalize hasS a x = res at HKY ⊢
  generalize rns x = L at *
  go_enter Tryz.func17, Tryz.ntmps17
  go_wp2_with fail
  rw [← HW.out, ← HG.out]
  rw [hcv]
  go_wp2_with fail
  refine HR.out.mono ?_
  rintro e w2 ⟨v2, rfl, o2, b2⟩
  obtain ⟨A4, c4, rfl, _, _, r2⟩ := own_form o2
  have HB2 := Lib.hid (HB1.out.trans (b2.mono HB1.out.size))
  have HKB := Lib.hid (HK.out.next HB2.out)
  have H2 := Lib.hid (H.out.next HB2.out)
  clear hcv HR o2 b2
  by_cases h0 : L.length = 0
  · have HE := Lib.hid (HKY.out.1 h0)
    rw [h0]
    clear r2 h0
    go_wp2_with fail
    go_ret
    exact ⟨ret_bool HE.out.symm, HB0.out.trans (HB2.out.mono HB0.out.size)⟩
  · obtain ⟨b, o, rfl, hbl⟩ := r2.form (by rw [nums_len]; omega)
    have p0 := r2.num (k := 0) (by omega)
    rw [Nat.add_zero] at p0
    have HD := Lib.hid (show L.getD 0 0 = L[0]'(by omega) from by simp [List.getD, List.getElem?_eq_getElem (show 0 < L.length by omega)])
    rw [HD.out] at HKY
    generalize L[0] = r at *
    obtain ⟨q, hq⟩ : ∃ q, q = L.length := ⟨_, rfl⟩
    rw [← hq] at HKY hrl h0 ⊢
    have hq0 : ((q : Int) == 0) = false := by rw [beq_eq_false_iff_ne]; omega
    clear r2 hq HD
    by_cases h1 : q = 1
    · subst h1
      have HE := Lib.hid (HKY.out.2.1 rfl)
      have e0 := HKB.out.c0
      have HRH := Lib.hid (show ∀ u, Below w2.heap.size w2 u → Calls Tryz.prog 40 #[.slice A1 n1 c1, .int .i32 r] u (fun e w' => e = .returned (.bool (has a.s r)) ∧ u = w') from fun u hu => rhas_any A1 a.s n1 c1 r u (H2.out.s.next hu).rd H2.out.s.len (by have := H2.out.s.sm; omega))
      go_wp2_with fail
      refine wp_region_held_drew (S := fun u => u.cell? ⟨g, 0, none⟩ = some (.slice A1 n1 c1) ∧ u.cell? ⟨b, o, none⟩ = some (.int .i32 r)) (by kernel_rfl) ⟨e0, p0⟩ (fun hHeld => ?_)
      refine wpAnyH_take (i := 0) (oi := _) (v := ?_) rfl (by kernel_rfl) (by kernel_rfl) (by kernel_rfl) (fun _ _ _ h => h) (Or.inl ⟨by rfl, ?_⟩) (by assumption) ?_
      rotate_left
      · (intro w hSw; (try dsimp only at hSw); (try obtain ⟨s1_, s2_⟩ := hSw); go_simp <;> with_reducible rfl)
      simp only [List.getElem_toArray, List.getElem_cons_zero, Act.put, List.setIfInBounds_toArray, List.set_cons_zero, List.set_cons_succ]
      refine wpAnyH_take (i := 1) (oi := _) (v := ?_) rfl (by kernel_rfl) (by kernel_rfl) (by kernel_rfl) (fun _ _ _ h => h) (Or.inl ⟨by rfl, ?_⟩) (by assumption) ?_
      rotate_left
      · (intro w hSw; (try dsimp only at hSw); (try obtain ⟨s1_, s2_⟩ := hSw); go_simp <;> with_reducible rfl)
      simp only [List.getElem_toArray, List.getElem_cons_succ, List.getElem_cons_zero, Act.put, List.setIfInBounds_toArray, List.set_cons_zero, List.set_cons_succ]
      refine wpAnyH_take (i := 2) (oi := _) (v := ?_) rfl (by kernel_rfl) (by kernel_rfl) (by kernel_rfl) (fun _ _ _ h => h) (Or.inl ⟨by rfl, ?_⟩) (by assumption) ?_
      rotate_left
      · (intro w hSw; (try dsimp only at hSw); (try obtain ⟨s1_, s2_⟩ := hSw); go_simp <;> with_reducible rfl)
      simp only [List.getElem_toArray, List.getElem_cons_succ, List.getElem_cons_zero, Act.put, List.setIfInBounds_toArray, List.set_cons_zero, List.set_cons_succ]
      refine wpAnyH_take (i := 3) (oi := _) (v := ?_) rfl (by kernel_rfl) (by kernel_rfl) (by kernel_rfl) (fun _ _ _ h => h) (Or.inl ⟨by rfl, ?_⟩) (by assumption) ?_
      rotate_left
      · (intro w hSw; (try dsimp only at hSw); (try obtain ⟨s1_, s2_⟩ := hSw); go_simp <;> with_reducible rfl)
      simp only [List.getElem_toArray, List.getElem_cons_succ, List.getElem_cons_zero, Act.put, List.setIfInBounds_toArray, List.set_cons_zero, List.set_cons_succ]
      refine wpAnyH_take (i := 4) (oi := _) (v := ?_) rfl (by kernel_rfl) (by kernel_rfl) (by kernel_rfl) (fun _ _ _ h => h) (Or.inl ⟨by rfl, ?_⟩) (by assumption) ?_
      rotate_left
      · (intro w hSw; (try dsimp only at hSw); (try obtain ⟨s1_, s2_⟩ := hSw); go_simp <;> with_reducible rfl)
      simp only [List.getElem_toArray, List.getElem_cons_succ, List.getElem_cons_zero, Act.put, List.setIfInBounds_toArray, List.set_cons_zero, List.set_cons_succ]
      refine wpAnyH_ready (rs := [5]) (by kernel_rfl) (by simp) (AllReadyH.cons rfl (fun K hK => ?_) AllReadyH.nil)
      go_simp
      go_at_call 40
      refine (HRH.out _ (Below.refl _ _).drew).mono ?_
      rintro e w3 ⟨rfl, rfl⟩
      refine hK.out _ _ ⟨e0, p0⟩ (fun hHeld2 => ?_)
      clear hK K hHeld
      have hHeld := hHeld2
      clear hHeld2
      refine wpAnyH_take (i := 6) (oi := _) (v := ?_) rfl (by kernel_rfl) (by kernel_rfl) (by kernel_rfl) (fun _ _ _ h => h) (Or.inl ⟨by rfl, ?_⟩) (by assumption) ?_
      rotate_left
      · (intro w hSw; (try dsimp only at hSw); (try obtain ⟨s1_, s2_⟩ := hSw); go_simp <;> with_reducible rfl)
      simp only [List.getElem_toArray, List.getElem_cons_succ, List.getElem_cons_zero, Act.put, List.setIfInBounds_toArray, List.set_cons_zero, List.set_cons_succ]
      refine wpAnyH_done (by kernel_rfl) ?_ _
      go_wp2_with fail
      go_ret
      exact ⟨ret_bool HE.out.symm, HB0.out.trans (HB2.out.drew.mono HB0.out.size)⟩
    · have HE := Lib.hid (HKY.out.2.2 (by omega))
      have hq1 : ((q : Int) == 1) = false := by rw [beq_eq_false_iff_ne]; omega
      have hq2 : 0 < q := by omega
      have hq3 : (0 : Int) < (q : Int) := by omega
      clear h0 h1
      have e1 := HKB.out.c1
      have HRH := Lib.hid (show ∀ u, Below w2.heap.size w2 u → Calls Tryz.prog 40 #[.slice A2 n2 c2, .int .i32 r] u (fun e w' => e = .returned (.bool (has a.m r)) ∧ u = w') from fun u hu => rhas_any A2 a.m n2 c2 r u (H2.out.m.next hu).rd H2.out.m.len (by have := H2.out.m.sm; omega))
      go_wp2_with fail
      refine wp_region_held_drew (S := fun u => u.cell? ⟨g, 1, none⟩ = some (.slice A2 n2 c2) ∧ u.cell? ⟨b, o, none⟩ = some (.int .i32 r)) (by kernel_rfl) ⟨e1, p0⟩ (fun hHeld => ?_)
      refine wpAnyH_take (i := 0) (oi := _) (v := ?_) rfl (by kernel_rfl) (by kernel_rfl) (by kernel_rfl) (fun _ _ _ h => h) (Or.inl ⟨by rfl, ?_⟩) (by assumption) ?_
      rotate_left
      · (intro w hSw; (try dsimp only at hSw); (try obtain ⟨s1_, s2_⟩ := hSw); go_simp <;> with_reducible rfl)
      simp only [List.getElem_toArray, List.getElem_cons_zero, Act.put, List.setIfInBounds_toArray, List.set_cons_zero, List.set_cons_succ]
      refine wpAnyH_take (i := 1) (oi := _) (v := ?_) rfl (by kernel_rfl) (by kernel_rfl) (by kernel_rfl) (fun _ _ _ h => h) (Or.inl ⟨by rfl, ?_⟩) (by assumption) ?_
      rotate_left
      · (intro w hSw; (try dsimp only at hSw); (try obtain ⟨s1_, s2_⟩ := hSw); go_simp <;> with_reducible rfl)
      simp only [List.getElem_toArray, List.getElem_cons_succ, List.getElem_cons_zero, Act.put, List.setIfInBounds_toArray, List.set_cons_zero, List.set_cons_succ]
      refine wpAnyH_take (i := 2) (oi := _) (v := ?_) rfl (by kernel_rfl) (by kernel_rfl) (by kernel_rfl) (fun _ _ _ h => h) (Or.inl ⟨by rfl, ?_⟩) (by assumption) ?_
      rotate_left
      · (intro w hSw; (try dsimp only at hSw); (try obtain ⟨s1_, s2_⟩ := hSw); go_simp <;> with_reducible rfl)
      simp only [List.getElem_toArray, List.getElem_cons_succ, List.getElem_cons_zero, Act.put, List.setIfInBounds_toArray, List.set_cons_zero, List.set_cons_succ]
      refine wpAnyH_take (i := 3) (oi := _) (v := ?_) rfl (by kernel_rfl) (by kernel_rfl) (by kernel_rfl) (fun _ _ _ h => h) (Or.inl ⟨by rfl, ?_⟩) (by assumption) ?_
      rotate_left
      · (intro w hSw; (try dsimp only at hSw); (try obtain ⟨s1_, s2_⟩ := hSw); go_simp <;> with_reducible rfl)
      simp only [List.getElem_toArray, List.getElem_cons_succ, List.getElem_cons_zero, Act.put, List.setIfInBounds_toArray, List.set_cons_zero, List.set_cons_succ]
      refine wpAnyH_take (i := 4) (oi := _) (v := ?_) rfl (by kernel_rfl) (by kernel_rfl) (by kernel_rfl) (fun _ _ _ h => h) (Or.inl ⟨by rfl, ?_⟩) (by assumption) ?_
      rotate_left
      · (intro w hSw; (try dsimp only at hSw); (try obtain ⟨s1_, s2_⟩ := hSw); go_simp <;> with_reducible rfl)
      simp only [List.getElem_toArray, List.getElem_cons_succ, List.getElem_cons_zero, Act.put, List.setIfInBounds_toArray, List.set_cons_zero, List.set_cons_succ]
      refine wpAnyH_ready (rs := [5]) (by kernel_rfl) (by simp) (AllReadyH.cons rfl (fun K hK => ?_) AllReadyH.nil)
      go_simp
      go_at_call 40
      refine (HRH.out _ (Below.refl _ _).drew).mono ?_
      rintro e w3 ⟨rfl, rfl⟩
      refine hK.out _ _ ⟨e1, p0⟩ (fun hHeld2 => ?_)
      clear hK K hHeld
      have hHeld := hHeld2
      clear hHeld2
      refine wpAnyH_take (i := 6) (oi := _) (v := ?_) rfl (by kernel_rfl) (by kernel_rfl) (by kernel_rfl) (fun _ _ _ h => h) (Or.inl ⟨by rfl, ?_⟩) (by assumption) ?_
      rotate_left
      · (intro w hSw; (try dsimp only at hSw); (try obtain ⟨s1_, s2_⟩ := hSw); go_simp <;> with_reducible rfl)
      simp only [List.getElem_toArray, List.getElem_cons_succ, List.getElem_cons_zero, Act.put, List.setIfInBounds_toArray, List.set_cons_zero, List.set_cons_succ]
      refine wpAnyH_done (by kernel_rfl) ?_ _
      go_wp2_with fail
      obtain ⟨W3, hW3⟩ : ∃ W3, W3 = w2.drew := ⟨_, rfl⟩
      have hb3 : Below w2.heap.size w2 W3 := by rw [hW3]; exact (Below.refl _ _).drew
      have k3 := HKB.out.next hb3
      have e2 := k3.c2
      have HO := Lib.hid (H2.out.o.next hb3)
      have HBF := Lib.hid (HB0.out.trans ((HB2.out.trans (hb3.mono HB2.out.size)).mono HB0.out.size))
      have hn3 := H2.out.o.sm
      rw [← hW3]
      generalize has a.m r = p at HE ⊢
      clear HRH hW3 hb3 k3 e1
      go_loopw [7] (fun i wr => ∃ k : Nat, k ≤ n3 ∧ i = .int .i64 k ∧ Hid (isIn (a.o.take k) x = false) ∧ wr = W3) (fun i _ => n3 - (intOf i).toNat)
      case atStart => exact ⟨0, Nat.zero_le _, rfl, Lib.hid rfl, rfl⟩
      case round =>
        obtain ⟨k, hk, rfl, HT, rfl⟩ := hrel
        by_cases hlt : k < n3
        · have hkl : k < a.o.length := by rw [HO.out.len]; exact hlt
          obtain ⟨b', o', rfl, _⟩ := rd_form_tx HO.out.rd (by omega)
          have f0 : _ = some (Value.string (ba a.o[k])) := rd_tx HO.out.rd hkl
          have HTK := Lib.hid (isIn_take hkl x)
          have HIN := Lib.hid (show a.o[k] = x → isIn a.o x = true from fun h => isIn_iff.2 (h ▸ List.getElem_mem hkl))
          by_cases hxy : a.o[k] = x
          · have HF := Lib.hid (HIN.out hxy)
            rw [hxy] at f0
            have e3 : ba x = X := (toList_mk HX.out).symm
            rw [e3] at f0
            have he1 : (X.toList == X.toList) = true := by simp
            clear hxy HTK HIN hkl e3
            go_wp2_with fail
            go_ret
            exact ⟨ret_bool (by rw [HE.out, HF.out]; cases p <;> rfl), HBF.out⟩
          · have HF := Lib.hid (show isIn (a.o.take (k + 1)) x = false by rw [HTK.out, HT.out, decide_eq_false (fun h => hxy h.symm)]; rfl)
            have he1 : ((ba a.o[k]).toList == X.toList) = false := by rw [ba_list, HX.out, beq_eq_false_iff_ne]; exact hxy
            generalize ba a.o[k] = Y at f0 he1
            clear hxy HTK HIN hkl
            go_wp2_with fail
            go_roundw
            case rel => exact ⟨k + 1, by omega, by go_num, HF, by trivial⟩
            case measure => simp [intOf]; omega
        · have HF := Lib.hid (show isIn a.o x = false by
            have := HT.out
            rwa [List.take_of_length_le (by have := HO.out.len; omega)] at this)
          go_wp2_with fail
          go_ret
          exact ⟨ret_bool (by rw [HE.out, HF.out]; cases p <;> rfl), HBF.out⟩
end Go.Proofs.YtipcbiecdabihaaGreat.Sset
