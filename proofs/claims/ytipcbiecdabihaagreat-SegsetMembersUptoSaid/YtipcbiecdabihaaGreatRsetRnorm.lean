/-
  CONTRACT OF the document's Norm.
-/
import Derived.Test.YtipcbiecdabihaaGreatRsetSorted
namespace Go.Proofs.YtipcbiecdabihaaGreat.Rset
set_option maxRecDepth 100000
open Go.RowKit
open Utf (Rd Blk wpList_append_rd own_ne)

theorem mgs_at (s : List Rg) (i : Nat) (hi : i < s.length) : mgs (s.drop i) = mg s[i] (s.drop (i + 1)) := by
  rw [List.drop_eq_getElem_cons hi]; rfl
theorem mg_in (x : Rg) (s : List Rg) (k : Nat) (hk : k < s.length) (h : s[k].1 ≤ x.2 + 1) : mg x (s.drop k) = mg (x.1, max x.2 s[k].2) (s.drop (k + 1)) := by
  rw [List.drop_eq_getElem_cons hk]; exact if_pos h
theorem mg_out (x : Rg) (s : List Rg) (k : Nat) (h : ∀ hk : k < s.length, ¬ s[k].1 ≤ x.2 + 1) : mg x (s.drop k) = x :: mgs (s.drop k) := by
  by_cases hk : k < s.length
  · rw [List.drop_eq_getElem_cons hk]; exact if_neg (h hk)
  · rw [List.drop_of_length_le (by omega)]; rfl

section
variable {H E0 : Nat} {w W : World} {Aa Ab : Option Addr} {a b R : List Rg} {v : Value}
theorem MI.alloc (h : MI H E0 w Aa Ab a b R v W) (hE : H ≤ E0) (o : Obj) : MI H E0 w Aa Ab a b R v (W.alloc o) :=
  ⟨h.own.alloc o, h.rda.alloc h.size o, h.rdb.alloc h.size o, h.bel.alloc (Nat.le_trans hE h.size) o, by have := h.size; simp; omega⟩
theorem MI.drewN (h : MI H E0 w Aa Ab a b R v W) (n : Nat) : MI H E0 w Aa Ab a b R v (W.drewN n) := ⟨h.own, h.rda, h.rdb, below_drewN h.bel n, h.size⟩
theorem MI.set_ (h : MI H E0 w Aa Ab a b R v W) (hE : H ≤ E0) {xb j : Nat} (hx : E0 ≤ xb) (hn : v.ownBlock ≠ some xb) (u : Value) : MI H E0 w Aa Ab a b R v (W.setCell ⟨xb, j, none⟩ u) :=
  ⟨h.own.kept (grownBy_setCell W xb j u) (.inr hn), h.rda.setCell hx u, h.rdb.setCell hx u, h.bel.setCell (by show H ≤ xb; omega) u, by rw [show (W.setCell ⟨xb, j, none⟩ u).heap.size = W.heap.size by simp]; exact h.size⟩
end
/-- the open range lies in a block of its own -/
structure XI (H E0 : Nat) (w : World) (A : Option Addr) (s O : List Rg) (v : Value) (xb : Nat) (x1 x2 : Int) (W : World) : Prop where
  mi : MI H E0 w A none s [] O v W
  blk : Blk W xb 38 [.int .i32 x1, .int .i32 x2]
  ne : v.ownBlock ≠ some xb
  le : E0 ≤ xb
theorem XI.new {H E0 : Nat} {w W : World} {A : Option Addr} {s O : List Rg} {v : Value} (h : MI H E0 w A none s [] O v W) (hE : H ≤ E0) (x1 x2 : Int) : XI H E0 w A s O v W.heap.size x1 x2 (W.alloc (.cells #[.int .i32 x1, .int .i32 x2] 38)) :=
  ⟨h.alloc hE _, Blk.new W _ [.int .i32 x1, .int .i32 x2], fun e => by have := (h.own.lt _ e).2; omega, h.size⟩
theorem XI.drewN {H E0 : Nat} {w W : World} {A : Option Addr} {s O : List Rg} {v : Value} {xb : Nat} {x1 x2 : Int} (h : XI H E0 w A s O v xb x1 x2 W) (n : Nat) : XI H E0 w A s O v xb x1 x2 (W.drewN n) := ⟨h.mi.drewN n, h.blk, h.ne, h.le⟩
theorem XI.set_ {H E0 : Nat} {w W : World} {A : Option Addr} {s O : List Rg} {v : Value} {xb : Nat} {x1 x2 : Int} (h : XI H E0 w A s O v xb x1 x2 W) (hE : H ≤ E0) (y : Int) : XI H E0 w A s O v xb x1 y (W.setCell ⟨xb, 1, none⟩ (.int .i32 y)) :=
  ⟨h.mi.set_ hE h.le h.ne _, h.blk.set_ 1 _, h.ne, h.le⟩

set_option maxHeartbeats 8000000 in
theorem rnorm_any (A : Option Addr) (l : List Rg) (n c : Nat) (w : World) (ha : Rd w w.heap.size A (rgs l)) (hn : l.length = n) (hn1 : n ≤ 1073741824) :
    Calls Tryz.prog 25 #[.slice A n c] w (Own w (norm l)) := by
  obtain ⟨i0, hi, hz0, hz1, hz2⟩ := info_parts infoRg
  have HCL := Lib.hid (clipped_any A l n c w ha hn hn1)
  have HLN := Lib.hid (show (clipF l).length ≤ 1073741824 by have := clipF_len l; omega)
  clear ha hn hn1
  go_enter Tryz.func25, Tryz.ntmps25
  go_wp2_with fail
  refine HCL.out.mono ?_
  rintro e w1 ⟨v1, rfl, ho1, hb1⟩
  obtain ⟨A1, c1, rfl, hc1, hcm1, hr1⟩ := own_form ho1
  have HS := Lib.hid (sorted_any A1 (clipF l) _ c1 w1 hr1 rfl hc1 hcm1 HLN.out)
  have HB1 := Lib.hid hb1
  clear ho1 hb1 hc1 hr1 HCL hcm1
  go_wp2_with fail
  refine HS.out.mono ?_
  rintro e W2 ⟨A2, N, c2, s, rfl, hsn, hp, has, hr2, hb2⟩
  have HN := Lib.hid hsn
  have HE := Lib.hid (mgs_norm hp has)
  have HV := Lib.hid (fun q (hq : q ∈ s) => clipF_ok l q (hp.mem_iff.1 hq))
  have hNs : N ≤ 1073741824 := by have := hp.length_eq; have := HLN.out; omega
  have hB2 : Below w.heap.size w W2 := HB1.out.trans (hb2.mono HB1.out.size)
  have hMI : Hid (MI w.heap.size W2.heap.size w A2 none s [] [] (.slice none 0 0) W2) := ⟨World.ownsRow_nil _ _ _ _, hr2, rd_nil _ _ _, hB2, Nat.le_refl _⟩
  have HHE := Lib.hid hB2.size
  clear hsn hp has hr2 hb2 hB2 HS HB1 HLN
  go_wp2_with fail
  go_loopw [4, 5] (fun ov iv wr => ∃ (i : Nat) (v : Value) (O : List Rg), i ≤ N ∧ iv = .int .i64 i ∧ ov = v ∧ Hid (O ++ mgs (s.drop i) = mgs s) ∧ Hid (O.length ≤ i) ∧ Hid (MI w.heap.size W2.heap.size w A2 none s [] O v wr)) (fun _ iv _ => N - (intOf iv).toNat)
  case atStart => exact ⟨0, _, [], Nat.zero_le _, rfl, rfl, Lib.hid rfl, Lib.hid (Nat.le_refl _), hMI⟩
  case round =>
    obtain ⟨i, v, O, hi1, rfl, rfl, HO, HOL, HI⟩ := hrel
    clear hMI
    by_cases hlt : i < N
    · have hil : i < s.length := by rw [HN.out]; exact hlt
      obtain ⟨b, o, rfl, hb⟩ := rd_form_rg HI.out.rda (by omega)
      obtain ⟨d1, d2⟩ := rd_rg HI.out.rda hil
      have hbs : b < wr.heap.size := Nat.lt_of_lt_of_le hb HI.out.size
      have HO2 := Lib.hid (show O ++ mg s[i] (s.drop (i + 1)) = mgs s by rw [← mgs_at s i hil]; exact HO.out)
      have hv := HV.out _ (List.getElem_mem hil)
      generalize s[i] = x at *
      obtain ⟨x1, x2⟩ := x
      unfold Val at hv
      dsimp only at *
      have hdi : decide ((i : Int) < (N : Int)) = true := by rw [decide_eq_true_eq]; omega
      have HXI := Lib.hid (XI.new HI.out HHE.out x1 x2)
      obtain ⟨xb, hxb⟩ : ∃ xb, xb = wr.heap.size := ⟨_, rfl⟩
      rw [← hxb] at HXI
      have HXB := Lib.hid hxb
      clear hil HO HI
      go_wp2_with fail
      rw [← HXB.out]
      generalize wr.alloc (.cells #[.int .i32 x1, .int .i32 x2] 38) = W3 at HXI ⊢
      have hiN : i + 1 ≤ N := hlt
      clear d1 d2 hxb HXB hlt hbs
      go_loopw [5] (fun iv wr => ∃ (k : Nat) (y : Int), k ≤ N ∧ i + 1 ≤ k ∧ iv = .int .i64 k ∧ (x1 ≤ y ∧ y ≤ 1114111) ∧ Hid (O ++ mg (x1, y) (s.drop k) = mgs s) ∧ Hid (XI w.heap.size W2.heap.size w (some ⟨b, o, none⟩) s O u4 xb x1 y wr)) (fun iv _ => N - (intOf iv).toNat)
      case atStart => exact ⟨i + 1, x2, by omega, Nat.le_refl _, by go_num, ⟨hv.2.1, hv.2.2⟩, HO2, HXI⟩
      case round =>
        obtain ⟨k, y, hk1, hk2, rfl, hy, HK, HX⟩ := hrel
        clear HXI HO2
        have bc0 := HX.out.blk.cell 0
        have bc1 := HX.out.blk.cell 1
        have bf1 := HX.out.blk.frozen 1
        have bc0' : wr.cell? ⟨xb, 0, none⟩ = some (.int .i32 x1) := bc0
        have bc1' : wr.cell? ⟨xb, 1, none⟩ = some (.int .i32 y) := bc1
        clear bc0 bc1
        by_cases hlt : k < N
        · have hkl : k < s.length := by rw [HN.out]; exact hlt
          have dkN : decide ((k : Int) < (N : Int)) = true := by rw [decide_eq_true_eq]; omega
          obtain ⟨d1, d2⟩ := rd_rg HX.out.mi.rda hkl
          have hv2 := HV.out _ (List.getElem_mem hkl)
          have HIN := Lib.hid (mg_in (x1, y) s k hkl)
          have HOUT := Lib.hid (fun (h : ¬ s[k].1 ≤ y + 1) => mg_out (x1, y) s k fun _ => h)
          generalize s[k] = z at *
          obtain ⟨z1, z2⟩ := z
          unfold Val at hv2
          dsimp only at *
          clear hkl
          have w1 : IntKind.i32.wrap (y + 1) = y + 1 := IntWalk.i32_in _ (by omega)
          by_cases hin : z1 ≤ y + 1
          · have din : decide (z1 ≤ y + 1) = true := decide_eq_true hin
            have HIN2 := Lib.hid (HIN.out hin)
            clear HIN HOUT hin
            by_cases hbig : y < z2
            · have dbig : decide (y < z2) = true := decide_eq_true hbig
              have HK2 := Lib.hid (show O ++ mg (x1, z2) (s.drop (k + 1)) = mgs s by rw [← HK.out, HIN2.out, show max y z2 = z2 by omega])
              go_wp2_with fail
              go_quiet (fail)
              go_wp2_with fail
              go_quiet (fail)
              go_wp2_with fail
              go_roundw
              case rel => exact ⟨k + 1, z2, by omega, by omega, by go_num, by omega, HK2, Lib.hid ((HX.out.drewN _).set_ HHE.out z2)⟩
              case measure => simp [intOf]; omega
            · have dbig : decide (y < z2) = false := decide_eq_false hbig
              have HK2 := Lib.hid (show O ++ mg (x1, y) (s.drop (k + 1)) = mgs s by rw [← HK.out, HIN2.out, show max y z2 = y by omega])
              go_wp2_with fail
              go_quiet (fail)
              go_wp2_with fail
              go_quiet (fail)
              go_wp2_with fail
              go_roundw
              case rel => exact ⟨k + 1, y, by omega, by omega, by go_num, by omega, HK2, Lib.hid (HX.out.drewN _)⟩
              case measure => simp [intOf]; omega
          · have din : decide (z1 ≤ y + 1) = false := decide_eq_false hin
            have HK2 := Lib.hid (show (O ++ [(x1, y)]) ++ mgs (s.drop k) = mgs s by rw [← HK.out, HOUT.out hin, List.append_assoc]; rfl)
            clear HIN HOUT hin
            go_wp2_with fail
            go_quiet (fail)
            go_wp2_with (at_builtin; refine wpList_append_rd _ rfl (.tmp 51) (.tmp 53) _ rfl W2.heap.size 38 i0 _ 2 8 Tryz.underlying22 hi hz0 hz1 hz2 rfl (by decide) u4 O.length (rgs O) rfl (HX.out.mi.own.alloc _) _ (some ⟨wr.heap.size, 0, none⟩) 1 1 (rgs [(x1, y)]) rfl rfl (rd_new _ _ (rgs [(x1, y)]) _ (by simp)) (rgs_one _) (by have := HOL.out; unfold maxLen; omega) (by have := HOL.out; omega) (by have := HX.out.mi.size; simp; omega) ?_; intro v6 w6 hown6 hgr6 _)
            have HN6 := Lib.hid (HX.out.mi.next (R' := O ++ [(x1, y)]) ((((grownBy_drewN wr _ _).trans (grownBy_alloc _ _ _))).trans hgr6) (by rw [rgs_append, List.length_append]; exact hown6) HHE.out)
            clear hown6 hgr6
            go_roundw
            case rel => exact ⟨k, _, O ++ [(x1, y)], by omega, rfl, rfl, HK2, Lib.hid (by have := HOL.out; rw [List.length_append]; simp; omega), HN6⟩
            case measure => simp [intOf]; omega
        · have hkN : k = N := by omega
          have dkN : decide ((k : Int) < (N : Int)) = false := by rw [decide_eq_false_iff_not]; omega
          have HK2 := Lib.hid (show (O ++ [(x1, y)]) ++ mgs (s.drop k) = mgs s by
            rw [← HK.out, mg_out (x1, y) s k (fun h => absurd h (by rw [HN.out]; omega)), List.append_assoc]; rfl)
          clear hkN
          go_wp2_with fail
          go_quiet (fail)
          go_wp2_with (at_builtin; refine wpList_append_rd _ rfl (.tmp 51) (.tmp 53) _ rfl W2.heap.size 38 i0 _ 2 8 Tryz.underlying22 hi hz0 hz1 hz2 rfl (by decide) u4 O.length (rgs O) rfl (HX.out.mi.own.alloc _) _ (some ⟨wr.heap.size, 0, none⟩) 1 1 (rgs [(x1, y)]) rfl rfl (rd_new _ _ (rgs [(x1, y)]) _ (by simp)) (rgs_one _) (by have := HOL.out; unfold maxLen; omega) (by have := HOL.out; omega) (by have := HX.out.mi.size; simp; omega) ?_; intro v6 w6 hown6 hgr6 _)
          have HN6 := Lib.hid (HX.out.mi.next (R' := O ++ [(x1, y)]) ((((grownBy_drewN wr _ _).trans (grownBy_alloc _ _ _))).trans hgr6) (by rw [rgs_append, List.length_append]; exact hown6) HHE.out)
          clear hown6 hgr6
          go_roundw
          case rel => exact ⟨k, _, O ++ [(x1, y)], by omega, rfl, rfl, HK2, Lib.hid (by have := HOL.out; rw [List.length_append]; simp; omega), HN6⟩
          case measure => simp [intOf]; omega
    · have HO2 := Lib.hid (show O = norm l by
        have h := HO.out
        rw [List.drop_of_length_le (by rw [HN.out]; omega)] at h
        rw [← HE.out, ← h]; exact (List.append_nil _).symm)
      have HR : Hid (wr.ownsRow w.heap.size 38 2 u4 (norm l).length (rgs (norm l)) ∧ Below w.heap.size w wr) := by
        have h := HI.out.own
        rw [HO2.out] at h
        exact ⟨own_mono h HHE.out, HI.out.bel⟩
      go_wp2_with fail
      go_ret
      exact ⟨_, rfl, HR.out.1, HR.out.2⟩
end Go.Proofs.YtipcbiecdabihaaGreat.Rset
