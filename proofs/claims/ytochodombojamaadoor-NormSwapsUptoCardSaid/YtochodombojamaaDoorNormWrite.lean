/-
  CONTRACT OF (*Former).Write.
-/
import Derived.Test.YtochodombojamaaDoorNormMarks
namespace Go.Proofs.YtochodombojamaaDoor.Norm
open Go.Shelf Go.RowKit Go.Sort Utf
open Ucd hiding grow same Told

/-- what stands in full, in the middle of a Write: a row of the call's own, in a block that the former kept or in a new one -/
structure Fs (w0 w : World) (v0 : Value) (base : Nat) (F : List Int) (vf : Value) : Prop where
  own : w.ownsRow base 21 1 vf F.length (nums F)
  org : ∀ g, vf.ownBlock = some g → w0.heap.size ≤ g ∨ v0.ownBlock = some g
  chg : Chg w0 w fun k => v0.ownBlock = some k
theorem Fs.below {w0 w w' : World} {v0 vf : Value} {base : Nat} {F : List Int} (h : Fs w0 w v0 base F vf) (hb : Below w.heap.size w w') : Fs w0 w' v0 base F vf :=
  ⟨own_below h.own hb, h.org, h.chg.and_below hb⟩
/-- behind an append, or behind order -/
theorem Fs.grown {w0 w w' : World} {v0 vf vf' : Value} {base : Nat} {F F' : List Int} (h : Fs w0 w v0 base F vf) (ho : w'.ownsRow base 21 1 vf' F'.length (nums F')) (hg : w.grownBy w' vf.ownBlock)
    (hv : vf'.ownBlock = vf.ownBlock ∨ vf'.ownBlock = some w.heap.size) : Fs w0 w' v0 base F' vf' :=
  ⟨ho, fun g hg' => by
    rcases hv with e | e
    · exact h.org g (e ▸ hg')
    · rw [e] at hg'; injection hg' with hg'; left; rw [← hg']; exact h.chg.size, h.chg.grown hg fun i hi hr => by
    rcases h.org i hr with h | h
    · omega
    · exact h⟩
theorem told_pend_len (m D : List Int) : (told m D).length + (pend m D).length = m.length + D.length := by
  have := nfm_len D m
  rw [nfm, List.length_append, ord_len] at this
  exact this
theorem full_three (r : Int) : (fullF r).length ≤ 3 := (bottom_parts r).2.1
theorem fulls_len : ∀ l : List Int, (fulls l).length ≤ 3 * l.length
  | [] => by simp [fulls]
  | r :: t => by rw [fulls_cons, List.length_append, List.length_cons]; have := full_three r; have := fulls_len t; omega

theorem told_start (K D : List Int) {x : Int} (h : cls x = 0) : told K (D ++ [x]) = told K D ++ ord (pend K D) ++ [x] ∧ pend K (D ++ [x]) = [] := by
  rw [told_append, pend_append]
  simp [told, pend, h]
theorem told_mark (K D : List Int) {x : Int} (h : cls x ≠ 0) : told K (D ++ [x]) = told K D ∧ pend K (D ++ [x]) = pend K D ++ [x] := by
  rw [told_append, pend_append]
  simp [told, pend, h]
/-- what 'full[t:]' is, and what it reads -/
theorem cut_from {w : World} {base f cf t : Nat} {Af : Option Addr} {F : List Int} (hown : w.ownsRow base 21 1 (.slice Af f cf) f (nums F)) (ht : t ≤ f) :
    ∃ A' c', (∀ u : World, (Instr.slice 22 (.slice Af f cf) (some (.int .i64 t)) none none).run Tryd.prog u = .ok (.slice A' (f - t) c') u) ∧ (t < f → ∃ g, Af = some ⟨g, 0, none⟩ ∧ A' = some ⟨g, t, none⟩) ∧ Rd w w.heap.size A' (nums (F.drop t)) ∧ f - t ≤ c' := by
  have hl := hown.1
  rw [nums_len, Nat.mul_one] at hl
  have hru : ∀ u : World, (Instr.slice 22 (.slice Af f cf) (some (.int .i64 t)) none none).run Tryd.prog u = .ok (.slice (if cf = t then Af else Af.map (·.add (t * 1))) (f - t) (cf - t)) u := fun u => by
    have he : Tryd.prog.elem 22 = 21 := by simp [Program.elem, Tryd.underlying22]
    rw [run_slice_l u 22 Af f cf (by rw [he]; exact Tryd.underlying22) .i64 (t : Int) (by omega) (by omega), he, Tryd.sizeOf21]
    simp [Result.andThen, sliced]
  refine ⟨_, _, hru, ?_⟩
  rcases hown.2 with ⟨h0, _⟩ | ⟨g, cap, cur, hv, h1, h2, h3, h4, h5, h6⟩
  · cases h0
    obtain rfl : t = 0 := by omega
    have : F = [] := List.eq_nil_of_length_eq_zero hl
    subst this
    exact ⟨fun h => by omega, Rd.empty _ _ _, by omega⟩
  · cases hv
    have hadd : (⟨g, 0, none⟩ : Addr).add (t * 1) = ⟨g, t, none⟩ := by unfold Addr.add; split <;> simp_all
    refine ⟨fun h => ⟨g, rfl, by rw [if_neg (by omega), Option.map_some, hadd]⟩, fun hne => ?_, by omega⟩
    have htf : t < f := by
      rcases Nat.lt_or_ge t f with h | h
      · exact h
      · exact absurd (by rw [List.drop_of_length_le (by omega)]; rfl) hne
    rw [if_neg (by omega), Option.map_some, hadd]
    refine ⟨g, t, rfl, (hown.lt g rfl).2, fun j u hu => ?_⟩
    have := hown.cells (g := g) rfl (t + j) u (by rw [← hu]; simp [nums])
    have hadd2 : (⟨g, 0, none⟩ : Addr).add (t + j) = ⟨g, t + j, none⟩ := by unfold Addr.add; split <;> simp_all
    rwa [hadd2] at this
theorem cut_to {w : World} {base f cf t : Nat} {Af : Option Addr} {F : List Int} (hown : w.ownsRow base 21 1 (.slice Af f cf) f (nums F)) (ht : t ≤ f) (h0 : 0 < t) :
    ∃ g, Af = some ⟨g, 0, none⟩ ∧ (∀ u : World, (Instr.slice 22 (.slice (some ⟨g, 0, none⟩) f cf) none (some (.int .i64 t)) none).run Tryd.prog u = .ok (.slice (some ⟨g, 0, none⟩) t cf) u) := by
  rcases hown.2 with ⟨h0', h1⟩ | ⟨g, cap, cur, hv, h1, h2, h3, h4, h5, h6⟩
  · omega
  · cases hv
    refine ⟨g, rfl, fun u => ?_⟩
    have he : Tryd.prog.elem 22 = 21 := by simp [Program.elem, Tryd.underlying22]
    rw [run_slice_h u 22 (some ⟨g, 0, none⟩) f cf (by rw [he]; exact Tryd.underlying22) .i64 (t : Int) (by omega) (by omega), he, Tryd.sizeOf21]
    have hadd : (⟨g, 0, none⟩ : Addr).add 0 = ⟨g, 0, none⟩ := by unfold Addr.add; split <;> simp_all
    have hcf : ¬ cf = 0 := by omega
    simp [Result.andThen, sliced, hadd]
/-- order, on what stands behind t -/
theorem order_from {w : World} {base f cf t c' : Nat} {Af A' : Option Addr} {F : List Int} (hown : w.ownsRow base 21 1 (.slice Af f cf) f (nums F)) (ht : t ≤ f) (hA : t < f → ∃ g, Af = some ⟨g, 0, none⟩ ∧ A' = some ⟨g, t, none⟩)
    (hL : Laid w) (hg : 2 < base) (hsm : f ≤ 1099511627776) :
    Calls Tryd.prog 22 #[.slice A' (f - t) c'] w fun e w' => e = .returned (.tuple #[]) ∧ w'.ownsRow base 21 1 (.slice Af f cf) f (nums (F.take t ++ ord (F.drop t))) ∧ w.grownBy w' (Value.slice Af f cf).ownBlock := by
  have hl := hown.1
  rw [nums_len, Nat.mul_one] at hl
  rcases Nat.lt_or_ge t f with h | h
  · obtain ⟨g, rfl, rfl⟩ := hA h
    exact order_some base g cf f t c' (f - t) F w hL hown ht rfl hg hsm
  · have e : f - t = 0 := by omega
    rw [e]
    refine (order_none A' c' w).mono fun e w' h => ?_
    obtain ⟨he, rfl⟩ := h
    refine ⟨he, ?_, World.grownBy.refl _ _⟩
    rw [List.drop_of_length_le (by omega), List.take_of_length_le (by omega), ord_nil, List.append_nil]
    exact hown

set_option maxHeartbeats 8000000 in
set_option maxRecDepth 100000 in
theorem write_any (base fb : Nat) (v : Value) (K l : List Int) (A : Option Addr) (n c : Nat) (w : World) (hL : Laid w) (hF : Fm w base fb v K false) (hK : Marks K) (hr : Rd w w.heap.size A (nums l)) (hd : ∀ b o, A = some ⟨b, o, none⟩ → v.ownBlock ≠ some b) (hn : l.length = n)
    (hb : base ≤ w.heap.size) (hg : 2 < base) (hsm : K.length + 3 * n ≤ 137438953472) :
    Calls Tryd.prog 9 #[.pointer (some ⟨fb, 0, none⟩), .slice A n c] w fun e w' => ∃ v2 v3, e = .returned v2 ∧ Fm w' base fb v3 (pend K (fulls l)) false ∧
      w'.ownsRow base 21 1 v2 (told K (fulls l)).length (nums (told K (fulls l))) ∧ Chg w w' (Its fb v) ∧ v2.ownBlock ≠ some fb ∧
      (∀ g, v2.ownBlock = some g → v3.ownBlock ≠ some g ∧ (w.heap.size ≤ g ∨ v.ownBlock = some g)) ∧ (∀ g, v3.ownBlock = some g → w.heap.size ≤ g ∨ v.ownBlock = some g) := by
  obtain ⟨i0, hi, hz0, hz1, hz2⟩ := info_parts infoI32
  obtain ⟨A0, ca, rfl, ha1, ha2, _⟩ := own_form hF.own
  have c0 := hF.blk.cell 0
  have c1 := hF.blk.cell 1
  simp only [List.getElem?_cons_succ, List.getElem?_cons_zero] at c0 c1
  have HL := Lib.hid hL
  have HF := Lib.hid hF
  have HK := Lib.hid hK
  have HR := Lib.hid hr
  have HD0 := Lib.hid hd
  have HN := Lib.hid hn
  obtain ⟨nk, hnk⟩ : ∃ nk, nk = K.length := ⟨_, rfl⟩
  have HNK := Lib.hid hnk
  have HSM := Lib.hid hsm
  rw [← hnk] at c0 ha1 HF
  rw [← hnk] at HD0
  clear hL hF hK hr hn hnk hsm hd
  go_enter Tryd.func9, Tryd.ntmps9
  go_wp2_with fail
  clear c0 c1
  obtain ⟨v0, hv0⟩ : ∃ v0 : Value, v0 = .slice A0 nk ca := ⟨_, rfl⟩
  rw [← hv0] at HF HD0
  have HV0 := Lib.hid hv0
  go_loopw [5, 6, 25] (fun vf vs i wr => ∃ k s : Nat, k ≤ n ∧ i = .int .i64 k ∧ vs = .int .i64 s ∧ s ≤ 1099511627776 ∧ Hid (s = (told K (fulls (l.take k))).length) ∧ Hid (Fs w wr v0 base (told K (fulls (l.take k)) ++ pend K (fulls (l.take k))) vf)) (fun _ _ i _ => n - (intOf i).toNat)
  case atStart => exact ⟨0, 0, Nat.zero_le _, rfl, rfl, by omega, Lib.hid (by simp [fulls, told]), Lib.hid (by simp only [List.take_zero, fulls, List.flatMap_nil, told, pend, List.nil_append]; exact ⟨by rw [← hv0]; exact HF.out.own, fun g h => .inr (by rw [hv0]; exact h), Chg.refl _ _⟩)⟩
  case round =>
    obtain ⟨k, s, hk, rfl, rfl, hs, HS, H⟩ := hrel
    by_cases hlt : k < n
    · obtain ⟨kq, hkq⟩ : ∃ q, q + k + 1 = n := ⟨n - k - 1, by omega⟩
      have HKN := Lib.hid hkq
      clear hkq
      have hkl : k < l.length := by rw [HN.out]; exact hlt
      obtain ⟨b, o, rfl, hbl⟩ := HR.out.form (by rw [nums_len]; omega)
      have hcell : wr.cell? ⟨b, o + k, none⟩ = some (.int .i32 l[k]) := (World.cell?_of_block (a := ⟨b, o + k, none⟩) (H.out.chg.block b hbl (HD0.out b o rfl))).trans (HR.out.num hkl)
      have HTK := Lib.hid (show fulls (l.take (k + 1)) = fulls (l.take k) ++ fullF l[k] by rw [List.take_succ_eq_append_getElem hkl, fulls_append, fulls_cons]; simp [fulls])
      have h3 := full_three l[k]
      have h1 := full_some l[k]
      have HLr := Lib.hid (HL.out.below (H.out.chg.below (B := base) hb (fun i hi hv => by have := (HF.out.own.lt i hv).1; omega)) hg)
      have HC := Lib.hid (decompose_any l[k] wr HLr.out)
      have HDL := Lib.hid (show (fulls (l.take k)).length ≤ 3 * k by have := fulls_len (l.take k); rw [List.length_take] at this; omega)
      obtain ⟨D, hD⟩ : ∃ D, D = fulls (l.take k) := ⟨_, rfl⟩
      rw [← hD] at HS H HTK HDL
      generalize l[k] = r at hcell HTK h3 h1 HC
      generalize fullF r = xs at HTK h3 h1 HC
      clear hkl hD
      go_wp2_with fail
      refine HC.out.mono ?_
      rintro e w1 ⟨vd, rfl, hown, hb1⟩
      have H1 := Lib.hid (H.out.below hb1)
      obtain ⟨gd, cd, rfl, hgd1, hgd2⟩ := hown.form h1
      obtain ⟨m, hm⟩ : ∃ m, m = xs.length := ⟨_, rfl⟩
      rw [← hm] at h1 h3 hown ⊢
      have HO := Lib.hid hown
      have HM := Lib.hid hm
      obtain ⟨bd, hbd⟩ : ∃ bd, bd = wr.heap.size := ⟨_, rfl⟩
      rw [← hbd] at HO
      have HBD := Lib.hid (show bd ≤ w1.heap.size by rw [hbd]; exact hb1.size)
      have HAP := Lib.hid (fun (g : Nat) (hv : u5.ownBlock = some g) => show gd ≠ g from by have := (H.out.own.lt g hv).2; omega)
      have HL1 := Lib.hid (HLr.out.next hb1)
      have HSZ := Lib.hid hgd1
      clear hown hm hb1 HC H HLr hgd1 hgd2 hbd
      have hbw1 : base ≤ w1.heap.size := Nat.le_trans hb H1.out.chg.size
      go_wp2_with fail
      go_loopw [5, 6, 32] (fun vf vs i wx => ∃ j t : Nat, j ≤ m ∧ i = .int .i64 j ∧ vs = .int .i64 t ∧ t ≤ 1099511627776 ∧ Hid (t = (told K (D ++ xs.take j)).length) ∧ Hid (Fs w wx v0 base (told K (D ++ xs.take j) ++ pend K (D ++ xs.take j)) vf) ∧ Hid (wx.ownsRow bd 21 1 (.slice (some ⟨gd, 0, none⟩) m cd) m (nums xs)) ∧ Hid (∀ g, vf.ownBlock = some g → gd ≠ g)) (fun _ _ i _ => m - (intOf i).toNat)
      case atStart => exact ⟨0, s, Nat.zero_le _, rfl, rfl, hs, by simpa using HS, by simpa using H1, HO, HAP⟩
      case round =>
        clear HO HAP H1 HL1 HS
        obtain ⟨j, t, hj, rfl, rfl, ht, HT, HI, HD2, HA2⟩ := hrel
        by_cases hjt : j < m
        · have hjl : j < xs.length := by rw [← HM.out]; exact hjt
          have hcell : wr.cell? ⟨gd, j, none⟩ = some (.int .i32 xs[j]) := (HD2.out.cellAt j (by omega)).trans (nums_get hjl)
          have HTK2 := Lib.hid (show xs.take (j + 1) = xs.take j ++ [xs[j]] from List.take_succ_eq_append_getElem hjl)
          have HLj := Lib.hid (HL.out.below (HI.out.chg.below (B := base) hb (fun i hi hv => by have := (HF.out.own.lt i hv).1; omega)) hg)
          generalize xs[j] = x at hcell HTK2
          have HST := Lib.hid (starter_any x wr HLj.out)
          clear hjl
          by_cases hx : cls x = 0
          · have hxb : (cls x == 0) = true := by simp [hx]
            rw [hxb] at HST
            have HX := Lib.hid hx
            clear hx hxb
            obtain ⟨Af, cf0, rfl, hfc, hfm, _⟩ := own_form HI.out.own
            have hlen : (told K (D ++ xs.take j) ++ pend K (D ++ xs.take j)).length = (told K (D ++ xs.take j)).length + (pend K (D ++ xs.take j)).length := List.length_append
            obtain ⟨F, hF⟩ : ∃ F, F = told K (D ++ xs.take j) ++ pend K (D ++ xs.take j) := ⟨_, rfl⟩
            rw [← hF] at HI hfc hlen HA2 ⊢
            obtain ⟨f, hf⟩ : ∃ f, f = F.length := ⟨_, rfl⟩
            rw [← hf] at HI hfc hlen HA2 ⊢
            have htf : t ≤ f := by have := HT.out; omega
            have HFE := Lib.hid hF
            have HFL := Lib.hid hf
            have HFO := Lib.hid HI.out.own
            rw [← hf] at HFO
            obtain ⟨A', c', hsl, hA', _⟩ := cut_from HFO.out htf
            have HAA := Lib.hid hA'
            clear hA' hlen hF hf
            go_wp2_with fail
            refine HST.out.mono ?_
            rintro e w2 ⟨rfl, hb2⟩
            have H2 := Lib.hid (HI.below hb2)
            have HL2 := Lib.hid (HLj.out.next hb2)
            have HD3 := Lib.hid (own_below HD2.out hb2)
            have HO2 := Lib.hid (own_below HFO.out hb2)
            have hfb : f ≤ 1099511627776 := by have := told_pend_len K (D ++ xs.take j); have := HFL.out; rw [HFE.out] at this; have := HSM.out; have := HDL.out; simp only [List.length_append, List.length_take] at *; omega
            clear hb2 HI HD2 HFO HLj HST
            go_wp2_with fail
            refine (order_from HO2.out htf HAA.out HL2.out hg hfb).mono ?_
            rintro e w3 ⟨rfl, hown3, hgr3⟩
            have hF3 : F.take t ++ ord (F.drop t) = told K (D ++ xs.take j) ++ ord (pend K (D ++ xs.take j)) := by
              rw [HFE.out, HT.out, List.take_left, List.drop_left]
            rw [hF3] at hown3
            obtain ⟨G, hG⟩ : ∃ G, G = told K (D ++ xs.take j) ++ ord (pend K (D ++ xs.take j)) := ⟨_, rfl⟩
            rw [← hG] at hown3
            have hGl : G.length = f := by rw [hG, HFL.out, HFE.out, List.length_append, List.length_append, ord_len]
            have H3 := Lib.hid (H2.out.grown (vf' := .slice Af f cf0) (F' := G) (by rw [hGl]; exact hown3) hgr3 (.inl rfl))
            have HD4 := Lib.hid (HD3.out.kept hgr3 (.inr fun e => HA2.out gd e.symm rfl))
            have HO3 := Lib.hid hown3
            have HG := Lib.hid hG
            have HGL := Lib.hid hGl
            have hb3 : base ≤ w3.heap.size := Nat.le_trans hb H3.out.chg.size
            clear hown3 hgr3 hF3 hG hGl HO2 HD3 H2 HL2
            go_wp2_with (at_builtin; refine wpList_append_rd _ rfl (.tmp 45) (.tmp 47) _ rfl base 21 i0 _ 1 4 Tryd.underlying22 hi hz0 hz1 hz2 rfl (by decide) (.slice Af f cf0) f (nums G) rfl (HO3.out.alloc _) _ (some ⟨w3.heap.size, 0, none⟩) 1 1 [.int .i32 x] rfl rfl (rd_new _ _ [.int .i32 x] _ rfl) (nums_one [x]) (by unfold maxLen; omega) (by omega) (by simp; omega) ?_; intro v6 w6 hown6 hgr6 hat6)
            have HT4 := Lib.hid (show told K (D ++ xs.take (j + 1)) ++ pend K (D ++ xs.take (j + 1)) = G ++ [x] ∧ f + 1 = (told K (D ++ xs.take (j + 1))).length by
              obtain ⟨e1, e2⟩ := told_start K (D ++ xs.take j) HX.out
              rw [HTK2.out, ← List.append_assoc, e1, e2, HG.out, List.append_nil]
              exact ⟨rfl, by rw [List.length_append, ← HG.out, HGL.out]; rfl⟩)
            have H6 := Lib.hid ((H3.out.below ((Below.refl _ _).alloc (Nat.le_refl _) (.cells [Value.int .i32 x].toArray 21))).grown (vf' := v6) (F' := G ++ [x]) (by rw [List.length_append, HGL.out, nums_append]; exact hown6) hgr6 hat6)
            rw [← HT4.out.1] at H6
            have HD6 := Lib.hid ((HD4.out.alloc (.cells [Value.int .i32 x].toArray 21)).kept hgr6 (.inr fun e => HA2.out gd e.symm rfl))
            have HA6 := Lib.hid (show ∀ g, v6.ownBlock = some g → gd ≠ g from fun g hg' => by
              rcases hat6 with e | e
              · exact HA2.out g (e ▸ hg')
              · rw [e] at hg'; injection hg' with hg'; have := (HD4.out.lt gd rfl).2; simp at hg'; omega)
            have hf1 : f + 1 ≤ 1099511627776 := by have := HD4.out; have := hfb; have h := HSM.out; have := told_pend_len K (D ++ xs.take (j + 1)); rw [← HT4.out.2] at this; have := HDL.out; simp only [List.length_append, List.length_take] at *; omega
            have HT5 := Lib.hid HT4.out.2
            clear hown6 hgr6 hat6 HT4 H3 HD4 HO3
            go_roundw
            case rel => exact ⟨j + 1, f + 1, by omega, by go_num, by go_num, hf1, HT5, H6, HD6, HA6⟩
            case measure => simp [intOf]; omega
          · have hxb : (cls x == 0) = false := by simpa using hx
            rw [hxb] at HST
            have HX := Lib.hid hx
            clear hx hxb
            obtain ⟨F, hF⟩ : ∃ F, F = told K (D ++ xs.take j) ++ pend K (D ++ xs.take j) := ⟨_, rfl⟩
            rw [← hF] at HI
            have hfb : F.length ≤ 1099511627776 := by have := told_pend_len K (D ++ xs.take j); rw [hF, List.length_append]; have := HSM.out; have := HDL.out; simp only [List.length_append, List.length_take] at *; omega
            have HFE := Lib.hid hF
            have HFB := Lib.hid hfb
            clear hF hfb
            go_wp2_with (first | (go_at_call 21; refine HST.out.mono ?_; rintro e w2 ⟨rfl, hb2⟩; have H2 := Lib.hid (HI.below hb2); have HD3 := Lib.hid (own_below HD2.out hb2); have hb3 : base ≤ w2.heap.size := Nat.le_trans hb H2.out.chg.size; clear hb2) | (at_builtin; refine wpList_append_rd _ rfl (.tmp 45) (.tmp 47) _ rfl base 21 i0 _ 1 4 Tryd.underlying22 hi hz0 hz1 hz2 rfl (by decide) u5 F.length (nums F) rfl (H2.out.own.alloc _) _ (some ⟨w2.heap.size, 0, none⟩) 1 1 [.int .i32 x] rfl rfl (rd_new _ _ [.int .i32 x] _ rfl) (nums_one [x]) (by have := HFB.out; unfold maxLen; omega) (by have := HFB.out; omega) (by simp; omega) ?_; intro v6 w6 hown6 hgr6 hat6))
            have HT4 := Lib.hid (show told K (D ++ xs.take (j + 1)) ++ pend K (D ++ xs.take (j + 1)) = F ++ [x] ∧ t = (told K (D ++ xs.take (j + 1))).length by
              obtain ⟨e1, e2⟩ := told_mark K (D ++ xs.take j) HX.out
              rw [HTK2.out, ← List.append_assoc, e1, e2, HFE.out, List.append_assoc]
              exact ⟨rfl, HT.out⟩)
            have H6 := Lib.hid ((H2.out.below ((Below.refl _ _).alloc (Nat.le_refl _) (.cells [Value.int .i32 x].toArray 21))).grown (vf' := v6) (F' := F ++ [x]) (by rw [List.length_append, nums_append]; exact hown6) hgr6 hat6)
            rw [← HT4.out.1] at H6
            have HD6 := Lib.hid ((HD3.out.alloc (.cells [Value.int .i32 x].toArray 21)).kept hgr6 (.inr fun e => HA2.out gd e.symm rfl))
            have HA6 := Lib.hid (show ∀ g, v6.ownBlock = some g → gd ≠ g from fun g hg' => by
              rcases hat6 with e | e
              · exact HA2.out g (e ▸ hg')
              · rw [e] at hg'; injection hg' with hg'; have := (HD3.out.lt gd rfl).2; simp at hg'; omega)
            have HT5 := Lib.hid HT4.out.2
            clear hown6 hgr6 hat6 HT4 H2 HD3 HI HD2 HST HLj
            go_roundw
            case rel => exact ⟨j + 1, t, by omega, by go_num, rfl, ht, HT5, H6, HD6, HA6⟩
            case measure => simp [intOf]; omega
        · obtain rfl : j = m := by omega
          have HXT := Lib.hid (show xs.take j = xs by rw [HM.out]; exact List.take_length)
          rw [HXT.out, ← HTK.out] at HT HI
          clear HD2 HA2 HXT HTK
          have hkb : k + 1 ≤ 274877906944 := by have := HKN.out; have := HSM.out; omega
          go_wp2_with fail
          go_roundw
          case rel => exact ⟨k + 1, t, by have := HKN.out; omega, by go_num, rfl, ht, HT, HI⟩
          case measure => have := HKN.out; simp [intOf]; omega
    · obtain rfl : k = n := by omega
      have HLT := Lib.hid (show l.take k = l by rw [← HN.out]; exact List.take_length)
      rw [HLT.out] at HS H
      have hfbk : Blk wr fb 43 [v0, .bool false] := blk_keep HF.out.blk H.out.chg (fun e => HF.out.ne e)
      have c0 := hfbk.cell 0
      have f0 := hfbk.frozen 0
      simp only [List.getElem?_cons_zero] at c0
      obtain ⟨Af, cf0, rfl, hfc, hfm, _⟩ := own_form H.out.own
      obtain ⟨F, hF⟩ : ∃ F, F = told K (fulls l) ++ pend K (fulls l) := ⟨_, rfl⟩
      rw [← hF] at H hfc ⊢
      have hlen : F.length = (told K (fulls l)).length + (pend K (fulls l)).length := by rw [hF, List.length_append]
      have htl := told_pend_len K (fulls l)
      have hfl := fulls_len l
      rw [HN.out] at hfl
      have hfb : F.length ≤ 1099511627776 := by have := HSM.out; omega
      obtain ⟨f, hf⟩ : ∃ f, f = F.length := ⟨_, rfl⟩
      rw [← hf] at H hfc hlen hfb ⊢
      have hsf : s ≤ f := by have := HS.out; omega
      have HOW := Lib.hid H.out.own
      rw [← hf] at HOW
      have HFE := Lib.hid hF
      have HBK := Lib.hid hfbk
      have HLEN := Lib.hid hlen
      clear hF hf hlen htl hfl HLT hfbk HN
      by_cases hs0 : s = 0
      · subst hs0
        go_wp2_with fail
        go_ret
        have hT0 : told K (fulls l) = [] := List.eq_nil_of_length_eq_zero HS.out.symm
        have hFp : F = pend K (fulls l) := by rw [HFE.out, hT0, List.nil_append]
        have hne : (Value.slice Af f cf0).ownBlock ≠ some fb := own_ne HOW.out HBK.out (by decide)
        have hfp : f = (pend K (fulls l)).length := by rw [HLEN.out, hT0]; simp
        refine ⟨.slice none 0 0, .slice Af f cf0, rfl, ⟨HBK.out.set_ 0 _, ?_, HF.out.le⟩, ?_, ?_, by simp [Value.ownBlock], fun g h => by simp [Value.ownBlock] at h, fun g h => ?_⟩
        · rw [← hfp, ← hFp]; exact own_set HOW.out hne _
        · rw [hT0]; exact World.ownsRow_nil _ _ _ _
        · have hc := (H.out.chg.more (T := Its fb v0) fun i hi => .inr hi).setCell (p := ⟨fb, 0, none⟩) (.slice Af f cf0) (.inl rfl)
          rw [HV0.out, HNK.out] at hc
          exact hc
        · have := H.out.org g h
          rw [HV0.out, HNK.out] at this
          exact this
      · have hsp : 0 < s := by omega
        have hss : ((s : Int) == 0) = false := by simp; omega
        obtain ⟨A', c', hsl, _, hrd, hc'⟩ := cut_from HOW.out hsf
        have hdr : F.drop s = pend K (fulls l) := by rw [HFE.out, HS.out, List.drop_left]
        have htk : F.take s = told K (fulls l) := by rw [HFE.out, HS.out, List.take_left]
        rw [hdr] at hrd
        obtain ⟨gf, rfl, hsl2⟩ := cut_to HOW.out hsf hsp
        obtain ⟨P, hP⟩ : ∃ P, P = pend K (fulls l) := ⟨_, rfl⟩
        rw [← hP] at hrd
        have hpl : P.length = f - s := by rw [hP, HLEN.out, HS.out]; omega
        have HPL := Lib.hid hpl
        have HP := Lib.hid hP
        have HTK := Lib.hid htk
        have HTS := Lib.hid (show s = (F.take s).length by rw [htk]; exact HS.out)
        have HRD := Lib.hid hrd
        have hbw : base ≤ wr.heap.size := Nat.le_trans hb H.out.chg.size
        have hslp : ((f - s : Nat)) ≤ 1099511627776 := by omega
        clear hdr htk hP hpl hrd hs0 c0 f0
        go_wp2_with (at_builtin; refine wpList_append_rd _ rfl (.const (.slice none 0 0)) (.tmp 60) _ rfl base 21 i0 _ 1 4 Tryd.underlying22 hi hz0 hz1 hz2 rfl (by decide) (.slice none 0 0) 0 [] rfl (World.ownsRow_nil _ _ _ _) _ A' (f - s) c' (nums P) rfl (by rw [nums_len, HPL.out]; omega) HRD.out (nums_one P) (by unfold maxLen; omega) (by omega) (by omega) ?_; intro v6 w6 hown6 hgr6 hat6; obtain ⟨A6, c6, hv6, _⟩ := own_form hown6; subst hv6; have HB6 := Lib.hid (HBK.out.grown (row := none) hgr6 (by simp)); have c0 := HB6.out.cell 0; have f0 := HB6.out.frozen 0; simp only [List.getElem?_cons_zero] at c0; have HO6 := Lib.hid hown6; have HG6 := Lib.hid hgr6; have HA6 := Lib.hid hat6; clear hown6 hgr6 hat6)
        go_ret
        have hne6 : (Value.slice A6 (0 + (f - s)) c6).ownBlock ≠ some fb := own_ne HO6.out HB6.out (by decide)
        have hnf : (Value.slice (some ⟨gf, 0, none⟩) f cf0).ownBlock ≠ some fb := own_ne HOW.out HBK.out (by decide)
        have hlt6 : ∀ g, (Value.slice A6 (0 + (f - s)) c6).ownBlock = some g → wr.heap.size ≤ g := fun g h => by
          rcases HA6.out with e | e
          · rw [e] at h; simp [Value.ownBlock] at h
          · rw [e] at h; injection h with h; omega
        have hgl := (HOW.out.lt gf rfl).2
        have hO6 := HO6.out
        have hP0 : P.length = f - s := HPL.out
        rw [Nat.zero_add] at hO6 hne6 hlt6
        refine ⟨.slice (some ⟨gf, 0, none⟩) s cf0, .slice A6 (f - s) c6, rfl, ⟨HB6.out.set_ 0 _, ?_, HF.out.le⟩, ?_, ?_, hnf, fun g h => ⟨fun h6 => ?_, ?_⟩, fun g h => ?_⟩
        · rw [← HP.out, hP0]
          exact own_set (by simpa using hO6) hne6 _
        · rw [← HTK.out, ← HTS.out]
          exact own_set (own_prefix (HOW.out.kept HG6.out (.inr (by simp [Value.ownBlock]))) hsf) hnf _
        · have hc := ((H.out.chg.more (T := Its fb v0) fun i hi => .inr hi).grown HG6.out (fun i _ h => by cases h)).setCell (p := ⟨fb, 0, none⟩) (.slice A6 (f - s) c6) (.inl rfl)
          rw [HV0.out, HNK.out] at hc
          exact hc
        · have h1 := hlt6 g h6
          have h2 : gf = g := by simpa [Value.ownBlock] using h
          omega
        · have := H.out.org g h
          rw [HV0.out, HNK.out] at this
          exact this
        · left; exact Nat.le_trans H.out.chg.size (hlt6 g h)
end Go.Proofs.YtochodombojamaaDoor.Norm
