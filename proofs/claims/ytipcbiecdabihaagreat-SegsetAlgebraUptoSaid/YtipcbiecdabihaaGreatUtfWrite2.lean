/-
  CONTRACT OF THE DECODER's Write WHERE SOMETHING IS KEPT BACK.
-/
import Derived.Test.YtipcbiecdabihaaGreatUtfWrite
import Derived.Handy
namespace Go.Proofs.YtipcbiecdabihaaGreat.Utf
open Go.RowKit
set_option maxRecDepth 100000

theorem own_base {w : World} {base base' : Nat} {e : TypeId} {size : Nat} {v : Value} {n : Nat} {xs : List Value} (h : w.ownsRow base e size v n xs) (hb : base' ≤ base) : w.ownsRow base' e size v n xs := by
  refine ⟨h.1, ?_⟩
  rcases h.2 with h0 | ⟨g, cap, cur, h1, h2, h3⟩
  · exact .inl h0
  · exact .inr ⟨g, cap, cur, h1, Nat.le_trans hb h2, h3⟩
theorem wrote_lift {w w1 w' : World} {g q : Nat} {l : List UInt8} {e : Ending} (hb : Below w.heap.size w w1) (h : Wrote w1 g q l e w') : Wrote w g q l e w' := by
  obtain ⟨v, k0, k1, k2, h1, h2, h3, h4, h5⟩ := h
  exact ⟨v, k0, k1, k2, h1, own_base h2 hb.size, h3, h4, grown_trans (grown_below (World.grownBy.refl w _) hb) h5⟩
theorem rd_kept {w : World} {g n q : Nat} {k0 k1 k2 : UInt8} {b : Bool} (h : Dc w g k0 k1 k2 n q b) (i : Nat) : Rd w (g + 1) (some ⟨g, 0, none⟩) (bys (kept k0 k1 k2 i)) := fun _ => by
  refine ⟨g, 0, rfl, by omega, fun j x hx => ?_⟩
  have h' : Blk w g 107 (dcs k0 k1 k2 n q b) := h
  rw [Nat.zero_add, h'.cell]
  unfold kept at hx
  rw [← bys_take, List.getElem?_take] at hx
  split at hx
  · match j, hx with
    | 0, hx => exact hx
    | 1, hx => exact hx
    | 2, hx => exact hx
    | j + 3, hx => simp [bys] at hx
  · cases hx

set_option maxHeartbeats 4000000 in
theorem write_some (g n q m0 c0 : Nat) (k0 k1 k2 : UInt8) (A0 : Option Addr) (l0 : List UInt8) (w : World) (h : Dc w g k0 k1 k2 n q false) (hn1 : 1 ≤ n) (hn3 : n ≤ 3) (hr : Rd w w.heap.size A0 (bys l0)) (hm : l0.length = m0) (hb : m0 ≤ 1099511627770) (hq : q ≤ 1099511627776) :
    Calls Tryz.prog 84 #[.pointer (some ⟨g, 0, none⟩), .slice A0 m0 c0] w (Wrote w g q (kept k0 k1 k2 n ++ l0)) := by
  have hgl : g < w.heap.size := Blk.lt h
  have hkl : (kept k0 k1 k2 n).length = n := by unfold kept; rw [List.length_take]; show min n 3 = n; omega
  have hcon : ∀ (u : World), Below w.heap.size w u → w.heap.size < u.heap.size → u.cell? ⟨w.heap.size, 0, none⟩ = some (.slice (some ⟨g, 0, none⟩) n 3) → u.cell? ⟨w.heap.size, 1, none⟩ = some (.slice A0 m0 c0) →
      Calls Tryz.prog 97 #[.slice (some ⟨w.heap.size, 0, none⟩) 2 2] u (Joined u (kept k0 k1 k2 n ++ l0)) := by
    intro u hbu hlt h0 h1
    exact concat_any w.heap.size 0 n 3 m0 c0 _ _ _ _ u hlt h0 h1 (((rd_kept h n).more (by omega)).below hbu |>.more hbu.size) ((hr.below hbu).more hbu.size) hkl hm hn1 (by omega) (by omega)
  have hll : (kept k0 k1 k2 n ++ l0).length = n + m0 := by rw [List.length_append, hkl, hm]
  generalize kept k0 k1 k2 n ++ l0 = l at hcon hll ⊢
  have HCON := Lib.hid hcon
  have HLL := Lib.hid hll
  have h5 := h.c5
  have h3 := h.c3
  have h4 := h.c4
  have H := Lib.hid h
  have hp : (0 : Int) < (n : Int) := by omega
  have hsl : ∀ u : World, (Instr.sliceAt 105 (.pointer (some ⟨g, 0, none⟩)) none (some (.int .i64 (n : Int))) none).run Tryz.prog u = .ok (.slice (some ⟨g, 0, none⟩) n 3) u := by
    have : n = 1 ∨ n = 2 ∨ n = 3 := by omega
    rcases this with rfl | rfl | rfl <;> exact fun u => by kernel_rfl
  clear hcon hr hm h hkl hll
  go_enter Tryz.func84, Tryz.ntmps84
  go_wp2_with fail
  go_region_with (go_at_call 97; refine (HCON.out _ (by go_grown) (by simp) (by simp) (by simp)).mono ?_; rintro e w1 ⟨A, c, rfl, hc, hcm, hr1, hb1⟩)
  have hbw : Below w.heap.size w w1 := Below.trans (by go_grown) (hb1.mono (by simp))
  have HB1 := Lib.hid hbw
  have hH1 : Dc w1 g k0 k1 k2 n q false := Blk.below H.out hbw hgl
  have hgl1 : g < w1.heap.size := Blk.lt hH1
  have h4 : w1.cell? ⟨g, 4, none⟩ = some (.int .i64 q) := hH1.c4
  have H1 := Lib.hid hH1
  clear hb1 hbw HCON h5 h3 hH1 hsl
  obtain ⟨m, hm⟩ : ∃ m, l.length = m := ⟨_, rfl⟩
  have hbm : m ≤ 1099511627776 := by have := HLL.out; omega
  rw [hm] at hc ⊢
  unfold maxLen at hcm
  have hrd := read_any A l c q w1 hr1 (by omega) hcm (by omega) hq
  rw [hm] at hrd
  have HREAD := Lib.hid hrd
  have hel := eat_le l
  have hes := rest_short l
  rw [hm] at hel hes
  have HM := Lib.hid hm
  have HR := Lib.hid hr1
  clear hrd hm hr1
  obtain ⟨E, hE⟩ : ∃ E, E = eat l := ⟨_, rfl⟩
  have HE := Lib.hid hE
  have HREAD2 : Hid (Calls Tryz.prog 98 #[.slice A m c, .int .i64 q] w1 (Sure w1 q l)) := HREAD
  rw [← hE] at hel hes
  clear hE HREAD
  have h5 : True := trivial
  go_wp2_with fail
  refine HREAD2.out.mono ?_
  rintro e w2 ⟨v, rfl, hown, hbel⟩
  rw [← HE.out]
  have hD2 : Blk w2 g 107 (dcs k0 k1 k2 n q false) := (H1.out : Blk _ _ _ _).below hbel hgl1
  have d4 : w2.cell? ⟨g, 4, none⟩ = some (.int .i64 q) := hD2.cell 4
  have f4 := hD2.frozen 4
  have HD2 := Lib.hid hD2
  clear hD2 h4 h5
  go_wp2_with fail
  have hDu : Blk (w2.setCell ⟨g, 4, none⟩ (.int .i64 ((q : Int) + (E : Int)))) g 107 (dcs k0 k1 k2 n (q + E) false) := HD2.out.set_ 4 _
  have hGu : w1.grownBy (w2.setCell ⟨g, 4, none⟩ (.int .i64 ((q : Int) + (E : Int)))) (some g) := grown_set (grown_below (World.grownBy.refl w1 _) hbel) 4 _
  have hRu : Rd (w2.setCell ⟨g, 4, none⟩ (.int .i64 ((q : Int) + (E : Int)))) w1.heap.size A (bys l) := by
    have h2 := HR.out.below hbel
    intro hn
    obtain ⟨b, o, e, hbb, hc⟩ := h2 hn
    refine ⟨b, o, e, hbb, fun j x hx => ?_⟩
    rw [World.cell?_setCell_other]
    · exact hc j x hx
    · intro he
      have h4 := hc j x hx
      rw [← he, d4] at h4
      simp only [bys, List.getElem?_map, Option.map_eq_some_iff] at hx
      obtain ⟨y, _, rfl⟩ := hx
      simp at h4
  generalize hu : w2.setCell ⟨g, 4, none⟩ (.int .i64 ((q : Int) + (E : Int))) = u at hDu hGu hRu ⊢
  have HU := Lib.hid hu
  have HDU := Lib.hid hDu
  clear hu hDu d4 f4
  by_cases hEm : E < m
  · obtain ⟨b, o, rfl, hbb⟩ := hRu.form (by rw [bys_len, HM.out]; omega)
    have hRd : Rd u w1.heap.size (some ⟨b, o + E, none⟩) (bys (l.drop E)) := by have := hRu.drop_ E; rwa [bys_drop] at this
    have hlen : (bys (l.drop E)).length = Nat.min (m - E) 3 := by rw [bys_len, List.length_drop, HM.out]; show _ = min _ _; omega
    have hle3 : (bys (l.drop E)).length ≤ (dcs k0 k1 k2 n (q + E) false).length := by rw [hlen]; show min _ _ ≤ 6; omega
    have hr3 : (l.drop E).length ≤ 3 := by rw [List.length_drop, HM.out]; omega
    obtain ⟨r0, r1, r2, hsp, hkp⟩ := splice_dcs (l.drop E) k0 k1 k2 n (q + E) false hr3
    have hrl : (bys (l.drop E)).length = m - E := by rw [bys_len, List.length_drop, HM.out]
    have HSP := Lib.hid hsp; have HKP := Lib.hid hkp; have HRL := Lib.hid hrl
    clear hsp hkp hr3 hrl
    have HL := Lib.hid hlen; have HL3 := Lib.hid hle3; have HRD := Lib.hid hRd
    clear hlen hle3 hRd hRu
    have hcE : E < c := by omega
    go_region_law (refine step_copy_blk rfl (.tmp 52) (.tmp 55) 46 46 rfl 5 Tryz.underlying46 copy_size (some ⟨g, 0, none⟩) (some ⟨b, o + E, none⟩) 3 3 (m - E) (c - E) (by simp [Act.eval, Act.put]) (by simp [Act.eval, Act.put]; omega) g (dcs k0 k1 k2 n (q + E) false) 107 HDU.out (bys (l.drop E)) HL.out rfl w1.heap.size HRD.out HL3.out (bys_one _) ?_; intro w4 hb4 hg4; rw [HSP.out] at hb4; rw [HRL.out]; have f3 := hb4.frozen 3; have c3 : w4.cell? ⟨g, 3, none⟩ = some (.int .i64 (n : Int)) := hb4.cell 3; have HB4 := Lib.hid hb4; clear hb4)
    go_wp2
    go_ret
    have hgx : w2.grownBy w4 (some g) := grown_trans (by rw [← HU.out]; exact grown_drew (grown_set (World.grownBy.refl w2 _) 4 _)) hg4
    have hgf : w2.grownBy (w4.setCell ⟨g, 3, none⟩ (.int .i64 ((m - E : Nat) : Int))) (some g) := grown_set hgx 3 _
    refine wrote_lift HB1.out ⟨v, r0, r1, r2, rfl, hown.kept hgf (.inr (own_ne hown HD2.out (by decide))), ?_, ?_, grown_trans (grown_below (World.grownBy.refl w1 _) hbel) hgf⟩
    · rw [← HE.out, HM.out]; exact HB4.out.set_ 3 _
    · rw [← HE.out, HM.out]; have := HKP.out; rwa [List.length_drop, HM.out] at this
  · have hEm' : E = m := by omega
    have hnil : l.drop E = [] := List.drop_eq_nil_of_le (by have := HM.out; omega)
    have HNIL := Lib.hid hnil
    have hmE : m - E = 0 := by omega
    have HME := Lib.hid hmE
    clear hnil hmE hEm
    subst hEm'
    clear hRu
    have hwr : ∀ w4 : World, Blk w4 g 107 (dcs k0 k1 k2 n (q + E) false) → u.drew.grownBy w4 (some g) → Wrote w1 g q l (.returned v) (w4.setCell ⟨g, 3, none⟩ (.int .i64 0)) := by
      intro w4 hb4 hg4
      have hgx : w2.grownBy w4 (some g) := grown_trans (by rw [← HU.out]; exact grown_drew (grown_set (World.grownBy.refl w2 _) 4 _)) hg4
      have hgf : w2.grownBy (w4.setCell ⟨g, 3, none⟩ (.int .i64 0)) (some g) := grown_set hgx 3 _
      refine ⟨v, k0, k1, k2, rfl, hown.kept hgf (.inr (own_ne hown HD2.out (by decide))), ?_, ?_, grown_trans (grown_below (World.grownBy.refl w1 _) hbel) hgf⟩
      · rw [← HE.out, HM.out, HME.out]; exact hb4.set_ 3 _
      · rw [← HE.out, HM.out, HME.out, HNIL.out]; rfl
    have HWR := Lib.hid hwr
    clear hwr
    cases A with
    | none =>
      by_cases hcE : c = E
      · subst hcE
        go_region_law (refine step_copy_blk rfl (.tmp 52) (.tmp 55) 46 46 rfl 5 Tryz.underlying46 copy_size (some ⟨g, 0, none⟩) none 3 3 0 0 (by simp [Act.eval, Act.put]) (by simp [Act.eval, Act.put]) g (dcs k0 k1 k2 n (q + c) false) 107 HDU.out [] rfl rfl w1.heap.size (Rd.empty _ _ _) (Nat.zero_le _) (fun _ h => nomatch h) ?_; intro w4 hb4 hg4; have hb5 : Blk w4 g 107 (dcs k0 k1 k2 n (q + c) false) := hb4; have f3 := hb5.frozen 3; have c3 : w4.cell? ⟨g, 3, none⟩ = some (.int .i64 (n : Int)) := hb5.cell 3; have HB4 := Lib.hid hb5; clear hb4 hb5)
        go_wp2
        go_ret
        exact wrote_lift HB1.out (HWR.out _ HB4.out hg4)
      · go_region_law (refine step_copy_blk rfl (.tmp 52) (.tmp 55) 46 46 rfl 5 Tryz.underlying46 copy_size (some ⟨g, 0, none⟩) none 3 3 0 (c - E) (by simp [Act.eval, Act.put]) (by simp [Act.eval, Act.put]) g (dcs k0 k1 k2 n (q + E) false) 107 HDU.out [] rfl rfl w1.heap.size (Rd.empty _ _ _) (Nat.zero_le _) (fun _ h => nomatch h) ?_; intro w4 hb4 hg4; have hb5 : Blk w4 g 107 (dcs k0 k1 k2 n (q + E) false) := hb4; have f3 := hb5.frozen 3; have c3 : w4.cell? ⟨g, 3, none⟩ = some (.int .i64 (n : Int)) := hb5.cell 3; have HB4 := Lib.hid hb5; clear hb4 hb5)
        go_wp2
        go_ret
        exact wrote_lift HB1.out (HWR.out _ HB4.out hg4)
    | some ad =>
      by_cases hcE : c = E
      · subst hcE
        go_region_law (refine step_copy_blk rfl (.tmp 52) (.tmp 55) 46 46 rfl 5 Tryz.underlying46 copy_size (some ⟨g, 0, none⟩) (some ad) 3 3 0 0 (by simp [Act.eval, Act.put]) (by simp [Act.eval, Act.put]) g (dcs k0 k1 k2 n (q + c) false) 107 HDU.out [] rfl rfl w1.heap.size (Rd.empty _ _ _) (Nat.zero_le _) (fun _ h => nomatch h) ?_; intro w4 hb4 hg4; have hb5 : Blk w4 g 107 (dcs k0 k1 k2 n (q + c) false) := hb4; have f3 := hb5.frozen 3; have c3 : w4.cell? ⟨g, 3, none⟩ = some (.int .i64 (n : Int)) := hb5.cell 3; have HB4 := Lib.hid hb5; clear hb4 hb5)
        go_wp2
        go_ret
        exact wrote_lift HB1.out (HWR.out _ HB4.out hg4)
      · go_region_law (refine step_copy_blk rfl (.tmp 52) (.tmp 55) 46 46 rfl 5 Tryz.underlying46 copy_size (some ⟨g, 0, none⟩) (some (ad.add E)) 3 3 0 (c - E) (by simp [Act.eval, Act.put]) (by simp [Act.eval, Act.put]) g (dcs k0 k1 k2 n (q + E) false) 107 HDU.out [] rfl rfl w1.heap.size (Rd.empty _ _ _) (Nat.zero_le _) (fun _ h => nomatch h) ?_; intro w4 hb4 hg4; have hb5 : Blk w4 g 107 (dcs k0 k1 k2 n (q + E) false) := hb4; have f3 := hb5.frozen 3; have c3 : w4.cell? ⟨g, 3, none⟩ = some (.int .i64 (n : Int)) := hb5.cell 3; have HB4 := Lib.hid hb5; clear hb4 hb5)
        go_wp2
        go_ret
        exact wrote_lift HB1.out (HWR.out _ HB4.out hg4)
end Go.Proofs.YtipcbiecdabihaaGreat.Utf
