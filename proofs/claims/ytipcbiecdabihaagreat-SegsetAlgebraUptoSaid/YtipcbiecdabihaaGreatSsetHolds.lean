/-
  CONTRACTS OF holds, of what it calls of slices and cmp, of member, same, begins.
-/
import Derived.Test.YtipcbiecdabihaaGreatSsetNorm
import Derived.Test.YtipcbiecdabihaaGreatUtfSmall
namespace Go.Proofs.YtipcbiecdabihaaGreat.Sset
open Go.RowKit
open Utf (Rd Blk vld vld_iff valid_any)
open Rset
set_option maxRecDepth 100000

def cmpI (x y : Int) : Int := if x < y then -1 else if y < x then 1 else 0
theorem isNaN32_any (x : Int) (w : World) : Calls Tryz.prog 96 #[.int .i32 x] w fun e w' => e = .returned (.bool false) ∧ w = w' := by
  have hx : (x != x) = false := by simp
  go_enter Tryz.func96, Tryz.ntmps96
  go_wp2
  go_ret
  exact ⟨rfl, rfl⟩
theorem compare32_any (x y : Int) (w : World) : Calls Tryz.prog 82 #[.int .i32 x, .int .i32 y] w fun e w' => e = .returned (.int .i64 (cmpI x y)) ∧ w = w' := by
  unfold cmpI
  go_enter Tryz.func82, Tryz.ntmps82
  by_cases h1 : x < y
  · rw [if_pos h1]
    go_wp2_with (go_at_call 96; refine (isNaN32_any _ _).mono ?_; rintro e w1 ⟨rfl, rfl⟩)
    go_ret
    exact ⟨rfl, rfl⟩
  · by_cases h2 : y < x
    · rw [if_neg h1, if_pos h2]
      go_wp2_with (go_at_call 96; refine (isNaN32_any _ _).mono ?_; rintro e w1 ⟨rfl, rfl⟩)
      go_ret
      exact ⟨rfl, rfl⟩
    · rw [if_neg h1, if_neg h2]
      go_wp2_with (go_at_call 96; refine (isNaN32_any _ _).mono ?_; rintro e w1 ⟨rfl, rfl⟩)
      go_ret
      exact ⟨rfl, rfl⟩
theorem holds1_any (x y r : Int) (w : World) : Calls Tryz.prog 81 #[.agg #[.int .i32 x, .int .i32 y], .int .i32 r] w (Ret w (.int .i64 (cmpI y r))) := by
  have hcon := fun W' => compare32_any y r W'
  generalize cmpI y r = q at hcon ⊢
  go_enter Tryz.func81, Tryz.ntmps81
  go_wp2_with (go_at_call 82; refine (hcon _).mono ?_; rintro e w' ⟨rfl, rfl⟩)
  go_ret
  exact ⟨rfl, by first | exact (Below.refl _ _).alloc (Nat.le_refl _) _ | exact ((Below.refl _ _).alloc (Nat.le_refl _) _).alloc (by simp) _⟩
theorem cmp_neg {x y : Int} : cmpI x y < 0 ↔ x < y := by
  unfold cmpI
  by_cases h1 : x < y
  · rw [if_pos h1]; omega
  · rw [if_neg h1]; split <;> omega

/-- the first place at which a range doesn't end below the number -/
def Cut (l : List Rg) (r : Int) (k : Nat) : Prop := k ≤ l.length ∧ (∀ t (h : t < l.length), t < k → l[t].2 < r) ∧ ∀ t (h : t < l.length), k ≤ t → r ≤ l[t].2
set_option maxHeartbeats 4000000 in
theorem bsf_any (A : Option Addr) (l : List Rg) (n c : Nat) (r : Int) (w : World) (ha : Rd w w.heap.size A (rgs l)) (hn : l.length = n) (hN : Nm l) (hn1 : n ≤ 1099511627776) :
    Calls Tryz.prog 80 #[.slice A n c, .int .i32 r, .func (.func 81) #[] #[]] w (fun e w' => ∃ (k : Nat) (b : Bool), e = .returned (.tuple #[.int .i64 k, .bool b]) ∧ Cut l r k ∧ Below w.heap.size w w') := by
  have eg : ∀ args w, (callFunc 81 args).run Tryz.prog w = .ok (.enter 81 args) w := enters_of Tryz.func81 (by kernel_rfl) rfl
  have HA := Lib.hid ha; have HL := Lib.hid hn; have HM := Lib.hid hN
  have mono : ∀ i j (hi : i < l.length) (hj : j < l.length), i ≤ j → l[i].2 ≤ l[j].2 := fun i j hi hj hij => by
    rcases Nat.lt_or_ge i j with h | h
    · have := List.pairwise_iff_getElem.1 hN.gap i j hi hj h
      have := hN.ok _ (List.getElem_mem hj)
      omega
    · have : i = j := by omega
      subst this; exact Int.le_refl _
  have HMO := Lib.hid mono
  clear ha hn hN mono
  go_enter Tryz.func80, Tryz.ntmps80
  go_wp2_with fail
  go_loopw [9, 10] (fun s9 s10 wr => ∃ lo hi : Nat, s9 = .int .i64 lo ∧ s10 = .int .i64 hi ∧ lo ≤ hi ∧ hi ≤ n ∧ Hid (∀ t (h : t < l.length), t < lo → l[t].2 < r) ∧ Hid (∀ t (h : t < l.length), hi ≤ t → r ≤ l[t].2) ∧ Hid (Below w.heap.size w wr)) (fun s9 s10 _ => (intOf s10).toNat - (intOf s9).toNat)
  case atStart => exact ⟨0, n, rfl, rfl, Nat.zero_le _, Nat.le_refl _, Lib.hid (fun t _ h => by omega), Lib.hid (fun t h h2 => by have := HL.out; omega), Lib.hid (Below.refl _ _)⟩
  case round =>
    obtain ⟨lo, hi, rfl, rfl, hlh, hin, H1, H2, HW⟩ := hrel
    by_cases hlt : lo < hi
    · obtain ⟨m, hm⟩ : ∃ m, m = (lo + hi) / 2 := ⟨_, rfl⟩
      have hml : m < l.length := by rw [HL.out]; omega
      have hR2 := HA.out.below HW.out
      obtain ⟨b, o, rfl, hb⟩ := rd_form_rg hR2 (by omega)
      obtain ⟨c1, c2⟩ := rd_rg hR2 hml
      have HX1 := Lib.hid (show l[m].2 < r → ∀ t (h : t < l.length), t < m + 1 → l[t].2 < r from fun h t ht htm => by have := HMO.out t m ht hml (by omega); omega)
      have HX2 := Lib.hid (show ¬ l[m].2 < r → ∀ t (h : t < l.length), m ≤ t → r ≤ l[t].2 from fun h t ht htm => by have := HMO.out m t hml ht htm; omega)
      have HML := Lib.hid hml
      generalize l[m] = q at c1 c2 HX1 HX2
      obtain ⟨x, y⟩ := q
      dsimp only at c1 c2 HX1 HX2
      have HF := Lib.hid (holds1_any x y r wr)
      have HE := Lib.hid (show ((lo : Int) + (hi : Int)) / 2 = ((m : Nat) : Int) by omega)
      have HR := Lib.hid (show lo ≤ m ∧ m < hi by omega)
      rw [hm, show b = b from rfl] at c1 c2
      clear hR2 hml hb
      by_cases hy : y < r
      · have hc : cmpI y r = -1 := by unfold cmpI; rw [if_pos hy]
        rw [hc] at HF
        have HX := Lib.hid (HX1.out hy)
        clear hc hy HX1 HX2 hm
        go_wp2_with (go_at_fn 81; refine HF.out.mono ?_; rintro e w1 ⟨rfl, hb1⟩; have HB1 := Lib.hid (HW.out.trans (hb1.mono HW.out.size)); clear hb1)
        go_roundw
        case rel => exact ⟨m + 1, hi, by rw [HE.out]; go_num, rfl, by have := HR.out; omega, hin, HX, H2, HB1⟩
        case measure => rw [HE.out]; have := HR.out; simp [intOf]; omega
      · obtain ⟨z, hz, hz0⟩ : ∃ z, cmpI y r = z ∧ ¬ z < 0 := ⟨_, rfl, by rw [cmp_neg]; exact hy⟩
        rw [hz] at HF
        have HX := Lib.hid (HX2.out hy)
        clear hz hy HX1 HX2 hm
        go_wp2_with (go_at_fn 81; refine HF.out.mono ?_; rintro e w1 ⟨rfl, hb1⟩; have HB1 := Lib.hid (HW.out.trans (hb1.mono HW.out.size)); clear hb1)
        go_roundw
        case rel => exact ⟨lo, m, rfl, by rw [HE.out], HR.out.1, by have := HR.out; omega, H1, HX, HB1⟩
        case measure => rw [HE.out]; have := HR.out; simp [intOf]; omega
    · have he : hi = lo := by omega
      subst he
      have HC := Lib.hid (show Cut l r hi from ⟨by have := HL.out; omega, H1.out, H2.out⟩)
      by_cases hn : hi < n
      · have hml : hi < l.length := by rw [HL.out]; exact hn
        have hR2 := HA.out.below HW.out
        obtain ⟨b, o, rfl, hb⟩ := rd_form_rg hR2 (by omega)
        obtain ⟨c1, c2⟩ := rd_rg hR2 hml
        generalize l[hi] = q at c1 c2
        obtain ⟨x, y⟩ := q
        dsimp only at c1 c2
        have HF := Lib.hid (holds1_any x y r wr)
        generalize cmpI y r = z at HF
        clear hR2 hml hb
        go_wp2_with (go_at_fn 81; refine HF.out.mono ?_; rintro e w1 ⟨rfl, hb1⟩; have HB1 := Lib.hid (HW.out.trans (hb1.mono HW.out.size)); clear hb1)
        go_ret2
        exact ⟨hi, _, rfl, HC.out, HB1.out⟩
      · go_wp2_with fail
        go_ret2
        exact ⟨hi, _, rfl, HC.out, HW.out⟩
theorem cut_has {l : List Rg} (hN : Nm l) {r : Int} {k : Nat} (h : Cut l r k) : has l r = if hk : k < l.length then decide (l[k].1 ≤ r) else false := by
  obtain ⟨h1, h2, h3⟩ := h
  rw [hN.has]
  by_cases hk : k < l.length
  · rw [dif_pos hk, Bool.eq_iff_iff, decide_eq_true_eq, anyIn_iff]
    constructor
    · rintro ⟨q, hq, q1, q2⟩
      obtain ⟨t, ht, rfl⟩ := List.getElem_of_mem hq
      rcases Nat.lt_trichotomy t k with h4 | h4 | h4
      · have := h2 t ht h4; omega
      · subst h4; exact q1
      · have := List.pairwise_iff_getElem.1 hN.gap k t hk ht h4
        have := h3 k hk (Nat.le_refl _)
        omega
    · intro h4
      exact ⟨_, List.getElem_mem hk, h4, h3 k hk (Nat.le_refl _)⟩
  · rw [dif_neg hk, Bool.eq_false_iff, Ne, anyIn_iff]
    rintro ⟨q, hq, q1, q2⟩
    obtain ⟨t, ht, rfl⟩ := List.getElem_of_mem hq
    have := h2 t ht (by omega)
    omega
set_option maxHeartbeats 2000000 in
theorem holds_any (A : Option Addr) (l : List Rg) (n c : Nat) (r : Int) (w : World) (ha : ArgR w A n l) (hN : Nm l) :
    Calls Tryz.prog 57 #[.slice A n c, .int .i32 r] w (Ret w (.bool (has l r))) := by
  have HB := Lib.hid (bsf_any A l n c r w ha.rd ha.len hN (by have := ha.sm; omega))
  have HA := Lib.hid ha; have HN := Lib.hid hN
  clear ha hN
  go_enter Tryz.func57, Tryz.ntmps57
  go_wp2_with fail
  refine HB.out.mono ?_
  rintro e w1 ⟨k, b, rfl, hc, hb⟩
  have HE := Lib.hid (cut_has HN.out hc)
  have HBB := Lib.hid hb
  have HK := Lib.hid hc.1
  by_cases hk : k < n
  · have hkl : k < l.length := by rw [HA.out.len]; exact hk
    have hR2 := HA.out.rd.below hb
    obtain ⟨b', o, rfl, _⟩ := rd_form_rg hR2 (by omega)
    obtain ⟨c1, c2⟩ := rd_rg hR2 hkl
    have HE2 := Lib.hid (HE.out.trans (dif_pos hkl))
    clear hc hb hR2 HB
    generalize l[k] = q at c1 c2 HE2
    obtain ⟨x, y⟩ := q
    dsimp only at c1 c2 HE2
    clear hkl
    go_wp2_with fail
    go_ret
    exact ⟨ret_bool (by rw [HE2.out]), HBB.out⟩
  · have HE2 := Lib.hid (HE.out.trans (dif_neg (by rw [HA.out.len]; exact hk)))
    clear hc hb HB
    go_wp2_with fail
    go_ret
    exact ⟨ret_bool (by rw [HE2.out]), HBB.out⟩

set_option maxHeartbeats 2000000 in
theorem member_any (A1 A2 A3 : Option Addr) (n1 c1 n2 c2 n3 c3 : Nat) (a : St) (X : ByteArray) (x : Tx) (hX : X.toList = x) (r : Int) (w : World) (h : Has3 w A1 n1 A2 n2 A3 n3 a) (hN : NmS a) :
    Calls Tryz.prog 56 #[.agg #[.slice A1 n1 c1, .slice A2 n2 c2, .slice A3 n3 c3], .string X, .int .i32 r] w (Ret w (.bool (has a.m r != isIn a.o x))) := by
  obtain ⟨W0, hW0⟩ : ∃ W0, W0 = w.alloc (.cells #[.slice A1 n1 c1, .slice A2 n2 c2, .slice A3 n3 c3] 25) := ⟨_, rfl⟩
  obtain ⟨g, hg⟩ : ∃ g, g = w.heap.size := ⟨_, rfl⟩
  have hb0 : Below w.heap.size w W0 := by rw [hW0]; exact (Below.refl _ _).alloc (Nat.le_refl _) _
  have k0 : BlkS W0 g (.slice A1 n1 c1) (.slice A2 n2 c2) (.slice A3 n3 c3) := by rw [hW0, hg]; exact BlkS.new w _ _ _
  have h0 := h.next hb0
  have HBS := Lib.hid (bs_any A3 a.o n3 c3 X x hX W0 h0.o.rd h0.o.len hN.up (by have := h0.o.sm; omega))
  have HH := Lib.hid (show ∀ q, Calls Tryz.prog 57 #[.slice A2 n2 c2, .int .i32 r] (W0.drewN q) (Ret (W0.drewN q) (.bool (has a.m r))) from fun q => holds_any A2 a.m n2 c2 r (W0.drewN q) (h0.m.next (below_drewN (Below.refl _ _) q)) hN.m)
  have d1 : ∀ q, (W0.drewN q).cell? ⟨g, 1, none⟩ = some (.slice A2 n2 c2) := fun q => k0.c1
  have d2 := k0.c2
  have HW := Lib.hid hW0; have HG := Lib.hid hg; have HB0 := Lib.hid hb0
  clear h hX hW0 hg hb0 k0 h0
  generalize isIn a.o x = p at HBS ⊢
  generalize has a.m r = s at HH ⊢
  go_enter Tryz.func56, Tryz.ntmps56
  go_wp2_with fail
  rw [← HW.out, ← HG.out]
  go_wp2_with fail
  refine HBS.out.mono ?_
  rintro e w1 ⟨⟨k, rfl⟩, q, rfl⟩
  have e1 := d1 q
  clear d1 d2
  go_wp2_with fail
  refine (HH.out q).mono ?_
  rintro e w2 ⟨rfl, hb2⟩
  have HB2 := Lib.hid (HB0.out.trans ((below_drewN (Below.refl _ _) q).trans (hb2.mono HB0.out.size)))
  clear hb2 e1
  go_wp2_with fail
  go_ret
  exact ⟨ret_bool (by cases s <;> cases p <;> rfl), HB2.out⟩

theorem st_eq (a b : St) : decide (a = b) = (eqL a.s b.s && eqL a.m b.m && decide (a.o = b.o)) := by
  obtain ⟨a1, a2, a3⟩ := a
  obtain ⟨b1, b2, b3⟩ := b
  unfold eqL
  rw [Bool.eq_iff_iff]
  simp [and_assoc]
set_option maxHeartbeats 2000000 in
theorem ssame_any (A1 A2 A3 B1 B2 B3 : Option Addr) (n1 c1 n2 c2 n3 c3 m1 d1 m2 d2 m3 d3 : Nat) (a b : St) (w : World) (h : Has3 w A1 n1 A2 n2 A3 n3 a) (k : Has3 w B1 m1 B2 m2 B3 m3 b) :
    Calls Tryz.prog 42 #[.agg #[.slice A1 n1 c1, .slice A2 n2 c2, .slice A3 n3 c3], .agg #[.slice B1 m1 d1, .slice B2 m2 d2, .slice B3 m3 d3]] w (Ret w (.bool (decide (a = b)))) := by
  obtain ⟨W0, hW0⟩ : ∃ W0, W0 = (w.alloc (.cells #[.slice A1 n1 c1, .slice A2 n2 c2, .slice A3 n3 c3] 25)).alloc (.cells #[.slice B1 m1 d1, .slice B2 m2 d2, .slice B3 m3 d3] 25) := ⟨_, rfl⟩
  obtain ⟨g, hg⟩ : ∃ g, g = w.heap.size := ⟨_, rfl⟩
  have hb0 : Below w.heap.size w W0 := by rw [hW0]; exact ((Below.refl _ _).alloc (Nat.le_refl _) _).alloc (by simp) _
  have k0 : BlkS W0 g (.slice A1 n1 c1) (.slice A2 n2 c2) (.slice A3 n3 c3) := by rw [hW0, hg]; exact (BlkS.new w _ _ _).alloc _
  have k1 : BlkS W0 (g + 1) (.slice B1 m1 d1) (.slice B2 m2 d2) (.slice B3 m3 d3) := by
    have := BlkS.new (w.alloc (.cells #[.slice A1 n1 c1, .slice A2 n2 c2, .slice A3 n3 c3] 25)) (.slice B1 m1 d1) (.slice B2 m2 d2) (.slice B3 m3 d3)
    rw [hW0, hg]; simpa using this
  have h0 := h.next hb0
  have h1 := k.next hb0
  have dw : ∀ q, Below W0.heap.size W0 (W0.drewN q) := fun q => below_drewN (Below.refl _ _) q
  have HS := Lib.hid (show ∀ q, Calls Tryz.prog 62 #[.slice A1 n1 c1, .slice B1 m1 d1] (W0.drewN q) (fun e w' => e = .returned (.bool (eqL a.s b.s)) ∧ ∃ k, w' = (W0.drewN q).drewN k) from fun q => equalS_any A1 B1 a.s b.s n1 m1 c1 d1 _ (h0.s.next (dw q)).rd (h1.s.next (dw q)).rd h0.s.len h1.s.len (by have := h0.s.sm; omega) (by have := h1.s.sm; omega))
  have HM := Lib.hid (show ∀ q, Calls Tryz.prog 62 #[.slice A2 n2 c2, .slice B2 m2 d2] (W0.drewN q) (fun e w' => e = .returned (.bool (eqL a.m b.m)) ∧ ∃ k, w' = (W0.drewN q).drewN k) from fun q => equalS_any A2 B2 a.m b.m n2 m2 c2 d2 _ (h0.m.next (dw q)).rd (h1.m.next (dw q)).rd h0.m.len h1.m.len (by have := h0.m.sm; omega) (by have := h1.m.sm; omega))
  have HO := Lib.hid (show ∀ q, Calls Tryz.prog 36 #[.slice A3 n3 c3, .slice B3 m3 d3] (W0.drewN q) (fun e w' => e = .returned (.bool (decide (a.o = b.o))) ∧ ∃ k, w' = (W0.drewN q).drewN k) from fun q => eqT_any A3 B3 a.o b.o n3 m3 c3 d3 _ (h0.o.next (dw q)).rd (h1.o.next (dw q)).rd h0.o.len h1.o.len (by have := h0.o.sm; omega) (by have := h1.o.sm; omega))
  have HE := Lib.hid (st_eq a b)
  have HK0 := Lib.hid k0; have HK1 := Lib.hid k1
  have HW := Lib.hid hW0; have HG := Lib.hid hg; have HB0 := Lib.hid hb0
  have HDQ := Lib.hid (show ∀ q, Below w.heap.size w (W0.drewN q) from fun q => below_drewN hb0 q)
  clear h k hW0 hg hb0 k0 k1 h0 h1 dw
  rw [HE.out]
  generalize eqL a.s b.s = p1 at HS ⊢
  generalize eqL a.m b.m = p2 at HM ⊢
  generalize decide (a.o = b.o) = p3 at HO ⊢
  have x0 := HK0.out.c0; have y0 := HK1.out.c0
  go_enter Tryz.func42, Tryz.ntmps42
  go_wp2_with fail
  rw [← HW.out, ← HG.out]
  go_wp2_with fail
  refine (HS.out 0).mono ?_
  rintro e w1 ⟨rfl, q1, rfl⟩
  rw [World.drewN_drewN, Nat.zero_add]
  have x1 : (W0.drewN q1).cell? ⟨g, 1, none⟩ = some (.slice A2 n2 c2) := HK0.out.c1
  have y1 : (W0.drewN q1).cell? ⟨g + 1, 1, none⟩ = some (.slice B2 m2 d2) := HK1.out.c1
  clear x0 y0
  cases p1 with
  | false =>
    go_wp2_with fail
    go_ret
    exact ⟨rfl, HDQ.out _⟩
  | true =>
    go_wp2_with fail
    refine (HM.out _).mono ?_
    rintro e w2 ⟨rfl, q2, rfl⟩
    rw [World.drewN_drewN]
    clear x1 y1
    have x2 : (W0.drewN (q1 + q2)).cell? ⟨g, 2, none⟩ = some (.slice A3 n3 c3) := HK0.out.c2
    have y2 : (W0.drewN (q1 + q2)).cell? ⟨g + 1, 2, none⟩ = some (.slice B3 m3 d3) := HK1.out.c2
    cases p2 with
    | false =>
      go_wp2_with fail
      go_ret
      exact ⟨rfl, HDQ.out _⟩
    | true =>
      go_wp2_with fail
      refine (HO.out _).mono ?_
      rintro e w3 ⟨rfl, q3, rfl⟩
      rw [World.drewN_drewN]
      clear x2 y2
      go_wp2_with fail
      go_ret
      exact ⟨rfl, HDQ.out _⟩
end Go.Proofs.YtipcbiecdabihaaGreat.Sset
