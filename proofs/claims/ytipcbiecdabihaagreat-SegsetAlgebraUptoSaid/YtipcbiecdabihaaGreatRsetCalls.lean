/-
  CONTRACTS OF Union, Meet, Minus, Not, Norm, Equal, Count, May, Has.
-/
import Derived.Test.YtipcbiecdabihaaGreatRsetOver
namespace Go.Proofs.YtipcbiecdabihaaGreat.Rset
set_option maxRecDepth 100000
open Go.RowKit
open Utf (Rd Blk wpList_append_rd own_ne)

theorem uni_keep (p q : Bool) (u : World) : Calls Tryz.prog 71 #[.bool p, .bool q] u fun e w' => e = .returned (.bool (p || q)) ∧ u = w' := by
  cases p <;> cases q <;> go_enter Tryz.func71, Tryz.ntmps71 <;> go_wp2 <;> go_ret <;> exact ⟨rfl, rfl⟩
theorem meet_keep (p q : Bool) (u : World) : Calls Tryz.prog 78 #[.bool p, .bool q] u fun e w' => e = .returned (.bool (p && q)) ∧ u = w' := by
  cases p <;> cases q <;> go_enter Tryz.func78, Tryz.ntmps78 <;> go_wp2 <;> go_ret <;> exact ⟨rfl, rfl⟩
theorem compl_keep (p q : Bool) (u : World) : Calls Tryz.prog 77 #[.bool p, .bool q] u fun e w' => e = .returned (.bool (!p)) ∧ u = w' := by
  cases p <;> cases q <;> go_enter Tryz.func77, Tryz.ntmps77 <;> go_wp2 <;> go_ret <;> exact ⟨rfl, rfl⟩
set_option maxHeartbeats 1000000 in
theorem uni_any (A B : Option Addr) (a b : List Rg) (n m c d : Nat) (w : World) (ha : Rd w w.heap.size A (rgs a)) (hb : Rd w w.heap.size B (rgs b)) (hn : a.length = n) (hm : b.length = m) (fa : Fit a) (fb : Fit b) (hsm : n + m ≤ 134217728) :
    Calls Tryz.prog 50 #[.slice A n c, .slice B m d] w (Own w (uni a b)) := by
  have HC := Lib.hid (over_any _ 71 (enters_of Tryz.func71 (by kernel_rfl) rfl) uni_keep A B a b n m c d w ha hb hn hm fa fb hsm)
  clear ha hb hn hm fa fb hsm
  go_enter Tryz.func50, Tryz.ntmps50
  go_wp2_with fail
  refine HC.out.mono ?_
  rintro e w1 ⟨v, rfl, ho, hb⟩
  have HO := Lib.hid ho
  have HB := Lib.hid hb
  clear ho hb
  go_wp2_with fail
  go_ret
  exact ⟨v, rfl, HO.out, HB.out⟩

set_option maxHeartbeats 1000000 in
theorem meet_any (A B : Option Addr) (a b : List Rg) (n m c d : Nat) (w : World) (ha : Rd w w.heap.size A (rgs a)) (hb : Rd w w.heap.size B (rgs b)) (hn : a.length = n) (hm : b.length = m) (fa : Fit a) (fb : Fit b) (hsm : n + m ≤ 134217728) :
    Calls Tryz.prog 55 #[.slice A n c, .slice B m d] w (Own w (meet a b)) := by
  have HC := Lib.hid (over_any _ 78 (enters_of Tryz.func78 (by kernel_rfl) rfl) meet_keep A B a b n m c d w ha hb hn hm fa fb hsm)
  clear ha hb hn hm fa fb hsm
  go_enter Tryz.func55, Tryz.ntmps55
  go_wp2_with fail
  refine HC.out.mono ?_
  rintro e w1 ⟨v, rfl, ho, hb⟩
  have HO := Lib.hid ho
  have HB := Lib.hid hb
  clear ho hb
  go_wp2_with fail
  go_ret
  exact ⟨v, rfl, HO.out, HB.out⟩

/-- are two lists one? -/
def eqL (a b : List Rg) : Bool := decide (a = b)
theorem take_succ_eq {a b : List Rg} {k : Nat} (ha : k < a.length) (hb : k < b.length) (h : a.take k = b.take k) : a[k] = b[k] → a.take (k + 1) = b.take (k + 1) := fun e => by
  rw [List.take_succ_eq_append_getElem ha, List.take_succ_eq_append_getElem hb, h, e]

set_option maxHeartbeats 2000000 in
theorem equalS_any (A B : Option Addr) (a b : List Rg) (n m c d : Nat) (w : World) (ha : Rd w w.heap.size A (rgs a)) (hb : Rd w w.heap.size B (rgs b)) (hn : a.length = n) (hm : b.length = m) (hn1 : n ≤ 1099511627776) (hm1 : m ≤ 1099511627776) :
    Calls Tryz.prog 62 #[.slice A n c, .slice B m d] w fun e w' => e = .returned (.bool (eqL a b)) ∧ ∃ k, w' = w.drewN k := by
  suffices H : Calls Tryz.prog 62 #[.slice A n c, .slice B m d] w (fun e w' => Hid (e = .returned (.bool (eqL a b)) ∧ ∃ k, w' = w.drewN k)) from H.mono fun e w' h => h.out
  by_cases hnm : n = m
  · subst hnm
    have HN := Lib.hid hn; have HM := Lib.hid hm
    clear hn hm
    go_enter Tryz.func62, Tryz.ntmps62
    go_wp2_with fail
    go_loopw [13] (fun i wr => ∃ k j : Nat, k ≤ n ∧ i = .int .i64 k ∧ Hid (a.take k = b.take k) ∧ Hid (wr = w.drewN j)) (fun i _ => n - (intOf i).toNat)
    case atStart => exact ⟨0, 0, Nat.zero_le _, rfl, Lib.hid rfl, Lib.hid rfl⟩
    case round =>
      obtain ⟨k, j, hk, rfl, HT, HJ⟩ := hrel
      by_cases hlt : k < n
      · have hka : k < a.length := by rw [HN.out]; exact hlt
        have hkb : k < b.length := by rw [HM.out]; exact hlt
        obtain ⟨ba, oa, rfl, _⟩ := rd_form_rg ha (by omega)
        obtain ⟨bb, ob, rfl, _⟩ := rd_form_rg hb (by omega)
        have hwr : ∀ p : Addr, wr.cell? p = w.cell? p := fun p => by rw [HJ.out]; rfl
        obtain ⟨a1, a2⟩ := rd_rg ha hka
        obtain ⟨b1, b2⟩ := rd_rg hb hkb
        rw [← hwr] at a1 a2 b1 b2
        have HTS := Lib.hid (take_succ_eq hka hkb HT.out)
        have HNE := Lib.hid (show a[k] ≠ b[k] → eqL a b = false from fun h => by unfold eqL; rw [decide_eq_false_iff_not]; rintro rfl; exact h rfl)
        generalize a[k] = x at a1 a2 HTS HNE
        generalize b[k] = y at b1 b2 HTS HNE
        obtain ⟨x1, x2⟩ := x
        obtain ⟨y1, y2⟩ := y
        dsimp only at a1 a2 b1 b2
        clear hwr HT hka hkb
        by_cases hxy : x1 = y1 ∧ x2 = y2
        · obtain ⟨rfl, rfl⟩ := hxy
          have hq : ∀ u : World, (binOp .neq 38 (.agg #[.int .i32 x1, .int .i32 x2]) (.agg #[.int .i32 x1, .int .i32 x2])).run Tryz.prog u = .ok (.bool false) u := fun u => by rw [neq_rg]; simp
          go_wp2_with fail
          go_quiet (fail)
          go_wp2_with fail
          go_roundw
          case rel => exact ⟨k + 1, _, by omega, by go_num, Lib.hid (HTS.out trivial), Lib.hid (by rw [HJ.out, World.drewN_drewN])⟩
          case measure => simp [intOf]; omega
        · have hq : ∀ u : World, (binOp .neq 38 (.agg #[.int .i32 x1, .int .i32 x2]) (.agg #[.int .i32 y1, .int .i32 y2])).run Tryz.prog u = .ok (.bool true) u := fun u => by
            rw [neq_rg]
            have : (x1 == y1 && x2 == y2) = false := by rw [Bool.eq_false_iff]; simpa using hxy
            rw [this]; rfl
          have HF := Lib.hid (HNE.out (fun h => hxy (by injection h with h1 h2; exact ⟨h1, h2⟩)))
          clear hxy
          go_wp2_with fail
          go_quiet (fail)
          go_wp2_with fail
          go_ret
          exact Lib.hid ⟨by rw [HF.out]; rfl, _, by rw [HJ.out, World.drewN_drewN]⟩
      · have HF := Lib.hid (show eqL a b = true by
          have := HT.out
          rw [List.take_of_length_le (by have := HN.out; omega), List.take_of_length_le (by have := HM.out; omega)] at this
          unfold eqL; exact decide_eq_true this)
        go_wp2_with fail
        go_ret
        exact Lib.hid ⟨by rw [HF.out]; rfl, _, HJ.out⟩
  · have hs : eqL a b = false := by unfold eqL; rw [decide_eq_false_iff_not]; rintro rfl; exact hnm (hn.symm.trans hm)
    have HS := Lib.hid hs
    have hne : ((n : Int) == (m : Int)) = false := by simp; omega
    have hne2 : ((n : Int) != (m : Int)) = true := by simp; omega
    clear hs hn hm hnm
    go_enter Tryz.func62, Tryz.ntmps62
    go_wp2_with fail
    go_ret
    exact Lib.hid ⟨by rw [HS.out]; rfl, 0, rfl⟩

set_option maxHeartbeats 2000000 in
theorem same_any (A B : Option Addr) (a b : List Rg) (n m c d : Nat) (w : World) (ha : Rd w w.heap.size A (rgs a)) (hb : Rd w w.heap.size B (rgs b)) (hn : a.length = n) (hm : b.length = m) (hn1 : n ≤ 1099511627776) (hm1 : m ≤ 1099511627776) :
    Calls Tryz.prog 24 #[.slice A n c, .slice B m d] w fun e w' => e = .returned (.bool (eqL a b)) ∧ ∃ k, w' = w.drewN k := by
  suffices H : Calls Tryz.prog 24 #[.slice A n c, .slice B m d] w (fun e w' => Hid (e = .returned (.bool (eqL a b)) ∧ ∃ k, w' = w.drewN k)) from H.mono fun e w' h => h.out
  by_cases hnm : n = m
  · subst hnm
    have HN := Lib.hid hn; have HM := Lib.hid hm
    clear hn hm
    go_enter Tryz.func24, Tryz.ntmps24
    go_wp2_with fail
    go_loopw [5] (fun i wr => ∃ k j : Nat, k ≤ n ∧ i = .int .i64 k ∧ Hid (a.take k = b.take k) ∧ Hid (wr = w.drewN j)) (fun i _ => n - (intOf i).toNat)
    case atStart => exact ⟨0, 0, Nat.zero_le _, rfl, Lib.hid rfl, Lib.hid rfl⟩
    case round =>
      obtain ⟨k, j, hk, rfl, HT, HJ⟩ := hrel
      by_cases hlt : k < n
      · have hka : k < a.length := by rw [HN.out]; exact hlt
        have hkb : k < b.length := by rw [HM.out]; exact hlt
        obtain ⟨ba, oa, rfl, _⟩ := rd_form_rg ha (by omega)
        obtain ⟨bb, ob, rfl, _⟩ := rd_form_rg hb (by omega)
        have hwr : ∀ p : Addr, wr.cell? p = w.cell? p := fun p => by rw [HJ.out]; rfl
        obtain ⟨a1, a2⟩ := rd_rg ha hka
        obtain ⟨b1, b2⟩ := rd_rg hb hkb
        rw [← hwr] at a1 a2 b1 b2
        have HTS := Lib.hid (take_succ_eq hka hkb HT.out)
        have HNE := Lib.hid (show a[k] ≠ b[k] → eqL a b = false from fun h => by unfold eqL; rw [decide_eq_false_iff_not]; rintro rfl; exact h rfl)
        generalize a[k] = x at a1 a2 HTS HNE
        generalize b[k] = y at b1 b2 HTS HNE
        obtain ⟨x1, x2⟩ := x
        obtain ⟨y1, y2⟩ := y
        dsimp only at a1 a2 b1 b2
        clear hwr HT hka hkb
        by_cases hxy : x1 = y1 ∧ x2 = y2
        · obtain ⟨rfl, rfl⟩ := hxy
          have hq : ∀ u : World, (binOp .neq 38 (.agg #[.int .i32 x1, .int .i32 x2]) (.agg #[.int .i32 x1, .int .i32 x2])).run Tryz.prog u = .ok (.bool false) u := fun u => by rw [neq_rg]; simp
          go_wp2_with fail
          go_quiet (fail)
          go_wp2_with fail
          go_roundw
          case rel => exact ⟨k + 1, _, by omega, by go_num, Lib.hid (HTS.out trivial), Lib.hid (by rw [HJ.out, World.drewN_drewN])⟩
          case measure => simp [intOf]; omega
        · have hq : ∀ u : World, (binOp .neq 38 (.agg #[.int .i32 x1, .int .i32 x2]) (.agg #[.int .i32 y1, .int .i32 y2])).run Tryz.prog u = .ok (.bool true) u := fun u => by
            rw [neq_rg]
            have : (x1 == y1 && x2 == y2) = false := by rw [Bool.eq_false_iff]; simpa using hxy
            rw [this]; rfl
          have HF := Lib.hid (HNE.out (fun h => hxy (by injection h with h1 h2; exact ⟨h1, h2⟩)))
          clear hxy
          go_wp2_with fail
          go_quiet (fail)
          go_wp2_with fail
          go_ret
          exact Lib.hid ⟨by rw [HF.out]; rfl, _, by rw [HJ.out, World.drewN_drewN]⟩
      · have HF := Lib.hid (show eqL a b = true by
          have := HT.out
          rw [List.take_of_length_le (by have := HN.out; omega), List.take_of_length_le (by have := HM.out; omega)] at this
          unfold eqL; exact decide_eq_true this)
        go_wp2_with fail
        go_ret
        exact Lib.hid ⟨by rw [HF.out]; rfl, _, HJ.out⟩
  · have hs : eqL a b = false := by unfold eqL; rw [decide_eq_false_iff_not]; rintro rfl; exact hnm (hn.symm.trans hm)
    have HS := Lib.hid hs
    have hne : ((n : Int) == (m : Int)) = false := by simp; omega
    have hne2 : ((n : Int) != (m : Int)) = true := by simp; omega
    clear hs hn hm hnm
    go_enter Tryz.func24, Tryz.ntmps24
    go_wp2_with fail
    go_ret
    exact Lib.hid ⟨by rw [HS.out]; rfl, 0, rfl⟩

theorem rd_nil (w : World) (B : Nat) (A : Option Addr) : Rd w B A (rgs []) := Rd.empty _ _ _
theorem fit_nil : Fit [] := fun _ h => by simp at h
theorem uni_nil (l : List Rg) : uni l [] = norm l := nl_congr fun x _ => by rw [has_nil, Bool.or_false]

theorem norm_any (A : Option Addr) (l : List Rg) (n c : Nat) (w : World) (hr : Rd w w.heap.size A (rgs l)) (hn : l.length = n) (fl : Fit l) (hsm : n ≤ 67108864) :
    Calls Tryz.prog 31 #[.slice A n c] w (Own w (norm l)) := by
  have HC := Lib.hid (uni_any A none l [] n 0 c 0 w hr (rd_nil _ _ _) hn rfl fl fit_nil (by omega))
  clear hr hn fl hsm
  rw [uni_nil] at HC
  go_enter Tryz.func31, Tryz.ntmps31
  go_wp2_with fail
  refine HC.out.mono ?_
  rintro e w1 ⟨v, rfl, ho, hb⟩
  have HO := Lib.hid ho
  have HB := Lib.hid hb
  clear ho hb
  go_wp2_with fail
  go_ret
  exact ⟨v, rfl, HO.out, HB.out⟩
theorem not_any (A : Option Addr) (l : List Rg) (n c : Nat) (w : World) (hr : Rd w w.heap.size A (rgs l)) (hn : l.length = n) (fl : Fit l) (hsm : n ≤ 67108864) :
    Calls Tryz.prog 54 #[.slice A n c] w (Own w (compl l)) := by
  have HC := Lib.hid (over_any (fun p _ => !p) 77 (enters_of Tryz.func77 (by kernel_rfl) rfl) compl_keep A none l [] n 0 c 0 w hr (rd_nil _ _ _) hn rfl fl fit_nil (by omega))
  clear hr hn fl hsm
  go_enter Tryz.func54, Tryz.ntmps54
  go_wp2_with fail
  refine HC.out.mono ?_
  rintro e w1 ⟨v, rfl, ho, hb⟩
  have HO := Lib.hid ho
  have HB := Lib.hid hb
  clear ho hb
  go_wp2_with fail
  go_ret
  exact ⟨v, rfl, HO.out, HB.out⟩
/-- do two lists mean one set? -/
noncomputable def eqs (a b : List Rg) : Bool := decide (norm a = norm b)
theorem eqs_len (a b : List Rg) : (((nl fun x => has a x != has b x).length : Int) == 0) = eqs a b := by
  rw [Bool.eq_iff_iff]
  unfold eqs
  rw [decide_eq_true_eq, norm_eq_iff, beq_iff_eq]
  constructor
  · intro h x
    have h0 : (nl fun x => has a x != has b x) = [] := List.eq_nil_of_length_eq_zero (by omega)
    have := nl_has (fun x => has a x != has b x) x
    rw [h0, has_nil] at this
    by_cases hx : inR x = true
    · rw [hx, Bool.true_and] at this
      simpa using this.symm
    · rw [has_out (Bool.eq_false_iff.2 hx), has_out (Bool.eq_false_iff.2 hx)]
  · intro h
    have h0 : [] = nl fun x => has a x != has b x := nl_of Nm.nil fun x _ => by rw [has_nil, h x]; simp
    rw [← h0]; rfl
/-- is it normal, from c on? -/
def mayR : Int → List Rg → Bool
  | _, [] => true
  | c, r :: l => if r.1 < c ∨ r.2 < r.1 ∨ 1114111 < r.2 then false else mayR (r.2 + 2) l
theorem mayR_iff : ∀ (l : List Rg) (c : Int), 0 ≤ c → (mayR c l = true ↔ Nm l ∧ ∀ r ∈ l, c ≤ r.1)
  | [], c, _ => ⟨fun _ => ⟨Nm.nil, fun r h => by cases h⟩, fun _ => rfl⟩
  | r :: l, c, hc => by
    unfold mayR
    by_cases h : r.1 < c ∨ r.2 < r.1 ∨ 1114111 < r.2
    · rw [if_pos h]
      refine ⟨fun e => Bool.noConfusion e, fun ⟨e, f⟩ => ?_⟩
      have h1 := e.hd
      have h2 := f r List.mem_cons_self
      omega
    · rw [if_neg h, mayR_iff l (r.2 + 2) (by omega)]
      constructor
      · rintro ⟨e, f⟩
        refine ⟨Nm.cons (by omega) f e, fun s hs => ?_⟩
        rcases List.mem_cons.1 hs with rfl | hs
        · omega
        · have := f s hs; omega
      · rintro ⟨e, f⟩
        exact ⟨e.tail, e.next⟩
theorem mayR_eq (l : List Rg) : eqL (norm l) l = mayR 0 l := by
  rw [Bool.eq_iff_iff, mayR_iff l 0 (Int.le_refl 0)]
  unfold eqL
  rw [decide_eq_true_eq, norm_iff]
  exact ⟨fun h => ⟨h, fun r hr => (h.ok r hr).1⟩, fun h => h.1⟩
set_option maxHeartbeats 4000000 in
theorem may_any (A : Option Addr) (l : List Rg) (n c : Nat) (w : World) (hr : Rd w w.heap.size A (rgs l)) (hn : l.length = n) (fl : Fit l) (hsm : n ≤ 67108864) :
    Calls Tryz.prog 35 #[.slice A n c] w (Ret w (.bool (eqL (norm l) l))) := by
  rw [mayR_eq]
  have HR := Lib.hid hr; have HN := Lib.hid hn; have HF := Lib.hid fl
  clear hr hn fl
  go_enter Tryz.func35, Tryz.ntmps35
  go_wp2_with fail
  go_loopw [3, 8] (fun x i wr => ∃ (k : Nat) (y : Int), k ≤ n ∧ x = .int .i32 y ∧ i = .int .i64 k ∧ 0 ≤ y ∧ y ≤ 1114113 ∧ Hid (mayR 0 l = mayR y (l.drop k)) ∧ Hid (Below w.heap.size w wr)) (fun _ i _ => n - (intOf i).toNat)
  case atStart => exact ⟨0, 0, Nat.zero_le _, rfl, rfl, Int.le_refl _, by decide, Lib.hid rfl, Lib.hid (Below.refl _ _)⟩
  case round =>
    obtain ⟨k, y, hk, rfl, rfl, hy0, hy1, HT, HB⟩ := hrel
    by_cases hlt : k < n
    · have hkl : k < l.length := by rw [HN.out]; exact hlt
      have hR2 := HR.out.below HB.out
      obtain ⟨b, o, rfl, hb⟩ := rd_form_rg hR2 (by omega)
      obtain ⟨c1, c2⟩ := rd_rg hR2 hkl
      have HFK := Lib.hid (HF.out _ (List.getElem_mem hkl))
      have HT2 := Lib.hid (show mayR 0 l = mayR y (l[k] :: l.drop (k + 1)) by rw [HT.out, List.drop_eq_getElem_cons hkl])
      generalize l[k] = q at c1 c2 HFK HT2
      obtain ⟨x1, x2⟩ := q
      dsimp only at c1 c2 HFK HT2
      have HB2 := Lib.hid (show Below w.heap.size w (wr.alloc (.cells #[.int .i32 x1, .int .i32 x2] 38)) from HB.out.alloc HB.out.size _)
      clear hR2 hkl HT
      by_cases h1 : x1 < y
      · have HE := Lib.hid (show mayR 0 l = false by rw [HT2.out]; unfold mayR; rw [if_pos (.inl h1)])
        clear HT2
        go_wp2_with fail
        go_ret
        rw [HE.out]
        exact ⟨rfl, HB2.out⟩
      · by_cases h2 : x2 < x1
        · have HE := Lib.hid (show mayR 0 l = false by rw [HT2.out]; unfold mayR; rw [if_pos (.inr (.inl h2))])
          clear HT2
          go_wp2_with fail
          go_ret
          rw [HE.out]
          exact ⟨rfl, HB2.out⟩
        · by_cases h3 : 1114111 < x2
          · have HE := Lib.hid (show mayR 0 l = false by rw [HT2.out]; unfold mayR; rw [if_pos (.inr (.inr h3))])
            clear HT2
            go_wp2_with fail
            go_ret
            rw [HE.out]
            exact ⟨rfl, HB2.out⟩
          · have HE := Lib.hid (show mayR 0 l = mayR (x2 + 2) (l.drop (k + 1)) by rw [HT2.out]; conv => lhs; unfold mayR
                                                                                  rw [if_neg (by omega)])
            have hw : IntKind.i32.wrap (x2 + 2) = x2 + 2 := IntWalk.i32_in _ (by omega)
            clear HT2
            go_wp2_with fail
            go_roundw
            case rel => exact ⟨k + 1, x2 + 2, by omega, by go_num, by go_num, by omega, by omega, HE, HB2⟩
            case measure => simp [intOf]; omega
    · obtain rfl : k = n := by omega
      have HE := Lib.hid (show mayR 0 l = true by rw [HT.out, List.drop_eq_nil_of_le (by rw [HN.out]; exact Nat.le_refl _)]; rfl)
      go_wp2_with fail
      go_ret
      rw [HE.out]
      exact ⟨rfl, HB.out⟩
end Go.Proofs.YtipcbiecdabihaaGreat.Rset
