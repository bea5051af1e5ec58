/-
  CONTRACT OF Has, and of what it calls of slices.
-/
import Derived.Test.YtipcbiecdabihaaGreatRsetCalls
namespace Go.Proofs.YtipcbiecdabihaaGreat.Rset
set_option maxRecDepth 100000
open Go.RowKit
open Utf (Rd Blk wpList_append_rd own_ne)

theorem has1_any (x1 x2 r : Int) (gb : Nat) (w : World) (hc : w.cell? ⟨gb, 0, none⟩ = some (.int .i32 r)) (hg : gb < w.heap.size) :
    Calls Tryz.prog 60 #[.agg #[.int .i32 x1, .int .i32 x2], .pointer (some ⟨gb, 0, none⟩)] w (Ret w (.bool (inn (x1, x2) r))) := by
  have HE := Lib.hid (show inn (x1, x2) r = (decide (x1 ≤ r) && decide (r ≤ x2)) from rfl)
  by_cases h : x1 ≤ r
  · have hd : decide (x1 ≤ r) = true := decide_eq_true h
    have HE2 := Lib.hid (HE.out.trans (by rw [hd, Bool.true_and]))
    clear h HE
    go_enter Tryz.func60, Tryz.ntmps60
    go_wp2_with fail
    go_ret
    exact ⟨ret_bool HE2.out.symm, (Below.refl _ _).alloc (Nat.le_refl _) _⟩
  · have hd : decide (x1 ≤ r) = false := decide_eq_false h
    have HE2 := Lib.hid (HE.out.trans (by rw [hd, Bool.false_and]))
    clear h HE
    go_enter Tryz.func60, Tryz.ntmps60
    go_wp2_with fail
    go_ret
    exact ⟨ret_bool HE2.out.symm, (Below.refl _ _).alloc (Nat.le_refl _) _⟩

theorem anyIn_take (l : List Rg) (x : Int) (k : Nat) (hk : k < l.length) : anyIn (l.take (k + 1)) x = (anyIn (l.take k) x || inn l[k] x) := by
  rw [List.take_succ_eq_append_getElem hk, anyIn_append, anyIn_one]
theorem anyIn_of_get {l : List Rg} {x : Int} {k : Nat} (hk : k < l.length) (h : inn l[k] x = true) : anyIn l x = true := by
  unfold anyIn; rw [List.any_eq_true]; exact ⟨_, List.getElem_mem hk, h⟩

/-- a place, or -1 -/
def Found (b : Bool) (w : World) (e : Ending) (w' : World) : Prop := ∃ i : Int, e = .returned (.int .i64 i) ∧ decide (0 ≤ i) = b ∧ Below w.heap.size w w'
set_option maxHeartbeats 2000000 in
theorem index_any (A : Option Addr) (l : List Rg) (n c gb : Nat) (r : Int) (w : World) (ha : Rd w w.heap.size A (rgs l)) (hn : l.length = n) (hn1 : n ≤ 1099511627776) (hc : w.cell? ⟨gb, 0, none⟩ = some (.int .i32 r)) (hg : gb < w.heap.size) :
    Calls Tryz.prog 86 #[.slice A n c, .func (.func 60) #[] #[.pointer (some ⟨gb, 0, none⟩)]] w (Found (anyIn l r) w) := by
  have eg : ∀ args w, (callFunc 60 args).run Tryz.prog w = .ok (.enter 60 args) w := enters_of Tryz.func60 (by kernel_rfl) rfl
  have HA := Lib.hid ha; have HN := Lib.hid hn; have HC := Lib.hid hc; have HG := Lib.hid hg
  clear ha hn hc hg
  go_enter Tryz.func86, Tryz.ntmps86
  go_wp2_with fail
  go_loopw [8] (fun i wr => ∃ k : Nat, k ≤ n ∧ i = .int .i64 k ∧ Hid (anyIn (l.take k) r = false) ∧ Hid (Below w.heap.size w wr)) (fun i _ => n - (intOf i).toNat)
  case atStart => exact ⟨0, Nat.zero_le _, rfl, Lib.hid rfl, Lib.hid (Below.refl _ _)⟩
  case round =>
    obtain ⟨k, hk, rfl, HT, HW⟩ := hrel
    by_cases hlt : k < n
    · have hkl : k < l.length := by rw [HN.out]; exact hlt
      have hR2 := HA.out.below HW.out
      obtain ⟨b, o, rfl, hb⟩ := rd_form_rg hR2 (by omega)
      obtain ⟨c1, c2⟩ := rd_rg hR2 hkl
      have HTK := Lib.hid (anyIn_take l r k hkl)
      have HON := Lib.hid (fun h => anyIn_of_get (x := r) hkl h)
      generalize l[k] = q at *
      obtain ⟨x1, x2⟩ := q
      dsimp only at *
      have HF := Lib.hid (has1_any x1 x2 r gb wr ((HW.out.cell (p := ⟨gb, 0, none⟩) HG.out).trans HC.out) (Nat.lt_of_lt_of_le HG.out HW.out.size))
      clear hR2 hkl
      cases hb : inn (x1, x2) r with
      | true =>
        rw [hb] at HF
        have HE := Lib.hid (HON.out hb)
        clear hb
        go_wp2_with (go_at_fn 60; refine HF.out.mono ?_; rintro e w1 ⟨rfl, hb1⟩; have HB1 := Lib.hid (HW.out.trans (hb1.mono HW.out.size)); clear hb1)
        go_ret
        refine ⟨k, rfl, ?_, HB1.out⟩
        rw [HE.out, decide_eq_true_eq]; omega
      | false =>
        rw [hb] at HF
        have HE := Lib.hid (show anyIn (l.take (k + 1)) r = false by rw [HTK.out, HT.out, hb]; rfl)
        clear hb
        go_wp2_with (go_at_fn 60; refine HF.out.mono ?_; rintro e w1 ⟨rfl, hb1⟩; have HB1 := Lib.hid (HW.out.trans (hb1.mono HW.out.size)); clear hb1)
        go_roundw
        case rel => exact ⟨k + 1, by omega, by go_num, HE, HB1⟩
        case measure => simp [intOf]; omega
    · have HE := Lib.hid (show anyIn l r = false by
        have := HT.out
        rwa [List.take_of_length_le (by have := HN.out; omega)] at this)
      go_wp2_with fail
      go_ret
      refine ⟨-1, rfl, ?_, HW.out⟩
      rw [HE.out]; rfl
theorem contains_any (A : Option Addr) (l : List Rg) (n c gb : Nat) (r : Int) (w : World) (ha : Rd w w.heap.size A (rgs l)) (hn : l.length = n) (hn1 : n ≤ 1099511627776) (hc : w.cell? ⟨gb, 0, none⟩ = some (.int .i32 r)) (hg : gb < w.heap.size) :
    Calls Tryz.prog 59 #[.slice A n c, .func (.func 60) #[] #[.pointer (some ⟨gb, 0, none⟩)]] w (Ret w (.bool (anyIn l r))) := by
  have HC := Lib.hid (index_any A l n c gb r w ha hn hn1 hc hg)
  clear ha hn hc hg
  go_enter Tryz.func59, Tryz.ntmps59
  go_wp2_with fail
  refine HC.out.mono ?_
  rintro e w1 ⟨i, rfl, hi, hb⟩
  have HI := Lib.hid hi; have HB := Lib.hid hb
  clear hi hb HC
  go_wp2_with fail
  go_ret
  exact ⟨ret_bool HI.out, HB.out⟩
theorem has_any (A : Option Addr) (l : List Rg) (n c : Nat) (r : Int) (w : World) (ha : Rd w w.heap.size A (rgs l)) (hn : l.length = n) (hn1 : n ≤ 1099511627776) :
    Calls Tryz.prog 38 #[.slice A n c, .int .i32 r] w (Ret w (.bool (has l r))) := by
  by_cases h0 : r < 0
  · have HE := Lib.hid (show has l r = false from has_out (by rw [Bool.eq_false_iff, Ne, inR_iff]; omega))
    have hd : decide (r < 0) = true := decide_eq_true h0
    clear ha h0
    go_enter Tryz.func38, Tryz.ntmps38
    go_wp2_with fail
    go_ret
    exact ⟨ret_bool HE.out.symm, (Below.refl _ _).alloc (Nat.le_refl _) _⟩
  · have hd : decide (r < 0) = false := decide_eq_false h0
    by_cases h1 : 1114111 < r
    · have HE := Lib.hid (show has l r = false from has_out (by rw [Bool.eq_false_iff, Ne, inR_iff]; omega))
      have hd1 : decide (1114111 < r) = true := decide_eq_true h1
      clear ha h0 h1
      go_enter Tryz.func38, Tryz.ntmps38
      go_wp2_with fail
      go_ret
      exact ⟨ret_bool HE.out.symm, (Below.refl _ _).alloc (Nat.le_refl _) _⟩
    · have HE := Lib.hid (show has l r = anyIn l r by unfold has; rw [inR_iff.2 ⟨by omega, by omega⟩, Bool.true_and])
      have hd1 : decide (1114111 < r) = false := decide_eq_false h1
      obtain ⟨W0, hW0⟩ : ∃ W0, W0 = w.alloc (.cells #[.int .i32 r] 21) := ⟨_, rfl⟩
      have hb0 : Below w.heap.size w W0 := by rw [hW0]; exact (Below.refl _ _).alloc (Nat.le_refl _) _
      have hbk : Blk W0 w.heap.size 21 [.int .i32 r] := by rw [hW0]; exact Blk.new w _ [.int .i32 r]
      have HC := Lib.hid (contains_any A l n c w.heap.size r W0 ((ha.below hb0).more hb0.size) hn hn1 (hbk.cell 0) hbk.lt)
      have HB := Lib.hid hb0
      have HW := Lib.hid hW0
      clear ha h0 h1 hb0 hbk hW0 hn
      go_enter Tryz.func38, Tryz.ntmps38
      go_wp2_with fail
      rw [← HW.out]
      refine HC.out.mono ?_
      rintro e w1 ⟨rfl, hb⟩
      have HB2 := Lib.hid (HB.out.trans (hb.mono HB.out.size))
      clear hb
      go_wp2_with fail
      go_ret
      exact ⟨ret_bool HE.out.symm, HB2.out⟩
end Go.Proofs.YtipcbiecdabihaaGreat.Rset
