/-
  CONTRACT OF Decode.
-/
import Derived.Test.YtipcbiecdabihaaGreatUtfWrite2
namespace Go.Proofs.YtipcbiecdabihaaGreat.Utf
open Go.RowKit
set_option maxRecDepth 100000

theorem close_any (g n q : Nat) (k0 k1 k2 : UInt8) (b : Bool) (w : World) (h : Dc w g k0 k1 k2 n q b) : Calls Tryz.prog 85 #[.pointer (some ⟨g, 0, none⟩)] w (Closed w g k0 k1 k2 n q) := by
  by_cases hn : n = 0
  · subst hn; exact close_zero g q k0 k1 k2 b w h
  · exact close_some g n q k0 k1 k2 b w h hn
theorem write_any (g n q m c : Nat) (k0 k1 k2 : UInt8) (A : Option Addr) (l : List UInt8) (w : World) (h : Dc w g k0 k1 k2 n q false) (hn3 : n ≤ 3) (hr : Rd w w.heap.size A (bys l)) (hm : l.length = m) (hc : m ≤ c) (hcm : c ≤ 9223372036854775807) (hb : m ≤ 1099511627770) (hq : q ≤ 1099511627776) :
    Calls Tryz.prog 84 #[.pointer (some ⟨g, 0, none⟩), .slice A m c] w (Wrote w g q (kept k0 k1 k2 n ++ l)) := by
  by_cases hn : n = 0
  · subst hn
    exact write_zero g q m c k0 k1 k2 A l w h hr hm hc hcm (by omega) hq
  · exact write_some g n q m c k0 k1 k2 A l w h (by omega) hn3 hr hm hb hq

theorem last_len (n q : Nat) : (last n q).length ≤ 1 := by unfold last; split <;> simp

set_option maxHeartbeats 1000000 in
theorem decode_any (A : Option Addr) (l : List UInt8) (m c : Nat) (w : World) (hr : Rd w w.heap.size A (bys l)) (hm : l.length = m) (hc : m ≤ c) (hcm : c ≤ 9223372036854775807) (hb : m ≤ 1099511627770) :
    Calls Tryz.prog 58 #[.slice A m c] w (Pts w (dec false 0 l)) := by
  obtain ⟨i0, hi, hz0, hz1, hz2⟩ := info_parts infoPt
  have hwr : ∀ u : World, u = w.alloc (.cells (dcs 0 0 0 0 0 false).toArray 107) → Calls Tryz.prog 84 #[.pointer (some ⟨w.heap.size, 0, none⟩), .slice A m c] u (Wrote u w.heap.size 0 l) := by
    intro u hu
    subst hu
    exact write_any w.heap.size 0 0 m c 0 0 0 A l _ (Blk.new w _ _) (by omega) ((hr.alloc (Nat.le_refl _) _).more (by simp)) hm hc hcm hb (by omega)
  have hdc := dec_close 0 l
  have hlen := dec_len_le true l 0
  rw [hm] at hlen
  have HWR := Lib.hid hwr
  have HDC := Lib.hid hdc
  clear hwr hdc hr hm
  go_enter Tryz.func58, Tryz.ntmps58
  go_wp2_with fail
  refine (new_any _).mono ?_
  rintro e w1 ⟨rfl, hw1⟩
  have hb1 : Below w.heap.size w w1 := by rw [hw1]; exact (Below.refl _ _).alloc (Nat.le_refl _) _
  have hs1 : w1.heap.size = w.heap.size + 1 := by rw [hw1]; simp
  have hcall := HWR.out w1 hw1
  have HC := Lib.hid hcall
  have HS := Lib.hid hs1
  clear hw1 hcall hs1
  go_wp2_with fail
  refine HC.out.mono ?_
  rintro e w2 ⟨v, k0, k1, k2, rfl, hown, hD, hk, hg⟩
  obtain ⟨P, hP⟩ : ∃ P, P = dec true 0 l := ⟨_, rfl⟩
  obtain ⟨n, hn⟩ : ∃ n, n = l.length - eat l := ⟨_, rfl⟩
  obtain ⟨q, hq⟩ : ∃ q, q = 0 + eat l := ⟨_, rfl⟩
  rw [← hP] at hown hlen
  rw [← hn, ← hq] at hD
  have HP : Hid (dec false 0 l = P ++ last n q) := Lib.hid (by rw [HDC.out, hP, hn, hq]; rfl)
  have hcl := close_any _ _ _ _ _ _ _ w2 hD
  have HCL := Lib.hid hcl
  have HD := Lib.hid hD
  have hs2 : w.heap.size ≤ w2.heap.size := Nat.le_trans hb1.size hg.size
  have hbw2 : Below w.heap.size w w2 := ⟨hg.os.trans hb1.os, hg.tape.trans hb1.tape, hg.output.trans hb1.output, hs2, fun k hk => (hg.block k (by have := hb1.size; omega) (by simp; omega)).trans (hb1.block k hk)⟩
  clear hP hn hq hk hcl hD HDC
  go_wp2_with fail
  refine HCL.out.mono ?_
  rintro e w3 ⟨A3, rfl, hr3, hD3, hg3⟩
  have hl3 := last_len n q
  obtain ⟨L, hL⟩ : ∃ L, L = last n q := ⟨_, rfl⟩
  rw [← hL] at hr3 hl3 ⊢
  have HP2 : Hid (dec false 0 l = P ++ L) := Lib.hid (by rw [hL]; exact HP.out)
  clear hL
  have hown3 := own_base (hown.kept hg3 (.inr (own_ne hown HD.out (by decide)))) hb1.size
  have hs3 : w.heap.size ≤ w3.heap.size := Nat.le_trans hs2 hg3.size
  have hbw3 : Below w.heap.size w w3 := ⟨hg3.os.trans hbw2.os, hg3.tape.trans hbw2.tape, hg3.output.trans hbw2.output, hs3, fun k hk => (hg3.block k (by omega) (by simp; omega)).trans (hbw2.block k hk)⟩
  clear hown hg hg3
  go_wp2_with (first
    | (at_builtin; refine wpList_append_rd _ rfl (.tmp 9) (.tmp 11) _ rfl w.heap.size 58 i0 _ 3 24 Tryz.underlying55 hi hz0 hz1 hz2 rfl (by decide) _ _ _ rfl hown3 w3.heap.size A3 _ _ (pts L) rfl (pts_len L) hr3 (pts_one L) (by unfold maxLen; omega) (by omega) hs3 ?_; intro v4 w4 hown4 hgr4 hat4))
  go_ret
  refine ⟨v4, rfl, ?_, hbw3.grown hgr4 hs3 (fun g hg => (hown3.lt g hg).1)⟩
  rw [HP2.out, List.length_append, pts_append]
  exact hown4
end Go.Proofs.YtipcbiecdabihaaGreat.Utf
