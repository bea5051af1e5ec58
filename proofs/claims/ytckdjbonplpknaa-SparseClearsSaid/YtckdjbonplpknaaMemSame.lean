/-
  CONTRACT OF SameNumbers: two lists of numbers compared.
-/
import Derived.Test.YtckdjbonplpknaaMemWords
import Derived.Deep.QuietTactic
import Derived.BigQuiet
namespace Go.Proofs.Ytckdjbonplpknaa.Mem
open Go.RowKit
set_option maxRecDepth 100000

theorem take_succ_eq {a b : List Int} {k : Nat} (ha : k < a.length) (hb : k < b.length) (h : a.take k = b.take k) (e : a[k] = b[k]) : a.take (k + 1) = b.take (k + 1) := by
  rw [List.take_succ_eq_append_getElem ha, List.take_succ_eq_append_getElem hb, h, e]
set_option maxHeartbeats 2000000 in
theorem same_nums (A B : Option Addr) (a b : List Int) (n m c d : Nat) (w : World) (ha : Rd w w.heap.size A (ks .i64 a)) (hb : Rd w w.heap.size B (ks .i64 b)) (hn : a.length = n) (hm : b.length = m) (hn1 : n ≤ 4611686018427387904) :
    Calls Try.prog 10 #[.slice A n c, .slice B m d] w (Draws w (.bool (decide (a = b)))) := by
  suffices H : Calls Try.prog 10 #[.slice A n c, .slice B m d] w (fun e w' => Hid (Draws w (.bool (decide (a = b))) e w')) from H.mono fun e w' h => h.out
  by_cases hnm : n = m
  · subst hnm
    have HN := Lib.hid hn; have HM := Lib.hid hm
    clear hn hm
    go_enter Try.func10, Try.ntmps10
    go_wp2
    go_loopw [5] (fun i wr => ∃ k j : Nat, k ≤ n ∧ i = .int .i64 k ∧ Hid (a.take k = b.take k) ∧ Hid (wr = w.drewN j)) (fun i _ => n - (intOf i).toNat)
    case atStart => exact ⟨0, 0, Nat.zero_le _, rfl, Lib.hid rfl, Lib.hid rfl⟩
    case round =>
      obtain ⟨k, j, hk, rfl, HT, HJ⟩ := hrel
      by_cases hlt : k < n
      · have hka : k < a.length := by rw [HN.out]; exact hlt
        have hkb : k < b.length := by rw [HM.out]; exact hlt
        obtain ⟨ba, oa, rfl, _⟩ := rd_form ha (by omega)
        obtain ⟨bb, ob, rfl, _⟩ := rd_form hb (by omega)
        have hwr : ∀ p : Addr, wr.cell? p = w.cell? p := fun p => by rw [HJ.out]; rfl
        have a1 := rd_k ha hka
        have b1 := rd_k hb hkb
        rw [← hwr] at a1 b1
        have HTS := Lib.hid (take_succ_eq hka hkb HT.out)
        have HNE := Lib.hid (show a[k] ≠ b[k] → ¬ a = b from fun h => by rintro rfl; exact h rfl)
        obtain ⟨x, hx⟩ : ∃ x, x = a[k] := ⟨_, rfl⟩
        obtain ⟨y, hy⟩ : ∃ y, y = b[k] := ⟨_, rfl⟩
        rw [← hx] at a1 HTS HNE
        rw [← hy] at b1 HTS HNE
        clear hx hy hwr HT
        by_cases hxy : x = y
        · subst hxy
          have hq : (x != x) = false := by simp
          go_wp2_with fail
          go_quiet (fail)
          go_wp2
          go_roundw
          case rel => exact ⟨k + 1, _, by omega, by go_num, Lib.hid (HTS.out trivial), Lib.hid (by rw [HJ.out, World.drewN_drewN])⟩
          case measure => simp [intOf]; omega
        · have hq : (x != y) = true := by simpa using hxy
          have HF := Lib.hid (HNE.out hxy)
          clear hxy
          go_wp2_with fail
          go_quiet (fail)
          go_wp2
          go_ret
          exact Lib.hid ⟨by rw [decide_eq_false HF.out]; rfl, _, by rw [HJ.out, World.drewN_drewN]⟩
      · have hkn : k = n := by omega
        have HF := Lib.hid (show a = b by
          have := HT.out
          rwa [List.take_of_length_le (by have := HN.out; omega), List.take_of_length_le (by have := HM.out; omega)] at this)
        clear hkn
        go_wp2
        go_ret
        exact Lib.hid ⟨by rw [decide_eq_true HF.out]; rfl, _, HJ.out⟩
  · have hs : ¬ a = b := by rintro rfl; exact hnm (hn.symm.trans hm)
    have HS := Lib.hid hs
    have hne : ((n : Int) == (m : Int)) = false := by simp; omega
    have hne2 : ((n : Int) != (m : Int)) = true := by simp; omega
    clear hs hn hm hnm
    go_enter Try.func10, Try.ntmps10
    go_wp2
    go_ret
    exact Lib.hid ⟨by rw [decide_eq_false HS.out]; rfl, 0, rfl⟩
theorem draws_below {w w' : World} {v : Value} {e : Ending} (h : Draws w v e w') : Ret w v e w' := by
  obtain ⟨rfl, k, rfl⟩ := h
  exact ⟨rfl, below_drewN (Below.refl _ _) k⟩
theorem same_yes (A B : Option Addr) (a b : List Int) (n m c d : Nat) (w : World) (ha : Rd w w.heap.size A (ks .i64 a)) (hb : Rd w w.heap.size B (ks .i64 b)) (hn : a.length = n) (hm : b.length = m) (hn1 : n ≤ 4611686018427387904) (h : a = b) :
    Calls Try.prog 10 #[.slice A n c, .slice B m d] w (Ret w (.bool true)) :=
  (same_nums A B a b n m c d w ha hb hn hm hn1).mono fun e w' hd => by
    have := draws_below hd
    rwa [decide_eq_true h] at this
end Go.Proofs.Ytckdjbonplpknaa.Mem
