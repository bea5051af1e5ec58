/-
  CONTRACTS OF SameRunes and of both Named.
-/
import Derived.Test.YthpadpoomelhbaaDoorUcdFull
import Derived.BigQuiet
import Derived.Deep.QuietTactic
namespace Go.Proofs.YthpadpoomelhbaaDoor.Ucd
open Go.RowKit Utf

def nmGo : List UInt8 → Int → List UInt8 → Int × Bool
  | [], _, _ => (0, false)
  | c :: t, i, l => if (l == [c]) = true then (i + 1, true) else nmGo t (i + 1) l
/-- the category that a text names -/
def nmF (l : List UInt8) : Int × Bool := nmGo [76, 77, 78, 80, 83, 90, 67] 0 l

set_option maxHeartbeats 4000000 in
theorem named_any (s : ByteArray) (w : World) : Calls Tryd.prog 29 #[.string s] w fun e w' => e = .returned (.tuple #[.int .i64 (nmF s.toList).1, .bool (nmF s.toList).2]) ∧ w = w' := by
  go_enter Tryd.func29, Tryd.ntmps29
  go_wp2
  all_goals go_ret2
  all_goals exact ⟨by simp [nmF, nmGo, *], rfl⟩

def allL : List UInt8 := [76, 77, 78, 80, 83, 90, 67]
set_option maxHeartbeats 4000000 in
theorem rnamed_any (s : ByteArray) (w : World) : Calls Tryd.prog 30 #[.string s] w fun e w' => e = .returned (.tuple #[.int .i64 (nmF s.toList).1, .bool (nmF s.toList).2]) ∧ w = w' := by
  go_enter Tryd.func30, Tryd.ntmps30
  obtain ⟨T, hT⟩ : ∃ T : ByteArray, T = ⟨#[76, 77, 78, 80, 83, 90, 67]⟩ := ⟨_, rfl⟩
  rw [← hT]
  have hsz : T.size = 7 := by rw [hT]; rfl
  have HT := Lib.hid hT
  have HZ := Lib.hid hsz
  clear hT
  go_wp2
  clear hsz
  go_loop [5] (fun i => ∃ k : Nat, k ≤ 7 ∧ i = .int .i64 k ∧ Hid (nmGo (allL.drop k) k s.toList = nmF s.toList)) (fun i => 7 - (intOf i).toNat)
  case atStart => exact ⟨0, Nat.zero_le _, rfl, Lib.hid rfl⟩
  case round =>
    obtain ⟨k, hk, rfl, H⟩ := hrel
    have hsz := HZ.out
    by_cases hlt : k < 7
    · have ha : k < allL.length := hlt
      have hx : (T.extract k (k + 1)).toList = [allL[k]'ha] := by
        rw [HT.out]
        have : ∀ k : Fin 7, ((⟨#[76, 77, 78, 80, 83, 90, 67]⟩ : ByteArray).extract k.1 (k.1 + 1)).toList = [allL[k.1]'k.2] := by decide +kernel
        exact this ⟨k, hlt⟩
      have hs : ∀ u : World, (Instr.slice 9 (.string T) (some (.int .i64 k)) (some (.int .i64 ((k : Int) + 1))) none).run Tryd.prog u = .ok (.string (T.extract k (k + 1))) u := fun u => by
        have h := run_slice_string (P := Tryd.prog) u 9 T .i64 .i64 (k : Int) ((k : Int) + 1) Tryd.underlying9 (by omega) (by omega) (by rw [HZ.out]; omega)
        rwa [show ((k : Nat) : Int).toNat = k from by omega, show ((k : Int) + 1).toNat = k + 1 from by omega] at h
      have hd : nmGo (allL.drop k) k s.toList = if (s.toList == [allL[k]'ha]) = true then ((k : Int) + 1, true) else nmGo (allL.drop (k + 1)) (k + 1) s.toList := by
        rw [List.drop_eq_getElem_cons ha]; rfl
      have HX := Lib.hid hx
      have HD := Lib.hid hd
      generalize allL[k]'ha = c at HX HD hx
      clear hd ha
      by_cases hc : (s.toList == [c]) = true
      · have hc' : (s.toList == (T.extract k (k + 1)).toList) = true := by rw [HX.out]; exact hc
        have HC := Lib.hid hc
        clear hx hc
        go_wp2
        go_ret2
        exact ⟨by rw [← H.out, HD.out, if_pos HC.out]; rfl, rfl⟩
      · have hc' : (s.toList == (T.extract k (k + 1)).toList) = false := by rw [HX.out]; simpa using hc
        have HC := Lib.hid hc
        clear hx hc
        go_wp2
        go_round
        case rel => exact ⟨k + 1, by omega, by go_num, Lib.hid (by rw [← H.out, HD.out, if_neg HC.out]; rfl)⟩
        case measure => simp [intOf]; omega
    · go_wp2
      go_ret2
      obtain rfl : k = 7 := by omega
      exact ⟨by rw [← H.out]; rfl, rfl⟩

def same (a b : List Int) : Bool := decide (a = b)
theorem take_succ_eq {a b : List Int} {k : Nat} (ha : k < a.length) (hb : k < b.length) (h : a.take k = b.take k) (e : a[k] = b[k]) : a.take (k + 1) = b.take (k + 1) := by
  rw [List.take_succ_eq_append_getElem ha, List.take_succ_eq_append_getElem hb, h, e]
set_option maxHeartbeats 2000000 in
theorem same_any (A B : Option Addr) (a b : List Int) (n m c d : Nat) (w : World) (ha : Rd w w.heap.size A (nums a)) (hb : Rd w w.heap.size B (nums b)) (hn : a.length = n) (hm : b.length = m) (hn1 : n ≤ 1099511627776) (hm1 : m ≤ 1099511627776) :
    Calls Tryd.prog 22 #[.slice A n c, .slice B m d] w fun e w' => e = .returned (.bool (same a b)) ∧ ∃ k, w' = w.drewN k := by
  suffices H : Calls Tryd.prog 22 #[.slice A n c, .slice B m d] w (fun e w' => Hid (e = .returned (.bool (same a b)) ∧ ∃ k, w' = w.drewN k)) from H.mono fun e w' h => h.out
  by_cases hnm : n = m
  · subst hnm
    have HN := Lib.hid hn; have HM := Lib.hid hm
    clear hn hm
    go_enter Tryd.func22, Tryd.ntmps22
    go_wp2
    go_loopw [5] (fun i wr => ∃ k j : Nat, k ≤ n ∧ i = .int .i64 k ∧ Hid (a.take k = b.take k) ∧ Hid (wr = w.drewN j)) (fun i _ => n - (intOf i).toNat)
    case atStart => exact ⟨0, 0, Nat.zero_le _, rfl, Lib.hid rfl, Lib.hid rfl⟩
    case round =>
      obtain ⟨k, j, hk, rfl, HT, HJ⟩ := hrel
      by_cases hlt : k < n
      · have hka : k < a.length := by rw [HN.out]; exact hlt
        have hkb : k < b.length := by rw [HM.out]; exact hlt
        obtain ⟨ba, oa, rfl, _⟩ := ha.form (by rw [nums_len]; omega)
        obtain ⟨bb, ob, rfl, _⟩ := hb.form (by rw [nums_len]; omega)
        have hwr : ∀ p : Addr, wr.cell? p = w.cell? p := fun p => by rw [HJ.out]; rfl
        have a1 := ha.num hka
        have b1 := hb.num hkb
        rw [← hwr] at a1 b1
        have HTS := Lib.hid (take_succ_eq hka hkb HT.out)
        have HNE := Lib.hid (show a[k] ≠ b[k] → same a b = false from fun h => by unfold same; rw [decide_eq_false]; rintro rfl; exact h rfl)
        obtain ⟨x, hx⟩ : ∃ x, x = a[k] := ⟨_, rfl⟩
        obtain ⟨y, hy⟩ : ∃ y, y = b[k] := ⟨_, rfl⟩
        rw [← hx] at a1 HTS HNE
        rw [← hy] at b1 HTS HNE
        clear hx hy hwr HT
        by_cases hxy : x = y
        · subst hxy
          go_wp2_with fail
          go_quiet (fail)
          go_wp2
          go_roundw
          case rel => exact ⟨k + 1, _, by omega, by go_num, Lib.hid (HTS.out trivial), Lib.hid (by rw [HJ.out, World.drewN_drewN])⟩
          case measure => simp [intOf]; omega
        · have hne : (x != y) = true := by simpa using hxy
          have HF := Lib.hid (HNE.out hxy)
          clear hxy
          go_wp2_with fail
          go_quiet (fail)
          go_wp2
          go_ret
          exact Lib.hid ⟨by rw [HF.out]; rfl, _, by rw [HJ.out, World.drewN_drewN]⟩
      · have hkn : k = n := by omega
        have HF := Lib.hid (show same a b = true by
          have := HT.out
          rw [List.take_of_length_le (by have := HN.out; omega), List.take_of_length_le (by have := HM.out; omega)] at this
          unfold same; exact decide_eq_true this)
        clear hkn
        go_wp2
        go_ret
        exact Lib.hid ⟨by rw [HF.out]; rfl, _, HJ.out⟩
  · have hs : same a b = false := by unfold same; rw [decide_eq_false]; rintro rfl; exact hnm (hn.symm.trans hm)
    have HS := Lib.hid hs
    have hne : ((n : Int) == (m : Int)) = false := by simp; omega
    have hne2 : ((n : Int) != (m : Int)) = true := by simp; omega
    clear hs hn hm hnm
    go_enter Tryd.func22, Tryd.ntmps22
    go_wp2
    go_ret
    exact Lib.hid ⟨by rw [HS.out]; rfl, 0, rfl⟩
end Go.Proofs.YthpadpoomelhbaaDoor.Ucd
