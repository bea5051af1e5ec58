/-
  CONTRACTS OF Encode, THE CODE's AND THE DOCUMENT's.
-/
import Derived.Test.YtipcbiecdabihaaGreatUtfEnc
namespace Go.Proofs.YtipcbiecdabihaaGreat.Utf
open Go.RowKit
set_option maxRecDepth 100000

def Bs (w : World) (l : List UInt8) (e : Ending) (w' : World) : Prop :=
  ∃ v, e = .returned v ∧ w'.ownsRow w.heap.size 5 1 v l.length (bys l) ∧ Below w.heap.size w w'
theorem bs_of {w w' : World} {v : Value} {H : Nat} {l m : List UInt8} (hH : H = w.heap.size) (h1 : l = m) (hown : w'.ownsRow H 5 1 v l.length (bys l)) (hb : Below H w w') : Bs w m (.returned v) w' := by
  subst hH h1
  exact ⟨v, rfl, hown, hb⟩
theorem enc_step {l : List Int} {k : Nat} (h : k < l.length) : enc (l.take (k + 1)) = enc (l.take k) ++ encN (fix l[k]) := by
  rw [List.take_succ_eq_append_getElem h, enc_append]; simp [enc]

set_option maxHeartbeats 1000000 in
theorem rencode_any (A : Option Addr) (l : List Int) (n c : Nat) (w : World) (hr : Rd w w.heap.size A (nums l)) (hn : l.length = n) (hb : 4 * n ≤ 140737488355320) :
    Calls Tryz.prog 30 #[.slice A n c] w (Bs w (enc l)) := by
  have HN := Lib.hid hn
  obtain ⟨H, hH⟩ : ∃ H, H = w.heap.size := ⟨_, rfl⟩
  rw [← hH] at hr
  have HH := Lib.hid hH
  clear hH hn
  go_enter Tryz.func30, Tryz.ntmps30
  go_wp2
  go_loopw [3, 4] (fun v i wr => ∃ (k : Nat) (m : List UInt8), k ≤ n ∧ i = .int .i64 k ∧ wr.ownsRow H 5 1 v m.length (bys m) ∧ Hid (m = enc (l.take k)) ∧ m.length ≤ 4 * k ∧ Below H w wr)
    (fun _ i _ => n - (intOf i).toNat)
  case atStart => exact ⟨0, [], Nat.zero_le _, rfl, World.ownsRow_nil _ _ _ _, Lib.hid rfl, Nat.le_refl _, Below.refl _ _⟩
  case round =>
    obtain ⟨k, m, hk, rfl, hown, HD, hmk, hbel⟩ := hrel
    have hsz : H ≤ wr.heap.size := by have := hbel.size; rw [HH.out]; exact this
    by_cases hlt : k < n
    · have hkl : k < l.length := by rw [HN.out]; exact hlt
      obtain ⟨b, o, rfl, hbH⟩ := hr.form (by rw [nums_len]; omega)
      have hcell : wr.cell? ⟨b, o + k, none⟩ = some (.int .i32 l[k]) := (hr.below hbel).num hkl
      have HST := Lib.hid (enc_step hkl)
      obtain ⟨r, hr'⟩ : ∃ r, r = l[k] := ⟨_, rfl⟩
      rw [← hr'] at hcell HST
      have hlay := put_any H _ m.length (bys m) r wr hown hsz (by omega)
      have HL := Lib.hid hlay
      have hel := encN_le (fix r)
      clear hlay hr' hr hkl
      go_wp2_with (first
        | (go_at_call 49; refine HL.out.mono ?_; rintro e w1 ⟨v1, rfl, hown1, hb1⟩))
      go_roundw
      case rel => exact ⟨k + 1, m ++ encN (fix r), by omega, by go_num, by rw [bys_append, List.length_append]; exact hown1, Lib.hid (by rw [HST.out, HD.out]), by rw [List.length_append]; omega, hbel.trans (hb1 H rfl hsz (fun g hg => (hown.lt g hg).1))⟩
      case measure => simp [intOf]; omega
    · have F1 := Lib.hid (show m = enc l by rw [HD.out, List.take_of_length_le (by have := HN.out; omega)])
      clear HD
      go_wp2
      go_ret
      exact bs_of HH.out F1.out hown hbel
end Go.Proofs.YtipcbiecdabihaaGreat.Utf
