/-
  CONTRACT OF THE JOIN: the code point of a whole sequence.
-/
import Derived.Test.YtipcbiecdabihaaGreatUtfSmall
namespace Go.Proofs.YtipcbiecdabihaaGreat.Utf
open Go.RowKit
set_option maxRecDepth 100000

theorem zeros_need : ∀ x : Fin 256, need x.val ≠ 0 → 8 - Lib.bitLen (255 - x.val) = if need x.val = 1 then 0 else need x.val := by decide +kernel
theorem need_bounds : ∀ x : Fin 256, (need x.val = 1 → x.val < 128) ∧ (need x.val = 2 → 194 ≤ x.val ∧ x.val ≤ 223) ∧ (need x.val = 3 → 224 ≤ x.val ∧ x.val ≤ 239) ∧ (need x.val = 4 → 240 ≤ x.val ∧ x.val ≤ 244) := by decide +kernel
theorem joinTo_go {t : List UInt8} {k r : Nat} (hk : k < t.length) : joinTo r (t.drop k) = joinTo (r * 64 + t[k].toNat % 64) (t.drop (k + 1)) := by
  rw [List.drop_eq_getElem_cons hk]; rfl
theorem grow_go {m k r y : Nat} (hk : k < m) (h : (r + 1) * 64 ^ (m - k) ≤ 2097152) : (r + 1) * 64 ≤ 2097152 ∧ (r * 64 + y % 64 + 1) * 64 ^ (m - (k + 1)) ≤ 2097152 := by
  obtain ⟨d, hd⟩ : ∃ d, m - k = d + 1 := ⟨m - k - 1, by omega⟩
  have hd' : m - (k + 1) = d := by omega
  have hp : 1 ≤ 64 ^ d := Nat.one_le_pow _ _ (by omega)
  have hy : y % 64 < 64 := Nat.mod_lt _ (by omega)
  rw [hd, Nat.pow_succ] at h
  rw [hd']
  have e : (r + 1) * (64 ^ d * 64) = ((r + 1) * 64) * 64 ^ d := by rw [Nat.mul_comm (64 ^ d) 64, Nat.mul_assoc]
  rw [e] at h
  exact ⟨Nat.le_trans (Nat.le_mul_of_pos_right _ hp) h, Nat.le_trans (Nat.mul_le_mul_right _ (by omega)) h⟩

theorem lead_ne (x n : Nat) (h : n ≠ 1) : lead x n = x % 2 ^ (7 - n) := by unfold lead; rw [if_neg h]
theorem xor_all : ∀ x : Fin 256, bits BinOp.xor IntKind.u8 IntKind.u8.max (x.val : Int) = ((255 - x.val : Nat) : Int) := by decide +kernel
theorem ones_any (x : Nat) (m : Int) (hx : x < 256) (h : ((8 - Lib.bitLen (255 - x) : Nat) : Int) = m) (w : World) :
    Calls Tryz.prog 125 #[.int .u8 (bits BinOp.xor IntKind.u8 IntKind.u8.max (x : Int))] w fun e w' => e = .returned (.int .i64 m) ∧ w = w' := by
  rw [xor_all ⟨x, hx⟩]
  refine (zeros_any ((255 - x : Nat) : Int) w (by omega) (by omega)).mono fun e w' ⟨he, hw⟩ => ⟨?_, hw⟩
  rw [he, Int.toNat_natCast, h]

set_option maxHeartbeats 1000000 in
theorem join_any (A : Option Addr) (l : List UInt8) (c B : Nat) (w : World) (hr : Rd w B A (bys l)) (hne : 0 < l.length) (hnd : l.length = nd l) (hc : l.length ≤ c) (hcm : c ≤ 9223372036854775807) :
    Calls Tryz.prog 115 #[.slice A l.length c] w fun e w' => e = .returned (.int .i32 (joined l)) ∧ w = w' := by
  obtain ⟨b, o, rfl, hb⟩ := hr.form (by rw [bys_len]; exact hne)
  cases l with
  | nil => simp at hne
  | cons q t =>
  have hcell0 : w.cell? ⟨b, o, none⟩ = some (.int .u8 q.toNat) := hr.byte (k := 0) hne
  have hrt : ∀ k (h : k < t.length), w.cell? ⟨b, o + 1 + k, none⟩ = some (.int .u8 t[k].toNat) := fun k h => by
    have := hr.byte (k := k + 1) (by simpa using h)
    rw [show o + 1 + k = o + (k + 1) from by omega, this]; rfl
  have hq : q.toNat < 256 := q.toNat_lt
  have hz := zeros_need ⟨q.toNat, hq⟩
  obtain ⟨b1, b2, b3, b4⟩ := need_bounds ⟨q.toNat, hq⟩
  simp only [nd, List.length_cons, joined] at hnd hc hz b1 b2 b3 b4 ⊢
  obtain ⟨x, hx⟩ : ∃ x, x = q.toNat := ⟨_, rfl⟩
  rw [← hx] at hcell0 hq hnd hz b1 b2 b3 b4 ⊢
  have hn4 := need_le x
  have HRT : Hid (∀ k (h : k < t.length), w.cell? ⟨b, o + 1 + k, none⟩ = some (.int .u8 t[k].toNat)) := hrt
  clear hrt hr hx
  by_cases hn1 : need x = 1
  · have hz1 : ((8 - Lib.bitLen (255 - x) : Nat) : Int) = 0 := by rw [hz (by omega), if_pos hn1]; rfl
    have ht : t = [] := List.eq_nil_of_length_eq_zero (by omega)
    subst ht
    have hx128 := b1 hn1
    have HZ := Lib.hid hz1
    clear hz hz1 b1 b2 b3 b4 hn1 hnd HRT
    have hp : (0 : Int) < ((0 + 1 : Nat) : Int) := by omega
    show Calls _ _ #[.slice _ 1 c] _ _
    go_enter Tryz.func115, Tryz.ntmps115
    go_wp2_with (first
      | (go_at_call 125; refine (ones_any x 0 hq HZ.out _).mono ?_; rintro e w' ⟨rfl, rfl⟩))
    all_goals
      refine wp_loop_rounds 1 ?_
      rw [rounds_succ]
      go_wp2
      go_ret
      exact ⟨rfl, rfl⟩
  · have hcase : (t.length = 1 ∧ need x = 2 ∧ 194 ≤ x ∧ x ≤ 223) ∨ (t.length = 2 ∧ need x = 3 ∧ 224 ≤ x ∧ x ≤ 239) ∨ (t.length = 3 ∧ need x = 4 ∧ 240 ≤ x ∧ x ≤ 244) := by omega
    have hz' : ((8 - Lib.bitLen (255 - x) : Nat) : Int) = (need x : Int) := by rw [hz (by omega), if_neg hn1]
    have HZ := Lib.hid hz'
    clear hz hz' b1 b2 b3 b4 hn1
    obtain ⟨m, hm⟩ : ∃ m, m = t.length := ⟨_, rfl⟩
    have HM := Lib.hid hm
    rw [← hm] at hnd hc hcase ⊢
    clear hm
    obtain ⟨J, hJ⟩ : ∃ J, J = joinTo (lead x (m + 1)) t := ⟨_, rfl⟩
    rw [← hJ]
    have HJ0 := Lib.hid hJ
    clear hJ
    rcases hcase with ⟨rfl, h2, h3, h4⟩ | ⟨rfl, h2, h3, h4⟩ | ⟨rfl, h2, h3, h4⟩
    all_goals
      have HZ' : Hid (((8 - Lib.bitLen (255 - x) : Nat) : Int) = ((need x : Nat) : Int)) := HZ
      clear HZ
      rw [h2] at HZ'
      clear hnd hn4 h2
      go_enter Tryz.func115, Tryz.ntmps115
      go_wp2_with (first
        | (go_at_call 125; refine (ones_any x _ hq HZ'.out _).mono ?_; rintro e w' ⟨rfl, rfl⟩))
      have HJ : Hid (joinTo (lead x (t.length + 1)) t = J) := by rw [← HM.out]; exact HJ0.out.symm
      have HL : Hid (lead x (t.length + 1) < 64 ∧ (lead x (t.length + 1) + 1) * 64 ^ t.length ≤ 2097152) := by
        rw [← HM.out]; rw [lead_ne _ _ (by omega)]; simp only [Nat.reduceAdd, Nat.reduceSub, Nat.reducePow]; exact ⟨by omega, by omega⟩
      go_loop [4, 23] (fun r i => ∃ k z : Nat, k ≤ 3 ∧ Hid (k ≤ t.length) ∧ Hid (joinTo z (t.drop k) = J) ∧ Hid ((z + 1) * 64 ^ (t.length - k) ≤ 2097152) ∧ z ≤ 2097151 ∧ r = .int .i32 z ∧ i = .int .i64 k)
        (fun _ i => 3 - (intOf i).toNat)
      case atStart =>
        refine ⟨0, lead x (t.length + 1), by omega, Nat.zero_le _, HJ.out, HL.out.2, by have := HL.out.1; omega, ?_, rfl⟩
        rw [← HM.out]; rw [lead_ne _ _ (by omega)]; simp only [Nat.reduceAdd, Nat.reduceSub, Nat.reducePow]; congr 1; omega
      case round =>
        obtain ⟨k, z, hk, HK, HR, HB, hz, rfl, rfl⟩ := hrel
        by_cases h1 : k < t.length
        · have hcell := HRT.out k h1
          have hlt : t[k].toNat < 256 := t[k].toNat_lt
          have HG : Hid (joinTo (z * 64 + t[k].toNat % 64) (t.drop (k + 1)) = J) := (joinTo_go h1).symm.trans HR.out
          obtain ⟨g1, g2⟩ := grow_go (y := t[k].toNat) h1 HB.out
          have HB' : Hid ((z * 64 + t[k].toNat % 64 + 1) * 64 ^ (t.length - (k + 1)) ≤ 2097152) := g2
          have hk1 := h1
          rw [← HM.out] at hk1
          clear g2
          obtain ⟨y, hy⟩ : ∃ y, y = t[k].toNat := ⟨_, rfl⟩
          rw [← hy] at hcell hlt HG HB'
          have HK1 : Hid (k + 1 ≤ t.length) := h1
          clear hy h1 HR HB HL HJ HJ0 HRT
          go_wp2
          go_round
          case rel => exact ⟨k + 1, z * 64 + y % 64, by omega, HK1, HG, HB', by omega, by go_num, by go_num⟩
          case measure => simp [intOf]; omega
        · have hkm : t.length = k := by have := HK.out; omega
          have HE2 : Hid (z = J) := by rw [← HR.out, List.drop_eq_nil_of_le (by omega)]; rfl
          rw [← HM.out] at hkm
          subst hkm
          clear HR HB HL HJ HJ0 HRT
          go_wp2
          go_ret
          exact ⟨by rw [← HE2.out]; rfl, rfl⟩
theorem join_at (A : Option Addr) (l : List UInt8) (n c B : Nat) (w : World) (hn : l.length = n) (hr : Rd w B A (bys l)) (hne : 0 < n) (hnd : n = nd l) (hc : n ≤ c) (hcm : c ≤ 9223372036854775807) :
    Calls Tryz.prog 115 #[.slice A n c] w fun e w' => e = .returned (.int .i32 (joined l)) ∧ w = w' := by
  subst hn; exact join_any A l c B w hr hne hnd hc hcm
end Go.Proofs.YtipcbiecdabihaaGreat.Utf
