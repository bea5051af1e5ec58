/-
  CONTRACT OF THE MEASURE: how many bytes at the front are one piece, and how many the sequence that they begin would need.
-/
import Derived.Test.YtipcbiecdabihaaGreatUtfSmall
namespace Go.Proofs.YtipcbiecdabihaaGreat.Utf
open Go.RowKit
set_option maxRecDepth 100000

theorem run_go {l : List UInt8} {k n a b : Nat} (hk : k < l.length) (h1 : k < n) (h2 : a ≤ l[k].toNat) (h3 : l[k].toNat ≤ b) : run k n a b (l.drop k) = run (k + 1) n 128 191 (l.drop (k + 1)) := by
  rw [List.drop_eq_getElem_cons hk]
  conv => lhs; unfold run
  rw [if_pos ⟨h1, h2, h3⟩]
theorem run_end {l : List UInt8} {k n a b : Nat} (h : ¬ (k < n ∧ ∃ hk : k < l.length, a ≤ l[k].toNat ∧ l[k].toNat ≤ b)) : run k n a b (l.drop k) = k := by
  by_cases hk : k < l.length
  · rw [List.drop_eq_getElem_cons hk]
    unfold run
    rw [if_neg (fun hc => h ⟨hc.1, hk, hc.2⟩)]
  · rw [List.drop_eq_nil_of_le (by omega)]; rfl
theorem ret_two {a b c d : Int} (h1 : a = c) (h2 : b = d) : Ending.returned (.tuple #[.int .i64 a, .int .i64 b]) = .returned (.tuple #[.int .i64 c, .int .i64 d]) := by rw [h1, h2]

set_option maxHeartbeats 1000000 in
theorem measure_any (A : Option Addr) (l : List UInt8) (c B : Nat) (w : World) (hr : Rd w B A (bys l)) (hne : 0 < l.length) (hlen : l.length ≤ 9223372036854775807) :
    Calls Tryz.prog 114 #[.slice A l.length c] w fun e w' => e = .returned (.tuple #[.int .i64 (wid l), .int .i64 (nd l)]) ∧ w = w' := by
  obtain ⟨b, o, rfl, hb⟩ := hr.form (by rw [bys_len]; exact hne)
  have hcell0 : w.cell? ⟨b, o, none⟩ = some (.int .u8 l[0].toNat) := hr.byte hne
  have hlt0 : l[0].toNat < 256 := l[0].toNat_lt
  obtain ⟨x, hx⟩ : ∃ x, x = l[0].toNat := ⟨_, rfl⟩
  rw [← hx] at hcell0 hlt0
  have hwid : wid l = run 1 (need x) (lo x) (hi x) (l.drop 1) := by
    cases l with
    | nil => simp at hne
    | cons q t => subst hx; rfl
  have hnd : nd l = need x := by
    cases l with
    | nil => simp at hne
    | cons q t => subst hx; rfl
  have hn4 := need_le x
  have hlo : lo x ≤ 255 := by unfold lo; repeat (split <;> try omega)
  have hhi : hi x ≤ 255 := by unfold hi; repeat (split <;> try omega)
  rw [hwid, hnd]
  have HX := Lib.hid hx
  clear hx hwid hnd
  obtain ⟨N, hN⟩ : ∃ N, N = need x := ⟨_, rfl⟩
  obtain ⟨M, hM⟩ : ∃ M, M = run 1 (need x) (lo x) (hi x) (l.drop 1) := ⟨_, rfl⟩
  have HM := Lib.hid hM
  rw [← hM]
  clear hM
  have hp : (0 : Int) < (l.length : Int) := by omega
  go_enter Tryz.func114, Tryz.ntmps114
  go_wp2_with (first
    | (go_at_call 123; refine (length_any x hlt0 _).mono ?_; rintro e w' ⟨rfl, rfl⟩)
    | (go_at_call 124; refine (second_any x hlt0 _).mono ?_; rintro e w' ⟨rfl, rfl⟩))
  rw [← hN] at hn4 HM ⊢
  have HN := Lib.hid hN
  clear hN
  go_loop [2, 4, 5] (fun h a z => ∃ k p q : Nat, 1 ≤ k ∧ k ≤ l.length ∧ p ≤ 255 ∧ q ≤ 255 ∧ Hid (run k N p q (l.drop k) = M) ∧ h = .int .i64 k ∧ a = .int .u8 p ∧ z = .int .u8 q)
    (fun h _ _ => l.length - (intOf h).toNat)
  case atStart => exact ⟨1, _, _, Nat.le_refl _, hne, hlo, hhi, HM.out.symm, rfl, rfl, rfl⟩
  case round =>
    obtain ⟨k, p, q, hk1, hk, hp1, hq1, HR, rfl, rfl, rfl⟩ := hrel
    by_cases h1 : k < N
    · by_cases h2 : k < l.length
      · have hcell : w.cell? ⟨b, o + k, none⟩ = some (.int .u8 l[k].toNat) := hr.byte h2
        have hlt : l[k].toNat < 256 := l[k].toNat_lt
        obtain ⟨y, hy⟩ : ∃ y, y = l[k].toNat := ⟨_, rfl⟩
        rw [← hy] at hcell hlt
        by_cases h3 : p ≤ y
        · by_cases h4 : y ≤ q
          · have HG : Hid (run (k + 1) N 128 191 (l.drop (k + 1)) = M) := by rw [← HR.out]; exact (run_go h2 h1 (hy ▸ h3) (hy ▸ h4)).symm
            clear hy HX HM
            go_wp2
            go_round
            case rel => exact ⟨k + 1, 128, 191, by omega, by omega, by omega, by omega, HG, by go_num, rfl, rfl⟩
            case measure => simp [intOf]; omega
          · have HE : Hid (k = M) := by rw [← HR.out]; exact (run_end (fun ⟨_, _, _, h⟩ => h4 (hy ▸ h))).symm
            clear hy HX HM
            go_wp2
            go_ret2
            exact ⟨ret_two (by rw [HE.out]) (by rw [HN.out]), rfl⟩
        · have HE : Hid (k = M) := by rw [← HR.out]; exact (run_end (fun ⟨_, _, h, _⟩ => h3 (hy ▸ h))).symm
          clear hy HX HM
          go_wp2
          go_ret2
          exact ⟨ret_two (by rw [HE.out]) (by rw [HN.out]), rfl⟩
      · have HE : Hid (k = M) := by rw [← HR.out]; exact (run_end (fun ⟨_, h, _⟩ => h2 h)).symm
        clear HX HM
        go_wp2
        go_ret2
        exact ⟨ret_two (by rw [HE.out]) (by rw [HN.out]), rfl⟩
    · have HE : Hid (k = M) := by rw [← HR.out]; exact (run_end (fun ⟨h, _⟩ => h1 h)).symm
      clear HX HM
      go_wp2
      go_ret2
      exact ⟨ret_two (by rw [HE.out]) (by rw [HN.out]), rfl⟩
theorem measure_at (A : Option Addr) (l : List UInt8) (n c B : Nat) (w : World) (hn : l.length = n) (hr : Rd w B A (bys l)) (hne : 0 < n) (hlen : n ≤ 9223372036854775807) :
    Calls Tryz.prog 114 #[.slice A n c] w fun e w' => e = .returned (.tuple #[.int .i64 (wid l), .int .i64 (nd l)]) ∧ w = w' := by
  subst hn; exact measure_any A l c B w hr hne hlen
end Go.Proofs.YtipcbiecdabihaaGreat.Utf
