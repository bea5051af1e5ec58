/-
  CONTRACT OF fixed: the chapter's examples come out true, in whatever world.
-/
import Derived.Test.YtginlfofijbpjaaUtfDecode
import Derived.Test.YtginlfofijbpjaaUtfEncAll
namespace Go.Proofs.Ytginlfofijbpjaa.Utf
open Go.RowKit

theorem str_of (l : List UInt8) : strOfNums (l.map fun b => (b.toNat : Int)) = ⟨l.toArray⟩ := by
  unfold strOfNums
  simp only [List.map_map]
  congr 1
  have : (fun n : Int => UInt8.ofNat n.toNat) ∘ (fun b : UInt8 => (b.toNat : Int)) = id := by funext b; simp
  rw [this, List.map_id]
theorem conv_rd {w : World} {B : Nat} {A : Option Addr} {n c : Nat} {l : List UInt8} (h : Rd w B A (bys l)) (hn : l.length = n) :
    (convert 22 9 (.slice A n c)).run Try.prog w = .ok (.string ⟨l.toArray⟩) w := by
  by_cases hl : l = []
  · subst hl
    have hn' : n = 0 := by simpa using hn.symm
    subst hn'
    cases A with
    | none => exact run_convert_bytes_nil w _ _ Try.underlying22 Try.underlying5 0 c _ Try.underlying9
    | some ad =>
      rw [run_convert_bytes_string w _ _ _ _ _ _ Try.underlying22 Try.underlying5 Try.underlying9, run_bytesToString w ad 0 c [] rfl]
      rfl
  · have hp : 0 < l.length := List.length_pos_iff.2 hl
    obtain ⟨b, o, rfl, _⟩ := h.form (by rw [bys_len]; exact hp)
    rw [run_convert_bytes_arg w _ _ Try.underlying22 Try.underlying5 b o n c (l.map fun b => (b.toNat : Int)) (by simpa using hn) (fun i hi => by
      have := h.byte (k := i) (by omega)
      rw [this]; simp [List.getD, List.getElem?_eq_getElem (show i < l.length by omega)]) _ Try.underlying9, str_of]

theorem own_form {w : World} {base : Nat} {e : TypeId} {size n : Nat} {v : Value} {xs : List Value} (h : w.ownsRow base e size v n xs) : ∃ A c, v = .slice A n c ∧ n ≤ c ∧ c ≤ 9223372036854775807 ∧ Rd w w.heap.size A xs := by
  have h2 := h.2
  rcases h2 with ⟨rfl, rfl⟩ | ⟨g, cap, cur, rfl, _, _, h1, h2, _⟩
  · exact ⟨none, 0, rfl, Nat.le_refl _, by omega, Rd.of_own h⟩
  · exact ⟨_, cap, rfl, h1, h2, Rd.of_own h⟩

set_option maxHeartbeats 4000000 in
theorem fixed_any (w : World) : Calls Try.prog 10 #[] w fun e w' => Hid (e = .returned (.bool true) ∧ Below w.heap.size w w') := by
  have e1 : dec false 0 [65, 195, 169, 226, 65] = [⟨65, 0, 1⟩, ⟨233, 1, 2⟩, ⟨65533, 3, 1⟩, ⟨65, 4, 1⟩] := by decide
  have e2 : dec true 0 [226, 130] = [] := by decide
  have e3 : eat [226, 130] = 0 := by decide
  have e4 : dec true 0 [226, 130, 172] = [⟨8364, 0, 3⟩] := by decide
  have e5 : eat [226, 130, 172] = 3 := by decide
  have e6 : enc [55296, 65] = [239, 191, 189, 65] := by decide
  have E1 := Lib.hid e1; have E2 := Lib.hid e2; have E3 := Lib.hid e3; have E4 := Lib.hid e4; have E5 := Lib.hid e5; have E6 := Lib.hid e6
  clear e1 e2 e3 e4 e5 e6
  go_enter Try.func10, Try.ntmps10
  go_wp2_with fail
  refine (decode_any _ [65, 195, 169, 226, 65] 5 5 _ ((rd_new w _ (bys [65, 195, 169, 226, 65]) w.heap.size rfl).more (by simp)) rfl (by omega) (by omega) (by omega)).mono ?_
  rintro e w1 ⟨v, rfl, hown, hb1⟩
  rw [E1.out] at hown
  have hbA : Below w.heap.size w w1 := Below.trans ((Below.refl _ _).alloc (Nat.le_refl _) _) (hb1.mono (by simp))
  obtain ⟨A1, c1, rfl, hc1, hcm1, hr1⟩ := own_form hown
  obtain ⟨g1, o1, rfl, hg1⟩ := hr1.form (by decide)
  have p1 := hr1.pt (k := 1) (by decide)
  have p2 := hr1.pt (k := 2) (by decide)
  have HP1 := Lib.hid p1; have HP2 := Lib.hid p2
  clear hown hb1 hr1 hc1 hcm1 p1 p2
  go_wp2_with fail
  refine (new_any _).mono ?_
  rintro e w2 ⟨rfl, hw2⟩
  have hD2 : Dc w2 w1.heap.size 0 0 0 0 0 false := by rw [hw2]; exact Blk.new w1 _ _
  have hb2 : Below w1.heap.size w1 w2 := by rw [hw2]; exact (Below.refl _ _).alloc (Nat.le_refl _) _
  obtain ⟨a1, a2, a3⟩ := HP1.out
  obtain ⟨b1, b2, b3⟩ := HP2.out
  have q1 : w2.cell? ⟨g1, o1 + 3, none⟩ = some (.int .i32 233) := (hb2.cell (p := ⟨g1, o1 + 3, none⟩) hg1).trans a1
  have q2 : w2.cell? ⟨g1, o1 + 3 + 1, none⟩ = some (.int .i64 1) := (hb2.cell (p := ⟨g1, o1 + 3 + 1, none⟩) hg1).trans a2
  have q3 : w2.cell? ⟨g1, o1 + 3 + 2, none⟩ = some (.int .i64 2) := (hb2.cell (p := ⟨g1, o1 + 3 + 2, none⟩) hg1).trans a3
  have q4 : w2.cell? ⟨g1, o1 + 6, none⟩ = some (.int .i32 65533) := (hb2.cell (p := ⟨g1, o1 + 6, none⟩) hg1).trans b1
  have q5 : w2.cell? ⟨g1, o1 + 6 + 1, none⟩ = some (.int .i64 3) := (hb2.cell (p := ⟨g1, o1 + 6 + 1, none⟩) hg1).trans b2
  have q6 : w2.cell? ⟨g1, o1 + 6 + 2, none⟩ = some (.int .i64 1) := (hb2.cell (p := ⟨g1, o1 + 6 + 2, none⟩) hg1).trans b3
  have n1 : ∀ u : World, (binOp .neq 37 (.agg #[.int .i32 233, .int .i64 1, .int .i64 2]) (.agg #[.int .i32 233, .int .i64 1, .int .i64 2])).run Try.prog u = .ok (.bool false) u := fun u => neq_pt u 233 1 2 233 1 2
  have n2 : ∀ u : World, (binOp .neq 37 (.agg #[.int .i32 65533, .int .i64 3, .int .i64 1]) (.agg #[.int .i32 65533, .int .i64 3, .int .i64 1])).run Try.prog u = .ok (.bool false) u := fun u => neq_pt u 65533 3 1 65533 3 1
  have hbB : Below w.heap.size w w2 := hbA.trans (hb2.mono hbA.size)
  have HD2 := Lib.hid hD2
  have hG : w.heap.size ≤ w1.heap.size := hbA.size
  clear hw2 hb2 hD2 a1 a2 a3 b1 b2 b3
  obtain ⟨G, hGe⟩ : ∃ G, G = w1.heap.size := ⟨_, rfl⟩
  rw [← hGe] at HD2 hG hg1 ⊢
  clear hGe hbA HP1 HP2
  go_wp2_with fail
  refine (write_any G 0 0 2 2 0 0 0 _ [226, 130] _ (Blk.alloc HD2.out _) (by omega) ((rd_new w2 _ (bys [226, 130]) w2.heap.size rfl).more (by simp)) rfl (by omega) (by omega) (by omega) (by omega)).mono ?_
  rintro e w3 ⟨v3, k0, k1, k2, rfl, hown3, hD3, hk3, hg3⟩
  have hbC : Below w.heap.size w w3 := Below.grown (hbB.alloc hbB.size _) hg3 (by have := hbB.size; simp; omega) (fun k hk => by cases hk; exact hG)
  have hL : kept 0 0 0 0 ++ [226, 130] = [226, 130] := rfl
  rw [hL] at hown3 hD3 hk3
  rw [E2.out] at hown3
  rw [E3.out] at hD3 hk3
  have hD3' : Dc w3 G k0 k1 k2 2 0 false := hD3
  have hk3' : kept k0 k1 k2 2 = [226, 130] := hk3
  obtain ⟨A3, c3, rfl, _, _, _⟩ := own_form hown3
  have HD3 := Lib.hid hD3'; have HK3 := Lib.hid hk3'
  clear hbB hown3 hD3 hk3 hg3 hL hD3' hk3' q1 q2 q3 q4 q5 q6 n1 n2 HD2
  go_wp2_with fail
  refine (pending_any G 2 0 k0 k1 k2 false _ HD3.out).mono ?_
  rintro e w3' ⟨rfl, rfl⟩
  go_wp2_with fail
  refine (write_any G 2 0 1 1 k0 k1 k2 _ [172] _ (Blk.alloc HD3.out _) (by omega) ((rd_new w3 _ (bys [172]) w3.heap.size rfl).more (by simp)) rfl (by omega) (by omega) (by omega) (by omega)).mono ?_
  rintro e w4 ⟨v4, j0, j1, j2, rfl, hown4, hD4, _, hg4⟩
  have hbD : Below w.heap.size w w4 := Below.grown (hbC.alloc hbC.size _) hg4 (by have := hbC.size; simp; omega) (fun k hk => by cases hk; exact hG)
  have hL : kept k0 k1 k2 2 ++ [172] = [226, 130, 172] := by rw [HK3.out]; rfl
  rw [hL] at hown4 hD4
  rw [E4.out] at hown4
  rw [E5.out] at hD4
  have hD4' : Dc w4 G j0 j1 j2 0 3 false := hD4
  obtain ⟨A4, c4, rfl, hc4, hcm4, hr4⟩ := own_form hown4
  obtain ⟨g4, o4, rfl, hg4l⟩ := hr4.form (by decide)
  obtain ⟨p1, p2, p3⟩ := hr4.pt (k := 0) (by decide)
  have p0 : w4.cell? ⟨g4, o4, none⟩ = some (.int .i32 8364) := p1
  have HD4 := Lib.hid hD4'
  clear hbC hown4 hD4 hg4 hL hD4' hr4 p1 p2 p3 HD3 HK3
  go_wp2_with fail
  refine (close_any G 0 3 j0 j1 j2 false _ HD4.out).mono ?_
  rintro e w5 ⟨A5, rfl, _, _, hg5⟩
  have hbE : Below w.heap.size w w5 := Below.grown hbD hg5 hbD.size (fun k hk => by cases hk; exact hG)
  have hl0 : (last 0 3).length = 0 := rfl
  rw [hl0]
  clear hbD hg5 hl0 HD4 p0
  go_wp2_with fail
  refine (encode_any _ [55296, 65] 2 2 _ ((rd_new w5 _ (nums [55296, 65]) w5.heap.size rfl).more (by simp)) rfl (by omega)).mono ?_
  rintro e w6 ⟨v6, rfl, hown6, hb6⟩
  have hbF : Below w.heap.size w w6 := (hbE.alloc hbE.size _).trans (hb6.mono (by have := hbE.size; simp; omega))
  rw [E6.out] at hown6
  obtain ⟨A6, c6, rfl, _, _, hr6⟩ := own_form hown6
  have hcv := conv_rd (n := 4) (c := c6) hr6 rfl
  clear hbE hown6 hb6 hr6
  go_wp2_with fail
  refine (valid_any 65 _).mono ?_
  rintro e w7 ⟨rfl, rfl⟩
  have hv1 : vld 65 = true := by decide
  rw [hv1]
  go_wp2_with fail
  refine (valid_any 55296 _).mono ?_
  rintro e w7 ⟨rfl, rfl⟩
  have hv2 : vld 55296 = false := by decide
  rw [hv2]
  go_wp2
  go_ret
  exact Lib.hid ⟨rfl, hbF⟩
end Go.Proofs.Ytginlfofijbpjaa.Utf
