/-
  CONTRACTS OF number, play, Play.
-/
import Derived.Test.YtckdjbonplpknaaSparseMath
namespace Go.Proofs.Ytckdjbonplpknaa.Sparse
open Go.RowKit Mem
set_option maxRecDepth 100000

theorem number_any (b : Bool) (w : World) : Calls Try.prog 42 #[.bool b] w (Tells w (.int .i64 (yes b))) := by
  cases b <;>
  · go_enter Try.func42, Try.ntmps42
    go_wp2
    go_ret
    exact ⟨rfl, rfl⟩

abbrev SI := Ss 70 3 .i64
/-- what a call leaves -/
def Did (w : World) (B g p : Nat) (v : Value) (N : Nat) (l : List Int) (kd x : Int) (e : Ending) (w' : World) : Prop :=
  ∃ u, e = .returned (.int .i64 (step N l kd x).1) ∧ SI w' B g p u N (step N l kd x).2 ∧ Chg w w' (Ft g p v) ∧ Grew w v u
theorem Did.same {w w' : World} {B g p N : Nat} {v : Value} {l : List Int} {kd x z : Int} (h : SI w B g p v N l) (hs : step N l kd x = (z, l)) (hb : Below w.heap.size w w') : Did w B g p v N l kd x (.returned (.int .i64 z)) w' :=
  ⟨v, by rw [hs], by rw [hs]; exact h.next hb, Chg.of_below hb (Nat.le_refl _), Grew.refl _ _⟩
theorem chg_ahead {w w1 w2 : World} {S : Nat → Prop} (hb : Below w.heap.size w w1) (h : Chg w1 w2 S) : Chg w w2 S := (Chg.of_below (S := S) hb (Nat.le_refl _)).trans h fun _ _ h => h
theorem grew_ahead {w w1 : World} {v u : Value} (hb : Below w.heap.size w w1) (h : Grew w1 v u) : Grew w v u := fun i hi => (h i hi).imp id fun h => Nat.le_trans hb.size h
set_option maxHeartbeats 4000000 in
theorem play_any (kd x : Int) (B g p N : Nat) (v : Value) (l : List Int) (w : World) (h : SI w B g p v N l) (hl : -9223372036854775808 ≤ x) (hh : x ≤ 9223372036854775807) :
    Calls Try.prog 32 #[.pointer (some ⟨g, 0, none⟩), .agg #[.int .i64 kd, .int .i64 x]] w (Did w B g p v N l kd x) := by
  obtain ⟨w0, hw0⟩ : ∃ w0, w0 = w.alloc (.cells #[.int .i64 kd, .int .i64 x] 28) := ⟨_, rfl⟩
  have hb : Below w.heap.size w w0 := by rw [hw0]; exact (Below.refl _ _).alloc (Nat.le_refl _) _
  have H0 := h.next hb
  have HB := Lib.hid hb
  have HA := Lib.hid (add_int x B g p N v l w0 H0 hl hh)
  have HH := Lib.hid (has_int x B g p N v l w0 H0 hl hh)
  have HL := Lib.hid (len_int B g p N v l w0 H0)
  have HT := Lib.hid (at_int x B g p N v l w0 H0)
  have HC := Lib.hid (clear_int B g p N v l w0 H0)
  have HS := Lib.hid h
  subst hw0
  clear h H0 hb
  by_cases c1 : kd = 1
  · subst c1
    go_enter Try.func32, Try.ntmps32

    go_wp2_with (first | (go_at_call 18; refine HA.out.mono ?_; rintro e1 w1 ⟨u, rfl, k1, k2, k3⟩; have K1 := Lib.hid k1; have K2 := Lib.hid k2; have K3 := Lib.hid k3; clear k1 k2 k3) | (go_at_call 42; refine (number_any _ _).mono ?_; rintro e2 w2 ⟨rfl, rfl⟩))
    go_ret
    exact ⟨u, (by rw [step_1]; rfl), by rw [step_1]; exact K1.out, chg_ahead HB.out K2.out, grew_ahead HB.out K3.out⟩
  by_cases c2 : kd = 2
  · subst c2
    go_enter Try.func32, Try.ntmps32

    go_wp2_with (first | (go_at_call 22; refine HH.out.mono ?_; rintro e1 w1 ⟨rfl, rfl⟩) | (go_at_call 42; refine (number_any _ _).mono ?_; rintro e2 w2 ⟨rfl, rfl⟩))
    go_ret
    exact Did.same HS.out (step_2 _ _ _) HB.out
  by_cases c3 : kd = 3
  · subst c3
    go_enter Try.func32, Try.ntmps32

    go_wp2_with (first | (go_at_call 30; refine HL.out.mono ?_; rintro e1 w1 ⟨rfl, rfl⟩))
    go_ret
    exact Did.same HS.out (step_3 _ _ _) HB.out
  by_cases c4 : kd = 4
  · subst c4
    cases hn : nth l x with
    | none =>
      rw [hn] at HT
      go_enter Try.func32, Try.ntmps32

      go_wp2_with (first | (go_at_call 31; refine HT.out.mono ?_; rintro e1 w1 ⟨rfl, rfl⟩))
      go_ret
      exact Did.same HS.out (by rw [step_4, hn]; rfl) HB.out
    | some z =>
      rw [hn] at HT
      go_enter Try.func32, Try.ntmps32

      go_wp2_with (first | (go_at_call 31; refine HT.out.mono ?_; rintro e1 w1 ⟨rfl, rfl⟩))
      go_ret
      exact Did.same HS.out (by rw [step_4, hn]; rfl) HB.out
  by_cases c5 : kd = 5
  · subst c5
    go_enter Try.func32, Try.ntmps32

    go_wp2_with (first | (go_at_call 29; refine HC.out.mono ?_; rintro e1 w1 ⟨u, rfl, k1, k2, k3⟩; have K1 := Lib.hid k1; have K2 := Lib.hid k2; have K3 := Lib.hid k3; clear k1 k2 k3))
    go_ret
    exact ⟨u, (by rw [step_5]; rfl), by rw [step_5]; exact K1.out, chg_ahead HB.out K2.out, grew_ahead HB.out K3.out⟩
  · have HN := Lib.hid (step_none N l x c1 c2 c3 c4 c5)
    have b1 : (kd == 1) = false := by simpa using c1
    have b2 : (kd == 2) = false := by simpa using c2
    have b3 : (kd == 3) = false := by simpa using c3
    have b4 : (kd == 4) = false := by simpa using c4
    have b5 : (kd == 5) = false := by simpa using c5
    go_enter Try.func32, Try.ntmps32

    go_wp2
    go_ret
    exact Did.same HS.out HN.out HB.out
end Go.Proofs.Ytckdjbonplpknaa.Sparse
