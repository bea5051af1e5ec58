/-
  CONTRACTS OF in, of both Trailing, and of the document's Class: range by range.
-/
import Derived.Test.YtbljomfofgocaaaDoorUcdWords
import Derived.BigGuardPart
import Derived.Deep.DeepCutAuto
namespace Go.Proofs.YtbljomfofgocaaaDoor.Ucd
open Go.RowKit Utf

def inB (r lo hi : Int) : Bool := decide (lo ≤ r ∧ r ≤ hi)
theorem inB_yes {r lo hi : Int} (h : inB r lo hi = true) : lo ≤ r ∧ r ≤ hi := of_decide_eq_true h
theorem inB_no {r lo hi : Int} (h : inB r lo hi = false) : ¬ (lo ≤ r ∧ r ≤ hi) := of_decide_eq_false h

set_option maxHeartbeats 1000000 in
theorem in_any (r lo hi : Int) (w : World) : Calls Tryd.prog 28 #[.int .i32 r, .int .i32 lo, .int .i32 hi] w fun e w' => e = .returned (.bool (inB r lo hi)) ∧ w = w' := by
  by_cases h1 : lo ≤ r
  · have d1 : decide (lo ≤ r) = true := decide_eq_true h1
    go_enter Tryd.func28, Tryd.ntmps28
    go_wp2
    go_ret
    exact ⟨ret_bool (by unfold inB; simp [h1]), rfl⟩
  · have d1 : decide (lo ≤ r) = false := decide_eq_false h1
    go_enter Tryd.func28, Tryd.ntmps28
    go_wp2
    go_ret
    exact ⟨ret_bool (by unfold inB; rw [decide_eq_false]; omega), rfl⟩

set_option maxHeartbeats 1000000 in
theorem trailing_any (r : Int) (w : World) : Calls Tryd.prog 72 #[.int .i32 r] w fun e w' => e = .returned (.bool (trl r)) ∧ w = w' := by
  go_enter Tryd.func72, Tryd.ntmps72
  go_wp2
  all_goals go_ret
  all_goals exact ⟨ret_bool (by unfold trl; first | (exfalso; omega) | (rw [decide_eq_true]; omega) | (rw [decide_eq_false]; omega) | (refine decide_eq_decide.2 ?_; omega)), rfl⟩
set_option maxHeartbeats 1000000 in
theorem rtrailing_any (r : Int) (w : World) : Calls Tryd.prog 76 #[.int .i32 r] w fun e w' => e = .returned (.bool (trl r)) ∧ w = w' := by
  go_enter Tryd.func76, Tryd.ntmps76
  go_wp2_with (go_at_call 28; refine (in_any _ _ _ _).mono ?_; rintro e w' ⟨rfl, rfl⟩)
  · go_ret
    have h := inB_yes (show inB r 4449 4469 = true by assumption)
    exact ⟨ret_bool (by unfold trl; rw [decide_eq_true]; omega), rfl⟩
  · go_ret
    have h := inB_no (show inB r 4449 4469 = false by assumption)
    exact ⟨ret_bool (by unfold trl inB; refine decide_eq_decide.2 ?_; omega), rfl⟩
end Go.Proofs.YtbljomfofgocaaaDoor.Ucd
