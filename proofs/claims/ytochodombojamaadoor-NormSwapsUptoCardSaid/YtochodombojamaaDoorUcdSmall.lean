/-
  CONTRACTS OF in, of both Trailing, and of the document's Class: range by range.
-/
import Derived.Test.YtochodombojamaaDoorUcdWords
import Derived.BigGuardPart
import Derived.Deep.DeepCutAuto
namespace Go.Proofs.YtochodombojamaaDoor.Ucd
open Go.RowKit Utf

def inB (r lo hi : Int) : Bool := decide (lo ≤ r ∧ r ≤ hi)
theorem inB_yes {r lo hi : Int} (h : inB r lo hi = true) : lo ≤ r ∧ r ≤ hi := of_decide_eq_true h
theorem inB_no {r lo hi : Int} (h : inB r lo hi = false) : ¬ (lo ≤ r ∧ r ≤ hi) := of_decide_eq_false h

set_option maxHeartbeats 1000000 in
theorem in_any (r lo hi : Int) (w : World) : Calls Tryd.prog 18 #[.int .i32 r, .int .i32 lo, .int .i32 hi] w fun e w' => e = .returned (.bool (inB r lo hi)) ∧ w = w' := by
  by_cases h1 : lo ≤ r
  · have d1 : decide (lo ≤ r) = true := decide_eq_true h1
    go_enter Tryd.func18, Tryd.ntmps18
    go_wp2
    go_ret
    exact ⟨ret_bool (by unfold inB; simp [h1]), rfl⟩
  · have d1 : decide (lo ≤ r) = false := decide_eq_false h1
    go_enter Tryd.func18, Tryd.ntmps18
    go_wp2
    go_ret
    exact ⟨ret_bool (by unfold inB; rw [decide_eq_false]; omega), rfl⟩

end Go.Proofs.YtochodombojamaaDoor.Ucd
