/-
  GROUPS OF RANGES, as a switch asks for them.
-/
import Derived.Test.YtochodombojamaaDoorUcdSmall
import Derived.Deep.DeepCutAuto
namespace Go.Proofs.YtochodombojamaaDoor.Ucd
open Go.RowKit Utf

def anyB (r : Int) (l : List (Int × Int)) : Bool := l.any fun x => inB r x.1 x.2
def grp (v : Int) (l : List (Int × Int)) : List (Int × Int × Int) := l.map fun x => (x.1, x.2, v)
theorem pick_grp (d v r : Int) (l : List (Int × Int)) (t : List (Int × Int × Int)) : pick d (grp v l ++ t) r = if anyB r l = true then v else pick d t r := by
  induction l with
  | nil => simp [grp, anyB]
  | cons x l ih =>
    have e : grp v (x :: l) ++ t = (x.1, x.2, v) :: (grp v l ++ t) := rfl
    rw [e]
    simp only [pick, ih]
    by_cases h : x.1 ≤ r ∧ r ≤ x.2
    · have : anyB r (x :: l) = true := by simp [anyB, inB, h]
      rw [if_pos h, if_pos this]
    · have : anyB r (x :: l) = anyB r l := by simp only [anyB, List.any_cons, inB, decide_eq_false h, Bool.false_or]
      rw [if_neg h, this]
end Go.Proofs.YtochodombojamaaDoor.Ucd
