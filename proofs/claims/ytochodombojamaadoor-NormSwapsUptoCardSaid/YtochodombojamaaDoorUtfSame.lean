/-
  CONTRACT OF Same: the same points?
-/
import Derived.Test.YtochodombojamaaDoorUtfRead
namespace Go.Proofs.YtochodombojamaaDoor.Utf
open Go.RowKit
set_option maxRecDepth 100000

def same (a b : List Pt) : Bool := decide (a = b)

theorem ptFields : Tryd.prog.underlying 58 = some (.struct (Tryd.prog.fieldsOf 58)) := by kernel_rfl
theorem ptHeld : Tryd.prog.stoodInHeld 58 = false := by kernel_rfl
theorem ptGuard : Tryd.prog.eqGuardType Tryd.prog.depth 58 = false := by kernel_rfl
theorem neq_pt (w : World) (a b c a' b' c' : Int) : (binOp .neq 58 (.agg #[.int .i32 a, .int .i64 b, .int .i64 c]) (.agg #[.int .i32 a', .int .i64 b', .int .i64 c'])).run Tryd.prog w = .ok (.bool (!(a == a' && b == b' && c == c'))) w := by
  have u3 := Tryd.underlying3
  have a3 := Tryd.isAgg3
  have z3 := Tryd.sizeOf3
  have u21 := Tryd.underlying21
  have a21 := Tryd.isAgg21
  have z21 := Tryd.sizeOf21
  rw [run_neq_struct, show (10000 : Nat) = 9999 + 1 from rfl, run_equalIn_agg w 9999 _ _ _ ptFields ptHeld]
  simp only [Program.fieldsOf, Tryd.underlying58]
  go_simp
  by_cases h1 : a = a' <;> by_cases h2 : b = b' <;> by_cases h3 : c = c' <;> simp [h1, h2, h3]
theorem take_succ_eq {a b : List Pt} {k : Nat} (ha : k < a.length) (hb : k < b.length) (h : a.take k = b.take k) (e : a[k] = b[k]) : a.take (k + 1) = b.take (k + 1) := by
  rw [List.take_succ_eq_append_getElem ha, List.take_succ_eq_append_getElem hb, h, e]

end Go.Proofs.YtochodombojamaaDoor.Utf
