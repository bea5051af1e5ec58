/-
  CONTRACT OF Same: the same points?
-/
import Derived.Test.YtipcbiecdabihaaGreatUtfRead
namespace Go.Proofs.YtipcbiecdabihaaGreat.Utf
open Go.RowKit
set_option maxRecDepth 100000

def same (a b : List Pt) : Bool := decide (a = b)

theorem ptFields : Tryz.prog.underlying 58 = some (.struct (Tryz.prog.fieldsOf 58)) := by kernel_rfl
theorem ptHeld : Tryz.prog.stoodInHeld 58 = false := by kernel_rfl
theorem ptGuard : Tryz.prog.eqGuardType Tryz.prog.depth 58 = false := by kernel_rfl
theorem neq_pt (w : World) (a b c a' b' c' : Int) : (binOp .neq 58 (.agg #[.int .i32 a, .int .i64 b, .int .i64 c]) (.agg #[.int .i32 a', .int .i64 b', .int .i64 c'])).run Tryz.prog w = .ok (.bool (!(a == a' && b == b' && c == c'))) w := by
  have u3 := Tryz.underlying3
  have a3 := Tryz.isAgg3
  have z3 := Tryz.sizeOf3
  have u21 := Tryz.underlying21
  have a21 := Tryz.isAgg21
  have z21 := Tryz.sizeOf21
  rw [run_neq_struct, show (10000 : Nat) = 9999 + 1 from rfl, run_equalIn_agg w 9999 _ _ _ ptFields ptHeld]
  simp only [Program.fieldsOf, Tryz.underlying58]
  go_simp
  by_cases h1 : a = a' <;> by_cases h2 : b = b' <;> by_cases h3 : c = c' <;> simp [h1, h2, h3]
theorem take_succ_eq {a b : List Pt} {k : Nat} (ha : k < a.length) (hb : k < b.length) (h : a.take k = b.take k) (e : a[k] = b[k]) : a.take (k + 1) = b.take (k + 1) := by
  rw [List.take_succ_eq_append_getElem ha, List.take_succ_eq_append_getElem hb, h, e]

end Go.Proofs.YtipcbiecdabihaaGreat.Utf
