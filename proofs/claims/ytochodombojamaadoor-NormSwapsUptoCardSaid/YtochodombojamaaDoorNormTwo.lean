/-
  AN ARRAY OF TWO NUMBERS THAT CAME IN, opened and shut; slices of an argument.
-/
import Derived.Test.YtochodombojamaaDoorNormOpen
namespace Go.Proofs.YtochodombojamaaDoor.Norm
open Go.ChangeShapes Go.WideShapes Go.ChangeAt Go.RowKit
open Utf hiding infoI32 rd_new own_form below_drewN new_any write_any close_any
open Ucd hiding grow same Told

set_option maxRecDepth 100000
def two (a b : Int) : Value := .agg #[.int .i32 a, .int .i32 b]
def twoD {H : Type} (a b : Int) : DataW H := .agg [.lit (.int .i32 a), .lit (.int .i32 b)]
theorem open_two {H : Type} {enc : TypeId × Value → H} {W : World} {base : Nat} {v : Value} {d : DataW H} {p : List MemPlace} (hval : Value.okWide Tryd.prog W .any base 23 v)
    (h : DataW.Trod enc Tryd.prog W 0 (fun _ => true) true 23 v d p) :
    ∃ a b : Int, v = two a b ∧ d = twoD a b ∧ p = [] ∧ (Lit.int .i32 a).wf = true ∧ (Lit.int .i32 b).wf = true := by
  simp only [Value.okWide, Tryd.underlying23] at hval
  obtain ⟨cs, rfl, hsz, _⟩ := hval
  obtain ⟨fuel, hf⟩ := h
  obtain ⟨xs, m, _, hx, hl, hn, hel⟩ := DataW.trod_array Tryd.underlying23 hf
  have hc1 : Tryd.prog.cellsOf 21 = 1 := by kernel_rfl
  have hc2 : Tryd.prog.cellsOf 23 = 2 := by kernel_rfl
  rw [hc2] at hl
  have h0 := hel 0 (by omega)
  have h1 := hel 1 (by omega)
  match xs, hn with
  | [x0, x1], _ =>
    obtain ⟨cs⟩ := cs
    match cs, hl with
    | [c0, c1], _ =>
      rw [hc1] at h0 h1
      obtain ⟨a, ha, hxa, hwa⟩ := DataW.trod_int Tryd.underlying21 (show _ = some x0 from h0)
      obtain ⟨b, hb, hxb, hwb⟩ := DataW.trod_int Tryd.underlying21 (show _ = some x1 from h1)
      simp [Value.cells] at ha hb
      subst ha hb
      simp only [Prod.mk.injEq] at hx
      refine ⟨a, b, rfl, ?_, ?_, hwa, hwb⟩
      · rw [hx.1, hxa, hxb]; rfl
      · rw [hx.2, hxa, hxb]; rfl
theorem shut_two {H : Type} {enc : TypeId × Value → H} {W : World} {base : Nat} {spare : Nat → Bool} {held : Bool} {a b : Int} (ha : (Lit.int .i32 a).wf = true) (hb : (Lit.int .i32 b).wf = true) :
    DataW.Trod enc Tryd.prog W base spare held 23 (two a b) (twoD a b) [] := by
  have hc1 : Tryd.prog.cellsOf 21 = 1 := by kernel_rfl
  have hc2 : Tryd.prog.cellsOf 23 = 2 := by kernel_rfl
  refine ⟨2, ?_⟩
  show DataW.trod enc Tryd.prog W base spare held 2 23 [.int .i32 a, .int .i32 b] = _
  unfold DataW.trod
  rw [Tryd.underlying23]
  have e0 := trod_int_mk (enc := enc) (P := Tryd.prog) (w := W) (base := base) (spare := spare) (held := held) 0 Tryd.underlying21 ha
  have e1 := trod_int_mk (enc := enc) (P := Tryd.prog) (w := W) (base := base) (spare := spare) (held := held) 0 Tryd.underlying21 hb
  simp [hc1, hc2, List.range_succ, e0, e1, twoD]
end Go.Proofs.YtochodombojamaaDoor.Norm
