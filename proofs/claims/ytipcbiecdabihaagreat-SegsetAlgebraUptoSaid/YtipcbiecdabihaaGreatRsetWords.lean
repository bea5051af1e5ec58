/-
  RANGES AND EDGES AS CELLS; what a call that makes a list leaves; two ranges compared.
-/
import Derived.Test.YtipcbiecdabihaaGreatUtfWords
import Derived.Test.YtipcbiecdabihaaGreatRsetSweep
import Derived.Test.YtipcbiecdabihaaGreatProg
import Derived.OwnWalk
import Derived.IntWalk
import Derived.Laws.StructEq
namespace Go.Proofs.YtipcbiecdabihaaGreat.Rset
open Go.RowKit
open Utf (Rd Blk)
set_option maxRecDepth 100000

def rgs (l : List Rg) : List Value := l.flatMap fun r => [.int .i32 r.1, .int .i32 r.2]
def eds (l : List Ed) : List Value := l.flatMap fun e => [.int .i64 e.1, .int .i64 e.2.1, .int .i64 e.2.2]
theorem rgs_cons (r : Rg) (t : List Rg) : rgs (r :: t) = .int .i32 r.1 :: .int .i32 r.2 :: rgs t := rfl
theorem eds_cons (e : Ed) (t : List Ed) : eds (e :: t) = .int .i64 e.1 :: .int .i64 e.2.1 :: .int .i64 e.2.2 :: eds t := rfl
theorem rgs_append (l m : List Rg) : rgs (l ++ m) = rgs l ++ rgs m := List.flatMap_append
theorem eds_append (l m : List Ed) : eds (l ++ m) = eds l ++ eds m := List.flatMap_append
theorem rgs_len (l : List Rg) : (rgs l).length = l.length * 2 := by
  induction l with
  | nil => rfl
  | cons r t ih => rw [rgs_cons]; simp only [List.length_cons, ih]; omega
theorem eds_len (l : List Ed) : (eds l).length = l.length * 3 := by
  induction l with
  | nil => rfl
  | cons r t ih => rw [eds_cons]; simp only [List.length_cons, ih]; omega
theorem rgs_get (l : List Rg) : ∀ {k : Nat} (h : k < l.length), (rgs l)[k * 2]? = some (.int .i32 l[k].1) ∧ (rgs l)[k * 2 + 1]? = some (.int .i32 l[k].2) := by
  induction l with
  | nil => intro k h; simp at h
  | cons r t ih =>
    intro k h
    rw [rgs_cons]
    cases k with
    | zero => exact ⟨rfl, rfl⟩
    | succ k =>
      have := ih (k := k) (by simpa using h)
      rw [show (k + 1) * 2 = k * 2 + 1 + 1 from by omega]
      simpa using this
theorem eds_get (l : List Ed) : ∀ {k : Nat} (h : k < l.length), (eds l)[k * 3]? = some (.int .i64 l[k].1) ∧ (eds l)[k * 3 + 1]? = some (.int .i64 l[k].2.1) ∧ (eds l)[k * 3 + 2]? = some (.int .i64 l[k].2.2) := by
  induction l with
  | nil => intro k h; simp at h
  | cons r t ih =>
    intro k h
    rw [eds_cons]
    cases k with
    | zero => exact ⟨rfl, rfl, rfl⟩
    | succ k =>
      have := ih (k := k) (by simpa using h)
      rw [show (k + 1) * 3 = k * 3 + 1 + 1 + 1 from by omega]
      simpa using this
theorem rgs_drop (l : List Rg) : ∀ k, (rgs l).drop (k * 2) = rgs (l.drop k) := by
  induction l with
  | nil => intro k; simp [rgs]
  | cons q t ih =>
    intro k
    cases k with
    | zero => simp
    | succ k => rw [rgs_cons, show (k + 1) * 2 = k * 2 + 1 + 1 from by omega]; simpa using ih k
theorem rgs_take (l : List Rg) : ∀ k, (rgs l).take (k * 2) = rgs (l.take k) := by
  induction l with
  | nil => intro k; simp [rgs]
  | cons q t ih =>
    intro k
    cases k with
    | zero => simp [rgs]
    | succ k => rw [rgs_cons, show (k + 1) * 2 = k * 2 + 1 + 1 from by omega]; simpa [rgs_cons] using ih k
theorem rgs_one (l : List Rg) : ∀ u ∈ rgs l, u.oneCell' = true := by
  intro u hu
  simp only [rgs, List.mem_flatMap, List.mem_cons, List.not_mem_nil, or_false] at hu
  obtain ⟨n, _, rfl | rfl⟩ := hu <;> rfl
theorem eds_one (l : List Ed) : ∀ u ∈ eds l, u.oneCell' = true := by
  intro u hu
  simp only [eds, List.mem_flatMap, List.mem_cons, List.not_mem_nil, or_false] at hu
  obtain ⟨n, _, rfl | rfl | rfl⟩ := hu <;> rfl
theorem rgs_set_hi (i : List Rg) (r : Rg) (y : Int) : (rgs (i ++ [r])).set (i.length * 2 + 1) (.int .i32 y) = rgs (i ++ [(r.1, y)]) := by
  rw [rgs_append, rgs_append, List.set_append_right _ _ (by rw [rgs_len]; omega), rgs_len, show i.length * 2 + 1 - i.length * 2 = 1 from by omega]
  rfl

section
variable {w w' : World} {B : Nat}
theorem rd_rg {l : List Rg} {b o : Nat} (h : Rd w B (some ⟨b, o, none⟩) (rgs l)) {k : Nat} (hk : k < l.length) :
    w.cell? ⟨b, o + k * 2, none⟩ = some (.int .i32 l[k].1) ∧ w.cell? ⟨b, o + k * 2 + 1, none⟩ = some (.int .i32 l[k].2) := by
  obtain ⟨b', o', e, _, hc⟩ := h (by intro e; have := congrArg List.length e; rw [rgs_len, List.length_nil] at this; omega)
  simp only [Option.some.injEq, Addr.mk.injEq, and_true] at e
  obtain ⟨rfl, rfl⟩ := e
  obtain ⟨h1, h2⟩ := rgs_get l hk
  exact ⟨hc _ _ h1, by rw [Nat.add_assoc]; exact hc _ _ h2⟩
theorem rd_ed {l : List Ed} {b o : Nat} (h : Rd w B (some ⟨b, o, none⟩) (eds l)) {k : Nat} (hk : k < l.length) :
    w.cell? ⟨b, o + k * 3, none⟩ = some (.int .i64 l[k].1) ∧ w.cell? ⟨b, o + k * 3 + 1, none⟩ = some (.int .i64 l[k].2.1) ∧ w.cell? ⟨b, o + k * 3 + 2, none⟩ = some (.int .i64 l[k].2.2) := by
  obtain ⟨b', o', e, _, hc⟩ := h (by intro e; have := congrArg List.length e; rw [eds_len, List.length_nil] at this; omega)
  simp only [Option.some.injEq, Addr.mk.injEq, and_true] at e
  obtain ⟨rfl, rfl⟩ := e
  obtain ⟨h1, h2, h3⟩ := eds_get l hk
  exact ⟨hc _ _ h1, by rw [Nat.add_assoc]; exact hc _ _ h2, by rw [Nat.add_assoc]; exact hc _ _ h3⟩
theorem rd_form_rg {l : List Rg} {A : Option Addr} (h : Rd w B A (rgs l)) (hn : 0 < l.length) : ∃ b o, A = some ⟨b, o, none⟩ ∧ b < B := h.form (by rw [rgs_len]; omega)
theorem rd_form_ed {l : List Ed} {A : Option Addr} (h : Rd w B A (eds l)) (hn : 0 < l.length) : ∃ b o, A = some ⟨b, o, none⟩ ∧ b < B := h.form (by rw [eds_len]; omega)
end
theorem infoRg : (Tryz.prog.info? 38).map (fun i => (i.zero, i.size, i.bytes)) = some (some (.agg #[.int .i32 0, .int .i32 0]), 2, 8) := by kernel_rfl
theorem infoI32 : (Tryz.prog.info? 21).map (fun i => (i.zero, i.size, i.bytes)) = some (some (.int .i32 0), 1, 4) := by kernel_rfl
theorem rd_new (u : World) (t : TypeId) (cs : List Value) (g : Nat) (hg : u.heap.size = g) : Rd (u.alloc (.cells cs.toArray t)) (g + 1) (some ⟨g, 0, none⟩) cs := fun _ =>
  ⟨g, 0, rfl, by omega, fun j x hx => by subst hg; rw [(Blk.new u t cs).cell, Nat.zero_add]; exact hx⟩
theorem own_below {w w' : World} {base : Nat} {e : TypeId} {size : Nat} {v : Value} {n : Nat} {xs : List Value} (h : w.ownsRow base e size v n xs) (hb : Below w.heap.size w w') : w'.ownsRow base e size v n xs :=
  h.kept (row := none) ⟨hb.os, hb.tape, hb.output, hb.size, fun k hk _ => hb.block k hk⟩ (by cases v.ownBlock <;> simp)
theorem own_form {w : World} {base : Nat} {e : TypeId} {size n : Nat} {v : Value} {xs : List Value} (h : w.ownsRow base e size v n xs) : ∃ A c, v = .slice A n c ∧ n ≤ c ∧ c ≤ 9223372036854775807 ∧ Rd w w.heap.size A xs := by
  have h2 := h.2
  rcases h2 with ⟨rfl, rfl⟩ | ⟨g, cap, cur, rfl, _, _, h1, h2, _⟩
  · exact ⟨none, 0, rfl, Nat.le_refl _, by omega, Rd.of_own h⟩
  · exact ⟨_, cap, rfl, h1, h2, Rd.of_own h⟩
theorem own_mono {w : World} {base base' : Nat} {e : TypeId} {size : Nat} {v : Value} {n : Nat} {xs : List Value} (h : w.ownsRow base e size v n xs) (hb : base' ≤ base) : w.ownsRow base' e size v n xs := by
  refine ⟨h.1, ?_⟩
  rcases h.2 with h0 | ⟨g, cap, cur, rfl, h1, h2⟩
  · exact .inl h0
  · exact .inr ⟨g, cap, cur, rfl, Nat.le_trans hb h1, h2⟩
theorem below_drewN {B : Nat} {u v : World} (h : Below B u v) (k : Nat) : Below B u (v.drewN k) := ⟨h.os, h.tape, h.output, h.size, h.block⟩
theorem ret_int {k : IntKind} {a b : Int} (h : a = b) : Ending.returned (.int k a) = .returned (.int k b) := by rw [h]
theorem ret_bool {a b : Bool} (h : a = b) : Ending.returned (.bool a) = .returned (.bool b) := by rw [h]
/-- a call that makes new memory alone: what was there is as it was -/
def Ret (w : World) (v : Value) (e : Ending) (w' : World) : Prop := e = .returned v ∧ Below w.heap.size w w'
/-- a list of ranges that lies in memory of the call's own -/
def Own (w : World) (L : List Rg) (e : Ending) (w' : World) : Prop := ∃ v, e = .returned v ∧ w'.ownsRow w.heap.size 38 2 v L.length (rgs L) ∧ Below w.heap.size w w'
/-- the same, as a slice that reads so -/
def New (w : World) (L : List Rg) (e : Ending) (w' : World) : Prop := ∃ A n c, e = .returned (.slice A n c) ∧ L.length = n ∧ Rd w' w'.heap.size A (rgs L) ∧ Below w.heap.size w w'
theorem Own.new {w w' : World} {L : List Rg} {e : Ending} (h : Own w L e w') : New w L e w' := by
  obtain ⟨v, rfl, ho, hb⟩ := h
  obtain ⟨A, c, rfl, _, _, hr⟩ := own_form ho
  exact ⟨A, _, c, rfl, rfl, hr, hb⟩
theorem Own.cast {w w' : World} {L L' : List Rg} {e : Ending} (h : Own w L e w') (hl : L = L') : Own w L' e w' := hl ▸ h
/-- numbers that fit 32 bits -/
def Fit (l : List Rg) : Prop := ∀ r ∈ l, (-2147483648 ≤ r.1 ∧ r.1 ≤ 2147483647) ∧ -2147483648 ≤ r.2 ∧ r.2 ≤ 2147483647
theorem Nm.fit {l : List Rg} (h : Nm l) : Fit l := fun r hr => by have := h.ok r hr; omega

theorem rgFields : Tryz.prog.underlying 38 = some (.struct (Tryz.prog.fieldsOf 38)) := by kernel_rfl
theorem rgHeld : Tryz.prog.stoodInHeld 38 = false := by kernel_rfl
theorem neq_rg (w : World) (a b a' b' : Int) : (binOp .neq 38 (.agg #[.int .i32 a, .int .i32 b]) (.agg #[.int .i32 a', .int .i32 b'])).run Tryz.prog w = .ok (.bool (!(a == a' && b == b'))) w := by
  have u21 := Tryz.underlying21
  have a21 := Tryz.isAgg21
  have z21 := Tryz.sizeOf21
  rw [run_neq_struct, show (10000 : Nat) = 9999 + 1 from rfl, run_equalIn_agg w 9999 _ _ _ rgFields rgHeld]
  simp only [Program.fieldsOf, Tryz.underlying38]
  go_simp
  by_cases h1 : a = a' <;> by_cases h2 : b = b' <;> simp [h1, h2]
end Go.Proofs.YtipcbiecdabihaaGreat.Rset
