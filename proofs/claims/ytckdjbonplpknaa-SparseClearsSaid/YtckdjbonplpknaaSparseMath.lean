/-
  SCRIPTS OF CALLS, AS LISTS: what each call answers, and what is there behind it.
-/
import Derived.Test.YtckdjbonplpknaaSparseTell
namespace Go.Proofs.Ytckdjbonplpknaa.Sparse
open Go.RowKit Mem
set_option maxRecDepth 100000

def yes (b : Bool) : Int := if b then 1 else 0
/-- a call on a set for the numbers below N that has l: what it answers, what is there behind it -/
def step (N : Nat) (l : List Int) (kd x : Int) : Int × List Int :=
  if kd = 1 then (yes (fresh N l x), put N l x) else if kd = 2 then (yes (decide (x ∈ l)), l) else if kd = 3 then ((l.length : Int), l) else if kd = 4 then ((nth l x).getD (-1), l) else if kd = 5 then (0, []) else (-2, l)
theorem step_1 (N : Nat) (l : List Int) (x : Int) : step N l 1 x = (yes (fresh N l x), put N l x) := rfl
theorem step_2 (N : Nat) (l : List Int) (x : Int) : step N l 2 x = (yes (decide (x ∈ l)), l) := rfl
theorem step_3 (N : Nat) (l : List Int) (x : Int) : step N l 3 x = ((l.length : Int), l) := rfl
theorem step_4 (N : Nat) (l : List Int) (x : Int) : step N l 4 x = ((nth l x).getD (-1), l) := rfl
theorem step_5 (N : Nat) (l : List Int) (x : Int) : step N l 5 x = (0, []) := rfl
theorem step_none (N : Nat) (l : List Int) {kd : Int} (x : Int) (h1 : ¬ kd = 1) (h2 : ¬ kd = 2) (h3 : ¬ kd = 3) (h4 : ¬ kd = 4) (h5 : ¬ kd = 5) : step N l kd x = (-2, l) := by
  unfold step; rw [if_neg h1, if_neg h2, if_neg h3, if_neg h4, if_neg h5]
def outs (N : Nat) : List (Int × Int) → List Int → List Int
  | [], _ => []
  | o :: t, l => (step N l o.1 o.2).1 :: outs N t (step N l o.1 o.2).2
def fin (N : Nat) : List (Int × Int) → List Int → List Int
  | [], l => l
  | o :: t, l => fin N t (step N l o.1 o.2).2
theorem outs_snoc (N : Nat) (o : Int × Int) : ∀ (a : List (Int × Int)) (l : List Int), outs N (a ++ [o]) l = outs N a l ++ [(step N (fin N a l) o.1 o.2).1]
  | [], _ => rfl
  | q :: t, l => by simp [outs, fin, outs_snoc N o t]
theorem fin_snoc (N : Nat) (o : Int × Int) : ∀ (a : List (Int × Int)) (l : List Int), fin N (a ++ [o]) l = (step N (fin N a l) o.1 o.2).2
  | [], _ => rfl
  | q :: t, l => by simp [fin, fin_snoc N o t]
theorem outs_len (N : Nat) : ∀ (a : List (Int × Int)) (l : List Int), (outs N a l).length = a.length
  | [], _ => rfl
  | q :: t, l => by simp [outs, outs_len N t]

/-- calls, as cells -/
def opv (l : List (Int × Int)) : List Value := l.flatMap fun o => [.int .i64 o.1, .int .i64 o.2]
theorem opv_cons (o : Int × Int) (t : List (Int × Int)) : opv (o :: t) = .int .i64 o.1 :: .int .i64 o.2 :: opv t := rfl
theorem opv_len (l : List (Int × Int)) : (opv l).length = l.length * 2 := by
  induction l with
  | nil => rfl
  | cons r t ih => rw [opv_cons]; simp only [List.length_cons, ih]; omega
theorem opv_get (l : List (Int × Int)) : ∀ {k : Nat} (h : k < l.length), (opv l)[k * 2]? = some (.int .i64 l[k].1) ∧ (opv l)[k * 2 + 1]? = some (.int .i64 l[k].2) := by
  induction l with
  | nil => intro k h; simp at h
  | cons r t ih =>
    intro k h
    rw [opv_cons]
    cases k with
    | zero => exact ⟨rfl, rfl⟩
    | succ k =>
      have := ih (k := k) (by simpa using h)
      rw [show (k + 1) * 2 = k * 2 + 1 + 1 from by omega]
      simpa using this
theorem rd_op {w : World} {B : Nat} {l : List (Int × Int)} {b o : Nat} (h : Rd w B (some ⟨b, o, none⟩) (opv l)) {k : Nat} (hk : k < l.length) :
    w.cell? ⟨b, o + k * 2, none⟩ = some (.int .i64 l[k].1) ∧ w.cell? ⟨b, o + k * 2 + 1, none⟩ = some (.int .i64 l[k].2) := by
  obtain ⟨b', o', e, _, hc⟩ := h (by intro e; have := congrArg List.length e; rw [opv_len, List.length_nil] at this; omega)
  simp only [Option.some.injEq, Addr.mk.injEq, and_true] at e
  obtain ⟨rfl, rfl⟩ := e
  obtain ⟨h1, h2⟩ := opv_get l hk
  exact ⟨hc _ _ h1, by rw [Nat.add_assoc]; exact hc _ _ h2⟩
theorem rd_form_op {w : World} {B : Nat} {l : List (Int × Int)} {A : Option Addr} (h : Rd w B A (opv l)) (hn : 0 < l.length) : ∃ b o, A = some ⟨b, o, none⟩ ∧ b < B := h.form (by rw [opv_len]; omega)
end Go.Proofs.Ytckdjbonplpknaa.Sparse
