/-
  CONTRACT OF THE DOCUMENT's ROW: the bounds of the further bytes of a sequence that begins with this byte.
-/
import Derived.Test.YtipcbiecdabihaaGreatUtfRead
namespace Go.Proofs.YtipcbiecdabihaaGreat.Utf
open Go.RowKit
set_option maxRecDepth 100000

def bndN (c : Nat) : List Nat := if need c = 2 then [lo c, hi c] else if need c = 3 then [lo c, hi c, 128, 191] else if need c = 4 then [lo c, hi c, 128, 191, 128, 191] else []
def u8s (l : List Nat) : List Value := l.map fun (n : Nat) => .int .u8 (n : Int)
theorem u8s_len (l : List Nat) : (u8s l).length = l.length := List.length_map _
theorem u8s_get {l : List Nat} {k : Nat} (h : k < l.length) : (u8s l)[k]? = some (.int .u8 l[k]) := by simp [u8s, List.getElem?_eq_getElem h]
theorem Rd.u8 {w : World} {B : Nat} {l : List Nat} {b o : Nat} (h : Rd w B (some ⟨b, o, none⟩) (u8s l)) {k : Nat} (hk : k < l.length) : w.cell? ⟨b, o + k, none⟩ = some (.int .u8 l[k]) := by
  have hne : u8s l ≠ [] := by intro e; have := congrArg List.length e; rw [u8s_len, List.length_nil] at this; omega
  obtain ⟨b', o', e, _, hc⟩ := h hne
  simp only [Option.some.injEq, Addr.mk.injEq, and_true] at e
  obtain ⟨rfl, rfl⟩ := e
  exact hc _ _ (u8s_get hk)

def Bounds (w : World) (c : Nat) (e : Ending) (w' : World) : Prop :=
  ∃ A n, e = .returned (.tuple #[.slice A n n, .bool (decide (need c ≠ 0))]) ∧ n = (bndN c).length ∧ Rd w' w'.heap.size A (u8s (bndN c)) ∧ Below w.heap.size w w'
theorem bounds_nil {w : World} {c : Nat} {b : Bool} (h : bndN c = []) (hb : b = decide (need c ≠ 0)) : Bounds w c (.returned (.tuple #[.slice none 0 0, .bool b])) w :=
  ⟨none, 0, by rw [hb], by rw [h]; rfl, by rw [h]; exact Rd.empty _ _ _, Below.refl _ _⟩
theorem bounds_new {w : World} {c n : Nat} {cs : List Nat} (h : bndN c = cs) (hn : cs.length = n) (hb : need c ≠ 0) :
    Bounds w c (.returned (.tuple #[.slice (some ⟨w.heap.size, 0, none⟩) n n, .bool true])) (w.alloc (.cells (u8s cs).toArray 5)) := by
  refine ⟨_, n, by rw [decide_eq_true hb], by rw [h, hn], ?_, (Below.refl _ _).alloc (Nat.le_refl _) _⟩
  rw [h]
  exact (rd_new w _ _ _ rfl).more (by simp)

theorem rowFact1 : ∀ c : Fin 256, c.val ≤ 127 → bndN c.val = [] ∧ need c.val ≠ 0 := by decide +kernel
theorem rowFact2 : ∀ c : Fin 256, 128 ≤ c.val → c.val ≤ 193 → bndN c.val = [] ∧ need c.val = 0 := by decide +kernel
theorem rowFact3 : ∀ c : Fin 256, 194 ≤ c.val → c.val ≤ 223 → bndN c.val = [128, 191] ∧ need c.val ≠ 0 := by decide +kernel
theorem rowFact4 : ∀ c : Fin 256, c.val = 224 → bndN c.val = [160, 191, 128, 191] ∧ need c.val ≠ 0 := by decide +kernel
theorem rowFact5 : ∀ c : Fin 256, c.val = 237 → bndN c.val = [128, 159, 128, 191] ∧ need c.val ≠ 0 := by decide +kernel
theorem rowFact6 : ∀ c : Fin 256, 225 ≤ c.val → c.val ≤ 239 → c.val ≠ 237 → bndN c.val = [128, 191, 128, 191] ∧ need c.val ≠ 0 := by decide +kernel
theorem rowFact7 : ∀ c : Fin 256, c.val = 240 → bndN c.val = [144, 191, 128, 191, 128, 191] ∧ need c.val ≠ 0 := by decide +kernel
theorem rowFact8 : ∀ c : Fin 256, 241 ≤ c.val → c.val ≤ 243 → bndN c.val = [128, 191, 128, 191, 128, 191] ∧ need c.val ≠ 0 := by decide +kernel
theorem rowFact9 : ∀ c : Fin 256, c.val = 244 → bndN c.val = [128, 143, 128, 191, 128, 191] ∧ need c.val ≠ 0 := by decide +kernel
theorem rowFact10 : ∀ c : Fin 256, 245 ≤ c.val → bndN c.val = [] ∧ need c.val = 0 := by decide +kernel
set_option maxRecDepth 100000 in
set_option maxHeartbeats 1000000 in
theorem row_any (c : Nat) (hc : c < 256) (w : World) : Calls Tryz.prog 88 #[.int .u8 c] w (Bounds w c) := by
  have f1 := rowFact1 ⟨c, hc⟩
  have f2 := rowFact2 ⟨c, hc⟩
  have f3 := rowFact3 ⟨c, hc⟩
  have f4 := rowFact4 ⟨c, hc⟩
  have f5 := rowFact5 ⟨c, hc⟩
  have f6 := rowFact6 ⟨c, hc⟩
  have f7 := rowFact7 ⟨c, hc⟩
  have f8 := rowFact8 ⟨c, hc⟩
  have f9 := rowFact9 ⟨c, hc⟩
  have f10 := rowFact10 ⟨c, hc⟩
  simp only at f1 f2 f3 f4 f5 f6 f7 f8 f9 f10
  by_cases e1 : c = 224
  · have F := Lib.hid (f4 e1)
    clear f1 f2 f3 f4 f5 f6 f7 f8 f9 f10
    subst e1
    go_enter Tryz.func88, Tryz.ntmps88
    go_wp2
    go_ret2
    exact bounds_new F.out.1 rfl F.out.2
  by_cases e2 : c = 237
  · have F := Lib.hid (f5 e2)
    clear f1 f2 f3 f4 f5 f6 f7 f8 f9 f10
    subst e2
    go_enter Tryz.func88, Tryz.ntmps88
    go_wp2
    go_ret2
    exact bounds_new F.out.1 rfl F.out.2
  by_cases e3 : c = 240
  · have F := Lib.hid (f7 e3)
    clear f1 f2 f3 f4 f5 f6 f7 f8 f9 f10
    subst e3
    go_enter Tryz.func88, Tryz.ntmps88
    go_wp2
    go_ret2
    exact bounds_new F.out.1 rfl F.out.2
  by_cases e4 : c = 244
  · have F := Lib.hid (f9 e4)
    clear f1 f2 f3 f4 f5 f6 f7 f8 f9 f10
    subst e4
    go_enter Tryz.func88, Tryz.ntmps88
    go_wp2
    go_ret2
    exact bounds_new F.out.1 rfl F.out.2
  have b1 : ((c : Int) == 224) = false := by simp; omega
  have b2 : ((c : Int) == 237) = false := by simp; omega
  have b3 : ((c : Int) == 240) = false := by simp; omega
  have b4 : ((c : Int) == 244) = false := by simp; omega
  have F1 := Lib.hid f1; have F2 := Lib.hid f2; have F3 := Lib.hid f3; have F6 := Lib.hid f6; have F8 := Lib.hid f8; have F10 := Lib.hid f10; have E2 := Lib.hid e2
  clear f1 f2 f3 f4 f5 f6 f7 f8 f9 f10 e1 e2 e3 e4
  have hcase : (c ≤ 127) ∨ (128 ≤ c ∧ c ≤ 193) ∨ (194 ≤ c ∧ c ≤ 223) ∨ (224 ≤ c ∧ c ≤ 224) ∨ (225 ≤ c ∧ c ≤ 239) ∨ (240 ≤ c ∧ c ≤ 240) ∨ (241 ≤ c ∧ c ≤ 243) ∨ (244 ≤ c ∧ c ≤ 244) ∨ 245 ≤ c := by omega
  rcases hcase with h | ⟨h, h'⟩ | ⟨h, h'⟩ | ⟨h, h'⟩ | ⟨h, h'⟩ | ⟨h, h'⟩ | ⟨h, h'⟩ | ⟨h, h'⟩ | h
  · go_enter Tryz.func88, Tryz.ntmps88
    go_wp2
    go_ret2
    exact bounds_nil (F1.out h).1 (decide_eq_true (F1.out h).2).symm
  · go_enter Tryz.func88, Tryz.ntmps88
    go_wp2
    go_ret2
    exact bounds_nil (F2.out h h').1 (by simp [(F2.out h h').2])
  · go_enter Tryz.func88, Tryz.ntmps88
    go_wp2
    go_ret2
    exact bounds_new (F3.out h h').1 rfl (F3.out h h').2
  · simp at b1; omega
  · go_enter Tryz.func88, Tryz.ntmps88
    go_wp2
    go_ret2
    exact bounds_new (F6.out h h' E2.out).1 rfl (F6.out h h' E2.out).2
  · simp at b3; omega
  · go_enter Tryz.func88, Tryz.ntmps88
    go_wp2
    go_ret2
    exact bounds_new (F8.out h h').1 rfl (F8.out h h').2
  · simp at b4; omega
  · go_enter Tryz.func88, Tryz.ntmps88
    go_wp2
    go_ret2
    exact bounds_nil (F10.out h).1 (by simp [(F10.out h).2])
end Go.Proofs.YtipcbiecdabihaaGreat.Utf
