/-
  CONTRACT OF THE DOCUMENT's ROW: the bounds of the further bytes of a sequence that begins with this byte.
-/
import Derived.Test.YtochodombojamaaDoorUtfRead
namespace Go.Proofs.YtochodombojamaaDoor.Utf
open Go.RowKit
set_option maxRecDepth 100000

def bndN (c : Nat) : List Nat := if need c = 2 then [lo c, hi c] else if need c = 3 then [lo c, hi c, 128, 191] else if need c = 4 then [lo c, hi c, 128, 191, 128, 191] else []
def u8s (l : List Nat) : List Value := l.map fun (n : Nat) => .int .u8 (n : Int)
theorem u8s_len (l : List Nat) : (u8s l).length = l.length := List.length_map _
theorem u8s_get {l : List Nat} {k : Nat} (h : k < l.length) : (u8s l)[k]? = some (.int .u8 l[k]) := by simp [u8s, List.getElem?_eq_getElem h]
theorem Rd.u8 {w : World} {B : Nat} {l : List Nat} {b o : Nat} (h : Rd w B (some ⟨b, o, none⟩) (u8s l)) {k : Nat} (hk : k < l.length) : w.cell? ⟨b, o + k, none⟩ = some (.int .u8 l[k]) := by
  have hne : u8s l ≠ [] := by intro e; have := congrArg List.length e; rw [u8s_len, List.length_nil] at this; omega
  obtain ⟨b', o', e, _, hc⟩ := h hne
  simp only [Option.some.injEq, Addr.mk.injEq, and_true] at e
  obtain ⟨rfl, rfl⟩ := e
  exact hc _ _ (u8s_get hk)

def Bounds (w : World) (c : Nat) (e : Ending) (w' : World) : Prop :=
  ∃ A n, e = .returned (.tuple #[.slice A n n, .bool (decide (need c ≠ 0))]) ∧ n = (bndN c).length ∧ Rd w' w'.heap.size A (u8s (bndN c)) ∧ Below w.heap.size w w'
theorem bounds_nil {w : World} {c : Nat} {b : Bool} (h : bndN c = []) (hb : b = decide (need c ≠ 0)) : Bounds w c (.returned (.tuple #[.slice none 0 0, .bool b])) w :=
  ⟨none, 0, by rw [hb], by rw [h]; rfl, by rw [h]; exact Rd.empty _ _ _, Below.refl _ _⟩
theorem bounds_new {w : World} {c n : Nat} {cs : List Nat} (h : bndN c = cs) (hn : cs.length = n) (hb : need c ≠ 0) :
    Bounds w c (.returned (.tuple #[.slice (some ⟨w.heap.size, 0, none⟩) n n, .bool true])) (w.alloc (.cells (u8s cs).toArray 5)) := by
  refine ⟨_, n, by rw [decide_eq_true hb], by rw [h, hn], ?_, (Below.refl _ _).alloc (Nat.le_refl _) _⟩
  rw [h]
  exact (rd_new w _ _ _ rfl).more (by simp)

theorem rowFact1 : ∀ c : Fin 256, c.val ≤ 127 → bndN c.val = [] ∧ need c.val ≠ 0 := by decide +kernel
theorem rowFact2 : ∀ c : Fin 256, 128 ≤ c.val → c.val ≤ 193 → bndN c.val = [] ∧ need c.val = 0 := by decide +kernel
theorem rowFact3 : ∀ c : Fin 256, 194 ≤ c.val → c.val ≤ 223 → bndN c.val = [128, 191] ∧ need c.val ≠ 0 := by decide +kernel
theorem rowFact4 : ∀ c : Fin 256, c.val = 224 → bndN c.val = [160, 191, 128, 191] ∧ need c.val ≠ 0 := by decide +kernel
theorem rowFact5 : ∀ c : Fin 256, c.val = 237 → bndN c.val = [128, 159, 128, 191] ∧ need c.val ≠ 0 := by decide +kernel
theorem rowFact6 : ∀ c : Fin 256, 225 ≤ c.val → c.val ≤ 239 → c.val ≠ 237 → bndN c.val = [128, 191, 128, 191] ∧ need c.val ≠ 0 := by decide +kernel
theorem rowFact7 : ∀ c : Fin 256, c.val = 240 → bndN c.val = [144, 191, 128, 191, 128, 191] ∧ need c.val ≠ 0 := by decide +kernel
theorem rowFact8 : ∀ c : Fin 256, 241 ≤ c.val → c.val ≤ 243 → bndN c.val = [128, 191, 128, 191, 128, 191] ∧ need c.val ≠ 0 := by decide +kernel
theorem rowFact9 : ∀ c : Fin 256, c.val = 244 → bndN c.val = [128, 143, 128, 191, 128, 191] ∧ need c.val ≠ 0 := by decide +kernel
theorem rowFact10 : ∀ c : Fin 256, 245 ≤ c.val → bndN c.val = [] ∧ need c.val = 0 := by decide +kernel
end Go.Proofs.YtochodombojamaaDoor.Utf

/-
  CONTRACT OF THE DOCUMENT's At: the code point at a place, its width, and whether it is a beginning that the bytes end in.
-/
namespace Go.Proofs.YtochodombojamaaDoor.Utf
open Go.RowKit
set_option maxRecDepth 100000

def pb (x k : Nat) : Nat := if k = 1 then lo x else 128
def qb (x k : Nat) : Nat := if k = 1 then hi x else 191
theorem bnd_len : ∀ x : Fin 256, need x.val ≠ 0 → (bndN x.val).length = 2 * (need x.val - 1) := by decide +kernel
theorem bnd_at : ∀ x : Fin 256, ∀ k : Fin 4, 1 ≤ k.val → k.val < need x.val → (bndN x.val)[2 * k.val - 2]? = some (pb x.val k.val) ∧ (bndN x.val)[2 * k.val - 1]? = some (qb x.val k.val) := by decide +kernel
theorem pb_lt (x k : Nat) : pb x k ≤ 255 := by unfold pb lo; repeat (split <;> try omega)
theorem qb_lt (x k : Nat) : qb x k ≤ 255 := by unfold qb hi; repeat (split <;> try omega)
theorem run_at {l : List UInt8} {x k n : Nat} (hk : k < l.length) (h0 : 1 ≤ k) (h1 : k < n) (h2 : pb x k ≤ l[k].toNat) (h3 : l[k].toNat ≤ qb x k) :
    run k n (pb x k) (qb x k) (l.drop k) = run (k + 1) n (pb x (k + 1)) (qb x (k + 1)) (l.drop (k + 1)) := by
  rw [run_go hk h1 h2 h3]
  have e : ¬ k + 1 = 1 := by omega
  unfold pb qb
  rw [if_neg e, if_neg e]

def Piece (w : World) (d : List UInt8) (e : Ending) (w' : World) : Prop :=
  e = .returned (.tuple #[.int .i32 (rune d), .int .i64 (wid d), .bool (more d)]) ∧ Below w.heap.size w w'

theorem below_drewN {B : Nat} {u v : World} (h : Below B u v) (k : Nat) : Below B u (v.drewN k) := ⟨h.os, h.tape, h.output, h.size, h.block⟩
theorem piece_bad {w w' : World} {d : List UInt8} {N M a k n : Nat} (hM : M = wid d) (hN : nd d = N) (hk : k = M) (hlt : k < N) (hl : d.length = n - a) (ha : a < n) (hb : Below w.heap.size w w') :
    Piece w d (.returned (.tuple #[.int .i32 65533, .int .i64 k, .bool ((a : Int) + (k : Int) == (n : Int))])) w' := by
  subst hk hM hN
  refine ⟨?_, hb⟩
  have h1 : rune d = 65533 := by unfold rune; rw [if_neg (by omega)]
  have h2 : ((a : Int) + (wid d : Int) == (n : Int)) = more d := by
    rw [Bool.eq_iff_iff, more_iff, beq_iff_eq]
    constructor
    · intro h; exact ⟨hlt, by omega⟩
    · intro ⟨_, h⟩; omega
  rw [h1, h2]; rfl
theorem piece_good {w w' : World} {d : List UInt8} {M N J k : Nat} (hM : M = wid d) (hN : nd d = N) (hk : k = M) (hkN : k = N) (hJ : joined (d.take k) = J) (hb : Below w.heap.size w w') :
    Piece w d (.returned (.tuple #[.int .i32 J, .int .i64 k, .bool false])) w' := by
  subst hk hM hJ
  refine ⟨?_, hb⟩
  have h1 : rune d = joined (d.take (wid d)) := by unfold rune; rw [if_pos (by omega)]
  have h2 : more d = false := by unfold more; rw [decide_eq_false (by omega)]; rfl
  rw [h1, h2]

end Go.Proofs.YtochodombojamaaDoor.Utf

/-
  CONTRACTS OF THE DOCUMENT's Decode AND OF Same.
-/
namespace Go.Proofs.YtochodombojamaaDoor.Utf
open Go.RowKit
set_option maxRecDepth 100000

def Pts (w : World) (ps : List Pt) (e : Ending) (w' : World) : Prop :=
  ∃ v, e = .returned v ∧ w'.ownsRow w.heap.size 58 3 v ps.length (pts ps) ∧ Below w.heap.size w w'
theorem pts_of {w w' : World} {v : Value} {H : Nat} {ps qs : List Pt} (hH : H = w.heap.size) (h1 : ps = qs) (hown : w'.ownsRow H 58 3 v ps.length (pts ps)) (hb : Below H w w') : Pts w qs (.returned v) w' := by
  subst hH h1
  exact ⟨v, rfl, hown, hb⟩
theorem own_below {w w' : World} {base : Nat} {e : TypeId} {size : Nat} {v : Value} {n : Nat} {xs : List Value} (h : w.ownsRow base e size v n xs) (hb : Below w.heap.size w w') : w'.ownsRow base e size v n xs :=
  h.kept (row := none) ⟨hb.os, hb.tape, hb.output, hb.size, fun k hk _ => hb.block k hk⟩ (by cases v.ownBlock <;> simp)

end Go.Proofs.YtochodombojamaaDoor.Utf
