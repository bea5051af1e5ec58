/-
  WORDS FOR THE TABLES: what each package-level table holds, cell by cell; a row read out of a table; the tables stay as they are while nothing but new memory is written.
-/
import Derived.Test.YtochodombojamaaDoorProg
import Derived.Test.YtochodombojamaaDoorUcdMath
import Derived.Test.YtochodombojamaaDoorUtfWords
import Derived.Laws.Rows
namespace Go.Proofs.YtochodombojamaaDoor.Ucd
open Go.RowKit Utf

def c3 (l : List (Int × Int × Int)) : List Value := l.flatMap fun x => [.int .i32 x.1, .int .i32 x.2.1, .int .i32 x.2.2]
def c4 (l : List (Int × Int × Int × Int)) : List Value := l.flatMap fun x => [.int .i32 x.1, .int .i32 x.2.1, .int .i32 x.2.2.1, .int .i32 x.2.2.2]

theorem c3_len (l : List (Int × Int × Int)) : (c3 l).length = l.length * 3 := by
  induction l with
  | nil => rfl
  | cons q t ih => simp only [c3, List.flatMap_cons, List.length_append, List.length_cons, List.length_nil] at ih ⊢; omega
theorem c4_len (l : List (Int × Int × Int × Int)) : (c4 l).length = l.length * 4 := by
  induction l with
  | nil => rfl
  | cons q t ih => simp only [c4, List.flatMap_cons, List.length_append, List.length_cons, List.length_nil] at ih ⊢; omega
theorem c3_cons (q : Int × Int × Int) (t : List (Int × Int × Int)) : c3 (q :: t) = .int .i32 q.1 :: .int .i32 q.2.1 :: .int .i32 q.2.2 :: c3 t := rfl
theorem c4_cons (q : Int × Int × Int × Int) (t : List (Int × Int × Int × Int)) : c4 (q :: t) = .int .i32 q.1 :: .int .i32 q.2.1 :: .int .i32 q.2.2.1 :: .int .i32 q.2.2.2 :: c4 t := rfl
theorem c3_drop (l : List (Int × Int × Int)) : ∀ k, (c3 l).drop (k * 3) = c3 (l.drop k) := by
  induction l with
  | nil => intro k; simp [c3]
  | cons q t ih =>
    intro k
    cases k with
    | zero => simp
    | succ k => rw [c3_cons, show (k + 1) * 3 = k * 3 + 1 + 1 + 1 from by omega]; simpa using ih k
theorem c4_drop (l : List (Int × Int × Int × Int)) : ∀ k, (c4 l).drop (k * 4) = c4 (l.drop k) := by
  induction l with
  | nil => intro k; simp [c4]
  | cons q t ih =>
    intro k
    cases k with
    | zero => simp
    | succ k => rw [c4_cons, show (k + 1) * 4 = k * 4 + 1 + 1 + 1 + 1 from by omega]; simpa using ih k
theorem extract_at (cs news : List Value) (o n : Nat) (h : (cs.drop o).take n = news) : cs.toArray.extract o (o + n) = news.toArray := by
  rw [← h]
  apply Array.ext'
  simp [List.extract_eq_take_drop]
/-- row k of a table of rows of three numbers, and of four -/
theorem c3_row (l : List (Int × Int × Int)) (k : Nat) (h : k < l.length) : (c3 l).toArray.extract (k * 3) (k * 3 + 3) = #[.int .i32 l[k].1, .int .i32 l[k].2.1, .int .i32 l[k].2.2] :=
  extract_at _ _ _ _ (by rw [c3_drop, List.drop_eq_getElem_cons h, c3_cons]; rfl)
theorem c4_row (l : List (Int × Int × Int × Int)) (k : Nat) (h : k < l.length) : (c4 l).toArray.extract (k * 4) (k * 4 + 4) = #[.int .i32 l[k].1, .int .i32 l[k].2.1, .int .i32 l[k].2.2.1, .int .i32 l[k].2.2.2] :=
  extract_at _ _ _ _ (by rw [c4_drop, List.drop_eq_getElem_cons h, c4_cons]; rfl)

section
variable {P : Program}
theorem run_index_row {t e : TypeId} {n sz : Nat} (cs : Array Value) (k : Nat) (ht : P.underlying t = some (.array n e)) (ha : ∀ w, (isAgg e).run P w = .ok true w) (hs : ∀ w, (sizeOf e).run P w = .ok sz w) (hk : k < n) (w : World) :
    (Instr.index t (.agg cs) (.int .i64 k)).run P w = .ok (.agg (cs.extract (k * sz) (k * sz + sz))) w := by
  simp [Instr.index, run_underlying ht, asIntOf, hk, hs w, part, ha w]
end

/-- block g holds just these cells (of whatever type it is) -/
def Tbl (w : World) (g : Nat) (cs : List Value) : Prop := ∃ t fr, w.heap[g]? = some (.cells cs.toArray t fr)
section
variable {w w' : World} {g : Nat} {cs : List Value}
theorem Tbl.lt (h : Tbl w g cs) : g < w.heap.size := by obtain ⟨_, _, h⟩ := h; exact (Array.getElem?_eq_some_iff.1 h).1
theorem Tbl.cell (h : Tbl w g cs) (i : Nat) : w.cell? ⟨g, i, none⟩ = cs[i]? := by obtain ⟨t, fr, h⟩ := h; exact (cell_of_row w g i _ t fr h).trans (by simp)
theorem Tbl.below {B : Nat} (h : Tbl w g cs) (hb : Below B w w') (hg : g < B) : Tbl w' g cs := by obtain ⟨t, fr, h⟩ := h; exact ⟨t, fr, (hb.block g hg).trans h⟩
theorem Tbl.alloc (h : Tbl w g cs) (o : Obj) : Tbl (w.alloc o) g cs := by have hl := h.lt; obtain ⟨t, fr, h⟩ := h; exact ⟨t, fr, (Below.heap_alloc w o g hl).trans h⟩
end
/-- WHAT THE TABLES HOLD. -/
def Laid (w : World) : Prop :=
  Tbl w 0 (c3 clsRows) ∧ True ∧ True ∧ Tbl w 1 (c3 listRows) ∧ Tbl w 2 (nums markList) ∧ True
theorem Laid.size {w : World} (h : Laid w) : 2 < w.heap.size := h.2.2.2.2.1.lt
theorem Laid.below {w w' : World} {B : Nat} (h : Laid w) (hb : Below B w w') (hB : 2 < B) : Laid w' :=
  ⟨h.1.below hb (by omega), trivial, trivial, h.2.2.2.1.below hb (by omega), h.2.2.2.2.1.below hb (by omega), trivial⟩
theorem Laid.next {w w' : World} (h : Laid w) (hb : Below w.heap.size w w') : Laid w' := h.below hb h.size
theorem Laid.alloc {w : World} (h : Laid w) (o : Obj) : Laid (w.alloc o) := h.next ((Below.refl _ _).alloc (Nat.le_refl _) o)
theorem Laid.drewN {w : World} (h : Laid w) (k : Nat) : Laid (w.drewN k) := h
theorem Laid.drew {w : World} (h : Laid w) : Laid w.drew := h
theorem ret_int {k : IntKind} {a b : Int} (h : a = b) : Ending.returned (.int k a) = .returned (.int k b) := by rw [h]
theorem ret_bool {a b : Bool} (h : a = b) : Ending.returned (.bool a) = .returned (.bool b) := by rw [h]
/-- a call that makes new memory alone: what was there is as it was -/
def Ret (w : World) (v : Value) (e : Ending) (w' : World) : Prop := e = .returned v ∧ Below w.heap.size w w'
end Go.Proofs.YtochodombojamaaDoor.Ucd
