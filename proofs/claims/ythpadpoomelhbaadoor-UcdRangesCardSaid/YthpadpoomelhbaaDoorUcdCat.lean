/-
  CONTRACT OF Category: a range over stretches whose body leaves early.
-/
import Derived.Test.YthpadpoomelhbaaDoorUcdStretch
namespace Go.Proofs.YthpadpoomelhbaaDoor.Ucd
open Go.RowKit Go.Shelf Utf

attribute [local go_sem] Oper.semAt_some

theorem all_map : allRows.map (·.1) = catRows := List.attach_map_subtype_val _
/-- nothing is decided of r by these rows -/
def Und (r : Int) (pre : List CRow) : Prop := ∀ rest, look 7 (pre.map (·.1) ++ rest) r = look 7 rest r
/-- these rows decide that it is v -/
def Dcd (r v : Int) (pre : List CRow) : Prop := ∀ rest, look 7 (pre.map (·.1) ++ rest) r = v
theorem und_nil (r : Int) : Und r [] := fun _ => rfl
theorem und_next {r : Int} {pre : List CRow} (h : Und r pre) (x : CRow) (h1 : ¬ r < x.1.1) (h2 : ¬ r ≤ x.1.2.1) : Und r (pre ++ [x]) := fun rest => by
  rw [List.map_append, List.append_assoc, h]
  simp only [List.map_cons, List.map_nil, List.cons_append, List.nil_append, look, if_neg h1, if_neg h2]
theorem dcd_lt {r : Int} {pre : List CRow} (h : Und r pre) (x : CRow) (h1 : r < x.1.1) : Dcd r 7 (pre ++ [x]) := fun rest => by
  rw [List.map_append, List.append_assoc, h]
  simp only [List.map_cons, List.map_nil, List.cons_append, List.nil_append, look, if_pos h1]
theorem dcd_in {r : Int} {pre : List CRow} (h : Und r pre) (x : CRow) (h1 : ¬ r < x.1.1) (h2 : r ≤ x.1.2.1) : Dcd r x.1.2.2 (pre ++ [x]) := fun rest => by
  rw [List.map_append, List.append_assoc, h]
  simp only [List.map_cons, List.map_nil, List.cons_append, List.nil_append, look, if_neg h1, if_pos h2]
theorem dcd_cat {r v : Int} {pre : List CRow} (h : Dcd r v pre) (hp : pre <+: allRows) : cat r = v := by
  obtain ⟨t, ht⟩ := hp
  have := h (t.map (·.1))
  rwa [← List.map_append, ht, all_map] at this
theorem und_cat {r : Int} (h : Und r allRows) : cat r = 7 := by
  have := h []
  rwa [List.append_nil, all_map] at this

def I0 (w : World) (r : Int) (pre : List CRow) (W : World) : Prop :=
  Und r pre ∧ Blk W w.heap.size 21 [.int .i32 r] ∧ Blk W (w.heap.size + 1) 3 [.int .i64 0] ∧ Below w.heap.size w W
def Ix0 (w : World) (r : Int) (c : Code) (pre : List CRow) (W : World) : Prop :=
  (c = .exit 0 ∧ Dcd r 7 pre ∧ Blk W (w.heap.size + 1) 3 [.int .i64 0] ∧ Below w.heap.size w W) ∨ (c = .ret ∧ ∃ v, Dcd r v pre ∧ Blk W (w.heap.size + 1) 3 [.int .i64 v] ∧ Below w.heap.size w W)
/-- the loop's variable lies in a block of its own -/
def Ax0 (w : World) (r : Int) (x : CRow) (a' : Act) (W : World) : Prop :=
  ∃ B, w.heap.size + 1 < B ∧ Blk W B 44 [.int .i32 x.1.1, .int .i32 x.1.2.1, .int .i32 x.1.2.2] ∧
    a' = { tmps := #[.int .i32 r, .pointer (some ⟨w.heap.size, 0, none⟩), .pointer (some ⟨w.heap.size + 1, 0, none⟩), .pointer (some ⟨B, 0, none⟩), .agg #[.int .i32 x.1.1, .int .i32 x.1.2.1, .int .i32 x.1.2.2], undef, undef, undef, undef, undef, undef, undef, undef, undef, undef, undef], defers := [] }
theorem blk_own {β : Type} (B : Nat) (t : TypeId) (cs : List Value) (D : Nat) : OwnFrom D (fun (_ : β) W => Blk W B t cs) := fun _ X Y row hs hg hr => hs.grown hg (fun e => by
  obtain ⟨_, o, ho, hc⟩ := hr B e.symm
  rw [show X.heap[B]? = _ from hs] at ho
  cases ho; cases hc)

/-- the way out: the rounds' deferred calls are none; the result lies in its cell -/
theorem leave {w W : World} {r v : Int} {D : Nat} {tmps : Array Value} (ht : tmps.getD 2 undef = .pointer (some ⟨w.heap.size + 1, 0, none⟩)) (he : cat r = v) (hb : Blk W (w.heap.size + 1) 3 [.int .i64 v]) (hB : Below w.heap.size w W) (hD : w.heap.size ≤ D) (hK : W.heap[D]? = some (.deferred (some []))) :
    bodyPostM Fence.wide 4 Tryd.prog Tryd.f14 (Ret w (.int .i64 (cat r))) .ret { tmps := tmps, defers := [{ target := .collected D, args := #[] }] } W := by
  refine ⟨by simp, .inl ⟨_, _, rfl, run_takeDeferred hK, ?_⟩⟩
  have h5 : Blk (W.putObj D (.deferred none)) (w.heap.size + 1) 3 [.int .i64 v] := hb.grown (grownBy_putObj' _ D (.deferred none)) (fun e => by
    cases e
    rw [show W.heap[w.heap.size + 1]? = _ from hb] at hK
    cases hK)
  have hc5 : (W.putObj D (.deferred none)).cell? ⟨w.heap.size + 1, 0, none⟩ = some (.int .i64 v) := h5.cell 0
  refine ⟨.int .i64 v, ?_, by rw [he], hB.trans (belowK_b (w := w) (Nat.le_refl _) W D _ _ hD hK rfl rfl)⟩
  have ht' : tmps[2]?.getD undef = .pointer (some ⟨w.heap.size + 1, 0, none⟩) := by simpa using ht
  simp [results, Tryd.f14, go_sem, hc5, ht']

set_option maxRecDepth 100000 in
set_option maxHeartbeats 4000000 in
theorem category_in (r : Int) (w : World) (hL : Laid w) :
    CallsIn Fence.wide 4 Tryd.prog 14 #[.int .i32 r] w (Ret w (.int .i64 (cat r))) := by
  have h1 : 1 ≤ 4 := by omega
  refine callsIn_of_wp_marks Tryd.func14 rfl trivial ?_ rfl
  simp only [Tryd.ntmps14, List.size_toArray, List.length_cons, List.length_nil, Nat.reduceAdd, Nat.reduceSub, Array.replicate_succ, Array.replicate_zero, List.push_toArray, List.append_toArray, List.nil_append, List.cons_append]
  gi_wp2
  have b0 : Blk ((w.alloc (.cells #[.int .i32 r] 21)).alloc (.cells #[.int .i64 0] 3)) w.heap.size 21 [.int .i32 r] := (Blk.new w _ [.int .i32 r]).alloc _
  have b1 : Blk ((w.alloc (.cells #[.int .i32 r] 21)).alloc (.cells #[.int .i64 0] 3)) (w.heap.size + 1) 3 [.int .i64 0] := by
    have := Blk.new (w.alloc (.cells #[.int .i32 r] 21)) 3 [.int .i64 0]
    rwa [World.size_alloc] at this
  have hB0 : Below w.heap.size w ((w.alloc (.cells #[.int .i32 r] 21)).alloc (.cells #[.int .i64 0] 3)) := ((Below.refl _ w).alloc (Nat.le_refl _) _).alloc (by simp) _
  have hsz := hL.size
  refine wpIn_rangeFunc_ownH rfl h1 (gf := 32) (lb := #[]) rfl trivial (enters_of Tryd.func32 (by kernel_rfl) rfl)
    (stretches_stops Fence.wide (4 - 1) trivial rfl (by omega) _ ((hL.alloc _).alloc _)) belowK_t (belowK_b (by simp; omega)) (Below.refl _ _) (fun _ => rfl)
    (I0 w r) (Ix0 w r)
    ?i
    ?ix
    ⟨und_nil r, b0, b1, hB0⟩
    (Ax0 w r) ?ax ?assign ?body ?done ?stop
  case i =>
    exact OwnFrom.and (ownFrom_pure _ _) (OwnFrom.and (blk_own _ _ _ _) (OwnFrom.and (blk_own _ _ _ _) (ownFrom_below (Nat.le_refl _) (by simp; omega))))
  case ix =>
    rintro c pre A B row (⟨hc, hd, hb, hB⟩ | ⟨hc, v, hd, hb, hB⟩) hg hr
    · exact .inl ⟨hc, hd, blk_own _ _ _ _ () A B row hb hg hr, (ownFrom_below (β := Unit) (Nat.le_refl _) (by simp; omega)) () A B row hB hg hr⟩
    · exact .inr ⟨hc, v, hd, blk_own _ _ _ _ () A B row hb hg hr, (ownFrom_below (β := Unit) (Nat.le_refl _) (by simp; omega)) () A B row hB hg hr⟩
  case ax =>
    rintro x a' u A B row ⟨Bx, h1, h2, h3⟩ hg hr
    exact ⟨Bx, h1, blk_own _ _ _ _ () A B row h2 hg hr, h3⟩
  case assign =>
    rintro l pre ⟨⟨lo, hi, v⟩, hm⟩ W K ⟨hu, i0, i1, hB⟩ hK
    dsimp only [encRow]
    gi_wp2
    have hs := i1.lt
    exact hK _ _ ((KeepsOthers.alloc _ _).from _) ((Below.refl _ W).alloc (by omega) _) ⟨hu, i0.alloc _, i1.alloc _, hB.alloc hB.size _⟩ ⟨W.heap.size, hs, Blk.new W _ _, rfl⟩
  case body =>
    rintro l pre ⟨⟨lo, hi, v⟩, hm⟩ a' W hl ⟨rr, hr⟩ ⟨hu, i0, i1, hB⟩ ⟨B, hBB, bX, rfl⟩ _
    have x0 : W.cell? ⟨B, 0, none⟩ = some (.int .i32 lo) := bX.cell 0
    have x1 : W.cell? ⟨B, 1, none⟩ = some (.int .i32 hi) := bX.cell 1
    have x2 : W.cell? ⟨B, 2, none⟩ = some (.int .i32 v) := bX.cell 2
    have hc0 : W.cell? ⟨w.heap.size, 0, none⟩ = some (.int .i32 r) := i0.cell 0
    have hc1 : W.cell? ⟨w.heap.size + 1, 0, none⟩ = some (.int .i64 0) := i1.cell 0
    have hf1 : W.frozen? ⟨w.heap.size + 1, 0, none⟩ = false := i1.frozen 0
    have HU := Lib.hid hu; have H0 := Lib.hid i0; have H1 := Lib.hid i1; have HBW := Lib.hid hB
    clear hu i0 i1 hB bX hr
    have hvv : 1 ≤ v ∧ v ≤ 6 := by
      have : ∀ x ∈ catRows, 1 ≤ x.2.2 ∧ x.2.2 ≤ 6 := by decide +kernel
      exact this _ hm
    obtain ⟨v1, v2⟩ := hvv
    gi_wp2
    · have ht : r < lo := by assumption
      exact ⟨KeepsFrom.refl _ _, .inl ⟨rfl, dcd_lt HU.out ⟨(lo, hi, v), hm⟩ ht, H1.out, HBW.out⟩⟩
    · have ht : lo ≤ r := by assumption
      have hu : r ≤ hi := by assumption
      exact ⟨(KeepsOthers.setCell _ _ _).from _, .inr ⟨rfl, v, dcd_in HU.out ⟨(lo, hi, v), hm⟩ (by show ¬ r < lo; omega) hu, H1.out.set_ 0 _, HBW.out.setCell (p := ⟨w.heap.size + 1, 0, none⟩) (by simp) _⟩⟩
    · have ht : lo ≤ r := by assumption
      have hu : hi < r := by assumption
      exact ⟨KeepsFrom.refl _ _, Below.refl _ _, und_next HU.out ⟨(lo, hi, v), hm⟩ (by show ¬ r < lo; omega) (by show ¬ r ≤ hi; omega), H0.out, H1.out, HBW.out⟩
  case done =>
    rintro D xs W hD rfl ⟨hu, i0, i1, hB⟩ hK
    have hc1 : W.cell? ⟨w.heap.size + 1, 0, none⟩ = some (.int .i64 0) := i1.cell 0
    have hf1 : W.frozen? ⟨w.heap.size + 1, 0, none⟩ = false := i1.frozen 0
    have HK := Lib.hid hK; have H1 := Lib.hid i1; have HBW := Lib.hid hB; have HU := Lib.hid hu
    clear hK i0 i1 hB hu
    gi_wp2
    have hK' := (KeepsOthers.setCell W ⟨w.heap.size + 1, 0, none⟩ (.int .i64 7)).same D _ HK.out rfl
    exact leave rfl (und_cat HU.out) (H1.out.set_ 0 _) (HBW.out.setCell (p := ⟨w.heap.size + 1, 0, none⟩) (by simp) _) (by simp at hD; omega) hK'
  case stop =>
    rintro D c pre W hD hpre (⟨rfl, hd, i1, hB⟩ | ⟨rfl, v, hd, i1, hB⟩) hK
    · have hc1 : W.cell? ⟨w.heap.size + 1, 0, none⟩ = some (.int .i64 0) := i1.cell 0
      have hf1 : W.frozen? ⟨w.heap.size + 1, 0, none⟩ = false := i1.frozen 0
      have HK := Lib.hid hK; have H1 := Lib.hid i1; have HBW := Lib.hid hB; have HD := Lib.hid hd
      clear hK i1 hB hd
      gi_wp2
      have hK' := (KeepsOthers.setCell W ⟨w.heap.size + 1, 0, none⟩ (.int .i64 7)).same D _ HK.out rfl
      exact leave rfl (dcd_cat HD.out hpre) (H1.out.set_ 0 _) (HBW.out.setCell (p := ⟨w.heap.size + 1, 0, none⟩) (by simp) _) (by simp at hD; omega) hK'
    · gi_wp2
      exact leave rfl (dcd_cat hd hpre) i1 hB (by simp at hD; omega) hK

theorem category_any (r : Int) (w : World) (hL : Laid w) : Calls Tryd.prog 14 #[.int .i32 r] w (Ret w (.int .i64 (cat r))) := callsIn_wide.1 (category_in r w hL)
end Go.Proofs.YthpadpoomelhbaaDoor.Ucd
