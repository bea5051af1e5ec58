/-
  A SPARSE SET IN MEMORY: its block, its places, its list; what its calls may turn.
-/
import Derived.Test.YtckdjbonplpknaaMemWords
namespace Go.Proofs.Ytckdjbonplpknaa.Sparse
open Go.RowKit Mem
set_option maxRecDepth 100000

/-- a size, as it counts -/
def room (n : Int) : Nat := if n < 0 then 0 else if 65536 < n then 65536 else n.toNat
theorem room_le (n : Int) : room n ≤ 65536 := by unfold room; split; · omega
                                                 split <;> omega
theorem room_neg {n : Int} (h : n < 0) : room n = 0 := if_pos h
theorem room_big {n : Int} (h : 65536 < n) : room n = 65536 := by unfold room; rw [if_neg (by omega), if_pos h]
theorem room_mid {n : Int} (h : ¬ n < 0) (h2 : ¬ 65536 < n) : (room n : Int) = n := by unfold room; rw [if_neg h, if_neg h2]; omega
/-- may it be laid behind the others? -/
def fresh (N : Nat) (l : List Int) (x : Int) : Bool := decide (0 ≤ x ∧ x < N ∧ x ∉ l)
def put (N : Nat) (l : List Int) (x : Int) : List Int := if fresh N l x then l ++ [x] else l
theorem fresh_iff {N : Nat} {l : List Int} {x : Int} : fresh N l x = true ↔ 0 ≤ x ∧ x < N ∧ x ∉ l := decide_eq_true_iff
theorem fresh_out {N : Nat} {l : List Int} {x : Int} (h : ¬ (0 ≤ x ∧ x < N)) : fresh N l x = false := decide_eq_false fun k => h ⟨k.1, k.2.1⟩
theorem fresh_there {N : Nat} {l : List Int} {x : Int} (h : x ∈ l) : fresh N l x = false := decide_eq_false fun k => k.2.2 h
theorem put_yes {N : Nat} {l : List Int} {x : Int} (h : fresh N l x = true) : put N l x = l ++ [x] := if_pos h
theorem put_no {N : Nat} {l : List Int} {x : Int} (h : fresh N l x = false) : put N l x = l := by unfold put; rw [h]; rfl
theorem few : ∀ (N : Nat) (l : List Int), l.Nodup → (∀ x ∈ l, 0 ≤ x ∧ x < N) → l.length ≤ N
  | 0, l, _, h => by
    cases l with
    | nil => exact Nat.le_refl _
    | cons x t => have := h x (by simp); omega
  | N + 1, l, hn, h => by
    by_cases hm : (N : Int) ∈ l
    · have h1 := few N (l.erase (N : Int)) (hn.erase _) fun x hx => by
        have h2 := h x (List.mem_of_mem_erase hx)
        have h3 : x ≠ (N : Int) := by rintro rfl; exact (hn.not_mem_erase) hx
        omega
      rw [List.length_erase_of_mem hm] at h1
      omega
    · have h1 := few N l hn fun x hx => by
        have h2 := h x hx
        have h3 : x ≠ (N : Int) := by rintro rfl; exact hm hx
        omega
      omega

/-- THE SET AT BLOCK g: its places at block p, its list v; it is for the numbers below N, and has l -/
structure Ss (T E : TypeId) (k : IntKind) (w : World) (B g p : Nat) (v : Value) (N : Nat) (l : List Int) : Prop where
  blk : Blk w g T [v, .slice (some ⟨p, 0, none⟩) N N]
  own : w.ownsRow B E 1 v l.length (ks k l)
  le : B ≤ g
  lep : B ≤ p
  sm : N ≤ 65536
  pl : ∃ q : List Int, Blk w p 38 (ks .u16 q) ∧ q.length = N ∧ (∀ x ∈ q, 0 ≤ x ∧ x ≤ 65535) ∧ ∀ (i : Nat) (h : i < l.length), q[l[i].toNat]? = some (i : Int)
  nep : v.ownBlock ≠ some p
  neg : v.ownBlock ≠ some g
  gp : g ≠ p
  nod : l.Nodup
  inn : ∀ x ∈ l, 0 ≤ x ∧ x < N
/-- the blocks of a set -/
def Ft (g p : Nat) (v : Value) (i : Nat) : Prop := i = g ∨ i = p ∨ v.ownBlock = some i
/-- two sets share no block -/
def Dj (g p : Nat) (v : Value) (g' p' : Nat) (v' : Value) : Prop := ∀ i, Ft g p v i → ¬ Ft g' p' v' i
section
variable {T E T' E' : TypeId} {k k' : IntKind} {w w' : World} {B B' g p g' p' N N' : Nat} {v u v' u' : Value} {l l' : List Int}
theorem Ss.few (h : Ss T E k w B g p v N l) : l.length ≤ N := Sparse.few N l h.nod h.inn
theorem Ss.keep {S : Nat → Prop} (h : Ss T E k w B g p v N l) (hc : Chg w w' S) (hn : ∀ i, Ft g p v i → ¬ S i) : Ss T E k w' B g p v N l :=
  have ⟨q, h1, h2, h3, h4⟩ := h.pl
  ⟨blk_keep h.blk hc (hn _ (.inl rfl)), own_keep h.own hc fun i hi => hn i (.inr (.inr hi)), h.le, h.lep, h.sm, ⟨q, blk_keep h1 hc (hn _ (.inr (.inl rfl))), h2, h3, h4⟩, h.nep, h.neg, h.gp, h.nod, h.inn⟩
theorem Ss.next (h : Ss T E k w B g p v N l) (hb : Below w.heap.size w w') : Ss T E k w' B g p v N l := h.keep (S := fun _ => False) (Chg.of_below hb (Nat.le_refl _)) fun _ _ e => e
theorem Ss.drewN (h : Ss T E k w B g p v N l) (n : Nat) : Ss T E k (w.drewN n) B g p v N l := h.next (below_drewN (Below.refl _ _) n)
theorem Ss.base (h : Ss T E k w B g p v N l) (hb : B' ≤ B) : Ss T E k w B' g p v N l := ⟨h.blk, own_mono h.own hb, Nat.le_trans hb h.le, Nat.le_trans hb h.lep, h.sm, h.pl, h.nep, h.neg, h.gp, h.nod, h.inn⟩
theorem Ss.hers (h : Ss T E k w B g p v N l) {i : Nat} (hi : Ft g p v i) : B ≤ i ∧ i < w.heap.size := by
  obtain ⟨q, h1, _⟩ := h.pl
  rcases hi with rfl | rfl | hi
  · exact ⟨h.le, h.blk.lt⟩
  · exact ⟨h.lep, h1.lt⟩
  · exact h.own.lt i hi
theorem Ss.low (h : Ss T E k w B g p v N l) {i : Nat} (hi : i < B) : ¬ Ft g p v i := fun hf => by have := (h.hers hf).1; omega
theorem Dj.symm (h : Dj g p v g' p' v') : Dj g' p' v' g p v := fun i h1 h2 => h i h2 h1
/-- a set's blocks behind a call of it: the former ones, and new ones -/
def Grew (w : World) (v u : Value) : Prop := ∀ i, u.ownBlock = some i → v.ownBlock = some i ∨ w.heap.size ≤ i
theorem Grew.refl (w : World) (v : Value) : Grew w v v := fun _ h => .inl h
theorem Grew.trans {v1 v2 v3 : Value} (h : Grew w v1 v2) (h2 : Grew w' v2 v3) (hw : w.heap.size ≤ w'.heap.size) : Grew w v1 v3 := fun i hi => by
  rcases h2 i hi with h2 | h2
  · exact h i h2
  · exact .inr (Nat.le_trans hw h2)
theorem Dj.grew (h : Dj g p v g' p' v') (hs : Ss T E k w B g' p' v' N l) (hu : Grew w v u) : Dj g p u g' p' v' := fun i h1 h2 => by
  rcases h1 with h1 | h1 | h1
  · exact h i (.inl h1) h2
  · exact h i (.inr (.inl h1)) h2
  · rcases hu i h1 with h3 | h3
    · exact h i (.inr (.inr h3)) h2
    · have := (hs.hers h2).2; omega
theorem ft_grew (hu : Grew w v u) {i : Nat} (hi : i < w.heap.size) (h : Ft g p u i) : Ft g p v i := by
  rcases h with h | h | h
  · exact .inl h
  · exact .inr (.inl h)
  · rcases hu i h with h | h
    · exact .inr (.inr h)
    · omega
/-- sets that were made one behind the other -/
theorem Dj.late (h : Ss T E k w B g p v N l) (h' : Ss T' E' k' w' B' g' p' v' N' l') (hb : w.heap.size ≤ B') : Dj g p v g' p' v' := fun i h1 h2 => by
  have := (h.hers h1).2
  have := (h'.hers h2).1
  omega
/-- what a call that makes a set leaves -/
def Made (T E : TypeId) (k : IntKind) (w : World) (n : Int) (e : Ending) (w' : World) : Prop :=
  ∃ g p, e = .returned (.pointer (some ⟨g, 0, none⟩)) ∧ Ss T E k w' w.heap.size g p (.slice none 0 0) (room n) [] ∧ Below w.heap.size w w'
/-- what Add leaves -/
def Adds (T E : TypeId) (k : IntKind) (w : World) (B g p : Nat) (v : Value) (N : Nat) (l : List Int) (x : Int) (e : Ending) (w' : World) : Prop :=
  ∃ u, e = .returned (.bool (fresh N l x)) ∧ Ss T E k w' B g p u N (put N l x) ∧ Chg w w' (Ft g p v) ∧ Grew w v u
end
theorem places_snoc {q l : List Int} {N X : Nat} (h2 : q.length = N) (h4 : ∀ (i : Nat) (h : i < l.length), q[l[i].toNat]? = some (i : Int)) (hi : ∀ x ∈ l, 0 ≤ x ∧ x < N) (hX : X < N) (hx : (X : Int) ∉ l) :
    ∀ (i : Nat) (h : i < (l ++ [(X : Int)]).length), (q.set X (l.length : Int))[((l ++ [(X : Int)])[i]).toNat]? = some (i : Int) := by
  intro i h
  by_cases hl : i < l.length
  · rw [List.getElem_append_left hl, List.getElem?_set_ne, h4 i hl]
    intro e
    have hm := List.getElem_mem hl
    have := hi _ hm
    have e2 : l[i] = (X : Int) := by omega
    rw [e2] at hm
    exact hx hm
  · have e : i = l.length := by rw [List.length_append] at h; simp at h; omega
    subst e
    rw [List.getElem_append_right (Nat.le_refl _)]
    simp [List.getElem?_set_self (show X < q.length by omega)]
section
variable {T E : TypeId} {k : IntKind} {w w' : World} {B g p N : Nat} {v u : Value} {l : List Int}
/-- where a number's place is kept, and what stands at that place -/
theorem Ss.place (h : Ss T E k w B g p v N l) {X : Nat} (hX : X < N) : ∃ y : Nat, y ≤ 65535 ∧ w.cell? ⟨p, X, none⟩ = some (.int .u16 (y : Int)) ∧ w.frozen? ⟨p, X, none⟩ = false ∧ (((X : Int) ∈ l) ↔ ∃ hy : y < l.length, l[y] = (X : Int)) := by
  obtain ⟨q, h1, h2, h3, h4⟩ := h.pl
  have hq : X < q.length := by omega
  have hb := h3 _ (List.getElem_mem hq)
  refine ⟨q[X].toNat, by omega, ?_, h1.frozen _, ?_⟩
  · rw [h1.cell, ks_get hq, show ((q[X].toNat : Nat) : Int) = q[X] from by omega]
  · constructor
    · intro hm
      obtain ⟨i, hi, e⟩ := List.getElem_of_mem hm
      have h5 := h4 i hi
      rw [e, Int.toNat_natCast, List.getElem?_eq_getElem hq, Option.some.injEq] at h5
      rw [h5]
      exact ⟨by rw [Int.toNat_natCast]; exact hi, by simpa using e⟩
    · rintro ⟨hy, e⟩
      rw [← e]
      exact List.getElem_mem hy
theorem Ss.c0 (h : Ss T E k w B g p v N l) : w.cell? ⟨g, 0, none⟩ = some v := h.blk.cell 0
theorem Ss.c1 (h : Ss T E k w B g p v N l) : w.cell? ⟨g, 1, none⟩ = some (.slice (some ⟨p, 0, none⟩) N N) := h.blk.cell 1
theorem Ss.plt (h : Ss T E k w B g p v N l) : p < w.heap.size := (h.hers (.inr (.inl rfl))).2
theorem Ss.snoc (h : Ss T E k w B g p v N l) {X n : Nat} (hn : n = l.length) (hf : fresh N l (X : Int) = true) {w1 w2 : World} (hw1 : w1 = w.setCell ⟨p, X, none⟩ (.int .u16 (n : Int))) {w1' : World} (hb1 : Below w1.heap.size w1 w1')
    (hu : w2.ownsRow B E 1 u (n + 1) (ks k l ++ [.int k (X : Int)])) (hg : w1'.grownBy w2 v.ownBlock) (ha : u.ownBlock = v.ownBlock ∨ u.ownBlock = some w1'.heap.size) :
    Ss T E k (w2.setCell ⟨g, 0, none⟩ u) B g p u N (put N l (X : Int)) ∧ Chg w (w2.setCell ⟨g, 0, none⟩ u) (Ft g p v) ∧ Grew w v u ∧ w2.cell? ⟨g, 0, none⟩ = some v ∧ w2.frozen? ⟨g, 0, none⟩ = false := by
  subst hn
  obtain ⟨q, h1, h2, h3, h4⟩ := h.pl
  obtain ⟨f1, f2, f3⟩ := fresh_iff.1 hf
  have hX : X < N := by omega
  have hs1 : w.heap.size = w1.heap.size := by rw [hw1]; simp [World.setCell]
  have hgp := h.gp
  have hgl := h.blk.lt
  have hpl := h.plt
  have hs2 := hb1.size
  have b1 : Blk w1 g T [v, .slice (some ⟨p, 0, none⟩) N N] := by rw [hw1]; exact h.blk.far h.gp _
  have p1 : Blk w1 p 38 (ks .u16 (q.set X (l.length : Int))) := by rw [hw1, ← ks_set]; exact h1.set_ X _
  have b2 := (b1.below hb1 (by omega)).grown hg (fun e => h.neg e.symm)
  have p2 := (p1.below hb1 (by omega)).grown hg (fun e => h.nep e.symm)
  have hug : u.ownBlock ≠ some g := by
    rcases ha with ha | ha
    · rw [ha]; exact h.neg
    · rw [ha]; intro e; injection e with e; omega
  have hup : u.ownBlock ≠ some p := by
    rcases ha with ha | ha
    · rw [ha]; exact h.nep
    · rw [ha]; intro e; injection e with e; omega
  have hgr : Grew w v u := fun i hi => by
    rcases ha with ha | ha
    · exact .inl (ha ▸ hi)
    · right; rw [ha] at hi; injection hi with hi; omega
  have hc1 : Chg w w1 (Ft g p v) := by rw [hw1]; exact (Chg.refl w _).setCell (p := ⟨p, X, none⟩) _ (.inr (.inl rfl))
  have hc2 : Chg w w2 (Ft g p v) := (hc1.and_below hb1).grown hg fun i _ e => .inr (.inr e)
  refine ⟨?_, hc2.setCell (p := ⟨g, 0, none⟩) u (.inl rfl), hgr, b2.cell 0, b2.frozen 0⟩
  rw [put_yes hf]
  refine ⟨b2.set_ 0 u, ?_, h.le, h.lep, h.sm, ⟨_, p2.far (Ne.symm hgp) u, by rw [List.length_set]; exact h2, ?_, places_snoc h2 h4 h.inn hX f3⟩, hup, hug, hgp, ?_, ?_⟩
  · rw [List.length_append, ks_append]
    exact own_set hu hug u
  · intro x hx
    rcases List.mem_or_eq_of_mem_set hx with hx | hx
    · exact h3 x hx
    · have h5 : (l ++ [(X : Int)]).length ≤ N := Sparse.few N _ (by
        rw [List.nodup_append]
        exact ⟨h.nod, by simp, fun a ha b hb e => by simp at hb; subst hb; subst e; exact f3 ha⟩) (fun x hx => by
          rcases List.mem_append.1 hx with hx | hx
          · exact h.inn x hx
          · simp at hx; omega)
      have := h.sm
      rw [List.length_append] at h5
      simp at h5
      omega
  · rw [List.nodup_append]
    exact ⟨h.nod, by simp, fun a ha b hb e => by simp at hb; subst hb; subst e; exact f3 ha⟩
  · intro x hx
    rcases List.mem_append.1 hx with hx | hx
    · exact h.inn x hx
    · simp at hx; omega
theorem Ss.less (h : Ss T E k w B g p v N l) {x : Int} (hf : fresh N l x = true) : l.length < N := by
  obtain ⟨f1, f2, f3⟩ := fresh_iff.1 hf
  have h5 : (l ++ [x]).length ≤ N := Sparse.few N _ (by
    rw [List.nodup_append]
    exact ⟨h.nod, by simp, fun a ha b hb e => by simp at hb; subst hb; subst e; exact f3 ha⟩) (fun y hx => by
      rcases List.mem_append.1 hx with hx | hx
      · exact h.inn y hx
      · simp at hx; omega)
  rw [List.length_append] at h5
  simp at h5
  omega
end
theorem infoU16 : (Try.prog.info? 38).map (fun i => (i.zero, i.size, i.bytes)) = some (some (.int .u16 0), 1, 2) := by kernel_rfl
theorem infoInt : (Try.prog.info? 3).map (fun i => (i.zero, i.size, i.bytes)) = some (some (.int .i64 0), 1, 8) := by kernel_rfl
theorem infoU8 : (Try.prog.info? 5).map (fun i => (i.zero, i.size, i.bytes)) = some (some (.int .u8 0), 1, 1) := by kernel_rfl
theorem infoI32 : (Try.prog.info? 21).map (fun i => (i.zero, i.size, i.bytes)) = some (some (.int .i32 0), 1, 4) := by kernel_rfl
theorem made_u16 (n : Nat) : madeCells #[Value.int .u16 0] n = (ks .u16 (List.replicate n 0)).toArray := by
  rw [show (ks .u16 (List.replicate n 0)) = List.replicate n (Value.int .u16 0) from by simp [ks], ← toList_madeCells_one]
end Go.Proofs.Ytckdjbonplpknaa.Sparse
