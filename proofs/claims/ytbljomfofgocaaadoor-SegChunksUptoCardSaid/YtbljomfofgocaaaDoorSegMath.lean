/-
  PLAIN MATHEMATICS OF SEGMENTS: lists cut ahead of what opens; the cut with a limit, one after the other; segments of points. Nothing of the program stands here.
-/
import Derived.Test.YtbljomfofgocaaaDoorNormText
namespace Go.Proofs.YtbljomfofgocaaaDoor.Seg
open Utf Norm
open Ucd hiding same

/-! ### a list, cut ahead of what opens -/
section generic
variable {α β : Type} (op : α → Bool)
def gstep (s : List (List α) × List α) (q : α) : List (List α) × List α := if op q && !s.2.isEmpty then (s.1 ++ [s.2], [q]) else (s.1, s.2 ++ [q])
def gfold (s : List (List α) × List α) (ps : List α) : List (List α) × List α := ps.foldl (gstep op) s
def shut (s : List (List α) × List α) : List (List α) := if s.2.isEmpty then s.1 else s.1 ++ [s.2]
/-- the groups -/
def cuts (ps : List α) : List (List α) := shut (gfold op ([], []) ps)
theorem gfold_nil (s : List (List α) × List α) : gfold op s [] = s := rfl
theorem gfold_cons (s : List (List α) × List α) (q : α) (t : List α) : gfold op s (q :: t) = gfold op (gstep op s q) t := rfl
theorem gfold_append (s : List (List α) × List α) (a b : List α) : gfold op s (a ++ b) = gfold op (gfold op s a) b := List.foldl_append
theorem gfold_snoc (s : List (List α) × List α) (a : List α) (q : α) : gfold op s (a ++ [q]) = gstep op (gfold op s a) q := by rw [gfold_append]; rfl
theorem gstep_new {T : List (List α)} {O : List α} {q : α} (h : op q = true) (hO : O ≠ []) : gstep op (T, O) q = (T ++ [O], [q]) := by
  have : O.isEmpty = false := by simpa using hO
  simp [gstep, h, this]
theorem gstep_on {T : List (List α)} {O : List α} {q : α} (h : op q = false ∨ O = []) : gstep op (T, O) q = (T, O ++ [q]) := by
  rcases h with h | h
  · simp [gstep, h]
  · simp [gstep, h]
theorem gstep_ne (s : List (List α) × List α) (q : α) : (gstep op s q).2 ≠ [] := by unfold gstep; split <;> simp
theorem gstep_flat (s : List (List α) × List α) (q : α) : (gstep op s q).1.flatten ++ (gstep op s q).2 = s.1.flatten ++ s.2 ++ [q] := by unfold gstep; split <;> simp
theorem gfold_ne : ∀ (ps : List α) (s : List (List α) × List α), s.2 ≠ [] → (gfold op s ps).2 ≠ []
  | [], _, h => h
  | q :: t, s, _ => gfold_ne t _ (gstep_ne op s q)
theorem gfold_some {ps : List α} (h : ps ≠ []) (s : List (List α) × List α) : (gfold op s ps).2 ≠ [] := by
  cases ps with
  | nil => exact absurd rfl h
  | cons q t => exact gfold_ne op t _ (gstep_ne op s q)
theorem gfold_flat : ∀ (ps : List α) (s : List (List α) × List α), (gfold op s ps).1.flatten ++ (gfold op s ps).2 = s.1.flatten ++ s.2 ++ ps
  | [], s => by simp [gfold_nil]
  | q :: t, s => by rw [gfold_cons, gfold_flat t, gstep_flat]; simp
theorem gstep_pre (T : List (List α)) (s : List (List α) × List α) (q : α) : gstep op (T ++ s.1, s.2) q = (T ++ (gstep op s q).1, (gstep op s q).2) := by unfold gstep; simp only; split <;> simp
theorem gfold_pre (T : List (List α)) : ∀ (ps : List α) (s : List (List α) × List α), gfold op (T ++ s.1, s.2) ps = (T ++ (gfold op s ps).1, (gfold op s ps).2)
  | [], s => rfl
  | q :: t, s => by rw [gfold_cons, gstep_pre, gfold_pre T t, gfold_cons]
theorem shut_pre (T : List (List α)) (s : List (List α) × List α) : shut (T ++ s.1, s.2) = T ++ shut s := by unfold shut; simp only; split <;> simp
theorem shut_flat (s : List (List α) × List α) : (shut s).flatten = s.1.flatten ++ s.2 := by
  unfold shut
  split
  · rename_i h; simp [List.isEmpty_iff.1 h]
  · simp
theorem cuts_flat (ps : List α) : (cuts op ps).flatten = ps := by rw [cuts, shut_flat, gfold_flat]; simp
theorem cuts_nil : cuts op [] = [] := rfl
theorem cuts_some {ps : List α} (h : ps ≠ []) : cuts op ps = (gfold op ([], []) ps).1 ++ [(gfold op ([], []) ps).2] := by
  have := gfold_some op h ([], [])
  rw [cuts, shut, if_neg (by simpa using this)]
/-- cut ahead of one that opens -/
theorem cuts_open {a : List α} (ha : a ≠ []) {x : α} (hx : op x = true) (b : List α) : cuts op (a ++ x :: b) = cuts op a ++ cuts op (x :: b) := by
  have h := gfold_some op ha ([], [])
  rw [cuts_some op ha, cuts, gfold_append, gfold_cons]
  obtain ⟨T, O, hs⟩ : ∃ T O, gfold op ([], []) a = (T, O) := ⟨_, _, rfl⟩
  rw [hs] at h ⊢
  rw [gstep_new op hx h, cuts, gfold_cons, gstep_on op (.inr rfl)]
  have := gfold_pre op (T ++ [O]) b ([], [x])
  rw [List.append_nil] at this
  rw [this, shut_pre]
  rfl
theorem gfold_closed : ∀ (t O : List α) (T : List (List α)), (∀ x ∈ t, op x = false) → gfold op (T, O) t = (T, O ++ t)
  | [], O, T, _ => by simp [gfold_nil]
  | q :: t, O, T, h => by
    rw [gfold_cons, gstep_on op (.inl (h q (by simp))), gfold_closed t _ _ fun x hx => h x (by simp [hx])]
    simp
theorem cuts_one (q : α) (t : List α) (h : ∀ x ∈ t, op x = false) : cuts op (q :: t) = [q :: t] := by
  rw [cuts, gfold_cons, gstep_on op (.inr rfl), gfold_closed op t _ _ h]; rfl

/-- a group -/
def One (g : List α) : Prop := ∃ q t, g = q :: t ∧ ∀ x ∈ t, op x = false
/-- a group that begins with one that opens -/
def Opn (g : List α) : Prop := ∃ q t, g = q :: t ∧ op q = true ∧ ∀ x ∈ t, op x = false
def Good (gs : List (List α)) : Prop := (∀ g ∈ gs, One op g) ∧ ∀ g ∈ gs.tail, Opn op g
theorem Opn.one {g : List α} (h : Opn op g) : One op g := by obtain ⟨q, t, h1, _, h2⟩ := h; exact ⟨q, t, h1, h2⟩
theorem tail_snoc (gs : List (List α)) (g : List α) (h : gs ≠ []) : (gs ++ [g]).tail = gs.tail ++ [g] := by
  cases gs with
  | nil => exact absurd rfl h
  | cons x t => rfl
theorem Good.snoc {gs : List (List α)} {g : List α} (h : Good op gs) (hg : Opn op g) : Good op (gs ++ [g]) := by
  refine ⟨fun x hx => ?_, fun x hx => ?_⟩
  · rcases List.mem_append.1 hx with hx | hx
    · exact h.1 x hx
    · rw [List.mem_singleton.1 hx]; exact hg.one
  · by_cases hn : gs = []
    · subst hn; simp at hx
    · rw [tail_snoc gs g hn] at hx
      rcases List.mem_append.1 hx with hx | hx
      · exact h.2 x hx
      · rw [List.mem_singleton.1 hx]; exact hg
theorem Good.unsnoc {gs : List (List α)} {g : List α} (h : Good op (gs ++ [g])) : Good op gs ∧ One op g ∧ (gs ≠ [] → Opn op g) := by
  refine ⟨⟨fun x hx => h.1 x (by simp [hx]), fun x hx => ?_⟩, h.1 g (by simp), fun hn => h.2 g (by rw [tail_snoc gs g hn]; simp)⟩
  have hn : gs ≠ [] := by rintro rfl; simp at hx
  exact h.2 x (by rw [tail_snoc gs g hn]; simp [hx])
theorem Good.one_ {g : List α} (h : One op g) : Good op [g] := ⟨fun x hx => by rw [List.mem_singleton.1 hx]; exact h, fun x hx => by simp at hx⟩
theorem Good.put {gs : List (List α)} {g : List α} (h : Good op gs) (h1 : One op g) (h2 : gs ≠ [] → Opn op g) : Good op (gs ++ [g]) := by
  by_cases hn : gs = []
  · subst hn; exact Good.one_ op h1
  · exact h.snoc op (h2 hn)
theorem snoc_ind {p : List α → Prop} (h0 : p []) (h1 : ∀ l x, p l → p (l ++ [x])) (l : List α) : p l := by
  have : ∀ r : List α, p r.reverse := fun r => by
    induction r with
    | nil => exact h0
    | cons x t ih => rw [List.reverse_cons]; exact h1 _ _ ih
  have h := this l.reverse
  rwa [List.reverse_reverse] at h
theorem gfold_one (q : α) : gfold op ([], []) [q] = ([], [q]) := by rw [gfold_cons, gstep_on op (.inr rfl)]; rfl
theorem cuts_good (ps : List α) : Good op (cuts op ps) := by
  refine snoc_ind (p := fun ps => Good op (cuts op ps)) ⟨fun g hg => by simp [cuts_nil] at hg, fun g hg => by simp [cuts_nil] at hg⟩ (fun l q ih => ?_) ps
  by_cases hl : l = []
  · subst hl
    rw [List.nil_append, cuts_one op q [] (by simp)]
    exact Good.one_ op ⟨q, [], rfl, by simp⟩
  · have hO := gfold_some op hl ([], [])
    rw [cuts_some op hl] at ih
    rw [cuts_some op (by simp), gfold_snoc]
    obtain ⟨T, O, hs⟩ : ∃ T O, gfold op ([], []) l = (T, O) := ⟨_, _, rfl⟩
    rw [hs] at ih hO ⊢
    by_cases hq : op q = true
    · rw [gstep_new op hq hO]
      exact ih.snoc op ⟨q, [], rfl, hq, by simp⟩
    · have hq : op q = false := by simpa using hq
      rw [gstep_on op (.inl hq)]
      obtain ⟨g1, ⟨x, t, rfl, ht⟩, g3⟩ := ih.unsnoc op
      refine g1.put op ⟨x, t ++ [q], rfl, fun y hy => ?_⟩ fun hT => ?_
      · rcases List.mem_append.1 hy with hy | hy
        · exact ht y hy
        · rw [List.mem_singleton.1 hy]; exact hq
      · obtain ⟨x', t', e, hx', _⟩ := g3 hT
        injection e with e1 e2
        subst e1 e2
        refine ⟨x, t ++ [q], rfl, hx', fun y hy => ?_⟩
        rcases List.mem_append.1 hy with hy | hy
        · exact ht y hy
        · rw [List.mem_singleton.1 hy]; exact hq
/-- groups are what the cut of all of them gives -/
theorem good_cuts (gs : List (List α)) : Good op gs → cuts op gs.flatten = gs := by
  have key : ∀ r : List (List α), Good op r.reverse → cuts op r.reverse.flatten = r.reverse := fun r => by
    induction r with
    | nil => exact fun _ => rfl
    | cons g t ih =>
      intro h
      rw [List.reverse_cons] at h ⊢
      obtain ⟨h1, ⟨q, u, rfl, hu⟩, h3⟩ := h.unsnoc op
      rw [List.flatten_append, List.flatten_singleton]
      by_cases hn : t.reverse = []
      · rw [hn]; exact cuts_one op q u hu
      · obtain ⟨q', u', e, hq, _⟩ := h3 hn
        injection e with e1 e2
        subst e1
        have hf : t.reverse.flatten ≠ [] := by
          cases hr : t.reverse with
          | nil => exact absurd hr hn
          | cons a b =>
            obtain ⟨y, v, hy, _⟩ := h1.1 a (by rw [hr]; simp)
            rw [hy]; simp
        rw [cuts_open op hf hq, ih h1, cuts_one op q u hu]
  intro h
  have := key gs.reverse
  rw [List.reverse_reverse] at this
  exact this h
theorem cuts_group {ps g : List α} (h : g ∈ cuts op ps) : ∃ q t, g = q :: t := by
  obtain ⟨q, t, h, _⟩ := (cuts_good op ps).1 g h; exact ⟨q, t, h⟩
end generic
section maps
variable {α β : Type} {op : α → Bool} {op' : β → Bool} (f : α → β) (hf : ∀ q, op' (f q) = op q)
include hf
theorem gstep_map (s : List (List α) × List α) (q : α) : gstep op' (s.1.map (List.map f), s.2.map f) (f q) = ((gstep op s q).1.map (List.map f), (gstep op s q).2.map f) := by
  have e : (s.2.map f).isEmpty = s.2.isEmpty := by simp
  simp only [gstep, hf, e]
  split <;> simp
theorem gfold_map : ∀ (ps : List α) (s : List (List α) × List α), gfold op' (s.1.map (List.map f), s.2.map f) (ps.map f) = ((gfold op s ps).1.map (List.map f), (gfold op s ps).2.map f)
  | [], s => rfl
  | q :: t, s => by rw [List.map_cons, gfold_cons, gstep_map f hf, gfold_map t, gfold_cons]
theorem cuts_map (ps : List α) : cuts op' (ps.map f) = (cuts op ps).map (List.map f) := by
  have h := gfold_map f hf ps ([], [])
  have e : (([], []) : List (List β) × List β) = ((([], []) : List (List α) × List α).1.map (List.map f), (([], []) : List (List α) × List α).2.map f) := rfl
  rw [cuts, e, h, cuts]
  unfold shut
  simp only [List.isEmpty_map]
  split <;> simp
end maps

/-! ### the cut with a limit, one after the other -/
section limit
variable {α : Type} (op : α → Bool) (f : List α → Nat) (L : Nat)
def go : List (List α) → List α → List α → List (List α) × List α × Bool
  | T, O, [] => (T, O, false)
  | T, O, q :: t => if L < f (gstep op (T, O) q).2 then ((gstep op (T, O) q).1, (gstep op (T, O) q).2, true) else go (gstep op (T, O) q).1 (gstep op (T, O) q).2 t
theorem go_append : ∀ (a b : List α) (T : List (List α)) (O : List α),
    go op f L T O (a ++ b) = if (go op f L T O a).2.2 then go op f L T O a else go op f L (go op f L T O a).1 (go op f L T O a).2.1 b
  | [], b, T, O => rfl
  | q :: t, b, T, O => by
    simp only [List.cons_append, go]
    split
    · simp
    · exact go_append t b _ _
theorem go_snoc (a : List α) (q : α) (T : List (List α)) (O : List α) {T' : List (List α)} {O' : List α} (h : go op f L T O a = (T', O', false)) :
    go op f L T O (a ++ [q]) = ((gstep op (T', O') q).1, (gstep op (T', O') q).2, decide (L < f (gstep op (T', O') q).2)) := by
  rw [go_append, h]
  simp only [Bool.false_eq_true, if_false, go]
  split <;> simp_all
theorem go_pre (X : List (List α)) : ∀ (a : List α) (T : List (List α)) (O : List α), go op f L (X ++ T) O a = (X ++ (go op f L T O a).1, (go op f L T O a).2)
  | [], T, O => rfl
  | q :: t, T, O => by
    have h := gstep_pre op X (T, O) q
    simp only at h
    simp only [go, h]
    split
    · rfl
    · exact go_pre X t _ _
/-- where nothing was too long -/
theorem go_false : ∀ (a : List α) (T : List (List α)) (O : List α) {T' : List (List α)} {O' : List α}, go op f L T O a = (T', O', false) →
    gfold op (T, O) a = (T', O') ∧ ((∀ g ∈ shut (T, O), f g ≤ L) → ∀ g ∈ shut (T', O'), f g ≤ L)
  | [], T, O, T', O', h => by simp only [go, Prod.mk.injEq, and_true] at h; obtain ⟨rfl, rfl⟩ := h; exact ⟨rfl, id⟩
  | q :: t, T, O, T', O', h => by
    simp only [go] at h
    split at h
    · simp at h
    · rename_i hl
      obtain ⟨h1, h2⟩ := go_false t _ _ h
      refine ⟨h1, fun hg => h2 fun g hg' => ?_⟩
      have hne := gstep_ne op (T, O) q
      unfold shut at hg' hg
      rw [if_neg (by simpa using hne)] at hg'
      rcases List.mem_append.1 hg' with h | h
      · by_cases hO : O = []
        · subst hO
          rw [gstep_on op (.inr rfl)] at h
          exact hg g (by simpa using h)
        · rw [if_neg (by simpa using hO)] at hg
          unfold gstep at h
          split at h
          · exact hg g h
          · exact hg g (by simp at h ⊢; exact .inl h)
      · rw [List.mem_singleton.1 h]; exact Nat.le_of_not_lt hl
/-- where something was: just then the open one had become too long -/
theorem go_true : ∀ (a : List α) (T : List (List α)) (O : List α) {T' : List (List α)} {O' : List α}, go op f L T O a = (T', O', true) →
    ∃ b q c, a = b ++ q :: c ∧ ∃ T1 O1, go op f L T O b = (T1, O1, false) ∧ gstep op (T1, O1) q = (T', O') ∧ L < f O'
  | [], T, O, T', O', h => by simp [go] at h
  | q :: t, T, O, T', O', h => by
    simp only [go] at h
    split at h
    · rename_i hl
      simp only [Prod.mk.injEq, and_true] at h
      obtain ⟨h1, h2⟩ := h
      exact ⟨[], q, t, rfl, T, O, rfl, by rw [← h1, ← h2], by rw [← h2]; exact hl⟩
    · rename_i hl
      obtain ⟨b, q', c, rfl, T1, O1, h1, h2, h3⟩ := go_true t _ _ h
      exact ⟨q :: b, q', c, rfl, T1, O1, by simp only [go]; rw [if_neg hl]; exact h1, h2, h3⟩
def okG (gs : List (List α)) : List (List α) := gs.takeWhile fun g => decide (f g ≤ L)
def badG (gs : List (List α)) : Bool := gs.any fun g => decide (L < f g)
theorem okG_all {gs : List (List α)} (h : ∀ g ∈ gs, f g ≤ L) : okG f L gs = gs ∧ badG f L gs = false := by
  refine ⟨?_, ?_⟩
  · have := List.takeWhile_append_of_pos (p := fun g => decide (f g ≤ L)) (l₁ := gs) (l₂ := []) (fun g hg => by simpa using h g hg)
    simpa [okG] using this
  · unfold badG; rw [List.any_eq_false]; intro g hg; have := h g hg; simp; omega
theorem okG_stop {gs : List (List α)} (h : ∀ g ∈ gs, f g ≤ L) {x : List α} (hx : L < f x) (r : List (List α)) : okG f L (gs ++ x :: r) = gs ∧ badG f L (gs ++ x :: r) = true := by
  refine ⟨?_, ?_⟩
  · unfold okG
    rw [List.takeWhile_append_of_pos (fun g hg => by simpa using h g hg), List.takeWhile_cons_of_neg (by simp; omega), List.append_nil]
  · unfold badG; rw [List.any_append, List.any_cons]; simp [hx]
theorem gfold_grows (b : List α) : ∀ (T : List (List α)) (O : List α), O ≠ [] → ∃ m r, shut (gfold op (T, O) b) = T ++ (O ++ m) :: r := by
  induction b with
  | nil => intro T O hO; exact ⟨[], [], by simp [gfold_nil, shut, hO]⟩
  | cons q t ih =>
    intro T O hO
    rw [gfold_cons]
    by_cases hq : op q = true
    · rw [gstep_new op hq hO]
      obtain ⟨m, r, h⟩ := ih (T ++ [O]) [q] (by simp)
      exact ⟨[], ([q] ++ m) :: r, by rw [h]; simp⟩
    · have hq : op q = false := by simpa using hq
      rw [gstep_on op (.inl hq)]
      obtain ⟨m, r, h⟩ := ih T (O ++ [q]) (by simp)
      exact ⟨[q] ++ m, r, by rw [h]; simp⟩
variable (hm : ∀ a b, f a ≤ f (a ++ b))
include hm
/-- THE CUT WITH A LIMIT: what was told, and whether one was too long, are those of the whole cut -/
theorem go_all {a : List α} {T : List (List α)} {O : List α} {b : Bool} (h : go op f L [] [] a = (T, O, b)) :
    (b = false → shut (T, O) = cuts op a ∧ gfold op ([], []) a = (T, O) ∧ ∀ g ∈ cuts op a, f g ≤ L) ∧ (b = true → ∀ c, okG f L (cuts op (a ++ c)) = T ∧ badG f L (cuts op (a ++ c)) = true) := by
  refine ⟨?_, ?_⟩
  · rintro rfl
    obtain ⟨h1, h2⟩ := go_false op f L a [] [] h
    have e : shut (T, O) = cuts op a := by rw [← h1]; rfl
    exact ⟨e, h1, fun g hg => h2 (fun g hg => by simp [shut] at hg) g (e ▸ hg)⟩
  · rintro rfl c
    obtain ⟨x, q, y, rfl, T1, O1, h1, h2, h3⟩ := go_true op f L a [] [] h
    obtain ⟨g1, g2⟩ := go_false op f L x [] [] h1
    have hsh := g2 (fun g hg => by simp [shut] at hg)
    have hT : ∀ g ∈ T, f g ≤ L := fun g hg => by
      by_cases hO : O1 = []
      · subst hO
        rw [gstep_on op (.inr rfl)] at h2
        injection h2 with e1 _
        subst e1
        exact hsh g (by simpa [shut] using hg)
      · have hs : shut (T1, O1) = T1 ++ [O1] := by simp [shut, hO]
        rw [hs] at hsh
        unfold gstep at h2
        split at h2
        · injection h2 with e1 _
          subst e1
          exact hsh g hg
        · injection h2 with e1 _
          subst e1
          exact hsh g (by simp [hg])
    have hO : O ≠ [] := by have := gstep_ne op (T1, O1) q; rw [h2] at this; exact this
    obtain ⟨m, r, hs⟩ := gfold_grows op (y ++ c) T O hO
    have e : cuts op (x ++ q :: y ++ c) = T ++ (O ++ m) :: r := by
      rw [cuts, List.append_assoc, List.cons_append, gfold_append, g1, gfold_cons, h2]; exact hs
    rw [e]
    exact okG_stop f L hT (Nat.lt_of_lt_of_le h3 (hm O m)) r
end limit
end Go.Proofs.YtbljomfofgocaaaDoor.Seg
