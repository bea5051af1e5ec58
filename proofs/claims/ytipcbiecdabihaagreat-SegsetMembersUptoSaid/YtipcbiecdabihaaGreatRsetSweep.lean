/-
  PLAIN MATHEMATICS OF THE SWEEP OVER EDGES, AND OF THE DOCUMENT'S WAYS (clipped, merged, gaps). Nothing of the program stands here.
-/
import Derived.Test.YtipcbiecdabihaaGreatRsetMath
namespace Go.Proofs.YtipcbiecdabihaaGreat.Rset

/-! ### clipped -/
def clip (r : Rg) : List Rg := if max r.1 0 ≤ min r.2 1114111 then [(max r.1 0, min r.2 1114111)] else []
def clipF (l : List Rg) : List Rg := l.flatMap clip
def Val (r : Rg) : Prop := 0 ≤ r.1 ∧ r.1 ≤ r.2 ∧ r.2 ≤ 1114111
theorem clip_ok (r : Rg) : ∀ q ∈ clip r, Val q := by
  intro q hq
  unfold clip at hq
  split at hq
  · rw [List.mem_singleton.1 hq]; unfold Val; simp only []; omega
  · simp at hq
theorem clip_anyIn (r : Rg) (x : Int) : anyIn (clip r) x = (inR x && inn r x) := by
  rw [Bool.eq_iff_iff, Bool.and_eq_true, inR_iff, inn_iff]
  unfold clip
  split
  · rw [anyIn_one, inn_iff]; simp only []; omega
  · rw [anyIn_nil]; simp only [Bool.false_eq_true, false_iff]; omega
theorem clip_len (r : Rg) : (clip r).length ≤ 1 := by unfold clip; split <;> simp
theorem clipF_ok (l : List Rg) : ∀ q ∈ clipF l, Val q := by
  intro q hq
  obtain ⟨r, _, h⟩ := List.mem_flatMap.1 hq
  exact clip_ok r q h
theorem clipF_cons (r : Rg) (t : List Rg) : clipF (r :: t) = clip r ++ clipF t := rfl
theorem clipF_anyIn (l : List Rg) (x : Int) : anyIn (clipF l) x = has l x := by
  induction l with
  | nil => rw [has_nil]; rfl
  | cons r t ih =>
    rw [clipF_cons, anyIn_append, ih, clip_anyIn]
    unfold has
    rw [anyIn_cons, Bool.and_or_distrib_left]
theorem clipF_len (l : List Rg) : (clipF l).length ≤ l.length := by
  induction l with
  | nil => exact Nat.le_refl _
  | cons r t ih => have := clip_len r; rw [clipF_cons, List.length_append, List.length_cons]; omega
theorem clipF_take (l : List Rg) (k : Nat) (hk : k < l.length) : clipF (l.take (k + 1)) = clipF (l.take k) ++ clip l[k] := by
  rw [List.take_succ_eq_append_getElem hk]; unfold clipF; rw [List.flatMap_append, List.flatMap_singleton]

/-! ### merged -/
def Asc (l : List Rg) : Prop := l.Pairwise fun r s => r.1 ≤ s.1
def mg (x : Rg) : List Rg → List Rg
  | [] => [x]
  | s :: t => if s.1 ≤ x.2 + 1 then mg (x.1, max x.2 s.2) t else x :: mg s t
def mgs : List Rg → List Rg
  | [] => []
  | x :: t => mg x t
theorem mg_ok : ∀ (t : List Rg) (x : Rg), Val x → (∀ s ∈ t, Val s ∧ x.1 ≤ s.1) → Asc t → Nm (mg x t) ∧ (∀ r ∈ mg x t, x.1 ≤ r.1) ∧ ∀ y, anyIn (mg x t) y = (inn x y || anyIn t y) := by
  intro t
  induction t with
  | nil =>
    intro x hx _ _
    refine ⟨Nm.cons hx (by simp) Nm.nil, by simp [mg], fun y => ?_⟩
    rw [anyIn_nil, Bool.or_false]; exact anyIn_one x y
  | cons s t ih =>
    intro x hx hs ha
    obtain ⟨vs, ls⟩ := hs s (List.mem_cons_self ..)
    have ha' := List.pairwise_cons.1 ha
    unfold mg
    unfold Val at hx vs
    by_cases h : s.1 ≤ x.2 + 1
    · rw [if_pos h]
      obtain ⟨h1, h2, h3⟩ := ih (x.1, max x.2 s.2) (by unfold Val; simp only []; omega) (fun q hq => ⟨(hs q (List.mem_cons_of_mem _ hq)).1, (hs q (List.mem_cons_of_mem _ hq)).2⟩) ha'.2
      refine ⟨h1, h2, fun y => ?_⟩
      rw [h3, anyIn_cons, ← Bool.or_assoc]
      congr 1
      rw [Bool.eq_iff_iff, Bool.or_eq_true, inn_iff, inn_iff, inn_iff]
      simp only []
      omega
    · rw [if_neg h]
      obtain ⟨h1, h2, h3⟩ := ih s vs (fun q hq => ⟨(hs q (List.mem_cons_of_mem _ hq)).1, ha'.1 q hq⟩) ha'.2
      refine ⟨Nm.cons hx (fun q hq => by have := h2 q hq; omega) h1, fun q hq => ?_, fun y => ?_⟩
      · rcases List.mem_cons.1 hq with rfl | hq
        · exact Int.le_refl _
        · have := h2 q hq; omega
      · rw [anyIn_cons, h3, anyIn_cons]
theorem mgs_norm {l s : List Rg} (hp : s.Perm (clipF l)) (ha : Asc s) : mgs s = norm l := by
  have hv : ∀ q ∈ s, Val q := fun q hq => clipF_ok l q (hp.mem_iff.1 hq)
  have hh : ∀ x, anyIn s x = has l x := fun x => by rw [anyIn_perm hp, clipF_anyIn]
  refine nl_of ?_ fun x _ => ?_
  · cases s with
    | nil => exact Nm.nil
    | cons x t =>
      have ha' := List.pairwise_cons.1 ha
      exact (mg_ok t x (hv x (List.mem_cons_self ..)) (fun q hq => ⟨hv q (List.mem_cons_of_mem _ hq), ha'.1 q hq⟩) ha'.2).1
  · rw [← hh x]
    cases s with
    | nil => exact has_nil x
    | cons y t =>
      have ha' := List.pairwise_cons.1 ha
      obtain ⟨h1, _, h3⟩ := mg_ok t y (hv y (List.mem_cons_self ..)) (fun q hq => ⟨hv q (List.mem_cons_of_mem _ hq), ha'.1 q hq⟩) ha'.2
      show has (mg y t) x = _
      rw [h1.has, h3, anyIn_cons]
theorem mg_len : ∀ (t : List Rg) (x : Rg), (mg x t).length ≤ t.length + 1 := by
  intro t
  induction t with
  | nil => intro x; exact Nat.le_refl _
  | cons s t ih =>
    intro x
    unfold mg
    split
    · have := ih (x.1, max x.2 s.2); rw [List.length_cons]; omega
    · have := ih s; rw [List.length_cons, List.length_cons]; omega
theorem mgs_len (s : List Rg) : (mgs s).length ≤ s.length := by
  cases s with
  | nil => exact Nat.le_refl _
  | cons x t => exact mg_len t x

/-! ### gaps -/
def gp (a : Int) : List Rg → List Rg
  | [] => if a ≤ 1114111 then [(a, 1114111)] else []
  | r :: t => (if a < r.1 then [(a, r.1 - 1)] else []) ++ gp (r.2 + 1) t
theorem gp_ok : ∀ (t : List Rg) (a : Int), Nm t → (∀ r ∈ t, a ≤ r.1) → 0 ≤ a → a ≤ 1114112 →
    Nm (gp a t) ∧ (∀ r ∈ gp a t, a ≤ r.1) ∧ ∀ x, anyIn (gp a t) x = (decide (a ≤ x) && decide (x ≤ 1114111) && !anyIn t x) := by
  intro t
  induction t with
  | nil =>
    intro a _ _ h0 h1
    unfold gp
    by_cases h : a ≤ 1114111
    · rw [if_pos h]
      refine ⟨Nm.cons ⟨h0, h, Int.le_refl _⟩ (by simp) Nm.nil, by simp, fun x => ?_⟩
      rw [anyIn_one, anyIn_nil, Bool.not_false, Bool.and_true]; rfl
    · rw [if_neg h]
      refine ⟨Nm.nil, by simp, fun x => ?_⟩
      rw [anyIn_nil, Bool.not_false, Bool.and_true]
      symm
      rw [Bool.eq_false_iff, Ne, Bool.and_eq_true, decide_eq_true_eq, decide_eq_true_eq]
      omega
  | cons r t ih =>
    intro a hn hr h0 h1
    have hd := hn.hd
    have ar := hr r (List.mem_cons_self ..)
    obtain ⟨i1, i2, i3⟩ := ih (r.2 + 1) hn.tail (fun s hs => by have := hn.next s hs; omega) (by omega) (by omega)
    have key : ∀ x, (decide (a ≤ x) && decide (x ≤ 1114111) && !anyIn (r :: t) x) = ((decide (a ≤ x) && decide (x ≤ r.1 - 1)) || (decide (r.2 + 1 ≤ x) && decide (x ≤ 1114111) && !anyIn t x)) := by
      intro x
      have no : x ≤ r.2 → anyIn t x = false := fun h => by
        rw [Bool.eq_false_iff]; intro hc
        obtain ⟨q, hq, h1, _⟩ := anyIn_iff.1 hc
        have := hn.next q hq
        omega
      rw [anyIn_cons]
      by_cases h2 : x ≤ r.2
      · rw [no h2, Bool.or_false, Bool.eq_iff_iff]
        simp only [Bool.and_eq_true, Bool.or_eq_true, Bool.not_eq_true', decide_eq_true_eq, Bool.eq_false_iff, ne_eq, inn_iff]
        omega
      · have e : inn r x = false := by rw [Bool.eq_false_iff, Ne, inn_iff]; omega
        rw [e, Bool.false_or, Bool.eq_iff_iff]
        simp only [Bool.and_eq_true, Bool.or_eq_true, decide_eq_true_eq]
        constructor
        · rintro ⟨⟨_, h4⟩, h5⟩; exact .inr ⟨⟨by omega, h4⟩, h5⟩
        · rintro (h | ⟨⟨_, h4⟩, h5⟩)
          · omega
          · exact ⟨⟨by omega, h4⟩, h5⟩
    unfold gp
    by_cases h : a < r.1
    · rw [if_pos h]
      refine ⟨Nm.cons ⟨h0, by simp only []; omega, by simp only []; omega⟩ (fun s hs => by have := i2 s hs; simp only []; omega) i1, fun s hs => ?_, fun x => ?_⟩
      · rcases List.mem_cons.1 hs with rfl | hs
        · exact Int.le_refl _
        · have := i2 s hs; omega
      · rw [key, anyIn_append, anyIn_one, i3]; rfl
    · rw [if_neg h, List.nil_append]
      refine ⟨i1, fun s hs => by have := i2 s hs; omega, fun x => ?_⟩
      rw [key, i3]
      have e : (decide (a ≤ x) && decide (x ≤ r.1 - 1)) = false := by rw [Bool.eq_false_iff, Ne, Bool.and_eq_true, decide_eq_true_eq, decide_eq_true_eq]; omega
      rw [e, Bool.false_or]
theorem gp_compl (l : List Rg) : gp 0 (norm l) = compl l := by
  obtain ⟨h1, _, h3⟩ := gp_ok (norm l) 0 (norm_nm l) (fun r hr => ((norm_nm l).ok r hr).1) (Int.le_refl _) (by omega)
  refine nl_of h1 fun x hx => ?_
  have := inR_iff.1 hx
  rw [h1.has, h3, ← (norm_nm l).has, norm_has, decide_eq_true this.1, decide_eq_true this.2]; rfl
theorem gp_len : ∀ (t : List Rg) (a : Int), (gp a t).length ≤ t.length + 1 := by
  intro t
  induction t with
  | nil => intro a; unfold gp; split <;> simp
  | cons r t ih => intro a; have := ih (r.2 + 1); unfold gp; rw [List.length_append, List.length_cons]; split <;> simp <;> omega

/-! ### edges -/
abbrev Ed := Int × Int × Int
def edF (i : Int) (r : Rg) : List Ed := if max r.1 0 ≤ min r.2 1114111 then [(max r.1 0, i, 1), (min r.2 1114111 + 1, i, -1)] else []
def edL (i : Int) (l : List Rg) : List Ed := l.flatMap (edF i)
def edsF (a b : List Rg) : List Ed := (1114112, 0, 0) :: (edL 0 a ++ edL 1 b)
def VEd (e : Ed) : Prop := (0 ≤ e.1 ∧ e.1 ≤ 1114112) ∧ (e.2.1 = 0 ∨ e.2.1 = 1) ∧ -1 ≤ e.2.2 ∧ e.2.2 ≤ 1
theorem edL_nil (i : Int) : edL i [] = [] := rfl
theorem edL_cons (i : Int) (r : Rg) (t : List Rg) : edL i (r :: t) = edF i r ++ edL i t := rfl
theorem edL_take (i : Int) (l : List Rg) (k : Nat) (hk : k < l.length) : edL i (l.take (k + 1)) = edL i (l.take k) ++ edF i l[k] := by
  rw [List.take_succ_eq_append_getElem hk]; unfold edL; rw [List.flatMap_append, List.flatMap_singleton]
theorem edF_len (i : Int) (r : Rg) : (edF i r).length ≤ 2 := by unfold edF; split <;> simp
theorem edL_len (i : Int) (l : List Rg) : (edL i l).length ≤ 2 * l.length := by
  induction l with
  | nil => exact Nat.le_refl _
  | cons r t ih => have := edF_len i r; rw [edL_cons, List.length_append, List.length_cons]; omega
theorem edsF_len (a b : List Rg) : (edsF a b).length ≤ 2 * (a.length + b.length) + 1 := by
  have := edL_len 0 a; have := edL_len 1 b
  unfold edsF; rw [List.length_cons, List.length_append]; omega
theorem edF_val {i : Int} (hi : i = 0 ∨ i = 1) (r : Rg) : ∀ e ∈ edF i r, VEd e := by
  intro e he
  unfold edF at he
  split at he
  · rcases List.mem_cons.1 he with rfl | he
    · refine ⟨?_, hi, ?_⟩ <;> simp only [] <;> omega
    · rw [List.mem_singleton.1 he]; refine ⟨?_, hi, ?_⟩ <;> simp only [] <;> omega
  · simp at he
theorem edsF_val (a b : List Rg) : ∀ e ∈ edsF a b, VEd e := by
  intro e he
  rcases List.mem_cons.1 he with rfl | he
  · exact ⟨by simp, .inl rfl, by simp, by simp⟩
  · rcases List.mem_append.1 he with he | he
    · obtain ⟨r, _, h⟩ := List.mem_flatMap.1 he; exact edF_val (.inl rfl) r e h
    · obtain ⟨r, _, h⟩ := List.mem_flatMap.1 he; exact edF_val (.inr rfl) r e h

/-- how many ranges of list i hold x, by the edges up to x -/
def hold (i x : Int) (es : List Ed) : Int := (es.map fun e => if e.2.1 = i ∧ e.1 ≤ x then e.2.2 else 0).sum
def tot (i : Int) (es : List Ed) : Int := (es.map fun e => if e.2.1 = i then e.2.2 else 0).sum
theorem hold_nil (i x : Int) : hold i x [] = 0 := rfl
theorem hold_cons (i x : Int) (e : Ed) (t : List Ed) : hold i x (e :: t) = (if e.2.1 = i ∧ e.1 ≤ x then e.2.2 else 0) + hold i x t := rfl
theorem hold_append (i x : Int) (l m : List Ed) : hold i x (l ++ m) = hold i x l + hold i x m := by unfold hold; rw [List.map_append, List.sum_append]
theorem tot_snoc (i : Int) (l : List Ed) (e : Ed) : tot i (l ++ [e]) = tot i l + if e.2.1 = i then e.2.2 else 0 := by
  unfold tot; rw [List.map_append, List.sum_append]; simp
theorem hold_perm (i x : Int) {l m : List Ed} (h : l.Perm m) : hold i x l = hold i x m := by
  induction h with
  | nil => rfl
  | cons e _ ih => rw [hold_cons, hold_cons, ih]
  | swap e f t => simp only [hold_cons]; omega
  | trans _ _ h1 h2 => exact h1.trans h2
theorem hold_none (i x : Int) (l : List Ed) (h : ∀ e ∈ l, x < e.1) : hold i x l = 0 := by
  induction l with
  | nil => rfl
  | cons e t ih =>
    have := h e (List.mem_cons_self ..)
    rw [hold_cons, if_neg (by omega), ih fun f hf => h f (List.mem_cons_of_mem _ hf)]; rfl
theorem hold_all (i x : Int) (l : List Ed) (h : ∀ e ∈ l, e.1 ≤ x) : hold i x l = tot i l := by
  induction l with
  | nil => rfl
  | cons e t ih =>
    have h1 := h e (List.mem_cons_self ..)
    have h2 : tot i (e :: t) = (if e.2.1 = i then e.2.2 else 0) + tot i t := rfl
    rw [hold_cons, ih fun f hf => h f (List.mem_cons_of_mem _ hf), h2]
    congr 1
    by_cases hi : e.2.1 = i
    · rw [if_pos ⟨hi, h1⟩, if_pos hi]
    · rw [if_neg fun h => hi h.1, if_neg hi]
theorem tot_bound (i : Int) (l : List Ed) (h : ∀ e ∈ l, VEd e) : -(l.length : Int) ≤ tot i l ∧ tot i l ≤ l.length := by
  induction l with
  | nil => simp [tot]
  | cons e t ih =>
    have h2 : tot i (e :: t) = (if e.2.1 = i then e.2.2 else 0) + tot i t := rfl
    have h1 := (h e (List.mem_cons_self ..)).2.2
    have := ih fun f hf => h f (List.mem_cons_of_mem _ hf)
    rw [h2, List.length_cons]
    split <;> omega
theorem hold_edF (i x : Int) (r : Rg) (hx : inR x = true) : hold i x (edF i r) = if inn r x = true then 1 else 0 := by
  have hx' := inR_iff.1 hx
  unfold edF
  by_cases h : max r.1 0 ≤ min r.2 1114111
  · rw [if_pos h, hold_cons, hold_cons, hold_nil]
    simp only [true_and]
    by_cases hi : inn r x = true
    · have := inn_iff.1 hi
      rw [if_pos hi, if_pos (by omega), if_neg (by omega)]; rfl
    · have h2 : ¬ (r.1 ≤ x ∧ x ≤ r.2) := fun h => hi (inn_iff.2 h)
      rw [if_neg hi]
      by_cases h3 : max r.1 0 ≤ x
      · rw [if_pos h3, if_pos (by omega)]; rfl
      · rw [if_neg h3, if_neg (by omega)]; rfl
  · rw [if_neg h, hold_nil, if_neg]
    rw [inn_iff]; omega
theorem hold_edF_other (i j x : Int) (r : Rg) (hij : i ≠ j) : hold j x (edF i r) = 0 := by
  unfold edF
  split
  · rw [hold_cons, hold_cons, hold_nil, if_neg fun h => hij h.1, if_neg fun h => hij h.1]; rfl
  · rfl
theorem hold_edL_other (i j x : Int) (l : List Rg) (hij : i ≠ j) : hold j x (edL i l) = 0 := by
  induction l with
  | nil => rfl
  | cons r t ih => rw [edL_cons, hold_append, hold_edF_other i j x r hij, ih]; rfl
theorem hold_edL (i x : Int) (l : List Rg) (hx : inR x = true) : 0 ≤ hold i x (edL i l) ∧ (0 < hold i x (edL i l) ↔ anyIn l x = true) := by
  induction l with
  | nil => rw [edL_nil, hold_nil, anyIn_nil]; exact ⟨Int.le_refl _, by simp⟩
  | cons r t ih =>
    rw [edL_cons, hold_append, hold_edF i x r hx, anyIn_cons, Bool.or_eq_true, ← ih.2]
    have := ih.1
    split
    · rename_i h; rw [h]; simp; omega
    · rename_i h; simp only [h, Bool.false_eq_true, false_or]; omega
theorem hold_eds {a b : List Rg} {es : List Ed} (hp : es.Perm (edsF a b)) (x : Int) (hx : inR x = true) :
    decide (0 < hold 0 x es) = anyIn a x ∧ decide (0 < hold 1 x es) = anyIn b x := by
  have hx' := inR_iff.1 hx
  rw [hold_perm 0 x hp, hold_perm 1 x hp]
  unfold edsF
  rw [hold_cons, hold_cons, hold_append, hold_append, hold_edL_other 0 1 x a (by omega), hold_edL_other 1 0 x b (by omega), if_neg (by simp only []; omega), if_neg (by simp only []; omega)]
  have h0 := (hold_edL 0 x a hx).2
  have h1 := (hold_edL 1 x b hx).2
  refine ⟨?_, ?_⟩ <;> rw [Bool.eq_iff_iff, decide_eq_true_eq]
  · rw [← h0]; omega
  · rw [← h1]; omega

/-! ### the sweep -/
structure St where
  L : List Rg
  fr : Int
  h0 : Int
  h1 : Int
def stp (keep : Bool → Bool → Bool) (s : St) (e : Ed) : St :=
  ⟨if s.fr < e.1 ∧ keep (decide (0 < s.h0)) (decide (0 < s.h1)) = true then joinF s.L (s.fr, e.1 - 1) else s.L, e.1, s.h0 + (if e.2.1 = 0 then e.2.2 else 0), s.h1 + (if e.2.1 = 1 then e.2.2 else 0)⟩
def swp (keep : Bool → Bool → Bool) (es : List Ed) : St := es.foldl (stp keep) ⟨[], 0, 0, 0⟩
theorem swp_take (keep : Bool → Bool → Bool) (es : List Ed) (k : Nat) (hk : k < es.length) : swp keep (es.take (k + 1)) = stp keep (swp keep (es.take k)) es[k] := by
  unfold swp; rw [List.take_succ_eq_append_getElem hk, List.foldl_append]; rfl
/-- rising by place -/
def AscE (es : List Ed) : Prop := es.Pairwise fun e f => e.1 ≤ f.1
structure Inv (keep : Bool → Bool → Bool) (a b : List Rg) (pre : List Ed) (s : St) : Prop where
  nm : Nm s.L
  lt : ∀ r ∈ s.L, r.2 < s.fr
  fr0 : 0 ≤ s.fr
  fr1 : s.fr ≤ 1114112
  t0 : s.h0 = tot 0 pre
  t1 : s.h1 = tot 1 pre
  le : ∀ e ∈ pre, e.1 ≤ s.fr
  at' : s.fr = 0 ∨ ∃ e ∈ pre, s.fr = e.1
  any : ∀ x, anyIn s.L x = (decide (0 ≤ x) && decide (x < s.fr) && keep (anyIn a x) (anyIn b x))
theorem swp_inv (keep : Bool → Bool → Bool) {a b : List Rg} {es : List Ed} (hp : es.Perm (edsF a b)) (ha : AscE es) : ∀ k, k ≤ es.length → Inv keep a b (es.take k) (swp keep (es.take k)) := by
  have hv : ∀ e ∈ es, VEd e := fun e he => edsF_val a b e (hp.mem_iff.1 he)
  intro k
  induction k with
  | zero =>
    intro _
    refine ⟨Nm.nil, by simp [swp], Int.le_refl _, by simp [swp], rfl, rfl, by simp, .inl rfl, fun x => ?_⟩
    rw [List.take_zero]
    show false = _
    symm
    have : (decide (0 ≤ x) && decide (x < 0)) = false := by rw [Bool.eq_false_iff, Ne, Bool.and_eq_true, decide_eq_true_eq, decide_eq_true_eq]; omega
    show (decide (0 ≤ x) && decide (x < 0) && _) = false
    rw [this, Bool.false_and]
  | succ k ih =>
    intro hk
    have hk' : k < es.length := by omega
    obtain ⟨nm, lt, fr0, fr1, t0, t1, le, at', any⟩ := ih (by omega)
    have hes : es = es.take k ++ es[k] :: es.drop (k + 1) := by rw [← List.drop_eq_getElem_cons hk', List.take_append_drop]
    have hp2 := List.pairwise_append.1 (hes ▸ ha : (es.take k ++ es[k] :: es.drop (k + 1)).Pairwise fun e f => e.1 ≤ f.1)
    have hsuf : ∀ f ∈ es[k] :: es.drop (k + 1), es[k].1 ≤ f.1 := fun f hf => by
      rcases List.mem_cons.1 hf with rfl | hf
      · exact Int.le_refl _
      · exact (List.pairwise_cons.1 hp2.2.1).1 f hf
    have hpe : ∀ e ∈ es.take k, e.1 ≤ es[k].1 := fun e he => hp2.2.2 e he _ (List.mem_cons_self ..)
    have ve := hv es[k] (List.getElem_mem _)
    have hfe : (swp keep (es.take k)).fr ≤ es[k].1 := by
      rcases at' with h | ⟨e, he, h⟩
      · rw [h]; exact ve.1.1
      · rw [h]; exact hpe e he
    have key : ∀ x, (swp keep (es.take k)).fr ≤ x → x < es[k].1 → keep (decide (0 < (swp keep (es.take k)).h0)) (decide (0 < (swp keep (es.take k)).h1)) = keep (anyIn a x) (anyIn b x) := by
      intro x hx1 hx2
      have hx : inR x = true := inR_iff.2 ⟨by omega, by have := ve.1.2; omega⟩
      have e0 : ∀ i, hold i x es = tot i (es.take k) := fun i => by
        rw [hes, hold_append, hold_none i x (es[k] :: es.drop (k + 1)) (fun f hf => by have := hsuf f hf; omega), hold_all i x (es.take k) (fun e he => by have := le e he; omega)]
        rw [← hes]; omega
      obtain ⟨k0, k1⟩ := hold_eds hp x hx
      rw [t0, t1, ← e0 0, ← e0 1, k0, k1]
    rw [swp_take keep es k hk', List.take_succ_eq_append_getElem hk']
    generalize hs : swp keep (es.take k) = s at *
    generalize es[k] = e at *
    have hT : ∀ i, tot i (es.take k ++ [e]) = tot i (es.take k) + if e.2.1 = i then e.2.2 else 0 := fun i => tot_snoc i _ e
    have hany : ∀ x, (decide (0 ≤ x) && decide (x < e.1) && keep (anyIn a x) (anyIn b x)) = ((decide (0 ≤ x) && decide (x < s.fr) && keep (anyIn a x) (anyIn b x)) || (decide (s.fr ≤ x) && decide (x < e.1) && keep (decide (0 < s.h0)) (decide (0 < s.h1)))) := by
      intro x
      by_cases h1 : x < s.fr
      · have a1 : decide (x < e.1) = decide (x < s.fr) := by rw [decide_eq_decide]; omega
        have a2 : decide (s.fr ≤ x) = false := by rw [decide_eq_false_iff_not]; omega
        rw [a1, a2]; simp
      · have a2 : decide (x < s.fr) = false := decide_eq_false h1
        have a3 : decide (s.fr ≤ x) = true := by rw [decide_eq_true_eq]; omega
        have a4 : decide (0 ≤ x) = true := by rw [decide_eq_true_eq]; omega
        rw [a2, a3, a4]
        by_cases h2 : x < e.1
        · rw [key x (by omega) h2]; simp
        · rw [decide_eq_false h2]; simp
    unfold stp
    by_cases hc : s.fr < e.1 ∧ keep (decide (0 < s.h0)) (decide (0 < s.h1)) = true
    · rw [if_pos hc]
      obtain ⟨j1, j2, j3⟩ := joinF_ok (x := (s.fr, e.1 - 1)) nm lt ⟨fr0, by simp only []; omega, by have := ve.1.2; simp only []; omega⟩
      refine ⟨j1, fun r hr => by have := j2 r hr; simp only [] at this ⊢; omega, ve.1.1, ve.1.2, by rw [hT]; simp only []; omega, by rw [hT]; simp only []; omega, fun f hf => ?_, .inr ⟨e, by simp, rfl⟩, fun x => ?_⟩
      · rcases List.mem_append.1 hf with hf | hf
        · exact hpe f hf
        · rw [List.mem_singleton.1 hf]; exact Int.le_refl _
      · rw [j3, hany, any, hc.2, Bool.and_true]
        congr 1
        unfold inn
        congr 1
        rw [decide_eq_decide]; simp only []; omega
    · rw [if_neg hc]
      refine ⟨nm, fun r hr => by have := lt r hr; simp only []; omega, ve.1.1, ve.1.2, by rw [hT]; simp only []; omega, by rw [hT]; simp only []; omega, fun f hf => ?_, .inr ⟨e, by simp, rfl⟩, fun x => ?_⟩
      · rcases List.mem_append.1 hf with hf | hf
        · exact hpe f hf
        · rw [List.mem_singleton.1 hf]; exact Int.le_refl _
      · simp only []
        rw [hany, any]
        have : (decide (s.fr ≤ x) && decide (x < e.1) && keep (decide (0 < s.h0)) (decide (0 < s.h1))) = false := by
          rw [Bool.eq_false_iff]
          intro h
          rw [Bool.and_eq_true, Bool.and_eq_true, decide_eq_true_eq, decide_eq_true_eq] at h
          exact hc ⟨by omega, h.2⟩
        rw [this, Bool.or_false]
theorem swp_all (keep : Bool → Bool → Bool) {a b : List Rg} {es : List Ed} (hp : es.Perm (edsF a b)) (ha : AscE es) : (swp keep es).L = nl fun x => keep (has a x) (has b x) := by
  have I := swp_inv keep hp ha es.length (Nat.le_refl _)
  rw [List.take_length] at I
  have hf : (swp keep es).fr = 1114112 := by
    have h1 := I.le (1114112, 0, 0) (hp.mem_iff.2 (List.mem_cons_self ..))
    have h2 := I.fr1
    simp only [] at h1
    omega
  refine nl_of I.nm fun x hx => ?_
  have hx' := inR_iff.1 hx
  rw [I.nm.has, I.any, hf, decide_eq_true hx'.1, decide_eq_true (show x < 1114112 by omega)]
  unfold has
  rw [hx]; rfl
theorem swp_facts (keep : Bool → Bool → Bool) {a b : List Rg} {es : List Ed} (hp : es.Perm (edsF a b)) (ha : AscE es) (k : Nat) (hk : k ≤ es.length) :
    (swp keep (es.take k)).L.length ≤ k ∧ (0 ≤ (swp keep (es.take k)).fr ∧ (swp keep (es.take k)).fr ≤ 1114112) ∧ (-(k : Int) ≤ (swp keep (es.take k)).h0 ∧ (swp keep (es.take k)).h0 ≤ k) ∧ (-(k : Int) ≤ (swp keep (es.take k)).h1 ∧ (swp keep (es.take k)).h1 ≤ k) := by
  have I := swp_inv keep hp ha k hk
  have hv : ∀ e ∈ es.take k, VEd e := fun e he => edsF_val a b e (hp.mem_iff.1 (List.mem_of_mem_take he))
  have b0 := tot_bound 0 _ hv
  have b1 := tot_bound 1 _ hv
  rw [List.length_take, Nat.min_eq_left hk] at b0 b1
  have hl : ∀ j, j ≤ es.length → (swp keep (es.take j)).L.length ≤ j := by
    intro j
    induction j with
    | zero => intro _; simp [swp]
    | succ j ih =>
      intro hj
      have := ih (by omega)
      rw [swp_take keep es j (by omega)]
      unfold stp
      simp only []
      split
      · have := joinF_len (swp keep (es.take j)).L ((swp keep (es.take j)).fr, es[j].1 - 1); omega
      · omega
  exact ⟨hl k hk, ⟨I.fr0, I.fr1⟩, by rw [I.t0]; exact b0, by rw [I.t1]; exact b1⟩
end Go.Proofs.YtipcbiecdabihaaGreat.Rset
