/-
  PLAIN MATHEMATICS OF LISTS OF RANGES: what a list means, normal lists (each set has one), joining, counting. Nothing of the program stands here.
-/
namespace Go.Proofs.YtipcbiecdabihaaGreat.Rset

abbrev Rg := Int × Int
def inR (x : Int) : Bool := decide (0 ≤ x) && decide (x ≤ 1114111)
def inn (r : Rg) (x : Int) : Bool := decide (r.1 ≤ x) && decide (x ≤ r.2)
def anyIn (l : List Rg) (x : Int) : Bool := l.any fun r => inn r x
/-- is the number in the list's set? -/
def has (l : List Rg) (x : Int) : Bool := inR x && anyIn l x

theorem inR_iff {x : Int} : inR x = true ↔ 0 ≤ x ∧ x ≤ 1114111 := by simp [inR]
theorem inn_iff {r : Rg} {x : Int} : inn r x = true ↔ r.1 ≤ x ∧ x ≤ r.2 := by simp [inn]
theorem anyIn_iff {l : List Rg} {x : Int} : anyIn l x = true ↔ ∃ r ∈ l, r.1 ≤ x ∧ x ≤ r.2 := by
  simp only [anyIn, List.any_eq_true, inn_iff]
theorem anyIn_nil (x : Int) : anyIn [] x = false := rfl
theorem anyIn_cons (r : Rg) (t : List Rg) (x : Int) : anyIn (r :: t) x = (inn r x || anyIn t x) := rfl
theorem anyIn_append (l m : List Rg) (x : Int) : anyIn (l ++ m) x = (anyIn l x || anyIn m x) := by simp [anyIn]
theorem anyIn_one (r : Rg) (x : Int) : anyIn [r] x = inn r x := by simp [anyIn]
theorem has_iff {l : List Rg} {x : Int} : has l x = true ↔ (0 ≤ x ∧ x ≤ 1114111) ∧ ∃ r ∈ l, r.1 ≤ x ∧ x ≤ r.2 := by
  unfold has; rw [Bool.and_eq_true, inR_iff, anyIn_iff]
theorem has_out {l : List Rg} {x : Int} (h : inR x = false) : has l x = false := by unfold has; rw [h]; rfl
theorem has_inR {l : List Rg} {x : Int} (h : has l x = true) : inR x = true := by unfold has at h; exact (Bool.and_eq_true _ _ ▸ h).1
theorem has_append (l m : List Rg) (x : Int) : has (l ++ m) x = (has l x || has m x) := by unfold has; rw [anyIn_append, Bool.and_or_distrib_left]
theorem has_nil (x : Int) : has [] x = false := by unfold has; rw [anyIn_nil, Bool.and_false]
theorem anyIn_perm {l m : List Rg} (h : l.Perm m) (x : Int) : anyIn l x = anyIn m x := by
  rw [Bool.eq_iff_iff, anyIn_iff, anyIn_iff]
  exact ⟨fun ⟨r, hr, h1⟩ => ⟨r, h.mem_iff.1 hr, h1⟩, fun ⟨r, hr, h1⟩ => ⟨r, h.mem_iff.2 hr, h1⟩⟩
theorem has_perm {l m : List Rg} (h : l.Perm m) (x : Int) : has l x = has m x := by unfold has; rw [anyIn_perm h]

/-! ### normal lists -/
structure Nm (l : List Rg) : Prop where
  ok : ∀ r ∈ l, 0 ≤ r.1 ∧ r.1 ≤ r.2 ∧ r.2 ≤ 1114111
  gap : l.Pairwise fun r s => r.2 + 2 ≤ s.1
theorem Nm.nil : Nm [] := ⟨by simp, List.Pairwise.nil⟩
theorem Nm.tail {r : Rg} {t : List Rg} (h : Nm (r :: t)) : Nm t := ⟨fun s hs => h.ok s (List.mem_cons_of_mem _ hs), (List.pairwise_cons.1 h.gap).2⟩
theorem Nm.hd {r : Rg} {t : List Rg} (h : Nm (r :: t)) : 0 ≤ r.1 ∧ r.1 ≤ r.2 ∧ r.2 ≤ 1114111 := h.ok r (List.mem_cons_self ..)
theorem Nm.next {r : Rg} {t : List Rg} (h : Nm (r :: t)) : ∀ s ∈ t, r.2 + 2 ≤ s.1 := (List.pairwise_cons.1 h.gap).1
theorem Nm.cons {r : Rg} {t : List Rg} (h0 : 0 ≤ r.1 ∧ r.1 ≤ r.2 ∧ r.2 ≤ 1114111) (h1 : ∀ s ∈ t, r.2 + 2 ≤ s.1) (ht : Nm t) : Nm (r :: t) :=
  ⟨fun s hs => by rcases List.mem_cons.1 hs with rfl | hs; exact h0; exact ht.ok s hs, List.pairwise_cons.2 ⟨h1, ht.gap⟩⟩
theorem Nm.has {l : List Rg} (h : Nm l) (x : Int) : has l x = anyIn l x := by
  unfold Rset.has
  by_cases hx : anyIn l x = true
  · obtain ⟨r, hr, h1, h2⟩ := anyIn_iff.1 hx
    have := h.ok r hr
    rw [hx, inR_iff.2 ⟨by omega, by omega⟩]; rfl
  · rw [Bool.eq_false_iff.2 hx, Bool.and_false]

theorem nm_uniq : ∀ (l m : List Rg), Nm l → Nm m → (∀ x, anyIn l x = anyIn m x) → l = m := by
  intro l
  induction l with
  | nil =>
    intro m _ hm h
    cases m with
    | nil => rfl
    | cons s u =>
      have := h s.1
      have h2 := hm.hd
      rw [anyIn_nil, anyIn_cons, inn_iff.2 ⟨Int.le_refl _, h2.2.1⟩, Bool.true_or] at this
      cases this
  | cons r t ih =>
    intro m hl hm h
    cases m with
    | nil =>
      have := h r.1
      have h2 := hl.hd
      rw [anyIn_nil, anyIn_cons, inn_iff.2 ⟨Int.le_refl _, h2.2.1⟩, Bool.true_or] at this
      cases this
    | cons s u =>
      have rh := hl.hd
      have sh := hm.hd
      have low : ∀ {r : Rg} {t : List Rg}, Nm (r :: t) → ∀ x, anyIn (r :: t) x = true → r.1 ≤ x ∧ (x ≤ r.2 ∨ r.2 + 2 ≤ x) := by
        intro r t hl x hx
        rw [anyIn_cons, Bool.or_eq_true, inn_iff, anyIn_iff] at hx
        rcases hx with hx | ⟨q, hq, h1, h2⟩
        · exact ⟨hx.1, .inl hx.2⟩
        · have := hl.next q hq; have := hl.hd; exact ⟨by omega, .inr (by omega)⟩
      have self : ∀ {r : Rg} {t : List Rg} (x : Int), r.1 ≤ x → x ≤ r.2 → anyIn (r :: t) x = true := fun x h1 h2 => by
        rw [anyIn_cons, inn_iff.2 ⟨h1, h2⟩, Bool.true_or]
      have e1 : r.1 = s.1 := by
        have a := (low hm r.1 ((h _).symm.trans (self _ (Int.le_refl _) rh.2.1))).1
        have b := (low hl s.1 ((h _).trans (self _ (Int.le_refl _) sh.2.1))).1
        omega
      have e2 : r.2 = s.2 := by
        rcases Int.lt_trichotomy r.2 s.2 with hlt | he | hgt
        · have := (low hl (r.2 + 1) ((h _).trans (self _ (by omega) (by omega)))).2; omega
        · exact he
        · have := (low hm (s.2 + 1) ((h _).symm.trans (self _ (by omega) (by omega)))).2; omega
      have e : r = s := Prod.ext e1 e2
      subst e
      rw [ih u hl.tail hm.tail fun x => ?_]
      by_cases hx : inn r x = true
      · have hx' := inn_iff.1 hx
        have no : ∀ {v : List Rg}, Nm (r :: v) → anyIn v x = false := fun {v} hv => by
          rw [Bool.eq_false_iff]
          intro hc
          obtain ⟨q, hq, h1, _⟩ := anyIn_iff.1 hc
          have := hv.next q hq
          omega
        rw [no hl, no hm]
      · have := h x
        rwa [anyIn_cons, anyIn_cons, Bool.eq_false_iff.2 hx, Bool.false_or, Bool.false_or] at this

/-! ### a range joined on behind -/
def joinF (l : List Rg) (x : Rg) : List Rg :=
  match l.getLast? with
  | none => [x]
  | some r => if r.2 + 1 = x.1 then l.dropLast ++ [(r.1, x.2)] else l ++ [x]
theorem joinF_nil (x : Rg) : joinF [] x = [x] := rfl
theorem joinF_snoc (l : List Rg) (r x : Rg) : joinF (l ++ [r]) x = if r.2 + 1 = x.1 then l ++ [(r.1, x.2)] else l ++ [r] ++ [x] := by
  unfold joinF; rw [List.getLast?_concat, List.dropLast_concat]
theorem nil_or_snoc {α : Type} (l : List α) : l = [] ∨ ∃ i r, l = i ++ [r] := by
  rcases List.eq_nil_or_concat l with h | ⟨i, r, h⟩
  · exact .inl h
  · exact .inr ⟨i, r, by rw [h, List.concat_eq_append]⟩
theorem joinF_len (l : List Rg) (x : Rg) : (joinF l x).length ≤ l.length + 1 := by
  rcases nil_or_snoc l with rfl | ⟨i, r, rfl⟩
  · simp [joinF_nil]
  · rw [joinF_snoc]; split <;> simp
theorem joinF_ok {l : List Rg} {x : Rg} (hl : Nm l) (hb : ∀ r ∈ l, r.2 < x.1) (hx : 0 ≤ x.1 ∧ x.1 ≤ x.2 ∧ x.2 ≤ 1114111) :
    Nm (joinF l x) ∧ (∀ r ∈ joinF l x, r.2 ≤ x.2) ∧ ∀ y, anyIn (joinF l x) y = (anyIn l y || inn x y) := by
  rcases nil_or_snoc l with rfl | ⟨i, r, rfl⟩
  · rw [joinF_nil]
    refine ⟨Nm.cons hx (by simp) Nm.nil, by simp, fun y => ?_⟩
    rw [anyIn_one, anyIn_nil, Bool.false_or]
  · rw [joinF_snoc]
    have hr := hl.ok r (by simp)
    have hrx := hb r (by simp)
    have hp := List.pairwise_append.1 hl.gap
    have hir : ∀ q ∈ i, q.2 + 2 ≤ r.1 := fun q hq => hp.2.2 q hq r (by simp)
    by_cases h : r.2 + 1 = x.1
    · rw [if_pos h]
      refine ⟨⟨fun q hq => ?_, ?_⟩, fun q hq => ?_, fun y => ?_⟩
      · rcases List.mem_append.1 hq with hq | hq
        · exact hl.ok q (List.mem_append_left _ hq)
        · rw [List.mem_singleton.1 hq]; exact ⟨hr.1, by simp only []; omega, hx.2.2⟩
      · exact List.pairwise_append.2 ⟨hp.1, List.pairwise_singleton _ _, fun q hq s hs => by rw [List.mem_singleton.1 hs]; exact hir q hq⟩
      · rcases List.mem_append.1 hq with hq | hq
        · have := hir q hq; omega
        · rw [List.mem_singleton.1 hq]; exact Int.le_refl _
      · rw [anyIn_append, anyIn_append, anyIn_one, anyIn_one, Bool.or_assoc]
        congr 1
        rw [Bool.eq_iff_iff, Bool.or_eq_true, inn_iff, inn_iff, inn_iff]
        simp only []
        omega
    · rw [if_neg h]
      refine ⟨⟨fun q hq => ?_, ?_⟩, fun q hq => ?_, fun y => ?_⟩
      · rcases List.mem_append.1 hq with hq | hq
        · exact hl.ok q hq
        · rw [List.mem_singleton.1 hq]; exact hx
      · refine List.pairwise_append.2 ⟨hl.gap, List.pairwise_singleton _ _, fun q hq s hs => ?_⟩
        rw [List.mem_singleton.1 hs]
        rcases List.mem_append.1 hq with hq | hq
        · have := hir q hq; omega
        · rw [List.mem_singleton.1 hq]; omega
      · rcases List.mem_append.1 hq with hq | hq
        · have := hb q hq; omega
        · rw [List.mem_singleton.1 hq]; exact Int.le_refl _
      · rw [anyIn_append _ [x], anyIn_one]

/-! ### the one normal list of a set -/
theorem nl_ex_upto (p : Int → Bool) (n : Nat) (hn : n ≤ 1114112) : ∃ l, Nm l ∧ (∀ r ∈ l, r.2 < n) ∧ ∀ x, anyIn l x = (decide (0 ≤ x) && decide (x < n) && p x) := by
  induction n with
  | zero =>
    refine ⟨[], Nm.nil, by simp, fun x => ?_⟩
    rw [anyIn_nil]
    have : (decide (0 ≤ x) && decide (x < ((0 : Nat) : Int))) = false := by
      rw [Bool.eq_false_iff, Ne, Bool.and_eq_true, decide_eq_true_eq, decide_eq_true_eq]; omega
    rw [this]; rfl
  | succ n ih =>
    obtain ⟨l, h1, h2, h3⟩ := ih (by omega)
    by_cases hp : p n = true
    · obtain ⟨k1, k2, k3⟩ := joinF_ok (x := ((n : Int), (n : Int))) h1 (fun r hr => h2 r hr) ⟨by simp only []; omega, Int.le_refl _, by simp only []; omega⟩
      refine ⟨_, k1, fun r hr => by have := k2 r hr; simp only [] at this; omega, fun x => ?_⟩
      rw [k3, h3]
      by_cases hx : x = n
      · subst hx; rw [hp, inn_iff.2 ⟨Int.le_refl _, Int.le_refl _⟩, Bool.or_true]
        symm; rw [Bool.and_true, Bool.and_eq_true, decide_eq_true_eq, decide_eq_true_eq]; omega
      · have e : inn ((n : Int), (n : Int)) x = false := by rw [Bool.eq_false_iff, Ne, inn_iff]; simp only []; omega
        rw [e, Bool.or_false]
        congr 2
        rw [decide_eq_decide]; omega
    · refine ⟨l, h1, fun r hr => by have := h2 r hr; omega, fun x => ?_⟩
      rw [h3]
      by_cases hx : x = n
      · subst hx; rw [Bool.eq_false_iff.2 hp, Bool.and_false, Bool.and_false]
      · congr 2
        rw [decide_eq_decide]; omega
theorem nl_ex (p : Int → Bool) : ∃ l, Nm l ∧ ∀ x, anyIn l x = (inR x && p x) := by
  obtain ⟨l, h1, _, h3⟩ := nl_ex_upto p 1114112 (Nat.le_refl _)
  refine ⟨l, h1, fun x => ?_⟩
  rw [h3]
  unfold inR
  congr 2
  rw [decide_eq_decide]; omega
noncomputable def nl (p : Int → Bool) : List Rg := Classical.choose (nl_ex p)
theorem nl_nm (p : Int → Bool) : Nm (nl p) := (Classical.choose_spec (nl_ex p)).1
theorem nl_has (p : Int → Bool) (x : Int) : has (nl p) x = (inR x && p x) := (nl_nm p).has x |>.trans ((Classical.choose_spec (nl_ex p)).2 x)
theorem nl_of {l : List Rg} {p : Int → Bool} (hl : Nm l) (h : ∀ x, inR x = true → has l x = p x) : l = nl p := by
  refine nm_uniq _ _ hl (nl_nm p) fun x => ?_
  rw [← hl.has, ← (nl_nm p).has, nl_has]
  by_cases hx : inR x = true
  · rw [h x hx, hx, Bool.true_and]
  · rw [Bool.eq_false_iff.2 hx, has_out (Bool.eq_false_iff.2 hx), Bool.false_and]
theorem nl_congr {p q : Int → Bool} (h : ∀ x, inR x = true → p x = q x) : nl p = nl q :=
  nl_of (nl_nm p) fun x hx => by rw [nl_has, hx, Bool.true_and, h x hx]

noncomputable def norm (l : List Rg) : List Rg := nl (has l)
noncomputable def uni (a b : List Rg) : List Rg := nl fun x => has a x || has b x
noncomputable def meet (a b : List Rg) : List Rg := nl fun x => has a x && has b x
noncomputable def minus (a b : List Rg) : List Rg := nl fun x => has a x && !has b x
noncomputable def compl (l : List Rg) : List Rg := nl fun x => !has l x
theorem norm_nm (l : List Rg) : Nm (norm l) := nl_nm _
theorem norm_has (l : List Rg) (x : Int) : has (norm l) x = has l x := by
  unfold norm; rw [nl_has]; unfold has; rw [← Bool.and_assoc, Bool.and_self]
theorem norm_id {l : List Rg} (h : Nm l) : norm l = l := (nl_of h fun _ _ => rfl).symm
theorem norm_norm (l : List Rg) : norm (norm l) = norm l := norm_id (norm_nm l)
theorem norm_iff (l : List Rg) : norm l = l ↔ Nm l := ⟨fun h => h ▸ norm_nm l, norm_id⟩
theorem norm_eq {a b : List Rg} (h : ∀ x, inR x = true → has a x = has b x) : norm a = norm b := nl_congr h
theorem norm_eq_iff (a b : List Rg) : norm a = norm b ↔ ∀ x, has a x = has b x :=
  ⟨fun h x => by rw [← norm_has, h, norm_has], fun h => norm_eq fun x _ => h x⟩
theorem uni_has (a b : List Rg) (x : Int) : has (uni a b) x = (has a x || has b x) := by
  unfold uni; rw [nl_has]; unfold has; cases inR x <;> simp
theorem meet_has (a b : List Rg) (x : Int) : has (meet a b) x = (has a x && has b x) := by
  unfold meet; rw [nl_has]; unfold has; cases inR x <;> simp
theorem minus_has (a b : List Rg) (x : Int) : has (minus a b) x = (has a x && !has b x) := by
  unfold minus; rw [nl_has]; unfold has; cases inR x <;> simp
theorem compl_has (l : List Rg) (x : Int) : has (compl l) x = (inR x && !has l x) := by unfold compl; rw [nl_has]

/-! ### how long a normal list is -/
theorem nm_len_from : ∀ (l : List Rg) (c : Int), Nm l → (∀ r ∈ l, c ≤ r.1) → c ≤ 1114113 → c + 2 * l.length ≤ 1114113 := by
  intro l
  induction l with
  | nil => intro c _ _ h; simpa using h
  | cons r t ih =>
    intro c hl hc _
    have h1 := hl.hd
    have h2 := hc r (List.mem_cons_self ..)
    have := ih (r.2 + 2) hl.tail (fun s hs => hl.next s hs) (by omega)
    rw [List.length_cons]
    omega
theorem nm_len {l : List Rg} (h : Nm l) : l.length ≤ 557056 := by
  have := nm_len_from l 0 h (fun r hr => (h.ok r hr).1) (by omega)
  omega

/-! ### counting -/
def cnt (l : List Rg) : Int := (l.map fun r => r.2 - r.1 + 1).sum
theorem cnt_nil : cnt [] = 0 := rfl
theorem cnt_cons (r : Rg) (t : List Rg) : cnt (r :: t) = r.2 - r.1 + 1 + cnt t := rfl
theorem cnt_append (l m : List Rg) : cnt (l ++ m) = cnt l + cnt m := by unfold cnt; rw [List.map_append, List.sum_append]
theorem cnt_snoc (l : List Rg) (r : Rg) : cnt (l ++ [r]) = cnt l + (r.2 - r.1 + 1) := by
  rw [cnt_append, cnt_cons, cnt_nil]; omega
theorem cnt_take (l : List Rg) (k : Nat) (hk : k < l.length) : cnt (l.take (k + 1)) = cnt (l.take k) + (l[k].2 - l[k].1 + 1) := by
  rw [List.take_succ_eq_append_getElem hk, cnt_snoc]
theorem nm_cnt_from : ∀ (l : List Rg) (c : Int), Nm l → (∀ r ∈ l, c ≤ r.1) → c ≤ 1114112 → c + cnt l ≤ 1114112 := by
  intro l
  induction l with
  | nil => intro c _ _ h; rw [cnt_nil]; omega
  | cons r t ih =>
    intro c hl hc _
    have h1 := hl.hd
    have h2 := hc r (List.mem_cons_self ..)
    have := ih (r.2 + 1) hl.tail (fun s hs => by have := hl.next s hs; omega) (by omega)
    rw [cnt_cons]
    omega
theorem nm_cnt {l : List Rg} (h : Nm l) : cnt l ≤ 1114112 := by
  have := nm_cnt_from l 0 h (fun r hr => (h.ok r hr).1) (by omega)
  omega
theorem nm_cnt_nonneg {l : List Rg} (h : ∀ r ∈ l, r.1 ≤ r.2) : 0 ≤ cnt l := by
  induction l with
  | nil => exact Int.le_refl _
  | cons r t ih => have := ih (fun s hs => h s (List.mem_cons_of_mem _ hs)); have := h r (List.mem_cons_self ..); rw [cnt_cons]; omega
theorem nm_take {l : List Rg} (h : Nm l) (k : Nat) : Nm (l.take k) := ⟨fun r hr => h.ok r (List.mem_of_mem_take hr), h.gap.sublist (List.take_sublist _ _)⟩

/-- how many numbers from 0 up to n there are of a kind -/
def num (n : Nat) (p : Int → Bool) : Nat := (List.range n).countP fun k : Nat => p (k : Int)
theorem num_succ (n : Nat) (p : Int → Bool) : num (n + 1) p = num n p + if p n = true then 1 else 0 := by
  unfold num; rw [List.range_succ, List.countP_append, List.countP_singleton]
theorem num_congr {n : Nat} {p q : Int → Bool} (h : ∀ x : Int, 0 ≤ x → x < n → p x = q x) : num n p = num n q := by
  unfold num
  refine List.countP_congr fun k hk => ?_
  rw [List.mem_range] at hk
  rw [h k (by omega) (by omega)]
theorem num_or (n : Nat) (p q : Int → Bool) : num n (fun x => p x || q x) + num n (fun x => p x && q x) = num n p + num n q := by
  induction n with
  | zero => rfl
  | succ n ih =>
    rw [num_succ, num_succ, num_succ, num_succ]
    cases p n <;> cases q n <;> simp <;> omega
theorem num_not (n : Nat) (p : Int → Bool) : num n p + num n (fun x => !p x) = n := by
  induction n with
  | zero => rfl
  | succ n ih =>
    rw [num_succ, num_succ]
    cases p n <;> simp <;> omega
theorem num_false (n : Nat) : num n (fun _ => false) = 0 := by
  induction n with
  | zero => rfl
  | succ n ih => rw [num_succ, ih]; simp
theorem num_inn (r : Rg) (h0 : 0 ≤ r.1) (h1 : r.1 ≤ r.2) (n : Nat) : (num n (inn r) : Int) = if n ≤ r.1 then 0 else if n ≤ r.2 then n - r.1 else r.2 - r.1 + 1 := by
  induction n with
  | zero => rw [if_pos (by simpa using h0)]; rfl
  | succ n ih =>
    rw [num_succ, Int.natCast_add, ih]
    by_cases hi : inn r n = true
    · have := inn_iff.1 hi
      rw [if_pos hi]
      repeat' split
      all_goals omega
    · have h2 : ¬ (r.1 ≤ n ∧ (n : Int) ≤ r.2) := fun h => hi (inn_iff.2 h)
      rw [if_neg hi]
      repeat' split
      all_goals omega
theorem num_any : ∀ (l : List Rg), Nm l → (num 1114112 (anyIn l) : Int) = cnt l := by
  intro l
  induction l with
  | nil => intro _; rw [show anyIn [] = fun _ => false from rfl, num_false]; rfl
  | cons r t ih =>
    intro h
    have h1 := num_or 1114112 (inn r) (anyIn t)
    have h2 : num 1114112 (fun x => inn r x && anyIn t x) = 0 := by
      rw [← num_false 1114112]
      refine num_congr fun x _ _ => ?_
      rw [Bool.eq_false_iff]
      intro hc
      rw [Bool.and_eq_true, inn_iff, anyIn_iff] at hc
      obtain ⟨hc, q, hq, h1, h2⟩ := hc
      have := h.next q hq
      omega
    have h3 := num_inn r h.hd.1 h.hd.2.1 1114112
    have h4 := h.hd
    rw [if_neg (by omega), if_neg (by omega)] at h3
    have h5 : anyIn (r :: t) = fun x => inn r x || anyIn t x := rfl
    have := ih h.tail
    rw [h5, cnt_cons]
    omega
theorem cnt_norm (l : List Rg) : cnt (norm l) = num 1114112 (has l) := by
  have h : num 1114112 (anyIn (norm l)) = num 1114112 (has l) := num_congr fun x _ _ => by rw [← (norm_nm l).has, norm_has]
  exact (num_any _ (norm_nm l)).symm.trans (congrArg Nat.cast h)
theorem cnt_nl (p : Int → Bool) : cnt (nl p) = num 1114112 p := by
  have h : num 1114112 (anyIn (nl p)) = num 1114112 p := num_congr fun x h0 h1 => by rw [← (nl_nm p).has, nl_has, inR_iff.2 ⟨h0, by omega⟩, Bool.true_and]
  exact (num_any _ (nl_nm p)).symm.trans (congrArg Nat.cast h)
end Go.Proofs.YtipcbiecdabihaaGreat.Rset
