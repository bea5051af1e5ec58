/-
  PLAIN MATHEMATICS OF THE READING OF BYTES AS CODE POINTS: the pieces, their widths, the code points, the open reading (what is sure), cuts. Nothing of the program stands here.
-/
namespace Go.Proofs.YtipcbiecdabihaaGreat.Utf

/-- how many bytes a sequence with that first byte needs: 0, if there is none -/
def need (c : Nat) : Nat := if c < 128 then 1 else if c < 194 then 0 else if c < 224 then 2 else if c < 240 then 3 else if c < 245 then 4 else 0
/-- the bounds of the byte behind the first -/
def lo (c : Nat) : Nat := if c = 224 then 160 else if c = 240 then 144 else 128
def hi (c : Nat) : Nat := if c = 237 then 159 else if c = 244 then 143 else 191
/-- how many bytes belong together, k of them being seen -/
def run (k n a b : Nat) : List UInt8 → Nat
  | [] => k
  | c :: t => if k < n ∧ a ≤ c.toNat ∧ c.toNat ≤ b then run (k + 1) n 128 191 t else k
def wid : List UInt8 → Nat
  | [] => 0
  | c :: t => run 1 (need c.toNat) (lo c.toNat) (hi c.toNat) t
def nd : List UInt8 → Nat
  | [] => 0
  | c :: _ => need c.toNat
def joinTo (r : Nat) : List UInt8 → Nat
  | [] => r
  | b :: t => joinTo (r * 64 + b.toNat % 64) t
def lead (c n : Nat) : Nat := if n = 1 then c else c % 2 ^ (7 - n)
def joined : List UInt8 → Nat
  | [] => 0
  | c :: t => joinTo (lead c.toNat (t.length + 1)) t
def rune (l : List UInt8) : Nat := if wid l = nd l then joined (l.take (wid l)) else 65533
/-- what stands there may still become whole -/
def more (l : List UInt8) : Bool := decide (wid l < nd l) && decide (wid l = l.length)

structure Pt where
  r : Nat
  p : Nat
  w : Nat
  deriving DecidableEq

def decF : Nat → Bool → Nat → List UInt8 → List Pt
  | 0, _, _, _ => []
  | f + 1, o, k, l => if l.isEmpty || (o && more l) then [] else ⟨rune l, k, wid l⟩ :: decF f o (k + wid l) (l.drop (wid l))
def dec (o : Bool) (k : Nat) (l : List UInt8) : List Pt := decF l.length o k l

theorem run_ge (l : List UInt8) : ∀ k n a b, k ≤ run k n a b l := by
  induction l with
  | nil => intro k n a b; exact Nat.le_refl _
  | cons c t ih =>
    intro k n a b
    unfold run
    split
    · exact Nat.le_trans (Nat.le_succ k) (ih _ _ _ _)
    · exact Nat.le_refl _
theorem run_le (l : List UInt8) : ∀ k n a b, run k n a b l ≤ k + l.length := by
  induction l with
  | nil => intro k n a b; exact Nat.le_refl _
  | cons c t ih =>
    intro k n a b
    unfold run
    split
    · have := ih (k + 1) n 128 191; simp only [List.length_cons]; omega
    · simp
theorem run_need (l : List UInt8) : ∀ k n a b, k ≤ n → run k n a b l ≤ n := by
  induction l with
  | nil => intro k n a b h; exact h
  | cons c t ih =>
    intro k n a b h
    unfold run
    split
    · exact ih _ _ _ _ (by omega)
    · exact h
theorem run_zero (l : List UInt8) (k n a b : Nat) (h : n ≤ k) : run k n a b l = k := by
  cases l with
  | nil => rfl
  | cons c t => unfold run; rw [if_neg (by omega)]

theorem need_le (c : Nat) : need c ≤ 4 := by unfold need; repeat (split <;> try omega)
theorem wid_pos {l : List UInt8} (h : l ≠ []) : 1 ≤ wid l := by
  cases l with
  | nil => exact absurd rfl h
  | cons c t => exact run_ge _ _ _ _ _
theorem wid_le (l : List UInt8) : wid l ≤ l.length := by
  cases l with
  | nil => exact Nat.le_refl _
  | cons c t => have := run_le t 1 (need c.toNat) (lo c.toNat) (hi c.toNat); simp only [wid, List.length_cons]; omega
theorem wid_four (l : List UInt8) : wid l ≤ 4 := by
  cases l with
  | nil => simp [wid]
  | cons c t =>
    have := need_le c.toNat
    simp only [wid]
    by_cases h : 1 ≤ need c.toNat
    · have := run_need t 1 _ (lo c.toNat) (hi c.toNat) h; omega
    · rw [run_zero _ _ _ _ _ (by omega)]; omega

theorem decF_nil (f : Nat) (o : Bool) (k : Nat) : decF f o k [] = [] := by cases f <;> simp [decF]
theorem decF_fuel (f : Nat) : ∀ (g : Nat) (o : Bool) (k : Nat) (l : List UInt8), l.length ≤ f → l.length ≤ g → decF f o k l = decF g o k l := by
  induction f with
  | zero =>
    intro g o k l h _
    have : l = [] := List.eq_nil_of_length_eq_zero (by omega)
    subst this
    rw [decF_nil, decF_nil]
  | succ f ih =>
    intro g o k l h1 h2
    cases l with
    | nil => rw [decF_nil, decF_nil]
    | cons c t =>
      cases g with
      | zero => simp at h2
      | succ g =>
        have hp := wid_pos (l := c :: t) (by simp)
        have hd : ((c :: t).drop (wid (c :: t))).length ≤ t.length := by simp only [List.length_drop, List.length_cons]; omega
        simp only [List.length_cons] at h1 h2
        simp only [decF]
        rw [ih g o _ _ (by omega) (by omega)]

theorem dec_nil (o : Bool) (k : Nat) : dec o k [] = [] := rfl
theorem dec_cons (o : Bool) (k : Nat) {l : List UInt8} (h : l ≠ []) :
    dec o k l = if o && more l then [] else ⟨rune l, k, wid l⟩ :: dec o (k + wid l) (l.drop (wid l)) := by
  cases l with
  | nil => exact absurd rfl h
  | cons c t =>
    have hp := wid_pos h
    unfold dec
    simp only [List.length_cons, decF, List.isEmpty_cons, Bool.false_or]
    rw [decF_fuel t.length (List.length (List.drop (wid (c :: t)) (c :: t))) _ _ _ (by simp only [List.length_drop, List.length_cons]; omega) (Nat.le_refl _)]
theorem dec_stop {k : Nat} {l : List UInt8} (h : l ≠ []) (hm : more l = true) : dec true k l = [] := by rw [dec_cons true k h]; simp [hm]
theorem dec_step (o : Bool) (k : Nat) {l : List UInt8} (h : l ≠ []) (hm : (o && more l) = false) :
    dec o k l = ⟨rune l, k, wid l⟩ :: dec o (k + wid l) (l.drop (wid l)) := by rw [dec_cons o k h]; simp [hm]

/-- how many bytes the open reading takes -/
def eatF : Nat → List UInt8 → Nat
  | 0, _ => 0
  | f + 1, l => if l.isEmpty || more l then 0 else wid l + eatF f (l.drop (wid l))
def eat (l : List UInt8) : Nat := eatF l.length l
theorem eatF_nil (f : Nat) : eatF f [] = 0 := by cases f <;> simp [eatF]
theorem eatF_fuel (f : Nat) : ∀ (g : Nat) (l : List UInt8), l.length ≤ f → l.length ≤ g → eatF f l = eatF g l := by
  induction f with
  | zero =>
    intro g l h _
    have : l = [] := List.eq_nil_of_length_eq_zero (by omega)
    subst this
    rw [eatF_nil, eatF_nil]
  | succ f ih =>
    intro g l h1 h2
    cases l with
    | nil => rw [eatF_nil, eatF_nil]
    | cons c t =>
      cases g with
      | zero => simp at h2
      | succ g =>
        have hp := wid_pos (l := c :: t) (by simp)
        have hd : ((c :: t).drop (wid (c :: t))).length ≤ t.length := by simp only [List.length_drop, List.length_cons]; omega
        simp only [List.length_cons] at h1 h2
        simp only [eatF]
        rw [ih g _ (by omega) (by omega)]
theorem eat_nil : eat [] = 0 := rfl
theorem eat_cons {l : List UInt8} (h : l ≠ []) : eat l = if more l then 0 else wid l + eat (l.drop (wid l)) := by
  cases l with
  | nil => exact absurd rfl h
  | cons c t =>
    have hp := wid_pos h
    unfold eat
    simp only [List.length_cons, eatF, List.isEmpty_cons, Bool.false_or]
    rw [eatF_fuel t.length (List.length (List.drop (wid (c :: t)) (c :: t))) _ (by simp only [List.length_drop, List.length_cons]; omega) (Nat.le_refl _)]
theorem eat_stop {l : List UInt8} (h : l ≠ []) (hm : more l = true) : eat l = 0 := by rw [eat_cons h]; simp [hm]
theorem eat_step {l : List UInt8} (h : l ≠ []) (hm : more l = false) : eat l = wid l + eat (l.drop (wid l)) := by rw [eat_cons h]; simp [hm]

/-- induction on the bytes, piece by piece -/
theorem pieces {P : List UInt8 → Prop} (h0 : P []) (hs : ∀ l, l ≠ [] → P (l.drop (wid l)) → P l) (l : List UInt8) : P l := by
  have H : ∀ (n : Nat) (l : List UInt8), l.length ≤ n → P l := by
    intro n
    induction n with
    | zero => intro l h; have : l = [] := List.eq_nil_of_length_eq_zero (by omega); subst this; exact h0
    | succ n ih =>
      intro l h
      by_cases hl : l = []
      · subst hl; exact h0
      · have hp := wid_pos hl
        exact hs l hl (ih _ (by rw [List.length_drop]; omega))
  exact H l.length l (Nat.le_refl _)

theorem eat_le (l : List UInt8) : eat l ≤ l.length := by
  refine pieces (P := fun l => eat l ≤ l.length) (Nat.le_refl _) (fun l hl ih => ?_) l
  rw [eat_cons hl]
  split
  · omega
  · have := wid_le l; rw [List.length_drop] at ih; omega

/-- what is left behind the open reading: nothing, or the beginning of a sequence -/
theorem rest_more (l : List UInt8) : l.drop (eat l) = [] ∨ more (l.drop (eat l)) = true := by
  refine pieces (P := fun l => l.drop (eat l) = [] ∨ more (l.drop (eat l)) = true) (.inl rfl) (fun l hl ih => ?_) l
  rw [eat_cons hl]
  by_cases hm : more l = true
  · rw [if_pos hm]; exact .inr hm
  · rw [if_neg hm]; simpa [List.drop_drop] using ih
theorem more_short {l : List UInt8} (h : more l = true) : l.length ≤ 3 ∧ wid l = l.length ∧ wid l < nd l ∧ l ≠ [] := by
  simp only [more, Bool.and_eq_true, decide_eq_true_eq] at h
  obtain ⟨h1, h2⟩ := h
  have hn : nd l ≤ 4 := by cases l with
    | nil => simp [nd]
    | cons c t => exact need_le _
  refine ⟨by omega, h2, h1, ?_⟩
  rintro rfl
  simp [nd] at h1
theorem rest_short (l : List UInt8) : l.length - eat l ≤ 3 := by
  rcases rest_more l with h | h
  · have := congrArg List.length h; simp only [List.length_drop, List.length_nil] at this; omega
  · have := (more_short h).1; simpa using this

/-! ### more bytes behind -/
theorem run_append (l m : List UInt8) : ∀ k n a b, (n ≤ run k n a b l ∨ run k n a b l < k + l.length) → run k n a b (l ++ m) = run k n a b l := by
  induction l with
  | nil =>
    intro k n a b h
    simp only [run, List.length_nil, Nat.add_zero, List.nil_append] at h ⊢
    exact run_zero _ _ _ _ _ (by omega)
  | cons c t ih =>
    intro k n a b h
    simp only [List.cons_append, run] at h ⊢
    split
    · rename_i hc
      rw [if_pos hc] at h
      exact ih _ _ _ _ (by simp only [List.length_cons] at h; omega)
    · rfl
theorem wid_append {l : List UInt8} (m : List UInt8) (h : l ≠ []) (hm : more l = false) : wid (l ++ m) = wid l := by
  cases l with
  | nil => exact absurd rfl h
  | cons c t =>
    have hw : ¬ (wid (c :: t) < nd (c :: t) ∧ wid (c :: t) = (c :: t).length) := by
      intro ⟨h1, h2⟩
      have ht : more (c :: t) = true := by unfold more; rw [Bool.and_eq_true, decide_eq_true_eq, decide_eq_true_eq]; exact ⟨h1, h2⟩
      rw [ht] at hm
      cases hm
    have hle := wid_le (c :: t)
    simp only [wid, nd, List.cons_append, List.length_cons] at hw hle ⊢
    exact run_append _ _ _ _ _ _ (by omega)
theorem nd_append {l : List UInt8} (m : List UInt8) (h : l ≠ []) : nd (l ++ m) = nd l := by
  cases l with
  | nil => exact absurd rfl h
  | cons c t => rfl
theorem rune_append {l : List UInt8} (m : List UInt8) (h : l ≠ []) (hm : more l = false) : rune (l ++ m) = rune l := by
  unfold rune
  rw [wid_append m h hm, nd_append m h, List.take_append_of_le_length (wid_le l)]
theorem more_append {l : List UInt8} (m : List UInt8) (h : l ≠ []) (hm : more l = false) : more (l ++ m) = false := by
  have hle := wid_le l
  unfold more at hm ⊢
  rw [wid_append m h hm, nd_append m h]
  simp only [Bool.and_eq_false_iff, decide_eq_false_iff_not, List.length_append] at hm ⊢
  omega

theorem dec_append (o : Bool) (l m : List UInt8) : ∀ k, dec o k (l ++ m) = dec true k l ++ dec o (k + eat l) (l.drop (eat l) ++ m) := by
  refine pieces (P := fun l => ∀ k, dec o k (l ++ m) = dec true k l ++ dec o (k + eat l) (l.drop (eat l) ++ m)) (fun k => by simp [eat_nil, dec_nil]) (fun l hl ih k => ?_) l
  by_cases hm : more l = true
  · rw [dec_stop hl hm, eat_stop hl hm]; simp
  · have hm : more l = false := by simpa using hm
    have hne : l ++ m ≠ [] := by simp [hl]
    rw [dec_step o k hne (by rw [more_append m hl hm]; simp), dec_step true k hl (by simp [hm]), eat_step hl hm, wid_append m hl hm, rune_append m hl hm,
      List.drop_append_of_le_length (wid_le l), ih]
    simp [List.drop_drop, Nat.add_assoc]
theorem eat_append (l m : List UInt8) : eat (l ++ m) = eat l + eat (l.drop (eat l) ++ m) := by
  refine pieces (P := fun l => eat (l ++ m) = eat l + eat (l.drop (eat l) ++ m)) (by simp [eat_nil]) (fun l hl ih => ?_) l
  by_cases hm : more l = true
  · rw [eat_stop hl hm]; simp
  · have hm : more l = false := by simpa using hm
    have hne : l ++ m ≠ [] := by simp [hl]
    rw [eat_step hne (more_append m hl hm), eat_step hl hm, wid_append m hl hm, List.drop_append_of_le_length (wid_le l), ih]
    simp [List.drop_drop, Nat.add_assoc]

/-- all told: what is sure, and the piece that is left -/
theorem dec_close (k : Nat) (l : List UInt8) :
    dec false k l = dec true k l ++ (if l.length - eat l = 0 then [] else [⟨65533, k + eat l, l.length - eat l⟩]) := by
  have h := dec_append false l [] k
  rw [List.append_nil, List.append_nil] at h
  rw [h]
  congr 1
  rcases rest_more l with hr | hr
  · have : l.length - eat l = 0 := by have := congrArg List.length hr; simpa using this
    rw [hr, if_pos this]; rfl
  · obtain ⟨h1, h2, h3, h4⟩ := more_short hr
    have hlen : (l.drop (eat l)).length = l.length - eat l := List.length_drop
    have hp : l.length - eat l ≠ 0 := by
      intro h0
      exact h4 (List.eq_nil_of_length_eq_zero (by omega))
    rw [if_neg hp, dec_step false _ h4 (by simp), h2, hlen]
    have hdrop : (l.drop (eat l)).drop (l.length - eat l) = [] := List.drop_eq_nil_of_le (by omega)
    rw [hdrop, dec_nil]
    have : rune (l.drop (eat l)) = 65533 := by unfold rune; rw [if_neg (by omega)]
    rw [this]

/-! ### where the points stand -/
theorem dec_len_le (o : Bool) (l : List UInt8) : ∀ k, (dec o k l).length ≤ l.length := by
  refine pieces (P := fun l => ∀ k, (dec o k l).length ≤ l.length) (fun k => Nat.le_refl _) (fun l hl ih k => ?_) l
  rw [dec_cons o k hl]
  split
  · simp
  · have hp := wid_pos hl
    have := ih (k + wid l)
    have hw := wid_le l
    simp only [List.length_cons]
    rw [List.length_drop] at this
    omega
theorem dec_last (l : List UInt8) : ∀ k, dec true k l ≠ [] → ∃ q, (dec true k l).getLast? = some q ∧ q.p + q.w = k + eat l := by
  refine pieces (P := fun l => ∀ k, dec true k l ≠ [] → ∃ q, (dec true k l).getLast? = some q ∧ q.p + q.w = k + eat l) (fun k h => absurd rfl h) (fun l hl ih k h => ?_) l
  by_cases hm : more l = true
  · rw [dec_stop hl hm] at h; exact absurd rfl h
  · have hm : more l = false := by simpa using hm
    rw [dec_step true k hl (by simp [hm]), eat_step hl hm]
    by_cases hr : dec true (k + wid l) (l.drop (wid l)) = []
    · rw [hr]
      have he : eat (l.drop (wid l)) = 0 := by
        by_cases hd : l.drop (wid l) = []
        · rw [hd]; rfl
        · cases hmm : more (l.drop (wid l)) with
          | true => exact eat_stop hd hmm
          | false => rw [dec_step true _ hd (by simp [hmm])] at hr; cases hr
      exact ⟨⟨rune l, k, wid l⟩, rfl, by rw [he]; show k + wid l = _; omega⟩
    · obtain ⟨q, h1, h2⟩ := ih _ hr
      refine ⟨q, ?_, by omega⟩
      rw [List.getLast?_cons, h1]; rfl
theorem dec_empty {l : List UInt8} {k : Nat} (h : dec true k l = []) : eat l = 0 := by
  by_cases hd : l = []
  · rw [hd]; rfl
  · cases hmm : more l with
    | true => exact eat_stop hd hmm
    | false => rw [dec_step true _ hd (by simp [hmm])] at h; cases h

/-! ### bounds -/
theorem joinTo_lt (t : List UInt8) : ∀ r B, r < B → joinTo r t < B * 64 ^ t.length := by
  induction t with
  | nil => intro r B h; simpa [joinTo] using h
  | cons c t ih =>
    intro r B h
    have hc : c.toNat % 64 < 64 := Nat.mod_lt _ (by omega)
    have := ih (r * 64 + c.toNat % 64) (B * 64) (by omega)
    simp only [joinTo, List.length_cons]
    have e : B * 64 ^ (t.length + 1) = B * 64 * 64 ^ t.length := by rw [Nat.pow_succ]; simp only [Nat.mul_assoc, Nat.mul_comm]
    rw [e]; exact this
theorem rune_lt (l : List UInt8) : rune l < 2097152 := by
  unfold rune
  split
  · rename_i hw
    have h4 := wid_four l
    cases l with
    | nil => simp [joined, wid]
    | cons c t =>
      have hp := wid_pos (l := c :: t) (by simp)
      have hle := wid_le (c :: t)
      obtain ⟨n, hn⟩ : ∃ n, wid (c :: t) = n + 1 := ⟨wid (c :: t) - 1, by omega⟩
      have hc := c.toNat_lt
      simp only [hn, List.length_cons] at hle h4
      rw [hn, List.take_succ_cons]
      simp only [joined]
      have hl : (t.take n).length = n := by rw [List.length_take]; omega
      rw [hl]
      have hb : lead c.toNat (n + 1) < (if n = 0 then 256 else 2 ^ (7 - (n + 1))) := by
        unfold lead
        by_cases h0 : n = 0
        · subst h0; simpa using hc
        · rw [if_neg (by omega), if_neg h0]; exact Nat.mod_lt _ (Nat.pow_pos (by omega))
      have := joinTo_lt (t.take n) _ _ hb
      rw [hl] at this
      have hcase : n = 0 ∨ n = 1 ∨ n = 2 ∨ n = 3 := by omega
      rcases hcase with rfl | rfl | rfl | rfl <;> simp at this ⊢ <;> omega
  · omega
end Go.Proofs.YtipcbiecdabihaaGreat.Utf
