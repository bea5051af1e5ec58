/-
  PLAIN MATHEMATICS OF THE NORMAL FORM: marks in order, the normal form piece by piece, what it keeps, that once is enough. Nothing of the program stands here.
-/
import Derived.Test.YtochodombojamaaDoorNormSortMath
import Derived.Test.YtochodombojamaaDoorUcdRdec
namespace Go.Proofs.YtochodombojamaaDoor.Norm
open Ucd

/-- a mark, put behind all that may stand ahead of it -/
def ins (x : Int) : List Int → List Int
  | [] => [x]
  | y :: t => if cls y ≤ cls x then y :: ins x t else x :: y :: t
/-- marks in their order -/
def ord (l : List Int) : List Int := l.foldl (fun acc x => ins x acc) []
def Up (l : List Int) : Prop := l.Pairwise fun x y => cls x ≤ cls y
def Marks (l : List Int) : Prop := ∀ x ∈ l, cls x ≠ 0
theorem ord_nil : ord [] = [] := rfl
theorem ord_snoc (l : List Int) (x : Int) : ord (l ++ [x]) = ins x (ord l) := by simp [ord]
theorem mem_ins {x z : Int} : ∀ {l : List Int}, z ∈ ins x l ↔ z = x ∨ z ∈ l
  | [] => by simp [ins]
  | y :: t => by
    simp only [ins]
    split
    · simp only [List.mem_cons, mem_ins (l := t)]
      constructor
      · rintro (h | h | h) <;> simp [h]
      · rintro (h | h | h) <;> simp [h]
    · simp
theorem ins_len (x : Int) : ∀ l : List Int, (ins x l).length = l.length + 1
  | [] => rfl
  | y :: t => by
    simp only [ins]
    split
    · simp [ins_len x t]
    · simp
theorem ins_up {x : Int} : ∀ {l : List Int}, Up l → Up (ins x l)
  | [], _ => by simp [ins, Up]
  | y :: t, h => by
    obtain ⟨h1, h2⟩ := List.pairwise_cons.1 h
    simp only [ins]
    split
    · rename_i hle
      refine List.pairwise_cons.2 ⟨fun z hz => ?_, ins_up h2⟩
      rcases mem_ins.1 hz with rfl | hz
      · exact hle
      · exact h1 z hz
    · rename_i hgt
      refine List.pairwise_cons.2 ⟨fun z hz => ?_, h⟩
      rcases List.mem_cons.1 hz with rfl | hz
      · omega
      · have := h1 z hz; omega
theorem ins_same {x : Int} (c : Int) : ∀ {l : List Int}, Up l → same cls c (ins x l) = same cls c (l ++ [x])
  | [], _ => rfl
  | y :: t, h => by
    obtain ⟨h1, h2⟩ := List.pairwise_cons.1 h
    simp only [ins]
    split
    · have := ins_same c (x := x) h2
      simp only [same] at this
      simp only [same, List.cons_append, List.filter_cons, this]
    · rename_i hgt
      by_cases hc : cls x = c
      · have hn : same cls c (y :: t) = [] := by
          simp only [same]
          rw [List.filter_eq_nil_iff]
          intro z hz
          have : cls y ≤ cls z := by
            rcases List.mem_cons.1 hz with rfl | hz
            · exact Int.le_refl _
            · exact h1 z hz
          simp; omega
        rw [show same cls c (y :: t ++ [x]) = same cls c (y :: t) ++ same cls c [x] by simp only [same, List.filter_append], hn,
          show same cls c (x :: y :: t) = same cls c [x] ++ same cls c (y :: t) by
            rw [show x :: y :: t = [x] ++ (y :: t) from rfl]; simp only [same, List.filter_append], hn]
        simp
      · have hx : same cls c [x] = [] := by simp [same, hc]
        rw [show same cls c (y :: t ++ [x]) = same cls c (y :: t) ++ same cls c [x] by simp only [same, List.filter_append], hx,
          show same cls c (x :: y :: t) = same cls c [x] ++ same cls c (y :: t) by
            rw [show x :: y :: t = [x] ++ (y :: t) from rfl]; simp only [same, List.filter_append], hx]
        simp
theorem snoc_rec {p : List Int → Prop} (h0 : p []) (h1 : ∀ l x, p l → p (l ++ [x])) (l : List Int) : p l := by
  have : ∀ r : List Int, p r.reverse := fun r => by
    induction r with
    | nil => exact h0
    | cons x t ih => rw [List.reverse_cons]; exact h1 _ _ ih
  have h := this l.reverse
  rwa [List.reverse_reverse] at h
theorem ord_up : ∀ l : List Int, Up (ord l) := fun l => by
  refine snoc_rec (p := fun l => Up (ord l)) (by simp [ord, Up]) (fun l x ih => ?_) l
  rw [ord_snoc]; exact ins_up ih
theorem ord_same (c : Int) (l : List Int) : same cls c (ord l) = same cls c l := by
  refine snoc_rec (p := fun l => same cls c (ord l) = same cls c l) rfl (fun l x ih => ?_) l
  rw [ord_snoc, ins_same c (ord_up l)]
  simp only [same, List.filter_append] at ih ⊢
  rw [ih]
theorem ord_len (l : List Int) : (ord l).length = l.length := by
  refine snoc_rec (p := fun l => (ord l).length = l.length) rfl (fun l x ih => ?_) l
  rw [ord_snoc, ins_len, ih]; simp
theorem mem_ord {z : Int} (l : List Int) : z ∈ ord l ↔ z ∈ l := by
  refine snoc_rec (p := fun l => z ∈ ord l ↔ z ∈ l) (by simp [ord]) (fun l x ih => ?_) l
  rw [ord_snoc, mem_ins, ih]; simp [or_comm]
theorem ord_marks {l : List Int} (h : Marks l) : Marks (ord l) := fun x hx => h x ((mem_ord l).1 hx)
theorem ord_uniq {l m : List Int} (hm : Up m) (h : ∀ c, same cls c m = same cls c l) : m = ord l :=
  stable_unique m (ord l) hm (ord_up l) fun c => (h c).trans (ord_same c l).symm
theorem ord_id {l : List Int} (h : Up l) : ord l = l := (ord_uniq h fun _ => rfl).symm
theorem ord_ord (l : List Int) : ord (ord l) = ord l := ord_id (ord_up l)
/-- where a mark is put -/
theorem ins_at {x : Int} : ∀ {l : List Int} {p : Nat}, p ≤ l.length → (∀ i (h : i < l.length), i < p → cls l[i] ≤ cls x) → (∀ i (h : i < l.length), p ≤ i → cls x < cls l[i]) → ins x l = l.take p ++ x :: l.drop p
  | [], p, _, _, _ => by simp [ins]
  | y :: t, 0, _, _, h2 => by
    have := h2 0 (by simp) (Nat.le_refl _)
    simp only [List.getElem_cons_zero] at this
    simp only [ins, if_neg (by omega : ¬ cls y ≤ cls x)]
    simp
  | y :: t, p + 1, hp, h1, h2 => by
    have := h1 0 (by simp) (by omega)
    simp only [List.getElem_cons_zero] at this
    simp only [ins, if_pos this]
    rw [ins_at (l := t) (p := p) (by simpa using hp) (fun i h hi => by have := h1 (i + 1) (by simpa using h) (by omega); simpa using this) (fun i h hi => by have := h2 (i + 1) (by simpa using h) (by omega); simpa using this)]
    simp

/-! ### the normal form, piece by piece -/
/-- what is told of D, m standing ahead of it -/
def told : List Int → List Int → List Int
  | _, [] => []
  | m, x :: t => if cls x = 0 then ord m ++ x :: told [] t else told (m ++ [x]) t
/-- what is kept back -/
def pend : List Int → List Int → List Int
  | m, [] => m
  | m, x :: t => if cls x = 0 then pend [] t else pend (m ++ [x]) t
def nfm (m D : List Int) : List Int := told m D ++ ord (pend m D)
def nf (D : List Int) : List Int := nfm [] D
def fulls (l : List Int) : List Int := l.flatMap fullF
/-- THE NORMAL FORM -/
def normal (l : List Int) : List Int := nf (fulls l)
theorem fulls_append (a b : List Int) : fulls (a ++ b) = fulls a ++ fulls b := List.flatMap_append
theorem fulls_cons (a : Int) (b : List Int) : fulls (a :: b) = fullF a ++ fulls b := List.flatMap_cons
theorem told_append : ∀ (D E m : List Int), told m (D ++ E) = told m D ++ told (pend m D) E
  | [], E, m => rfl
  | x :: t, E, m => by
    simp only [List.cons_append, told, pend]
    split
    · simp [told_append t E []]
    · exact told_append t E _
theorem pend_append : ∀ (D E m : List Int), pend m (D ++ E) = pend (pend m D) E
  | [], E, m => rfl
  | x :: t, E, m => by
    simp only [List.cons_append, pend]
    split
    · exact pend_append t E []
    · exact pend_append t E _
theorem told_marks : ∀ (M m E : List Int), Marks M → told m (M ++ E) = told (m ++ M) E
  | [], m, E, _ => by simp
  | x :: t, m, E, h => by
    simp only [List.cons_append, told, if_neg (h x (by simp))]
    rw [told_marks t _ E fun y hy => h y (by simp [hy])]; simp
theorem pend_marks : ∀ (M m E : List Int), Marks M → pend m (M ++ E) = pend (m ++ M) E
  | [], m, E, _ => by simp
  | x :: t, m, E, h => by
    simp only [List.cons_append, pend, if_neg (h x (by simp))]
    rw [pend_marks t _ E fun y hy => h y (by simp [hy])]; simp
theorem nfm_marks (M m E : List Int) (h : Marks M) : nfm m (M ++ E) = nfm (m ++ M) E := by rw [nfm, told_marks M m E h, pend_marks M m E h]; rfl
theorem nfm_nil (m : List Int) : nfm m [] = ord m := by simp [nfm, told, pend]
theorem nfm_start (m : List Int) {x : Int} (t : List Int) (h : cls x = 0) : nfm m (x :: t) = ord m ++ x :: nf t := by simp [nfm, nf, told, pend, h]
theorem nfm_mark (m : List Int) {x : Int} (t : List Int) (h : cls x ≠ 0) : nfm m (x :: t) = nfm (m ++ [x]) t := by simp [nfm, told, pend, h]
theorem nfm_append (m D E : List Int) : nfm m (D ++ E) = told m D ++ nfm (pend m D) E := by rw [nfm, told_append, pend_append, List.append_assoc]; rfl
theorem marks_snoc {m : List Int} {x : Int} (hm : Marks m) (h : cls x ≠ 0) : Marks (m ++ [x]) := fun y hy => by
  rcases List.mem_append.1 hy with hy | hy
  · exact hm y hy
  · rw [List.mem_singleton.1 hy]; exact h
theorem marks_nil : Marks [] := by simp [Marks]
theorem pend_is_marks : ∀ (D m : List Int), Marks m → Marks (pend m D)
  | [], m, h => h
  | x :: t, m, h => by
    simp only [pend]
    split
    · exact pend_is_marks t [] marks_nil
    · rename_i hx; exact pend_is_marks t _ (marks_snoc h hx)
/-- how much of a normal form goes up to its last starter -/
def sure (l : List Int) : Nat := (l.length - (l.reverse.takeWhile fun x => cls x ≠ 0).length)
theorem told_last : ∀ (D m : List Int), told m D = [] ∨ ∃ a x, told m D = a ++ [x] ∧ cls x = 0
  | [], m => .inl rfl
  | x :: t, m => by
    simp only [told]
    split
    · rename_i hx
      right
      rcases told_last t [] with h | ⟨a, y, h, hy⟩
      · exact ⟨ord m, x, by rw [h], hx⟩
      · exact ⟨ord m ++ x :: a, y, by rw [h]; simp, hy⟩
    · exact told_last t _
theorem takeWhile_all {p : Int → Bool} : ∀ {l r : List Int}, (∀ x ∈ l, p x = true) → (l ++ r).takeWhile p = l ++ r.takeWhile p
  | [], _, _ => rfl
  | x :: t, r, h => by
    rw [List.cons_append, List.takeWhile_cons_of_pos (h x (by simp)), takeWhile_all fun y hy => h y (by simp [hy])]; rfl
theorem sure_nfm (D m : List Int) (hm : Marks m) : sure (nfm m D) = (told m D).length := by
  have hp := ord_marks (pend_is_marks D m hm)
  unfold sure nfm
  rw [List.reverse_append, takeWhile_all (fun x hx => by simpa using hp x (List.mem_reverse.1 hx))]
  have : ((told m D).reverse.takeWhile fun x => cls x ≠ 0) = [] := by
    rcases told_last D m with h | ⟨a, x, h, hx⟩
    · rw [h]; rfl
    · rw [h]; simp [hx]
  rw [this]
  simp

/-! ### what it keeps -/
/-- the starters, and the marks of class c -/
def pick (c : Int) (l : List Int) : List Int := l.filter fun x => cls x == 0 || cls x == c
theorem pick_append (c : Int) (a b : List Int) : pick c (a ++ b) = pick c a ++ pick c b := List.filter_append ..
theorem pick_marks (c : Int) {l : List Int} (h : Marks l) : pick c l = same cls c l := by
  simp only [pick, same]
  refine List.filter_congr fun x hx => ?_
  have := h x hx
  have e : (cls x == 0) = false := by simpa using this
  rw [e, Bool.false_or]
theorem pick_ord (c : Int) {l : List Int} (h : Marks l) : pick c (ord l) = pick c l := by rw [pick_marks c h, pick_marks c (ord_marks h), ord_same]
theorem pick_nfm (c : Int) : ∀ (D m : List Int), Marks m → pick c (nfm m D) = pick c m ++ pick c D
  | [], m, hm => by rw [nfm_nil, pick_ord c hm]; simp [pick]
  | x :: t, m, hm => by
    by_cases hx : cls x = 0
    · have := pick_nfm c t [] marks_nil
      rw [nfm_start m t hx, pick_append, pick_ord c hm, show x :: nf t = [x] ++ nf t from rfl, show x :: t = [x] ++ t from rfl, pick_append, pick_append, nf, this]
      rfl
    · rw [nfm_mark m t hx, pick_nfm c t _ (marks_snoc hm hx), pick_append, show x :: t = [x] ++ t from rfl, pick_append, List.append_assoc]
theorem pick_nf (c : Int) (D : List Int) : pick c (nf D) = pick c D := by rw [nf, pick_nfm c D [] marks_nil]; rfl
theorem nfm_len : ∀ (D m : List Int), (nfm m D).length = m.length + D.length
  | [], m => by rw [nfm_nil, ord_len]; simp
  | x :: t, m => by
    by_cases hx : cls x = 0
    · have := nfm_len t []
      rw [nfm_start m t hx]
      simp only [List.length_append, List.length_cons, ord_len, nf, this, List.length_nil]
      omega
    · rw [nfm_mark m t hx, nfm_len t]; simp; omega
theorem nf_len (D : List Int) : (nf D).length = D.length := by rw [nf, nfm_len]; simp
theorem mem_told {z : Int} : ∀ (D m : List Int), z ∈ nfm m D ↔ z ∈ m ∨ z ∈ D
  | [], m => by rw [nfm_nil, mem_ord]; simp
  | x :: t, m => by
    by_cases hx : cls x = 0
    · have := mem_told (z := z) t []
      rw [nfm_start m t hx, List.mem_append, mem_ord, List.mem_cons, nf, this]; simp
    · rw [nfm_mark m t hx, mem_told t]; simp [or_assoc]
theorem mem_nf {z : Int} (D : List Int) : z ∈ nf D ↔ z ∈ D := by rw [nf, mem_told]; simp

/-! ### once is enough -/
theorem nf_nfm : ∀ (D m : List Int), Marks m → nf (nfm m D) = nfm m D
  | [], m, hm => by
    have h := nfm_marks (ord m) [] [] (ord_marks hm)
    rw [List.append_nil, List.nil_append, nfm_nil] at h
    rw [nfm_nil, nf, h, ord_ord]
  | x :: t, m, hm => by
    by_cases hx : cls x = 0
    · have h := nfm_marks (ord m) [] (x :: nf t) (ord_marks hm)
      rw [List.nil_append, nfm_start _ _ hx, ord_ord] at h
      have ih : nf (nf t) = nf t := nf_nfm t [] marks_nil
      rw [nfm_start m t hx, nf, h, ih]
    · rw [nfm_mark m t hx]; exact nf_nfm t _ (marks_snoc hm hx)
theorem nf_nf (D : List Int) : nf (nf D) = nf D := nf_nfm D [] marks_nil
theorem fulls_self {l : List Int} (h : ∀ x ∈ l, (pairF x).2.2 = 0) : fulls l = l := all_self h
theorem fulls_bottom (l : List Int) : ∀ x ∈ fulls l, (pairF x).2.2 = 0 := fun x hx => by
  obtain ⟨r, _, hr⟩ := List.mem_flatMap.1 hx
  exact (bottom_parts r).2.2.1 x hr
theorem normal_bottom (l : List Int) : ∀ x ∈ normal l, (pairF x).2.2 = 0 := fun x hx => fulls_bottom l x ((mem_nf _).1 hx)
theorem normal_normal (l : List Int) : normal (normal l) = normal l := by
  rw [normal, fulls_self (normal_bottom l), normal, nf_nf]
/-- cut ahead of a starter -/
theorem nf_cut (D : List Int) {x : Int} (E : List Int) (h : cls x = 0) : nf (D ++ x :: E) = nf D ++ nf (x :: E) := by
  have e : nf (x :: E) = x :: nf E := by rw [nf, nfm_start [] E h]; rfl
  rw [e, nf, nfm_append, nfm_start _ _ h, ← List.append_assoc]
  rfl
theorem normal_cut (a : List Int) (r : Int) (b : List Int) (h : opn r = true) : normal (a ++ r :: b) = normal a ++ normal (r :: b) := by
  have hs := full_some r
  obtain ⟨x, t, hx⟩ : ∃ x t, fullF r = x :: t := by
    cases h : fullF r with
    | nil => rw [h] at hs; simp at hs
    | cons x t => exact ⟨x, t, rfl⟩
  have hc : cls x = 0 := by
    have : opn r = (cls (fstF r) == 0 && !trl (fstF r)) := rfl
    rw [h, fstF, hx] at this
    simp only [List.headD_cons] at this
    have := (Bool.and_eq_true _ _).mp this.symm
    simpa using this.1
  unfold normal
  rw [fulls_append, fulls_cons, hx, List.cons_append, nf_cut _ _ hc]
/-- marks rise by their classes -/
theorem up_get {l : List Int} (h : Up l) {i : Nat} (hi : i + 1 < l.length) : cls l[i] ≤ cls l[i + 1] := List.pairwise_iff_getElem.1 h i (i + 1) _ _ (by omega)
def Rise (l : List Int) : Prop := ∀ i (h : i + 1 < l.length), cls l[i + 1] = 0 ∨ cls l[i] ≤ cls l[i + 1]
theorem rise_nfm : ∀ (D m : List Int), Marks m → Rise (nfm m D)
  | [], m, _ => fun i h => .inr (by simp only [nfm_nil] at h ⊢; exact up_get (ord_up m) h)
  | x :: t, m, hm => by
    by_cases hx : cls x = 0
    · have ih : Rise (nf t) := rise_nfm t [] marks_nil
      rw [nfm_start m t hx]
      intro i h
      rcases Nat.lt_trichotomy (i + 1) (ord m).length with h1 | h1 | h1
      · right
        rw [List.getElem_append_left h1, List.getElem_append_left (by omega)]
        exact up_get (ord_up m) h1
      · left
        rw [List.getElem_append_right (by omega)]
        have e0 : i + 1 - (ord m).length = 0 := by omega
        simp only [e0, List.getElem_cons_zero, hx]
      · by_cases h2 : i = (ord m).length
        · right
          subst h2
          rw [List.getElem_append_right (Nat.le_refl _)]
          simp only [Nat.sub_self, List.getElem_cons_zero, hx]
          exact (cls_range _).1
        · obtain ⟨j, rfl⟩ : ∃ j, i = (ord m).length + 1 + j := ⟨i - (ord m).length - 1, by omega⟩
          simp only [List.length_append, List.length_cons] at h
          have hi := ih j (by omega)
          rw [List.getElem_append_right (by omega), List.getElem_append_right (by omega)]
          have e1 : (ord m).length + 1 + j - (ord m).length = j + 1 := by omega
          have e2 : (ord m).length + 1 + j + 1 - (ord m).length = (j + 1) + 1 := by omega
          simp only [e1, e2, List.getElem_cons_succ]
          exact hi
    · rw [nfm_mark m t hx]; exact rise_nfm t _ (marks_snoc hm hx)
theorem rise_normal (l : List Int) : Rise (normal l) := rise_nfm _ [] marks_nil

/-! ### neighbours exchanged -/
theorem nfm_congr_marks {m m' : List Int} (h : ord m = ord m') : ∀ (D k : List Int), Marks k → nfm (m ++ k) D = nfm (m' ++ k) D := by
  have key : ∀ k, ord (m ++ k) = ord (m' ++ k) := fun k => by
    refine ord_uniq (ord_up _) fun c => ?_
    rw [ord_same]
    have := congrArg (same cls c) h
    rw [ord_same, ord_same] at this
    simp only [same, List.filter_append] at this ⊢
    rw [this]
  intro D
  induction D with
  | nil => intro k _; rw [nfm_nil, nfm_nil, key]
  | cons x t ih =>
    intro k hk
    by_cases hx : cls x = 0
    · rw [nfm_start _ t hx, nfm_start _ t hx, key]
    · rw [nfm_mark _ t hx, nfm_mark _ t hx, List.append_assoc, List.append_assoc, ih _ (marks_snoc hk hx)]
theorem nf_swap (D : List Int) (a b : Int) (E : List Int) (ha : cls a ≠ 0) (hb : cls b ≠ 0) (hab : cls a ≠ cls b) : nf (D ++ a :: b :: E) = nf (D ++ b :: a :: E) := by
  rw [nf, nfm_append, nf, nfm_append]
  congr 1
  rw [nfm_mark _ _ ha, nfm_mark _ _ hb, nfm_mark _ _ hb, nfm_mark _ _ ha]
  have h : ord (pend [] D ++ [a] ++ [b]) = ord (pend [] D ++ [b] ++ [a]) := by
    refine ord_uniq (ord_up _) fun c => ?_
    rw [ord_same]
    simp only [same, List.filter_append, List.append_assoc]
    congr 1
    by_cases h1 : cls a = c <;> by_cases h2 : cls b = c <;> simp [h1, h2]
    omega
  have := nfm_congr_marks h E [] marks_nil
  simpa using this
theorem nf_unswap {D E : List Int} {a b : Int} (h : nf (D ++ a :: b :: E) = nf (D ++ b :: a :: E)) (hc : cls a = 0 ∨ cls b = 0 ∨ cls a = cls b) : a = b := by
  have go : ∀ c, (cls a = 0 ∨ cls a = c) → (cls b = 0 ∨ cls b = c) → a = b := fun c h1 h2 => by
    have h := congrArg (pick c) h
    rw [pick_nf, pick_nf, pick_append, pick_append] at h
    have h := List.append_cancel_left h
    have p1 : (cls a == 0 || cls a == c) = true := by rcases h1 with h | h <;> simp [h]
    have p2 : (cls b == 0 || cls b == c) = true := by rcases h2 with h | h <;> simp [h]
    simp only [pick, List.filter_cons, p1, p2, if_true] at h
    exact (List.cons.inj h).1
  rcases hc with h1 | h1 | h1
  · exact go (cls b) (.inl h1) (.inr rfl)
  · exact go (cls a) (.inr rfl) (.inl h1)
  · exact go (cls a) (.inr rfl) (.inr h1.symm)
end Go.Proofs.YtochodombojamaaDoor.Norm
