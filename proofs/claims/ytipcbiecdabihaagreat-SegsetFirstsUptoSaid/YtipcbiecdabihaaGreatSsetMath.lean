/-
  PLAIN MATHEMATICS OF SETS OF TEXTS: lists of texts that rise (each set of texts has one), well-formed texts, a text's first code point, sets as three Boolean functions, the operations, what they have. Nothing of the program stands here.
-/
import Derived.Lib.SlicesCompact
import Derived.Test.YtipcbiecdabihaaGreatUtfMath3
import Derived.Test.YtipcbiecdabihaaGreatRsetMath
namespace Go.Proofs.YtipcbiecdabihaaGreat.Sset
open Utf Rset

abbrev Tx := List UInt8

/-! ### lists that rise -/
def Up (l : List Tx) : Prop := l.Pairwise (· < ·)
theorem Up.nil : Up [] := List.Pairwise.nil
theorem lt_irr (x : Tx) : ¬ x < x := List.lt_irrefl x
theorem le_of_lt {x y : Tx} (h : x < y) : x ≤ y := by
  rcases List.le_total x y with h1 | h1
  · exact h1
  · exact absurd h h1
theorem lt_of {x y : Tx} (h : x ≤ y) (hne : x ≠ y) : x < y := by
  by_cases h1 : x < y
  · exact h1
  · exact absurd (List.le_antisymm h h1) hne
theorem lt_tr {x y z : Tx} (h1 : x < y) (h2 : y < z) : x < z := List.lt_trans h1 h2
theorem up_uniq : ∀ (l m : List Tx), Up l → Up m → (∀ x, x ∈ l ↔ x ∈ m) → l = m := by
  intro l
  induction l with
  | nil =>
    intro m _ _ h
    cases m with
    | nil => rfl
    | cons y u => exact absurd ((h y).2 (List.mem_cons_self ..)) (by simp)
  | cons x t ih =>
    intro m hl hm h
    cases m with
    | nil => exact absurd ((h x).1 (List.mem_cons_self ..)) (by simp)
    | cons y u =>
      obtain ⟨hx, ht⟩ := List.pairwise_cons.1 hl
      obtain ⟨hy, hu⟩ := List.pairwise_cons.1 hm
      have e : x = y := by
        rcases List.mem_cons.1 ((h x).1 (List.mem_cons_self ..)) with h1 | h1
        · exact h1
        · rcases List.mem_cons.1 ((h y).2 (List.mem_cons_self ..)) with h2 | h2
          · exact h2.symm
          · exact absurd (lt_tr (hx y h2) (hy x h1)) (lt_irr x)
      subst e
      rw [ih u ht hu fun z => ?_]
      constructor
      · intro hz
        rcases List.mem_cons.1 ((h z).1 (List.mem_cons_of_mem _ hz)) with rfl | h1
        · exact absurd (hx z hz) (lt_irr z)
        · exact h1
      · intro hz
        rcases List.mem_cons.1 ((h z).2 (List.mem_cons_of_mem _ hz)) with rfl | h1
        · exact absurd (hy z hz) (lt_irr z)
        · exact h1
theorem Up.nodup {l : List Tx} (h : Up l) : l.Nodup := h.imp fun {a b} hab e => by subst e; exact lt_irr _ hab
theorem Up.filter {l : List Tx} (h : Up l) (p : Tx → Bool) : Up (l.filter p) := List.Pairwise.sublist List.filter_sublist h

/-- the texts of a list, each once, rising -/
def rise (l : List Tx) : List Tx := Lib.compact (l.mergeSort fun x y => decide (x ≤ y))
theorem sorted_merge (l : List Tx) : (l.mergeSort fun x y => decide (x ≤ y)).Pairwise (· ≤ ·) := by
  have tr : ∀ a b c : Tx, decide (a ≤ b) = true → decide (b ≤ c) = true → decide (a ≤ c) = true := fun a b c h1 h2 => by simp only [decide_eq_true_eq] at *; exact List.le_trans h1 h2
  have to : ∀ a b : Tx, (decide (a ≤ b) || decide (b ≤ a)) = true := fun a b => by simp only [Bool.or_eq_true, decide_eq_true_eq]; exact List.le_total a b
  exact (List.pairwise_mergeSort tr to l).imp fun h => by simpa using h
theorem compact_mem (zs : List Tx) (x : Tx) : x ∈ Lib.compact zs ↔ x ∈ zs := by
  unfold Lib.compact Lib.compactUpTo
  constructor
  · intro h
    obtain ⟨i, hi, rfl⟩ := List.mem_map.1 h
    have hi' : i < zs.length := List.mem_range.1 (List.mem_filter.1 hi).1
    simp [getElem!_pos, hi']
  · intro h
    have ex : ∃ n : Nat, n < zs.length ∧ zs.toArray[n]! = x := by
      obtain ⟨i, hi, rfl⟩ := List.getElem_of_mem h
      exact ⟨i, hi, by simp [getElem!_pos, hi]⟩
    have H : ∀ n : Nat, n < zs.length → zs.toArray[n]! = x → ∃ j, (j < zs.length ∧ zs.toArray[j]! = x) ∧ Lib.keeps zs.toArray j = true := by
      intro n
      induction n with
      | zero => intro h1 h2; exact ⟨0, ⟨h1, h2⟩, Lib.keeps_lt_one _ 0 (by omega)⟩
      | succ n ih =>
        intro h1 h2
        by_cases h3 : zs.toArray[n]! = x
        · exact ih (by omega) h3
        · refine ⟨n + 1, ⟨h1, h2⟩, Lib.keeps_pos ?_⟩
          rw [h2]; exact fun e => h3 e.symm
    obtain ⟨n, h1, h2⟩ := ex
    obtain ⟨j, ⟨j1, j2⟩, j3⟩ := H n h1 h2
    exact List.mem_map.2 ⟨j, List.mem_filter.2 ⟨List.mem_range.2 j1, j3⟩, j2⟩
theorem compact_up {zs : List Tx} (h : zs.Pairwise (· ≤ ·)) : Up (Lib.compact zs) := by
  unfold Lib.compact Lib.compactUpTo Up
  rw [List.pairwise_map]
  have hr : (List.range zs.length).Pairwise (· < ·) := List.pairwise_lt_range
  refine (List.Pairwise.and_mem.1 (List.Pairwise.filter _ hr)).imp ?_
  rintro i j ⟨hi, hj, hij⟩
  obtain ⟨hi1, _⟩ := List.mem_filter.1 hi
  obtain ⟨hj1, hj2⟩ := List.mem_filter.1 hj
  have hi1 := List.mem_range.1 hi1
  have hj1 := List.mem_range.1 hj1
  have hle : ∀ a b : Nat, a ≤ b → b < zs.length → zs.toArray[a]! ≤ zs.toArray[b]! := by
    intro a b hab hb
    rcases Nat.lt_or_ge a b with hlt | hge
    · have := List.pairwise_iff_getElem.1 h a b (by omega) hb hlt
      rw [getElem!_pos _ a (by simp; omega), getElem!_pos _ b (by simpa using hb)]
      simpa using this
    · have : a = b := by omega
      subst this
      exact List.le_refl _
  unfold Lib.keeps at hj2
  rw [decide_eq_true_eq] at hj2
  have hne : zs.toArray[j]! ≠ zs.toArray[j - 1]! := by
    rcases hj2 with hj2 | hj2
    · omega
    · exact hj2
  have h1 := hle i (j - 1) (by omega) (by omega)
  have h2 := lt_of (hle (j - 1) j (by omega) hj1) fun e => hne e.symm
  by_cases e : zs.toArray[i]! = zs.toArray[j - 1]!
  · rw [e]; exact h2
  · exact lt_tr (lt_of h1 e) h2
theorem rise_mem (l : List Tx) (x : Tx) : x ∈ rise l ↔ x ∈ l := by unfold rise; rw [compact_mem, List.mem_mergeSort]
theorem rise_up (l : List Tx) : Up (rise l) := compact_up (sorted_merge l)
theorem rise_id {l : List Tx} (h : Up l) : rise l = l := up_uniq _ _ (rise_up l) h fun x => rise_mem l x
theorem rise_of {l m : List Tx} (h : Up m) (hm : ∀ x, x ∈ m ↔ x ∈ l) : m = rise l := up_uniq _ _ h (rise_up l) fun x => by rw [hm, rise_mem]
theorem nodup_len : ∀ (l m : List Tx), l.Nodup → (∀ x ∈ l, x ∈ m) → l.length ≤ m.length := by
  intro l
  induction l with
  | nil => intro m _ _; exact Nat.zero_le _
  | cons x t ih =>
    intro m hn h
    obtain ⟨h1, h2⟩ := List.nodup_cons.1 hn
    have hx := h x (List.mem_cons_self ..)
    have := ih (m.erase x) h2 fun y hy => (List.mem_erase_of_ne (fun e => h1 (by rw [← e]; exact hy))).2 (h y (List.mem_cons_of_mem _ hy))
    have h3 := List.length_erase_of_mem hx
    have h4 : 0 < m.length := List.length_pos_of_mem hx
    rw [List.length_cons]
    omega
theorem rise_len (l : List Tx) : (rise l).length ≤ l.length := nodup_len _ _ (rise_up l).nodup fun x hx => (rise_mem l x).1 hx
theorem compact_len (zs : List Tx) : (Lib.compact zs).length ≤ zs.length := by
  unfold Lib.compact Lib.compactUpTo
  rw [List.length_map]
  exact Nat.le_trans (List.length_filter_le _ _) (by simp)
/-- is a text in a list? -/
def isIn (l : List Tx) (t : Tx) : Bool := decide (t ∈ l)
theorem isIn_iff {l : List Tx} {t : Tx} : isIn l t = true ↔ t ∈ l := by simp [isIn]
theorem isIn_congr {l m : List Tx} {t : Tx} (h : t ∈ l ↔ t ∈ m) : isIn l t = isIn m t := by unfold isIn; rw [decide_eq_decide]; exact h
theorem isIn_append (l m : List Tx) (t : Tx) : isIn (l ++ m) t = (isIn l t || isIn m t) := by unfold isIn; rw [Bool.eq_iff_iff]; simp
theorem isIn_filter (l : List Tx) (p : Tx → Bool) (t : Tx) : isIn (l.filter p) t = (isIn l t && p t) := by unfold isIn; rw [Bool.eq_iff_iff]; simp
theorem isIn_rise (l : List Tx) (t : Tx) : isIn (rise l) t = isIn l t := isIn_congr (rise_mem l t)
theorem isIn_nil (t : Tx) : isIn [] t = false := by simp [isIn]
theorem isIn_one (u t : Tx) : isIn [u] t = decide (t = u) := by unfold isIn; rw [decide_eq_decide]; simp

/-! ### texts -/
def pnts (t : Tx) : List Pt := dec false 0 t
def rns (t : Tx) : List Int := (pnts t).map fun q => (q.r : Int)
/-- well-formed? -/
def good (t : Tx) : Bool := decide (enc (rns t) = t)
/-- does that code point stand for a piece that is no sequence? -/
def ill (t : Tx) (q : Pt) : Bool := decide (q.r = 65533) && !decide ((t.drop q.p).take q.w = bad3)
def okT (t : Tx) : Bool := good t && decide (2 ≤ (pnts t).length)

theorem whole_all (b : Tx) : ∀ (l : Tx) (k : Nat) (r : List Int) (o : Bool), l = b.drop k → k + l.length = b.length → WholeB b k r o →
    WholeB b b.length (r ++ (dec false k l).map fun q => (q.r : Int)) (o && !(dec false k l).any (ill b)) := by
  refine pieces (P := fun l => ∀ (k : Nat) (r : List Int) (o : Bool), l = b.drop k → k + l.length = b.length → WholeB b k r o →
    WholeB b b.length (r ++ (dec false k l).map fun q => (q.r : Int)) (o && !(dec false k l).any (ill b))) ?_ ?_
  · intro k r o _ hk h
    have : k = b.length := by simpa using hk
    subst this
    simpa [dec_nil] using h
  · intro l hl ih k r o he hk h
    have hwl := wid_le l
    have hne : b.drop k ≠ [] := he ▸ hl
    have hs := whole_step h hne
    rw [← he] at hs
    have := ih (k + wid l) (r ++ [(rune l : Int)]) _ (by rw [he, List.drop_drop]) (by rw [List.length_drop]; omega) hs
    rw [dec_step false k hl (by simp), List.map_cons, List.any_cons]
    have e1 : ill b ⟨rune l, k, wid l⟩ = !(decide (rune l ≠ 65533) || decide (l.take (wid l) = bad3)) := by
      unfold ill
      simp only [← he]
      by_cases h1 : rune l = 65533 <;> simp [h1]
    rw [e1, Bool.not_or, Bool.not_not, ← Bool.and_assoc]
    rw [List.append_assoc, List.singleton_append] at this
    exact this
theorem good_ill (t : Tx) : good t = !(pnts t).any (ill t) := by
  have h := whole_all t t 0 [] true (by simp) (by simp) (whole_start t)
  rw [List.nil_append, Bool.true_and] at h
  have := whole_end h
  unfold good
  rw [Bool.eq_iff_iff, decide_eq_true_eq]
  exact this
theorem pnts_nil : pnts [] = [] := rfl
theorem good_nil : good [] = true := rfl
theorem pnts_cons {t : Tx} (h : t ≠ []) : pnts t = ⟨rune t, 0, wid t⟩ :: dec false (wid t) (t.drop (wid t)) := by
  unfold pnts; rw [dec_step false 0 h (by simp), Nat.zero_add]
/-- more than one code point? -/
def two (t : Tx) : Bool := decide (wid t < t.length)
theorem dec_zero {l : Tx} {k : Nat} : (dec false k l).length = 0 ↔ l = [] := by
  constructor
  · intro h
    by_cases hl : l = []
    · exact hl
    · rw [dec_step false k hl (by simp)] at h; simp at h
  · rintro rfl; rfl
theorem two_len (t : Tx) (h : t ≠ []) : decide (2 ≤ (pnts t).length) = two t := by
  have hw := wid_le t
  unfold two
  rw [decide_eq_decide, pnts_cons h, List.length_cons]
  have h0 := dec_zero (l := t.drop (wid t)) (k := wid t)
  have h1 : t.drop (wid t) = [] ↔ t.length ≤ wid t := by rw [List.drop_eq_nil_iff]
  rw [h1] at h0
  omega
theorem two_nil : two [] = false := rfl
theorem okT_eq (t : Tx) : okT t = (good t && two t) := by
  by_cases h : t = []
  · subst h; rfl
  · unfold okT; rw [two_len t h]
theorem okT_ne {t : Tx} (h : okT t = true) : t ≠ [] := by rintro rfl; cases h
theorem one_len {t : Tx} (h : t ≠ []) (h2 : two t = false) : pnts t = [⟨rune t, 0, wid t⟩] := by
  have hw := wid_le t
  unfold two at h2
  rw [decide_eq_false_iff_not] at h2
  rw [pnts_cons h, List.drop_eq_nil_of_le (by omega), dec_nil]
/-- the first code point -/
def fst (t : Tx) : Int := (rune t : Int)
theorem run_take (l : Tx) : ∀ k n a b m, n - k ≤ m → run k n a b (l.take m) = run k n a b l := by
  induction l with
  | nil => intro k n a b m _; rw [List.take_nil]
  | cons c t ih =>
    intro k n a b m hm
    by_cases h : k < n
    · obtain ⟨m', rfl⟩ : ∃ m', m = m' + 1 := ⟨m - 1, by omega⟩
      rw [List.take_succ_cons]
      unfold run
      split
      · exact ih _ _ _ _ _ (by omega)
      · rfl
    · rw [run_zero _ _ _ _ _ (by omega), run_zero _ _ _ _ _ (by omega)]
theorem wid_take4 (t : Tx) : wid (t.take 4) = wid t := by
  cases t with
  | nil => rfl
  | cons c r =>
    have := need_le c.toNat
    rw [List.take_succ_cons]
    simp only [wid]
    exact run_take _ _ _ _ _ _ (by omega)
theorem nd_take4 (t : Tx) : nd (t.take 4) = nd t := by cases t <;> rfl
theorem rune_take4 (t : Tx) : rune (t.take 4) = rune t := by
  unfold rune
  rw [wid_take4, nd_take4, List.take_take, Nat.min_eq_left (wid_four t)]
theorem fst_ok {t : Tx} (h : t ≠ []) : 0 ≤ fst t ∧ fst t ≤ 1114111 ∧ inR (fst t) = true := by
  have := (rune_pt h).1
  refine ⟨by unfold fst; omega, by unfold fst; omega, ?_⟩
  rw [inR_iff]; unfold fst; omega
theorem fst_lit {t : Tx} (h : t ≠ []) : -2147483648 ≤ fst t ∧ fst t ≤ 2147483647 := by have := fst_ok h; omega

/-! ### sets -/
structure St where
  s : List Rg
  m : List Rg
  o : List Tx
  deriving DecidableEq
def none_ : St := ⟨[], [], []⟩
structure NmS (a : St) : Prop where
  s : Nm a.s
  m : Nm a.m
  up : Up a.o
  ok : ∀ t ∈ a.o, okT t = true
theorem none_nm : NmS none_ := ⟨Nm.nil, Nm.nil, Up.nil, fun _ h => by simp [none_] at h⟩
noncomputable def normS (a : St) : St := ⟨norm a.s, norm a.m, (rise a.o).filter okT⟩
noncomputable def notS (a : St) : St := ⟨compl a.s, compl a.m, a.o⟩
def memS (a : St) (t : Tx) : Bool := has a.m (fst t) != isIn a.o t
noncomputable def meetS (a b : St) : St := ⟨meet a.s b.s, meet a.m b.m, (rise (a.o ++ b.o)).filter fun t => (memS a t && memS b t) != has (meet a.m b.m) (fst t)⟩
def hasS (a : St) (t : Tx) : Bool := if t = [] then false else if two t then memS a t else has a.s (fst t)
noncomputable def firstS (l : List Rg) : St := ⟨norm l, norm l, []⟩
noncomputable def onesS (l : List Rg) : St := ⟨norm l, [], []⟩
noncomputable def uni2 (a b : St) : St := notS (meetS (notS (normS a)) (notS (normS b)))
noncomputable def meet2 (a b : St) : St := meetS (normS a) (normS b)
noncomputable def minus2 (a b : St) : St := meetS (normS a) (notS (normS b))
noncomputable def not2 (a : St) : St := notS (normS a)
noncomputable def allS : St := notS none_
noncomputable def ofS (t : Tx) : St := if good t && decide ((pnts t).length = 1) then onesS [(fst t, fst t)] else normS ⟨[], [], [t]⟩
noncomputable def eqS (a b : St) : Bool := decide (normS a = normS b)
theorem normS_nm (a : St) : NmS (normS a) := ⟨norm_nm _, norm_nm _, (rise_up _).filter _, fun _ h => (List.mem_filter.1 h).2⟩
theorem notS_nm {a : St} (h : NmS a) : NmS (notS a) := ⟨nl_nm _, nl_nm _, h.up, h.ok⟩
theorem meetS_nm {a b : St} (h : NmS a) (k : NmS b) : NmS (meetS a b) := ⟨nl_nm _, nl_nm _, (rise_up _).filter _, fun t ht => by
  have := (rise_mem _ t).1 (List.mem_filter.1 ht).1
  rcases List.mem_append.1 this with h1 | h1
  · exact h.ok t h1
  · exact k.ok t h1⟩
theorem firstS_nm (l : List Rg) : NmS (firstS l) := ⟨norm_nm _, norm_nm _, Up.nil, fun _ h => by simp [firstS] at h⟩
theorem onesS_nm (l : List Rg) : NmS (onesS l) := ⟨norm_nm _, Nm.nil, Up.nil, fun _ h => by simp [onesS] at h⟩
theorem uni2_nm (a b : St) : NmS (uni2 a b) := notS_nm (meetS_nm (notS_nm (normS_nm a)) (notS_nm (normS_nm b)))
theorem meet2_nm (a b : St) : NmS (meet2 a b) := meetS_nm (normS_nm a) (normS_nm b)
theorem minus2_nm (a b : St) : NmS (minus2 a b) := meetS_nm (normS_nm a) (notS_nm (normS_nm b))
theorem not2_nm (a : St) : NmS (not2 a) := notS_nm (normS_nm a)
theorem allS_nm : NmS allS := notS_nm none_nm
theorem ofS_nm (t : Tx) : NmS (ofS t) := by unfold ofS; split; exact onesS_nm _; exact normS_nm _
theorem normS_id {a : St} (h : NmS a) : normS a = a := by
  unfold normS
  rw [norm_id h.s, norm_id h.m, rise_id h.up, List.filter_eq_self.2 h.ok]
/-- normal sets that are the same as Boolean functions are the same -/
theorem st_ext {a b : St} (h : NmS a) (k : NmS b) (h1 : ∀ x, has a.s x = has b.s x) (h2 : ∀ x, has a.m x = has b.m x) (h3 : ∀ t, isIn a.o t = isIn b.o t) : a = b := by
  obtain ⟨a1, a2, a3⟩ := a
  obtain ⟨b1, b2, b3⟩ := b
  have e1 : a1 = b1 := (norm_id h.s).symm.trans ((norm_eq fun x _ => h1 x).trans (norm_id k.s))
  have e2 : a2 = b2 := (norm_id h.m).symm.trans ((norm_eq fun x _ => h2 x).trans (norm_id k.m))
  have e3 : a3 = b3 := up_uniq _ _ h.up k.up fun t => by rw [← isIn_iff, ← isIn_iff]; exact Bool.eq_iff_iff.1 (h3 t)
  rw [e1, e2, show a3 = b3 from e3]
section
variable (a b : St) (x : Int) (t : Tx)
theorem notS_s : has (notS a).s x = (inR x && !has a.s x) := compl_has _ _
theorem notS_m : has (notS a).m x = (inR x && !has a.m x) := compl_has _ _
theorem notS_o : isIn (notS a).o t = isIn a.o t := rfl
theorem meetS_s : has (meetS a b).s x = (has a.s x && has b.s x) := meet_has _ _ _
theorem meetS_m : has (meetS a b).m x = (has a.m x && has b.m x) := meet_has _ _ _
theorem meetS_o : isIn (meetS a b).o t = (((has a.m (fst t) != isIn a.o t) && (has b.m (fst t) != isIn b.o t)) != (has a.m (fst t) && has b.m (fst t))) := by
  show isIn ((rise (a.o ++ b.o)).filter _) t = _
  rw [isIn_filter, isIn_rise, isIn_append]
  unfold memS
  rw [meet_has]
  cases has a.m (fst t) <;> cases has b.m (fst t) <;> cases isIn a.o t <;> cases isIn b.o t <;> rfl
theorem normS_s : has (normS a).s x = has a.s x := norm_has _ _
theorem normS_m : has (normS a).m x = has a.m x := norm_has _ _
theorem normS_o : isIn (normS a).o t = (isIn a.o t && okT t) := by
  show isIn ((rise a.o).filter _) t = _
  rw [isIn_filter, isIn_rise]
end
theorem odd_okT {a : St} (h : NmS a) (t : Tx) : isIn a.o t = (isIn a.o t && okT t) := by
  cases hi : isIn a.o t with
  | false => rfl
  | true => rw [h.ok t (isIn_iff.1 hi)]; rfl
theorem not2_s (a : St) (x : Int) : has (not2 a).s x = (inR x && !has a.s x) := by unfold not2; rw [notS_s, normS_s]
theorem not2_m (a : St) (x : Int) : has (not2 a).m x = (inR x && !has a.m x) := by unfold not2; rw [notS_m, normS_m]
theorem not2_o (a : St) (t : Tx) : isIn (not2 a).o t = (isIn a.o t && okT t) := by unfold not2; rw [notS_o, normS_o]
theorem uni2_s (a b : St) (x : Int) : has (uni2 a b).s x = (has a.s x || has b.s x) := by
  unfold uni2
  rw [notS_s, meetS_s, notS_s, notS_s, normS_s, normS_s]
  cases hx : inR x with
  | true => cases has a.s x <;> cases has b.s x <;> rfl
  | false => rw [has_out hx, has_out hx]; rfl
theorem uni2_m (a b : St) (x : Int) : has (uni2 a b).m x = (has a.m x || has b.m x) := by
  unfold uni2
  rw [notS_m, meetS_m, notS_m, notS_m, normS_m, normS_m]
  cases hx : inR x with
  | true => cases has a.m x <;> cases has b.m x <;> rfl
  | false => rw [has_out hx, has_out hx]; rfl
theorem fst_inR {t : Tx} (h : okT t = true) : inR (fst t) = true := (fst_ok (okT_ne h)).2.2
theorem uni2_o (a b : St) (t : Tx) : isIn (uni2 a b).o t = (okT t && (((has a.m (fst t) != isIn a.o t) || (has b.m (fst t) != isIn b.o t)) != (has a.m (fst t) || has b.m (fst t)))) := by
  unfold uni2
  rw [notS_o, meetS_o, notS_m, notS_m, notS_o, notS_o, normS_m, normS_m, normS_o, normS_o]
  cases ho : okT t with
  | true => rw [fst_inR ho]; cases has a.m (fst t) <;> cases has b.m (fst t) <;> cases isIn a.o t <;> cases isIn b.o t <;> rfl
  | false => cases inR (fst t) <;> cases has a.m (fst t) <;> cases has b.m (fst t) <;> cases isIn a.o t <;> cases isIn b.o t <;> rfl
theorem meet2_s (a b : St) (x : Int) : has (meet2 a b).s x = (has a.s x && has b.s x) := by unfold meet2; rw [meetS_s, normS_s, normS_s]
theorem meet2_m (a b : St) (x : Int) : has (meet2 a b).m x = (has a.m x && has b.m x) := by unfold meet2; rw [meetS_m, normS_m, normS_m]
theorem meet2_o (a b : St) (t : Tx) : isIn (meet2 a b).o t = (okT t && (((has a.m (fst t) != isIn a.o t) && (has b.m (fst t) != isIn b.o t)) != (has a.m (fst t) && has b.m (fst t)))) := by
  unfold meet2
  rw [meetS_o, normS_m, normS_m, normS_o, normS_o]
  cases okT t <;> cases has a.m (fst t) <;> cases has b.m (fst t) <;> cases isIn a.o t <;> cases isIn b.o t <;> rfl
theorem minus2_s (a b : St) (x : Int) : has (minus2 a b).s x = (has a.s x && !has b.s x) := by
  unfold minus2
  rw [meetS_s, notS_s, normS_s, normS_s]
  cases hx : inR x with
  | true => cases has a.s x <;> cases has b.s x <;> rfl
  | false => rw [has_out hx]; rfl
theorem minus2_m (a b : St) (x : Int) : has (minus2 a b).m x = (has a.m x && !has b.m x) := by
  unfold minus2
  rw [meetS_m, notS_m, normS_m, normS_m]
  cases hx : inR x with
  | true => cases has a.m x <;> cases has b.m x <;> rfl
  | false => rw [has_out hx]; rfl
theorem minus2_o (a b : St) (t : Tx) : isIn (minus2 a b).o t = (okT t && (((has a.m (fst t) != isIn a.o t) && !(has b.m (fst t) != isIn b.o t)) != (has a.m (fst t) && !has b.m (fst t)))) := by
  unfold minus2
  rw [meetS_o, notS_m, notS_o, normS_m, normS_m, normS_o, normS_o]
  cases ho : okT t with
  | true => rw [fst_inR ho]; cases has a.m (fst t) <;> cases has b.m (fst t) <;> cases isIn a.o t <;> cases isIn b.o t <;> rfl
  | false => cases hx : inR (fst t) with
    | true => cases has a.m (fst t) <;> cases has b.m (fst t) <;> cases isIn a.o t <;> cases isIn b.o t <;> rfl
    | false => rw [has_out hx]; cases isIn a.o t <;> cases isIn b.o t <;> rfl

/-! ### what the operations have -/
theorem okT_of {t : Tx} (hg : good t = true) (h2 : two t = true) : okT t = true := by rw [okT_eq, hg, h2]; rfl
theorem two_ne {t : Tx} (h2 : two t = true) : t ≠ [] := by rintro rfl; cases h2
theorem norm_mem (a : St) {t : Tx} (hg : good t = true) : hasS (normS a) t = hasS a t := by
  unfold hasS
  by_cases h : t = []
  · rw [if_pos h, if_pos h]
  · rw [if_neg h, if_neg h]
    cases h2 : two t with
    | true => rw [if_pos rfl, if_pos rfl]; unfold memS; rw [normS_m, normS_o, okT_of hg h2, Bool.and_true]
    | false => rw [if_neg Bool.false_ne_true, if_neg Bool.false_ne_true, normS_s]
theorem uni2_has (a b : St) {t : Tx} (hg : good t = true) : hasS (uni2 a b) t = (hasS a t || hasS b t) := by
  unfold hasS
  by_cases h : t = []
  · rw [if_pos h, if_pos h, if_pos h]; rfl
  · rw [if_neg h, if_neg h, if_neg h]
    cases h2 : two t with
    | true =>
      rw [if_pos rfl, if_pos rfl, if_pos rfl]; unfold memS; rw [uni2_m, uni2_o, okT_of hg h2]
      cases has a.m (fst t) <;> cases has b.m (fst t) <;> cases isIn a.o t <;> cases isIn b.o t <;> rfl
    | false => rw [if_neg Bool.false_ne_true, if_neg Bool.false_ne_true, if_neg Bool.false_ne_true, uni2_s]
theorem meet2_mem (a b : St) {t : Tx} (hg : good t = true) : hasS (meet2 a b) t = (hasS a t && hasS b t) := by
  unfold hasS
  by_cases h : t = []
  · rw [if_pos h, if_pos h, if_pos h]; rfl
  · rw [if_neg h, if_neg h, if_neg h]
    cases h2 : two t with
    | true =>
      rw [if_pos rfl, if_pos rfl, if_pos rfl]; unfold memS; rw [meet2_m, meet2_o, okT_of hg h2]
      cases has a.m (fst t) <;> cases has b.m (fst t) <;> cases isIn a.o t <;> cases isIn b.o t <;> rfl
    | false => rw [if_neg Bool.false_ne_true, if_neg Bool.false_ne_true, if_neg Bool.false_ne_true, meet2_s]
theorem minus2_mem (a b : St) {t : Tx} (hg : good t = true) : hasS (minus2 a b) t = (hasS a t && !hasS b t) := by
  unfold hasS
  by_cases h : t = []
  · rw [if_pos h, if_pos h]; rfl
  · rw [if_neg h, if_neg h, if_neg h]
    cases h2 : two t with
    | true =>
      rw [if_pos rfl, if_pos rfl, if_pos rfl]; unfold memS; rw [minus2_m, minus2_o, okT_of hg h2]
      cases has a.m (fst t) <;> cases has b.m (fst t) <;> cases isIn a.o t <;> cases isIn b.o t <;> rfl
    | false => rw [if_neg Bool.false_ne_true, if_neg Bool.false_ne_true, if_neg Bool.false_ne_true, minus2_s]
theorem not2_mem (a : St) {t : Tx} (hg : good t = true) : hasS (not2 a) t = (!hasS a t && !decide (t = [])) := by
  unfold hasS
  by_cases h : t = []
  · rw [if_pos h, if_pos h, decide_eq_true h]; rfl
  · rw [if_neg h, if_neg h, decide_eq_false h]
    have hr := (fst_ok h).2.2
    cases h2 : two t with
    | true =>
      rw [if_pos rfl, if_pos rfl]; unfold memS; rw [not2_m, not2_o, okT_of hg h2, hr]
      cases has a.m (fst t) <;> cases isIn a.o t <;> rfl
    | false => rw [if_neg Bool.false_ne_true, if_neg Bool.false_ne_true, not2_s, hr]; cases has a.s (fst t) <;> rfl
/-! ### how many odd ones there are -/
theorem normS_len (a : St) : (normS a).o.length ≤ a.o.length := Nat.le_trans (List.length_filter_le _ _) (rise_len _)
theorem meetS_len (a b : St) : (meetS a b).o.length ≤ a.o.length + b.o.length := by
  refine Nat.le_trans (List.length_filter_le _ _) (Nat.le_trans (rise_len _) ?_)
  rw [List.length_append]; exact Nat.le_refl _
theorem uni2_len (a b : St) : (uni2 a b).o.length ≤ a.o.length + b.o.length := Nat.le_trans (meetS_len _ _) (Nat.add_le_add (normS_len a) (normS_len b))
theorem meet2_len (a b : St) : (meet2 a b).o.length ≤ a.o.length + b.o.length := Nat.le_trans (meetS_len _ _) (Nat.add_le_add (normS_len a) (normS_len b))
theorem minus2_len (a b : St) : (minus2 a b).o.length ≤ a.o.length + b.o.length := Nat.le_trans (meetS_len _ _) (Nat.add_le_add (normS_len a) (normS_len b))
theorem not2_len (a : St) : (not2 a).o.length ≤ a.o.length := normS_len a
/-- texts of a bounded length -/
def Short (l : List Tx) : Prop := ∀ t ∈ l, t.length ≤ 1073741824
theorem short_norm {a : St} (h : Short a.o) : Short (normS a).o := fun t ht => h t ((rise_mem _ t).1 (List.mem_filter.1 ht).1)
theorem short_append {l m : List Tx} (h : Short l) (k : Short m) : Short (l ++ m) := fun t ht => by
  rcases List.mem_append.1 ht with h1 | h1
  · exact h t h1
  · exact k t h1
theorem short_rise {l : List Tx} (h : Short l) : Short (rise l) := fun t ht => h t ((rise_mem l t).1 ht)
theorem short_meet {a b : St} (h : Short a.o) (k : Short b.o) : Short (meetS a b).o := fun t ht => by
  have := (rise_mem _ t).1 (List.mem_filter.1 ht).1
  rcases List.mem_append.1 this with h1 | h1
  · exact h t h1
  · exact k t h1
end Go.Proofs.YtipcbiecdabihaaGreat.Sset
