/-
  THE UNION OF SINGLE TEXTS' SETS, as mathematics: it has these well-formed texts and no others.
-/
import Derived.Test.YtipcbiecdabihaaGreatSsetRes
namespace Go.Proofs.YtipcbiecdabihaaGreat.Sset
open Go.RowKit
open Utf (Rd Blk enc)
open Rset
set_option maxRecDepth 100000

/-- is it one of these, and not empty? -/
def ins (l : List Tx) (t : Tx) : Bool := isIn l t && !decide (t = [])
theorem ins_nil (t : Tx) : ins [] t = false := by unfold ins; rw [isIn_nil]; rfl
theorem ins_step (l : List Tx) (x t : Tx) : ins (l ++ [x]) t = (ins l t || (decide (x = t) && !decide (t = []))) := by
  have h : decide (t = x) = decide (x = t) := by rw [decide_eq_decide]; exact eq_comm
  unfold ins
  rw [isIn_append, isIn_one, h]
  cases isIn l t <;> cases decide (x = t) <;> cases decide (t = []) <;> rfl
theorem rns_one {t : Tx} (h : t ≠ []) (h2 : two t = false) : rns t = [fst t] := by
  unfold rns; rw [one_len h h2]; rfl
theorem good_one {t : Tx} (h : t ≠ []) (h2 : two t = false) (hg : good t = true) : enc [fst t] = t := by
  rw [← rns_one h h2]; exact of_decide_eq_true hg
theorem two_of {t : Tx} (h : (pnts t).length = 1) : t ≠ [] ∧ two t = false := by
  have hne : t ≠ [] := by rintro rfl; cases h
  refine ⟨hne, ?_⟩
  rw [← two_len t hne, h]; rfl
theorem ofS_has (x : Tx) {t : Tx} (hg : good t = true) : hasS (ofS x) t = (decide (x = t) && !decide (t = [])) := by
  by_cases ht : t = []
  · subst ht; simp [hasS]
  · rw [decide_eq_false ht, Bool.not_false, Bool.and_true]
    unfold ofS
    by_cases c : (good x && decide ((pnts x).length = 1)) = true
    · rw [if_pos c, ones_has]
      rw [Bool.and_eq_true, decide_eq_true_eq] at c
      obtain ⟨hx, hx2⟩ := two_of c.2
      unfold hasS
      rw [if_neg ht]
      cases h2 : two t with
      | true =>
        rw [if_pos rfl]; unfold memS
        rw [has_nil, isIn_nil]
        have : ¬ x = t := by rintro rfl; rw [hx2] at h2; cases h2
        rw [decide_eq_false this]; rfl
      | false =>
        rw [if_neg Bool.false_ne_true, Bool.eq_iff_iff, decide_eq_true_eq]
        have e1 := good_one hx hx2 c.1
        have e2 := good_one ht h2 hg
        unfold has
        rw [(fst_ok ht).2.2, Bool.true_and, anyIn_iff]
        constructor
        · rintro ⟨r, hr, h3, h4⟩
          rw [List.mem_singleton] at hr
          subst hr
          have : fst x = fst t := by simp only at h3 h4; omega
          rw [← e1, ← e2, this]
        · rintro rfl
          exact ⟨_, List.mem_singleton.2 rfl, Int.le_refl _, Int.le_refl _⟩
    · rw [if_neg c, norm_mem _ hg]
      unfold hasS
      rw [if_neg ht]
      cases h2 : two t with
      | true =>
        rw [if_pos rfl]; unfold memS
        rw [has_nil, isIn_one, Bool.eq_iff_iff]
        simp only [bne_iff_ne, ne_eq, Bool.false_eq, Bool.not_eq_false, decide_eq_true_eq]
        exact eq_comm
      | false =>
        rw [if_neg Bool.false_ne_true, has_nil]
        have : ¬ x = t := by
          rintro rfl
          exact c (by rw [hg, one_len ht h2]; rfl)
        rw [decide_eq_false this]
/-- all of these -/
noncomputable def uns (l : List Tx) : St := l.foldl (fun s t => uni2 s (ofS t)) none_
theorem uns_nil : uns [] = none_ := rfl
theorem uns_step (l : List Tx) (x : Tx) : uns (l ++ [x]) = uni2 (uns l) (ofS x) := by unfold uns; rw [List.foldl_append]; rfl
theorem uns_take {l : List Tx} {k : Nat} (h : k < l.length) : uns (l.take (k + 1)) = uni2 (uns (l.take k)) (ofS l[k]) := by
  rw [List.take_succ_eq_append_getElem h, uns_step]
theorem ins_take {l : List Tx} {k : Nat} (h : k < l.length) (t : Tx) : ins (l.take (k + 1)) t = (ins (l.take k) t || (decide (l[k] = t) && !decide (t = []))) := by
  rw [List.take_succ_eq_append_getElem h, ins_step]
theorem uns_take_ind {P : St → Prop} (h0 : P none_) (hs : ∀ s t, P s → P (uni2 s (ofS t))) (l : List Tx) : P (uns l) := by
  unfold uns
  generalize none_ = z at h0
  induction l generalizing z with
  | nil => exact h0
  | cons x r ih => exact ih _ (hs _ _ h0)
theorem uns_nm (l : List Tx) : NmS (uns l) := uns_take_ind none_nm (fun _ _ _ => uni2_nm _ _) l
theorem none_has (t : Tx) : hasS none_ t = false := by
  unfold hasS memS none_
  simp only [has_nil, isIn_nil]
  split
  · rfl
  · split <;> rfl
theorem fold_has {t : Tx} (hg : good t = true) (l : List Tx) : ∀ z, hasS (l.foldl (fun s t => uni2 s (ofS t)) z) t = (hasS z t || ins l t) := by
  induction l with
  | nil => intro z; rw [ins_nil, Bool.or_false]; rfl
  | cons x r ih =>
    intro z
    rw [List.foldl_cons, ih, uni2_has _ _ hg, ofS_has x hg, Bool.or_assoc]
    congr 1
    have : ins (x :: r) t = ((decide (x = t) && !decide (t = [])) || ins r t) := by
      have h : decide (t = x) = decide (x = t) := by rw [decide_eq_decide]; exact eq_comm
      have e : x :: r = [x] ++ r := rfl
      unfold ins
      rw [e, isIn_append, isIn_one, h]
      cases isIn r t <;> cases decide (x = t) <;> cases decide (t = []) <;> rfl
    rw [this]
theorem uns_has (l : List Tx) {t : Tx} (hg : good t = true) : hasS (uns l) t = ins l t := by
  unfold uns
  rw [fold_has hg, none_has, Bool.false_or]
theorem uns_len (l : List Tx) {k : Nat} (hk : k ≤ l.length) : (uns (l.take k)).o.length ≤ k := by
  induction k with
  | zero => exact Nat.le_refl _
  | succ k ih =>
    rw [uns_take (by omega)]
    have h1 := uni2_len (uns (l.take k)) (ofS l[k])
    have h2 := (ofS_o l[k]).2
    have := ih (by omega)
    omega
end Go.Proofs.YtipcbiecdabihaaGreat.Sset
