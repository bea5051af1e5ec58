/-
  CONTRACTS OF the document's Normal and Sure.
-/
import Derived.Test.YtochodombojamaaDoorNormWrite
namespace Go.Proofs.YtochodombojamaaDoor.Norm
open Go.Shelf Go.RowKit Go.Sort Utf
open Ucd hiding grow same Told

theorem sure_snoc (l : List Int) (x : Int) : sure (l ++ [x]) = if cls x = 0 then l.length + 1 else sure l := by
  unfold sure
  rw [List.reverse_append, List.reverse_singleton, List.singleton_append]
  by_cases h : cls x = 0
  · rw [if_pos h, List.takeWhile_cons_of_neg (by simp [h])]; simp
  · rw [if_neg h, List.takeWhile_cons_of_pos (by simp [h])]
    have := (List.takeWhile_sublist (l := l.reverse) fun x => decide (cls x ≠ 0)).length_le
    simp only [List.length_append, List.length_cons, List.length_nil] at *
    omega

/-! ### a place made in a list -/
/-- all behind place a stands one place further on -/
def shiftL (F : List Int) (a : Nat) : List Int := (List.range F.length).map fun i => if i ≤ a then F.getD i 0 else F.getD (i - 1) 0
theorem shiftL_len (F : List Int) (a : Nat) : (shiftL F a).length = F.length := by simp [shiftL]
theorem shiftL_get (F : List Int) (a i : Nat) (h : i < (shiftL F a).length) : (shiftL F a)[i] = if i ≤ a then F.getD i 0 else F.getD (i - 1) 0 := by simp [shiftL]
theorem shiftL_start (F : List Int) (a : Nat) (h : F.length ≤ a + 1) : shiftL F a = F := by
  apply List.ext_getElem (shiftL_len F a)
  intro i h1 h2
  rw [shiftL_get, if_pos (by omega)]
  simp [List.getD, List.getElem?_eq_getElem h2]
theorem shiftL_step (F : List Int) (a : Nat) : (shiftL F (a + 1)).set (a + 1) (F.getD a 0) = shiftL F a := by
  apply List.ext_getElem (by simp [shiftL_len])
  intro i h1 h2
  rw [List.getElem_set]
  split
  · rename_i e
    subst e
    rw [shiftL_get, if_neg (by omega)]
    simp
  · rw [shiftL_get, shiftL_get]
    by_cases h : i ≤ a
    · rw [if_pos (by omega), if_pos h]
    · rw [if_neg (by omega), if_neg h]
theorem shiftL_end (F : List Int) (x : Int) (a : Nat) (h : a ≤ F.length) : (shiftL (F ++ [x]) a).set a x = F.take a ++ x :: F.drop a := by
  apply List.ext_getElem (by simp [shiftL_len]; omega)
  intro i h1 h2
  have hi : i < F.length + 1 := by simpa [shiftL_len] using h1
  rw [List.getElem_set]
  split
  · rename_i e
    subst e
    rw [List.getElem_append_right (by simp; omega)]
    simp [Nat.min_eq_left h]
  · rename_i e
    rw [shiftL_get]
    by_cases hia : i < a
    · rw [if_pos (by omega), List.getElem_append_left (by simp; omega)]
      simp [List.getD, List.getElem?_append_left (show i < F.length by omega), List.getElem?_eq_getElem (show i < F.length by omega)]
    · have hl : (F.take a).length = a := by simp; omega
      rw [if_neg (by omega), List.getElem_append_right (by omega)]
      obtain ⟨q, rfl⟩ : ∃ q, i = a + 1 + q := ⟨i - a - 1, by omega⟩
      have e1 : a + 1 + q - (F.take a).length = q + 1 := by omega
      have e2 : a + 1 + q - 1 = a + q := by omega
      simp only [e1, List.getElem_cons_succ, List.getElem_drop, e2]
      simp [List.getD, List.getElem?_append_left (show a + q < F.length by omega), List.getElem?_eq_getElem (show a + q < F.length by omega)]
theorem getD_eq (F : List Int) {i : Nat} (h : i < F.length) : F.getD i 0 = F[i] := by simp [List.getD, List.getElem?_eq_getElem h]
theorem nums_set (l : List Int) (j : Nat) (x : Int) : (nums l).set j (.int .i32 x) = nums (l.set j x) := by
  unfold nums
  rw [List.map_set]
/-- where the search ends is where the mark is put -/
theorem place (T P : List Int) (x : Int) (lo : Nat) (hP : Up P) (h1 : T.length ≤ lo) (h2 : lo ≤ T.length + P.length)
    (hl : lo = T.length ∨ cls ((T ++ P ++ [x]).getD (lo - 1) 0) ≤ cls x) (hr : lo = T.length + P.length ∨ cls x < cls ((T ++ P ++ [x]).getD lo 0)) :
    (T ++ P).take lo ++ x :: (T ++ P).drop lo = T ++ ins x P := by
  obtain ⟨p, rfl⟩ : ∃ p, lo = T.length + p := ⟨lo - T.length, by omega⟩
  have hg : ∀ i, i < P.length → (T ++ P ++ [x]).getD (T.length + i) 0 = P.getD i 0 := fun i hi => by
    rw [List.append_assoc, List.getD, List.getD, List.getElem?_append_right (by omega), Nat.add_sub_cancel_left, List.getElem?_append_left hi]
  have up : ∀ i j (hi : i < P.length) (hj : j < P.length), i ≤ j → cls P[i] ≤ cls P[j] := fun i j hi hj hij => by
    rcases Nat.eq_or_lt_of_le hij with rfl | h
    · exact Int.le_refl _
    · exact List.pairwise_iff_getElem.1 hP i j hi hj h
  have e := ins_at (x := x) (l := P) (p := p) (by omega) (fun i h hi => by
    rcases hl with h' | h'
    · omega
    · rw [show T.length + p - 1 = T.length + (p - 1) by omega, hg _ (by omega), getD_eq _ (by omega)] at h'
      have := up i (p - 1) h (by omega) (by omega)
      omega) (fun i h hi => by
    rcases hr with h' | h'
    · omega
    · rw [hg _ (by omega), getD_eq _ (by omega)] at h'
      have := up p i (by omega) h hi
      omega)
  rw [e, List.take_append, List.drop_append, List.take_of_length_le (by omega), List.drop_of_length_le (by omega), Nat.add_sub_cancel_left]
  simp
/-- the next number, a starter or a mark, comes to its place -/
theorem nf_start (D : List Int) {x : Int} (h : cls x = 0) : nf (D ++ [x]) = nf D ++ [x] ∧ (told [] (D ++ [x])).length = (nf D).length + 1 := by
  obtain ⟨e1, e2⟩ := told_start [] D h
  have e3 : nf (D ++ [x]) = nf D ++ [x] := by
    rw [nf, nfm, e1, e2, ord_nil, List.append_nil]; rfl
  refine ⟨e3, ?_⟩
  rw [e1, List.length_append]; rfl
theorem nf_mark (D : List Int) {x : Int} (h : cls x ≠ 0) : nf (D ++ [x]) = told [] D ++ ins x (ord (pend [] D)) ∧ told [] (D ++ [x]) = told [] D := by
  obtain ⟨e1, e2⟩ := told_mark [] D h
  refine ⟨?_, e1⟩
  rw [nf, nfm, e1, e2, ord_snoc]

end Go.Proofs.YtochodombojamaaDoor.Norm
