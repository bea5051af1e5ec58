/-
  PLAIN MATHEMATICS: there and back: what was written of numbers is read as them; what was read of bytes is written as they were just where every piece was well-formed.
-/
import Derived.Test.YtipcbiecdabihaaGreatUtfMath2
namespace Go.Proofs.YtipcbiecdabihaaGreat.Utf

theorem dec_enc (l : List Int) : ∀ k, (dec false k (enc l)).length = l.length ∧ ∀ i (h : i < l.length), ((dec false k (enc l))[i]?).map Pt.r = some (fix l[i]) := by
  induction l with
  | nil => intro k; exact ⟨rfl, fun i h => absurd h (by simp)⟩
  | cons r t ih =>
    intro k
    have he : enc (r :: t) = encN (fix r) ++ enc t := by simp [enc]
    rw [he, dec_enc1 (fix_pt r)]
    obtain ⟨h1, h2⟩ := ih (k + (encN (fix r)).length)
    refine ⟨by simp only [List.length_cons]; rw [h1], fun i h => ?_⟩
    cases i with
    | zero => rfl
    | succ i => simpa using h2 i (by simpa using h)

theorem by_eq {n : Nat} {x : UInt8} (h : n = x.toNat) : UInt8.ofNat n = x := by
  subst h; simp
/-- a well-formed piece: its code point is one, and is written as the piece -/
theorem wf_piece {l : List UInt8} (hne : l ≠ []) (hw : wid l = nd l) : IsPt (joined (l.take (wid l))) ∧ encN (joined (l.take (wid l))) = l.take (wid l) := by
  cases l with
  | nil => exact absurd rfl hne
  | cons c t =>
    obtain ⟨b1, b2, b3, b4⟩ := need_bounds ⟨c.toNat, c.toNat_lt⟩
    have h4 := need_le c.toNat
    have hp := wid_pos hne
    have hle := wid_le (c :: t)
    rw [hw] at hp hle ⊢
    simp only [nd, wid, List.length_cons] at hw hp hle b1 b2 b3 b4 ⊢
    have hcase : need c.toNat = 1 ∨ need c.toNat = 2 ∨ need c.toNat = 3 ∨ need c.toNat = 4 := by omega
    rcases hcase with e | e | e | e
    · rw [e]
      have := b1 e
      simp only [List.take_succ_cons, List.take_zero, joined, joinTo, lead, List.length_nil, Nat.zero_add, if_true]
      refine ⟨by unfold IsPt; omega, ?_⟩
      unfold encN
      rw [if_pos this, by_eq rfl]
    · have hb := b2 e
      rw [e] at hw hle ⊢
      match t, hle with
      | x :: t', _ =>
        have hx : lo c.toNat ≤ x.toNat ∧ x.toNat ≤ hi c.toNat := by
          unfold run at hw
          split at hw
          · rename_i h; exact h.2
          · omega
        have hx1 := x.toNat_lt
        have hl := lo_ge c.toNat
        have hh : hi c.toNat ≤ 191 := by unfold hi; split <;> (try split) <;> omega
        simp only [List.take_succ_cons, List.take_zero, joined, joinTo, lead, List.length_cons, List.length_nil, Nat.zero_add, Nat.reduceAdd, Nat.reduceSub, Nat.reducePow]
        rw [if_neg (by omega)]
        refine ⟨by unfold IsPt; omega, ?_⟩
        unfold encN
        rw [if_neg (by omega), if_pos (by omega), by_eq (x := c) (by omega), by_eq (x := x) (by omega)]
    · have hb := b3 e
      rw [e] at hw hle ⊢
      match t, hle with
      | x :: y :: t', _ =>
        have hx : (lo c.toNat ≤ x.toNat ∧ x.toNat ≤ hi c.toNat) ∧ 128 ≤ y.toNat ∧ y.toNat ≤ 191 := by
          unfold run at hw
          split at hw
          · rename_i h
            refine ⟨h.2, ?_⟩
            unfold run at hw
            split at hw
            · rename_i h; exact h.2
            · omega
          · omega
        obtain ⟨⟨hx1, hx2⟩, hy1, hy2⟩ := hx
        have hlo : c.toNat = 224 → 160 ≤ x.toNat := fun h => by rw [h] at hx1; exact hx1
        have hhi : c.toNat = 237 → x.toNat ≤ 159 := fun h => by rw [h] at hx2; exact hx2
        have hl := lo_ge c.toNat
        have hh : hi c.toNat ≤ 191 := by unfold hi; split <;> (try split) <;> omega
        simp only [List.take_succ_cons, List.take_zero, joined, joinTo, lead, List.length_cons, List.length_nil, Nat.zero_add, Nat.reduceAdd, Nat.reduceSub, Nat.reducePow]
        rw [if_neg (by omega)]
        refine ⟨by unfold IsPt; omega, ?_⟩
        unfold encN
        rw [if_neg (by omega), if_neg (by omega), if_pos (by omega), by_eq (x := c) (by omega), by_eq (x := x) (by omega), by_eq (x := y) (by omega)]
    · have hb := b4 e
      rw [e] at hw hle ⊢
      match t, hle with
      | x :: y :: z :: t', _ =>
        have hx : (lo c.toNat ≤ x.toNat ∧ x.toNat ≤ hi c.toNat) ∧ (128 ≤ y.toNat ∧ y.toNat ≤ 191) ∧ 128 ≤ z.toNat ∧ z.toNat ≤ 191 := by
          unfold run at hw
          split at hw
          · rename_i h
            refine ⟨h.2, ?_⟩
            unfold run at hw
            split at hw
            · rename_i h
              refine ⟨h.2, ?_⟩
              unfold run at hw
              split at hw
              · rename_i h; exact h.2
              · omega
            · omega
          · omega
        obtain ⟨⟨hx1, hx2⟩, ⟨hy1, hy2⟩, hz1, hz2⟩ := hx
        have hlo : c.toNat = 240 → 144 ≤ x.toNat := fun h => by rw [h] at hx1; exact hx1
        have hhi : c.toNat = 244 → x.toNat ≤ 143 := fun h => by rw [h] at hx2; exact hx2
        have hl := lo_ge c.toNat
        have hh : hi c.toNat ≤ 191 := by unfold hi; split <;> (try split) <;> omega
        simp only [List.take_succ_cons, List.take_zero, joined, joinTo, lead, List.length_cons, List.length_nil, Nat.zero_add, Nat.reduceAdd, Nat.reduceSub, Nat.reducePow]
        rw [if_neg (by omega)]
        refine ⟨by unfold IsPt; omega, ?_⟩
        unfold encN
        rw [if_neg (by omega), if_neg (by omega), if_neg (by omega), by_eq (x := c) (by omega), by_eq (x := x) (by omega), by_eq (x := y) (by omega), by_eq (x := z) (by omega)]

def bad3 : List UInt8 := [239, 191, 189]
theorem enc_bad3 : encN 65533 = bad3 := rfl
theorem rune_pt {l : List UInt8} (hne : l ≠ []) : IsPt (rune l) := by
  unfold rune
  split
  · rename_i h; exact (wf_piece hne h).1
  · unfold IsPt; omega
theorem vld_pt {q : Nat} (h : IsPt q) : vld (q : Int) = true ∧ fix (q : Int) = q := by
  obtain ⟨h1, h2⟩ := h
  have hv : vld (q : Int) = true := by rw [vld_iff]; omega
  exact ⟨hv, by unfold fix; rw [if_pos hv]; simp⟩
/-- one piece: written as it was, or U+FFFD stands there and the piece is not what U+FFFD is written as -/
theorem good_iff {l : List UInt8} (hne : l ≠ []) : (rune l ≠ 65533 ∨ l.take (wid l) = bad3) ↔ encN (rune l) = l.take (wid l) := by
  by_cases hw : wid l = nd l
  · obtain ⟨_, h2⟩ := wf_piece hne hw
    have hr : rune l = joined (l.take (wid l)) := by unfold rune; rw [if_pos hw]
    rw [hr, h2]
    refine ⟨fun _ => rfl, fun _ => ?_⟩
    by_cases h : joined (l.take (wid l)) = 65533
    · right; rw [← h2, h]; rfl
    · left; exact h
  · have hr : rune l = 65533 := by unfold rune; rw [if_neg hw]
    rw [hr, enc_bad3]
    constructor
    · rintro (h | h)
      · exact absurd rfl h
      · exact h.symm
    · intro h; right; exact h.symm
/-- bytes that begin with those of U+FFFD have it as their first piece -/
theorem bad3_front {l x : List UInt8} (h : l = bad3 ++ x) : l.take (wid l) = bad3 := by
  subst h
  obtain ⟨h1, _⟩ := piece_enc (q := 65533) (by unfold IsPt; omega) x
  rw [enc_bad3] at h1
  rw [h1, List.take_left]

/-- what the second loop knows: whole says whether what was read so far is written as it was -/
def WholeB (b : List UInt8) (k : Nat) (r : List Int) (o : Bool) : Prop := (o = true → enc r = b.take k) ∧ (o = false → ∀ x, enc r ++ x ≠ b)
theorem whole_start (b : List UInt8) : WholeB b 0 [] true := ⟨fun _ => rfl, fun h => by cases h⟩
theorem whole_step {b : List UInt8} {k : Nat} {r : List Int} {o : Bool} (h : WholeB b k r o) (hne : b.drop k ≠ []) :
    WholeB b (k + wid (b.drop k)) (r ++ [(rune (b.drop k) : Int)]) (o && (decide (rune (b.drop k) ≠ 65533) || decide ((b.drop k).take (wid (b.drop k)) = bad3))) := by
  have hfix := (vld_pt (rune_pt hne)).2
  have he : enc (r ++ [(rune (b.drop k) : Int)]) = enc r ++ encN (rune (b.drop k)) := by rw [enc_append]; simp [enc, hfix]
  have htk : b.take (k + wid (b.drop k)) = b.take k ++ (b.drop k).take (wid (b.drop k)) := List.take_add
  have hgi := good_iff hne
  constructor
  · intro ho
    simp only [Bool.and_eq_true, Bool.or_eq_true, decide_eq_true_eq] at ho
    rw [he, htk, h.1 ho.1, hgi.1 ho.2]
  · intro ho x hx
    rw [he, List.append_assoc] at hx
    cases hoo : o with
    | false => exact h.2 hoo _ hx
    | true =>
      rw [hoo] at ho
      simp only [Bool.true_and, Bool.or_eq_false_iff, decide_eq_false_iff_not, Decidable.not_not] at ho
      rw [h.1 hoo, ho.1, enc_bad3] at hx
      have hb : b.take k ++ (bad3 ++ x) = b.take k ++ b.drop k := by rw [hx, List.take_append_drop]
      exact ho.2 (bad3_front (List.append_cancel_left hb).symm)
theorem whole_end {b : List UInt8} {r : List Int} {o : Bool} (h : WholeB b b.length r o) : (enc r = b ↔ o = true) := by
  cases o with
  | true => have := h.1 rfl; rw [List.take_length] at this; simp [this]
  | false => have := h.2 rfl []; rw [List.append_nil] at this; simp [this]
end Go.Proofs.YtipcbiecdabihaaGreat.Utf
