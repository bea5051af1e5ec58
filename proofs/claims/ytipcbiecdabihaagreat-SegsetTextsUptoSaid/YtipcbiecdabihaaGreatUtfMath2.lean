/-
  PLAIN MATHEMATICS: what is read of what was written; a letter of one byte behind anything; bytes that begin nothing.
-/
import Derived.Test.YtipcbiecdabihaaGreatUtfEnc
namespace Go.Proofs.YtipcbiecdabihaaGreat.Utf

theorem run_stop (c : UInt8) (hc : c.toNat < 128) (l : List UInt8) : ∀ k n a b, 128 ≤ a → run k n a b l = k + l.length → run k n a b (l ++ [c]) = k + l.length := by
  induction l with
  | nil =>
    intro k n a b ha _
    show run k n a b [c] = k
    unfold run
    rw [if_neg (by omega)]
  | cons x t ih =>
    intro k n a b ha h
    simp only [List.cons_append, run] at h ⊢
    split
    · rename_i hx
      rw [if_pos hx] at h
      have := ih (k + 1) n 128 191 (Nat.le_refl _) (by simp only [List.length_cons] at h; omega)
      rw [this]; simp only [List.length_cons]; omega
    · rename_i hx
      rw [if_neg hx] at h
      simp only [List.length_cons] at h
      omega
theorem lo_ge (c : Nat) : 128 ≤ lo c := by unfold lo; repeat (split <;> try omega)
theorem wid_stop (c : UInt8) (hc : c.toNat < 128) {l : List UInt8} (h : wid l = l.length) : wid (l ++ [c]) = l.length ∨ l = [] := by
  cases l with
  | nil => exact .inr rfl
  | cons x t =>
    left
    simp only [wid, List.length_cons, List.cons_append] at h ⊢
    have := run_stop c hc t 1 (need x.toNat) (lo x.toNat) (hi x.toNat) (lo_ge _) (by omega)
    rw [this]; omega
theorem one_piece (c : UInt8) (hc : c.toNat < 128) (k : Nat) : dec false k [c] = [⟨c.toNat, k, 1⟩] := by
  have hn : need c.toNat = 1 := by unfold need; rw [if_pos hc]
  have hw : wid [c] = 1 := rfl
  rw [dec_step false k (by simp) (by simp), hw]
  have hr : rune [c] = c.toNat := by unfold rune; rw [hw]; simp only [nd, hn, if_true]; simp [joined, joinTo, lead]
  rw [hr]; rfl
theorem dec_ascii (c : UInt8) (hc : c.toNat < 128) (l : List UInt8) : dec false 0 (l ++ [c]) = dec false 0 l ++ [⟨c.toNat, l.length, 1⟩] := by
  have hle := eat_le l
  rw [dec_append, dec_close 0 l]
  rcases rest_more l with hr | hr
  · have hlen : l.length - eat l = 0 := by have := congrArg List.length hr; simpa using this
    rw [hr, if_pos hlen, List.append_nil, List.nil_append, one_piece c hc]
    rw [show 0 + eat l = l.length from by omega]
  · obtain ⟨h1, h2, h3, h4⟩ := more_short hr
    have hlen : (l.drop (eat l)).length = l.length - eat l := List.length_drop
    have hp : l.length - eat l ≠ 0 := by
      intro h0
      exact h4 (List.eq_nil_of_length_eq_zero (by omega))
    rw [if_neg hp]
    have hw : wid (l.drop (eat l) ++ [c]) = (l.drop (eat l)).length := by
      rcases wid_stop c hc h2 with h | h
      · exact h
      · exact absurd h h4
    have hn : nd (l.drop (eat l) ++ [c]) = nd (l.drop (eat l)) := nd_append _ h4
    have hru : rune (l.drop (eat l) ++ [c]) = 65533 := by unfold rune; rw [if_neg (by rw [hw, hn]; omega)]
    rw [dec_step false _ (by simp) (by simp), hw, hru, List.drop_left, one_piece c hc, hlen, List.append_assoc]
    rw [show 0 + eat l + (l.length - eat l) = l.length from by omega]
    rfl

/-- bytes that begin nothing: one ill-formed piece each -/
def Cont (l : List UInt8) : Prop := ∀ b ∈ l, 128 ≤ b.toNat ∧ b.toNat < 194
theorem dec_cont (l : List UInt8) : ∀ k, Cont l → (dec false k l).length = l.length ∧ ∀ q, (dec false k l)[0]? = some q → q.r = 65533 := by
  induction l with
  | nil => intro k _; exact ⟨rfl, fun q h => by simp [dec_nil] at h⟩
  | cons c t ih =>
    intro k h
    have hc := h c (List.mem_cons_self)
    have hn : need c.toNat = 0 := by unfold need; rw [if_neg (by omega), if_pos (by omega)]
    have hw : wid (c :: t) = 1 := by simp only [wid, hn]; exact run_zero _ _ _ _ _ (by omega)
    have hr : rune (c :: t) = 65533 := by unfold rune; rw [hw]; simp only [nd, hn]; rfl
    rw [dec_step false k (by simp) (by simp), hw, hr]
    obtain ⟨i1, i2⟩ := ih (k + 1) (fun b hb => h b (List.mem_cons_of_mem _ hb))
    refine ⟨by simp only [List.drop_succ_cons, List.drop_zero, List.length_cons]; rw [i1], fun q hq => ?_⟩
    simp only [List.getElem?_cons_zero, Option.some.injEq] at hq
    rw [← hq]

theorem ofNat_lt {n : Nat} (h : n < 256) : (UInt8.ofNat n).toNat = n := by simp [UInt8.toNat_ofNat']; omega
def IsPt (q : Nat) : Prop := q ≤ 1114111 ∧ (q < 55296 ∨ 57343 < q)
/-- what was written of one code point is one piece, whatever comes behind -/
theorem piece_enc {q : Nat} (h : IsPt q) (t : List UInt8) : wid (encN q ++ t) = (encN q).length ∧ nd (encN q ++ t) = (encN q).length ∧ joined (encN q) = q ∧ (encN q).length ≠ 0 := by
  obtain ⟨h1, h2⟩ := h
  unfold encN
  by_cases c1 : q < 128
  · rw [if_pos c1]
    have e := ofNat_lt (n := q) (by omega)
    have hn : need q = 1 := by unfold need; rw [if_pos c1]
    simp only [List.cons_append, List.nil_append, wid, nd, e, hn, List.length_cons, List.length_nil, joined, joinTo, lead]
    exact ⟨run_zero _ _ _ _ _ (by omega), by simp, by simp, by simp⟩
  rw [if_neg c1]
  by_cases c2 : q < 2048
  · rw [if_pos c2]
    have e1 := ofNat_lt (n := 192 + q / 64) (by omega)
    have e2 := ofNat_lt (n := 128 + q % 64) (by omega)
    have hn : need (192 + q / 64) = 2 := by unfold need; rw [if_neg (by omega), if_neg (by omega), if_pos (by omega)]
    have hl : lo (192 + q / 64) = 128 := by unfold lo; rw [if_neg (by omega), if_neg (by omega)]
    have hh : hi (192 + q / 64) = 191 := by unfold hi; rw [if_neg (by omega), if_neg (by omega)]
    simp only [List.cons_append, List.nil_append, wid, nd, e1, hn, hl, hh, List.length_cons, List.length_nil, joined, joinTo, lead, e2]
    refine ⟨?_, by simp, by rw [if_neg (by omega)]; simp only [Nat.reduceAdd, Nat.reduceSub, Nat.reducePow]; omega, by simp⟩
    unfold run
    rw [e2, if_pos (by omega)]
    exact run_zero _ _ _ _ _ (by omega)
  rw [if_neg c2]
  by_cases c3 : q < 65536
  · rw [if_pos c3]
    have e1 := ofNat_lt (n := 224 + q / 4096) (by omega)
    have e2 := ofNat_lt (n := 128 + q / 64 % 64) (by omega)
    have e3 := ofNat_lt (n := 128 + q % 64) (by omega)
    have hn : need (224 + q / 4096) = 3 := by unfold need; rw [if_neg (by omega), if_neg (by omega), if_neg (by omega), if_pos (by omega)]
    have hl : lo (224 + q / 4096) ≤ 128 + q / 64 % 64 := by unfold lo; split; · omega
                                                            · rw [if_neg (by omega)]; omega
    have hh : 128 + q / 64 % 64 ≤ hi (224 + q / 4096) := by unfold hi; split; · omega
                                                            · rw [if_neg (by omega)]; omega
    simp only [List.cons_append, List.nil_append, wid, nd, e1, hn, List.length_cons, List.length_nil, joined, joinTo, lead, e2, e3]
    refine ⟨?_, by simp, by rw [if_neg (by omega)]; simp only [Nat.reduceAdd, Nat.reduceSub, Nat.reducePow]; omega, by simp⟩
    unfold run
    rw [e2, if_pos ⟨by omega, hl, hh⟩]
    unfold run
    rw [e3, if_pos (by omega)]
    exact run_zero _ _ _ _ _ (by omega)
  rw [if_neg c3]
  have e1 := ofNat_lt (n := 240 + q / 262144) (by omega)
  have e2 := ofNat_lt (n := 128 + q / 4096 % 64) (by omega)
  have e3 := ofNat_lt (n := 128 + q / 64 % 64) (by omega)
  have e4 := ofNat_lt (n := 128 + q % 64) (by omega)
  have hn : need (240 + q / 262144) = 4 := by unfold need; rw [if_neg (by omega), if_neg (by omega), if_neg (by omega), if_neg (by omega), if_pos (by omega)]
  have hl : lo (240 + q / 262144) ≤ 128 + q / 4096 % 64 := by unfold lo; rw [if_neg (by omega)]; split <;> omega
  have hh : 128 + q / 4096 % 64 ≤ hi (240 + q / 262144) := by unfold hi; rw [if_neg (by omega)]; split <;> omega
  simp only [List.cons_append, List.nil_append, wid, nd, e1, hn, List.length_cons, List.length_nil, joined, joinTo, lead, e2, e3, e4]
  refine ⟨?_, by simp, by rw [if_neg (by omega)]; simp only [Nat.reduceAdd, Nat.reduceSub, Nat.reducePow]; omega, by simp⟩
  unfold run
  rw [e2, if_pos ⟨by omega, hl, hh⟩]
  unfold run
  rw [e3, if_pos (by omega)]
  unfold run
  rw [e4, if_pos (by omega)]
  exact run_zero _ _ _ _ _ (by omega)
theorem dec_enc1 {q : Nat} (h : IsPt q) (t : List UInt8) (k : Nat) : dec false k (encN q ++ t) = ⟨q, k, (encN q).length⟩ :: dec false (k + (encN q).length) t := by
  obtain ⟨h1, h2, h3, h4⟩ := piece_enc h t
  have hne : encN q ++ t ≠ [] := by intro e; have := congrArg List.length e; rw [List.length_append, List.length_nil] at this; omega
  rw [dec_step false k hne (by simp), h1, List.drop_left]
  have : rune (encN q ++ t) = q := by unfold rune; rw [if_pos (by rw [h1, h2]), h1, List.take_left, h3]
  rw [this]
theorem fix_pt (r : Int) : IsPt (fix r) := by
  unfold fix IsPt
  split
  · rename_i h; have := (vld_iff r).1 h; omega
  · omega
theorem enc_cont (q : Nat) : Cont ((encN q).drop 1) := by
  unfold encN Cont
  intro b hb
  split at hb
  · simp at hb
  · split at hb
    · simp only [List.drop_succ_cons, List.drop_zero, List.mem_cons, List.not_mem_nil, or_false] at hb
      subst hb; rw [ofNat_lt (by omega)]; omega
    · split at hb
      · simp only [List.drop_succ_cons, List.drop_zero, List.mem_cons, List.not_mem_nil, or_false] at hb
        rcases hb with rfl | rfl <;> rw [ofNat_lt (by omega)] <;> omega
      · simp only [List.drop_succ_cons, List.drop_zero, List.mem_cons, List.not_mem_nil, or_false] at hb
        rcases hb with rfl | rfl | rfl <;> rw [ofNat_lt (by omega)] <;> omega
theorem cont_drop {l : List UInt8} (h : Cont l) (k : Nat) : Cont (l.drop k) := fun b hb => h b (List.mem_of_mem_drop hb)
end Go.Proofs.YtipcbiecdabihaaGreat.Utf
