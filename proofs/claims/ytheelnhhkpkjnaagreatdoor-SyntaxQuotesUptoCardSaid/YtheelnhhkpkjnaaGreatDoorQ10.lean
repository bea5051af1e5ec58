/-
  Texts of stage 7, part 10.
-/
import Derived.Test.YtheelnhhkpkjnaaGreatDoorQ3
namespace Go.Proofs.YtheelnhhkpkjnaaGreatDoor.Utf
theorem run_stop (c : UInt8) (hc : c.toNat < 128) (l : List UInt8) : ∀ k n a b, 128 ≤ a → run k n a b l = k + l.length → run k n a b (l ++ [c]) = k + l.length := by
 induction l with
 | nil =>
  intro k n a b ha _
  show run k n a b [c] = k
  unfold run
  rw [if_neg (by omega)]
 | cons x t ih =>
  intro k n a b ha h
  simp only [List.cons_append, run] at h ⊢
  split
  ·rename_i hx
   rw [if_pos hx] at h
   have := ih (k + 1) n 128 191 (Nat.le_refl _) (by simp only [List.length_cons] at h; omega)
   rw [this]; simp only [List.length_cons]; omega
  ·rename_i hx
   rw [if_neg hx] at h
   simp only [List.length_cons] at h
   omega
theorem lo_ge (c : Nat) : 128 ≤ lo c := by unfold lo; repeat (split <;> try omega)
theorem wid_stop (c : UInt8) (hc : c.toNat < 128) {l : List UInt8} (h : wid l = l.length) : wid (l ++ [c]) = l.length ∨ l = [] := by
 cases l with
 | nil => exact .inr rfl
 | cons x t =>
  left
  simp only [wid, List.length_cons, List.cons_append] at h ⊢
  have := run_stop c hc t 1 (need x.toNat) (lo x.toNat) (hi x.toNat) (lo_ge _) (by omega)
  rw [this]; omega
theorem one_piece (c : UInt8) (hc : c.toNat < 128) (k : Nat) : dec false k [c] = [⟨c.toNat, k, 1⟩] := by
 have hn : need c.toNat = 1 := by unfold need; rw [if_pos hc]
 have hw : wid [c] = 1 := rfl
 rw [dec_step false k (by simp) (by simp), hw]
 have hr : rune [c] = c.toNat := by unfold rune; rw [hw]; simp only [nd, hn, if_true]; simp [joined, joinTo, lead]
 rw [hr]; rfl
theorem dec_ascii (c : UInt8) (hc : c.toNat < 128) (l : List UInt8) : dec false 0 (l ++ [c]) = dec false 0 l ++ [⟨c.toNat, l.length, 1⟩] := by
 have hle := eat_le l
 rw [dec_append, dec_close 0 l]
 rcases rest_more l with hr | hr
 ·have hlen : l.length - eat l = 0 := by have := congrArg List.length hr; simpa using this
  rw [hr, if_pos hlen, List.append_nil, List.nil_append, one_piece c hc]
  rw [show 0 + eat l = l.length from by omega]
 ·obtain ⟨h1, h2, h3, h4⟩ := more_short hr
  have hlen : (l.drop (eat l)).length = l.length - eat l := List.length_drop
  have hp : l.length - eat l ≠ 0 := by
   intro h0
   exact h4 (List.eq_nil_of_length_eq_zero (by omega))
  rw [if_neg hp]
  have hw : wid (l.drop (eat l) ++ [c]) = (l.drop (eat l)).length := by
   rcases wid_stop c hc h2 with h | h
   ·exact h
   ·exact absurd h h4
  have hn : nd (l.drop (eat l) ++ [c]) = nd (l.drop (eat l)) := nd_append _ h4
  have hru : rune (l.drop (eat l) ++ [c]) = 65533 := by unfold rune; rw [if_neg (by rw [hw, hn]; omega)]
  rw [dec_step false _ (by simp) (by simp), hw, hru, List.drop_left, one_piece c hc, hlen, List.append_assoc]
  rw [show 0 + eat l + (l.length - eat l) = l.length from by omega]
  rfl
theorem ofNat_lt {n : Nat} (h : n < 256) : (UInt8.ofNat n).toNat = n := by simp [UInt8.toNat_ofNat']; omega
def IsPt (q : Nat) : Prop := q ≤ 1114111 ∧ (q < 55296 ∨ 57343 < q)
theorem piece_enc {q : Nat} (h : IsPt q) (t : List UInt8) : wid (encN q ++ t) = (encN q).length ∧ nd (encN q ++ t) = (encN q).length ∧ joined (encN q) = q ∧ (encN q).length ≠ 0 := by
 obtain ⟨h1, h2⟩ := h
 unfold encN
 by_cases c1 : q < 128
 ·rw [if_pos c1]
  have e := ofNat_lt (n := q) (by omega)
  have hn : need q = 1 := by unfold need; rw [if_pos c1]
  simp only [List.cons_append, List.nil_append, wid, nd, e, hn, List.length_cons, List.length_nil, joined, joinTo, lead]
  exact ⟨run_zero _ _ _ _ _ (by omega), by simp, by simp, by simp⟩
 rw [if_neg c1]
 by_cases c2 : q < 2048
 ·rw [if_pos c2]
  have e1 := ofNat_lt (n := 192 + q / 64) (by omega)
  have e2 := ofNat_lt (n := 128 + q % 64) (by omega)
  have hn : need (192 + q / 64) = 2 := by unfold need; rw [if_neg (by omega), if_neg (by omega), if_pos (by omega)]
  have hl : lo (192 + q / 64) = 128 := by unfold lo; rw [if_neg (by omega), if_neg (by omega)]
  have hh : hi (192 + q / 64) = 191 := by unfold hi; rw [if_neg (by omega), if_neg (by omega)]
  simp only [List.cons_append, List.nil_append, wid, nd, e1, hn, hl, hh, List.length_cons, List.length_nil, joined, joinTo, lead, e2]
  refine ⟨?_, by simp, by rw [if_neg (by omega)]; simp only [Nat.reduceAdd, Nat.reduceSub, Nat.reducePow]; omega, by simp⟩
  unfold run
  rw [e2, if_pos (by omega)]
  exact run_zero _ _ _ _ _ (by omega)
 rw [if_neg c2]
 by_cases c3 : q < 65536
 ·rw [if_pos c3]
  have e1 := ofNat_lt (n := 224 + q / 4096) (by omega)
  have e2 := ofNat_lt (n := 128 + q / 64 % 64) (by omega)
  have e3 := ofNat_lt (n := 128 + q % 64) (by omega)
  have hn : need (224 + q / 4096) = 3 := by unfold need; rw [if_neg (by omega), if_neg (by omega), if_neg (by omega), if_pos (by omega)]
  have hl : lo (224 + q / 4096) ≤ 128 + q / 64 % 64 := by
   unfold lo; split; · omega
   ·rw [if_neg (by omega)]; omega
  have hh : 128 + q / 64 % 64 ≤ hi (224 + q / 4096) := by
   unfold hi; split; · omega
   ·rw [if_neg (by omega)]; omega
  simp only [List.cons_append, List.nil_append, wid, nd, e1, hn, List.length_cons, List.length_nil, joined, joinTo, lead, e2, e3]
  refine ⟨?_, by simp, by rw [if_neg (by omega)]; simp only [Nat.reduceAdd, Nat.reduceSub, Nat.reducePow]; omega, by simp⟩
  unfold run
  rw [e2, if_pos ⟨by omega, hl, hh⟩]
  unfold run
  rw [e3, if_pos (by omega)]
  exact run_zero _ _ _ _ _ (by omega)
 rw [if_neg c3]
 have e1 := ofNat_lt (n := 240 + q / 262144) (by omega)
 have e2 := ofNat_lt (n := 128 + q / 4096 % 64) (by omega)
 have e3 := ofNat_lt (n := 128 + q / 64 % 64) (by omega)
 have e4 := ofNat_lt (n := 128 + q % 64) (by omega)
 have hn : need (240 + q / 262144) = 4 := by unfold need; rw [if_neg (by omega), if_neg (by omega), if_neg (by omega), if_neg (by omega), if_pos (by omega)]
 have hl : lo (240 + q / 262144) ≤ 128 + q / 4096 % 64 := by unfold lo; rw [if_neg (by omega)]; split <;> omega
 have hh : 128 + q / 4096 % 64 ≤ hi (240 + q / 262144) := by unfold hi; rw [if_neg (by omega)]; split <;> omega
 simp only [List.cons_append, List.nil_append, wid, nd, e1, hn, List.length_cons, List.length_nil, joined, joinTo, lead, e2, e3, e4]
 refine ⟨?_, by simp, by rw [if_neg (by omega)]; simp only [Nat.reduceAdd, Nat.reduceSub, Nat.reducePow]; omega, by simp⟩
 unfold run
 rw [e2, if_pos ⟨by omega, hl, hh⟩]
 unfold run
 rw [e3, if_pos (by omega)]
 unfold run
 rw [e4, if_pos (by omega)]
 exact run_zero _ _ _ _ _ (by omega)
theorem dec_enc1 {q : Nat} (h : IsPt q) (t : List UInt8) (k : Nat) : dec false k (encN q ++ t) = ⟨q, k, (encN q).length⟩ :: dec false (k + (encN q).length) t := by
 obtain ⟨h1, h2, h3, h4⟩ := piece_enc h t
 have hne : encN q ++ t ≠ [] := by intro e; have := congrArg List.length e; rw [List.length_append, List.length_nil] at this; omega
 rw [dec_step false k hne (by simp), h1, List.drop_left]
 have : rune (encN q ++ t) = q := by unfold rune; rw [if_pos (by rw [h1, h2]), h1, List.take_left, h3]
 rw [this]
theorem fix_pt (r : Int) : IsPt (fix r) := by
 unfold fix IsPt
 split
 ·rename_i h; have := (vld_iff r).1 h; omega
 ·omega
end Go.Proofs.YtheelnhhkpkjnaaGreatDoor.Utf
namespace Go.Proofs.YtheelnhhkpkjnaaGreatDoor.Utf
theorem dec_enc (l : List Int) : ∀ k, (dec false k (enc l)).length = l.length ∧ ∀ i (h : i < l.length), ((dec false k (enc l))[i]?).map Pt.r = some (fix l[i]) := by
 induction l with
 | nil => intro k; exact ⟨rfl, fun i h => absurd h (by simp)⟩
 | cons r t ih =>
  intro k
  have he : enc (r :: t) = encN (fix r) ++ enc t := by simp [enc]
  rw [he, dec_enc1 (fix_pt r)]
  obtain ⟨h1, h2⟩ := ih (k + (encN (fix r)).length)
  refine ⟨by simp only [List.length_cons]; rw [h1], fun i h => ?_⟩
  cases i with
  | zero => rfl
  | succ i => simpa using h2 i (by simpa using h)
theorem by_eq {n : Nat} {x : UInt8} (h : n = x.toNat) : UInt8.ofNat n = x := by
 subst h; simp
theorem wf_piece {l : List UInt8} (hne : l ≠ []) (hw : wid l = nd l) : IsPt (joined (l.take (wid l))) ∧ encN (joined (l.take (wid l))) = l.take (wid l) := by
 cases l with
 | nil => exact absurd rfl hne
 | cons c t =>
  obtain ⟨b1, b2, b3, b4⟩ := need_bounds ⟨c.toNat, c.toNat_lt⟩
  have h4 := need_le c.toNat
  have hp := wid_pos hne
  have hle := wid_le (c :: t)
  rw [hw] at hp hle ⊢
  simp only [nd, wid, List.length_cons] at hw hp hle b1 b2 b3 b4 ⊢
  have hcase : need c.toNat = 1 ∨ need c.toNat = 2 ∨ need c.toNat = 3 ∨ need c.toNat = 4 := by omega
  rcases hcase with e | e | e | e
  ·rw [e]
   have := b1 e
   simp only [List.take_succ_cons, List.take_zero, joined, joinTo, lead, List.length_nil, Nat.zero_add, if_true]
   refine ⟨by unfold IsPt; omega, ?_⟩
   unfold encN
   rw [if_pos this, by_eq rfl]
  ·have hb := b2 e
   rw [e] at hw hle ⊢
   match t, hle with
   | x :: t', _ =>
    have hx : lo c.toNat ≤ x.toNat ∧ x.toNat ≤ hi c.toNat := by
     unfold run at hw
     split at hw
     ·rename_i h; exact h.2
     ·omega
    have hx1 := x.toNat_lt
    have hl := lo_ge c.toNat
    have hh : hi c.toNat ≤ 191 := by unfold hi; split <;> (try split) <;> omega
    simp only [List.take_succ_cons, List.take_zero, joined, joinTo, lead, List.length_cons, List.length_nil, Nat.zero_add, Nat.reduceAdd, Nat.reduceSub, Nat.reducePow]
    rw [if_neg (by omega)]
    refine ⟨by unfold IsPt; omega, ?_⟩
    unfold encN
    rw [if_neg (by omega), if_pos (by omega), by_eq (x := c) (by omega), by_eq (x := x) (by omega)]
  ·have hb := b3 e
   rw [e] at hw hle ⊢
   match t, hle with
   | x :: y :: t', _ =>
    have hx : (lo c.toNat ≤ x.toNat ∧ x.toNat ≤ hi c.toNat) ∧ 128 ≤ y.toNat ∧ y.toNat ≤ 191 := by
     unfold run at hw
     split at hw
     ·rename_i h
      refine ⟨h.2, ?_⟩
      unfold run at hw
      split at hw
      ·rename_i h; exact h.2
      ·omega
     ·omega
    obtain ⟨⟨hx1, hx2⟩, hy1, hy2⟩ := hx
    have hlo : c.toNat = 224 → 160 ≤ x.toNat := fun h => by rw [h] at hx1; exact hx1
    have hhi : c.toNat = 237 → x.toNat ≤ 159 := fun h => by rw [h] at hx2; exact hx2
    have hl := lo_ge c.toNat
    have hh : hi c.toNat ≤ 191 := by unfold hi; split <;> (try split) <;> omega
    simp only [List.take_succ_cons, List.take_zero, joined, joinTo, lead, List.length_cons, List.length_nil, Nat.zero_add, Nat.reduceAdd, Nat.reduceSub, Nat.reducePow]
    rw [if_neg (by omega)]
    refine ⟨by unfold IsPt; omega, ?_⟩
    unfold encN
    rw [if_neg (by omega), if_neg (by omega), if_pos (by omega), by_eq (x := c) (by omega), by_eq (x := x) (by omega), by_eq (x := y) (by omega)]
  ·have hb := b4 e
   rw [e] at hw hle ⊢
   match t, hle with
   | x :: y :: z :: t', _ =>
    have hx : (lo c.toNat ≤ x.toNat ∧ x.toNat ≤ hi c.toNat) ∧ (128 ≤ y.toNat ∧ y.toNat ≤ 191) ∧ 128 ≤ z.toNat ∧ z.toNat ≤ 191 := by
     unfold run at hw
     split at hw
     ·rename_i h
      refine ⟨h.2, ?_⟩
      unfold run at hw
      split at hw
      ·rename_i h
       refine ⟨h.2, ?_⟩
       unfold run at hw
       split at hw
       ·rename_i h; exact h.2
       ·omega
      ·omega
     ·omega
    obtain ⟨⟨hx1, hx2⟩, ⟨hy1, hy2⟩, hz1, hz2⟩ := hx
    have hlo : c.toNat = 240 → 144 ≤ x.toNat := fun h => by rw [h] at hx1; exact hx1
    have hhi : c.toNat = 244 → x.toNat ≤ 143 := fun h => by rw [h] at hx2; exact hx2
    have hl := lo_ge c.toNat
    have hh : hi c.toNat ≤ 191 := by unfold hi; split <;> (try split) <;> omega
    simp only [List.take_succ_cons, List.take_zero, joined, joinTo, lead, List.length_cons, List.length_nil, Nat.zero_add, Nat.reduceAdd, Nat.reduceSub, Nat.reducePow]
    rw [if_neg (by omega)]
    refine ⟨by unfold IsPt; omega, ?_⟩
    unfold encN
    rw [if_neg (by omega), if_neg (by omega), if_neg (by omega), by_eq (x := c) (by omega), by_eq (x := x) (by omega), by_eq (x := y) (by omega), by_eq (x := z) (by omega)]
def bad3 : List UInt8 := [239, 191, 189]
theorem enc_bad3 : encN 65533 = bad3 := rfl
theorem rune_pt {l : List UInt8} (hne : l ≠ []) : IsPt (rune l) := by
 unfold rune
 split
 ·rename_i h; exact (wf_piece hne h).1
 ·unfold IsPt; omega
theorem vld_pt {q : Nat} (h : IsPt q) : vld (q : Int) = true ∧ fix (q : Int) = q := by
 obtain ⟨h1, h2⟩ := h
 have hv : vld (q : Int) = true := by rw [vld_iff]; omega
 exact ⟨hv, by unfold fix; rw [if_pos hv]; simp⟩
theorem good_iff {l : List UInt8} (hne : l ≠ []) : (rune l ≠ 65533 ∨ l.take (wid l) = bad3) ↔ encN (rune l) = l.take (wid l) := by
 by_cases hw : wid l = nd l
 ·obtain ⟨_, h2⟩ := wf_piece hne hw
  have hr : rune l = joined (l.take (wid l)) := by unfold rune; rw [if_pos hw]
  rw [hr, h2]
  refine ⟨fun _ => rfl, fun _ => ?_⟩
  by_cases h : joined (l.take (wid l)) = 65533
  ·right; rw [← h2, h]; rfl
  ·left; exact h
 ·have hr : rune l = 65533 := by unfold rune; rw [if_neg hw]
  rw [hr, enc_bad3]
  constructor
  ·rintro (h | h)
   ·exact absurd rfl h
   ·exact h.symm
  ·intro h; right; exact h.symm
theorem bad3_front {l x : List UInt8} (h : l = bad3 ++ x) : l.take (wid l) = bad3 := by
 subst h
 obtain ⟨h1, _⟩ := piece_enc (q := 65533) (by unfold IsPt; omega) x
 rw [enc_bad3] at h1
 rw [h1, List.take_left]
def WholeB (b : List UInt8) (k : Nat) (r : List Int) (o : Bool) : Prop := (o = true → enc r = b.take k) ∧ (o = false → ∀ x, enc r ++ x ≠ b)
theorem whole_start (b : List UInt8) : WholeB b 0 [] true := ⟨fun _ => rfl, fun h => by cases h⟩
theorem whole_step {b : List UInt8} {k : Nat} {r : List Int} {o : Bool} (h : WholeB b k r o) (hne : b.drop k ≠ []) :
  WholeB b (k + wid (b.drop k)) (r ++ [(rune (b.drop k) : Int)]) (o && (decide (rune (b.drop k) ≠ 65533) || decide ((b.drop k).take (wid (b.drop k)) = bad3))) := by
 have hfix := (vld_pt (rune_pt hne)).2
 have he : enc (r ++ [(rune (b.drop k) : Int)]) = enc r ++ encN (rune (b.drop k)) := by rw [enc_append]; simp [enc, hfix]
 have htk : b.take (k + wid (b.drop k)) = b.take k ++ (b.drop k).take (wid (b.drop k)) := List.take_add
 have hgi := good_iff hne
 constructor
 ·intro ho
  simp only [Bool.and_eq_true, Bool.or_eq_true, decide_eq_true_eq] at ho
  rw [he, htk, h.1 ho.1, hgi.1 ho.2]
 ·intro ho x hx
  rw [he, List.append_assoc] at hx
  cases hoo : o with
  | false => exact h.2 hoo _ hx
  | true =>
   rw [hoo] at ho
   simp only [Bool.true_and, Bool.or_eq_false_iff, decide_eq_false_iff_not, Decidable.not_not] at ho
   rw [h.1 hoo, ho.1, enc_bad3] at hx
   have hb : b.take k ++ (bad3 ++ x) = b.take k ++ b.drop k := by rw [hx, List.take_append_drop]
   exact ho.2 (bad3_front (List.append_cancel_left hb).symm)
theorem whole_end {b : List UInt8} {r : List Int} {o : Bool} (h : WholeB b b.length r o) : (enc r = b ↔ o = true) := by
 cases o with
 | true => have := h.1 rfl; rw [List.take_length] at this; simp [this]
 | false => have := h.2 rfl []; rw [List.append_nil] at this; simp [this]
end Go.Proofs.YtheelnhhkpkjnaaGreatDoor.Utf
