/-
  PLAIN MATHEMATICS OF FULL DECOMPOSITIONS: nothing in one decomposes, nothing behind its first opens; what a syllable's is.
-/
import Derived.Test.YthpadpoomelhbaaDoorUcdFixed
namespace Go.Proofs.YthpadpoomelhbaaDoor.Ucd
open Go.RowKit Utf

def okB (r : Int) : Bool := decide (1 ≤ (fullF r).length) && decide ((fullF r).length ≤ 3) && (fullF r).all (fun x => (pairF x).2.2 == 0) && (fullF r).tail.all (fun x => !opn x) && (opn ((fullF r).headD 0) == opn r)
theorem fst_plain {r : Int} (h : plainB r = true) : fullF r = [r] := full_plain 3 h
theorem opn_plain {r : Int} (h : plainB r = true) : opn r = (cls r == 0 && !trl r) := by rw [opn, fstF, fst_plain h]; rfl
theorem vowel_shut : ∀ i < 21, opn (4449 + (i : Nat)) = false := by decide +kernel
theorem tail_shut : ∀ i < 28, 0 < i → opn (4519 + (i : Nat)) = false := by decide +kernel
theorem lead_opens : ∀ i < 19, opn (4352 + (i : Nat)) = true := by decide +kernel
theorem shut_vowel {x : Int} (h : 4449 ≤ x) (h' : x ≤ 4469) : opn x = false := by
  have := vowel_shut (x - 4449).toNat (by omega); rwa [show 4449 + (((x - 4449).toNat : Nat) : Int) = x from by omega] at this
theorem shut_tail {x : Int} (h : 4520 ≤ x) (h' : x ≤ 4546) : opn x = false := by
  have := tail_shut (x - 4519).toNat (by omega) (by omega); rwa [show 4519 + (((x - 4519).toNat : Nat) : Int) = x from by omega] at this
theorem opens_lead {x : Int} (h : 4352 ≤ x) (h' : x ≤ 4370) : opn x = true := by
  have := lead_opens (x - 4352).toNat (by omega); rwa [show 4352 + (((x - 4352).toNat : Nat) : Int) = x from by omega] at this
theorem full_syl {s : Int} (h0 : 0 ≤ s) (h1 : s ≤ 11171) : fullF (44032 + s) = if s % 28 = 0 then [4352 + s / 588, 4449 + s % 588 / 28] else [4352 + s / 588, 4449 + s % 588 / 28, 4519 + s % 28] := by
  by_cases hz : s % 28 = 0
  · rw [if_pos hz]; exact full_open 2 h0 h1 hz
  · rw [if_neg hz]; exact full_closed 1 h0 h1 hz
theorem opn_syl {s : Int} (h0 : 0 ≤ s) (h1 : s ≤ 11171) : opn (44032 + s) = true := by
  have hl := opens_lead (x := 4352 + s / 588) (by omega) (by omega)
  have hp := plain_lead (x := 4352 + s / 588) (by omega) (by omega)
  have e : fstF (44032 + s) = 4352 + s / 588 := by
    rw [fstF, full_syl h0 h1]
    split <;> rfl
  have e2 : fstF (4352 + s / 588) = 4352 + s / 588 := by rw [fstF, fst_plain hp]; rfl
  rw [opn, e]
  rw [opn, e2] at hl
  exact hl
theorem bottom (r : Int) : okB r = true := by
  refine kinds (fun r => okB r = true) (fun r h => ?_) (by decide +kernel) (fun s h0 h1 => ?_) (by decide +kernel) r
  · unfold okB
    rw [fst_plain h]
    simp [plain_pair h]
  · have a1 := plain_lead (x := 4352 + s / 588) (by omega) (by omega)
    have a2 := plain_vowel (x := 4449 + s % 588 / 28) (by omega) (by omega)
    have b1 := opens_lead (x := 4352 + s / 588) (by omega) (by omega)
    have b2 := shut_vowel (x := 4449 + s % 588 / 28) (by omega) (by omega)
    unfold okB
    rw [opn_syl h0 h1, full_syl h0 h1]
    by_cases hz : s % 28 = 0
    · rw [if_pos hz]
      simp [plain_pair a1, plain_pair a2, b1, b2]
    · rw [if_neg hz]
      have a3 := plain_tail (x := 4519 + s % 28) (by omega) (by omega)
      have b3 := shut_tail (x := 4519 + s % 28) (by omega) (by omega)
      simp [plain_pair a1, plain_pair a2, plain_pair a3, b1, b2, b3]
theorem bottom_parts (r : Int) : 1 ≤ (fullF r).length ∧ (fullF r).length ≤ 3 ∧ (∀ x ∈ fullF r, (pairF x).2.2 = 0) ∧ (∀ x ∈ (fullF r).tail, opn x = false) ∧ opn ((fullF r).headD 0) = opn r := by
  have h := bottom r
  simp only [okB, Bool.and_eq_true, decide_eq_true_eq, List.all_eq_true, beq_iff_eq, Bool.not_eq_true'] at h
  obtain ⟨⟨⟨⟨h1, h2⟩, h3⟩, h4⟩, h5⟩ := h
  exact ⟨h1, h2, h3, h4, h5⟩
/-- the tables, as one thing -/
structure Tabs (w : World) : Prop where
  out : Laid w
end Go.Proofs.YthpadpoomelhbaaDoor.Ucd
