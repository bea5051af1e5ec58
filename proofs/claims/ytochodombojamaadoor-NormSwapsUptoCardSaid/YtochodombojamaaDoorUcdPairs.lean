/-
  PLAIN MATHEMATICS OF PAIRS: what a number decomposes to, in one step and wholly.
-/
import Derived.Test.YtochodombojamaaDoorUcdMath
import Derived.Test.YtochodombojamaaDoorUcdWords
import Derived.LoopTactic
import Derived.Laws.RangeString
import Derived.Laws.RangeAny
import Derived.BigQuiet
import Derived.Deep.QuietTactic
import Derived.Deep.RegionHeld3
import Derived.IntWalk
namespace Go.Proofs.YtochodombojamaaDoor.Ucd

def basesL : List Nat := [65, 65, 65, 65, 65, 65, 46, 67, 69, 69, 69, 69, 73, 73, 73, 73, 46, 78, 79, 79, 79, 79, 79, 46, 46, 85, 85, 85, 85, 89, 46, 46, 97, 97, 97, 97, 97, 97, 46, 99, 101, 101, 101, 101, 105, 105, 105, 105, 46, 110, 111, 111, 111, 111, 111, 46, 46, 117, 117, 117, 117, 121, 46, 121, 65, 97, 65, 97, 65, 97, 67, 99, 67, 99, 67, 99, 67, 99, 68, 100, 46, 46, 69, 101, 69, 101, 69, 101, 69, 101, 69, 101, 71, 103, 71, 103, 71, 103, 71, 103, 72, 104, 46, 46, 73, 105, 73, 105, 73, 105, 73, 105, 73, 46, 46, 46, 74, 106, 75, 107, 46, 76, 108, 76, 108, 76, 108, 46, 46, 46, 46, 78, 110, 78, 110, 78, 110, 46, 46, 46, 79, 111, 79, 111, 79, 111, 46, 46, 82, 114, 82, 114, 82, 114, 83, 115, 83, 115, 83, 115, 83, 115, 84, 116, 84, 116, 46, 46, 85, 117, 85, 117, 85, 117, 85, 117, 85, 117, 85, 117, 87, 119, 89, 121, 89, 90, 122, 90, 122, 90, 122, 46]
def namesL : List Nat := [103, 97, 99, 116, 100, 114, 46, 101, 103, 97, 99, 100, 103, 97, 99, 100, 46, 116, 103, 97, 99, 116, 100, 46, 46, 103, 97, 99, 100, 97, 46, 46, 103, 97, 99, 116, 100, 114, 46, 101, 103, 97, 99, 100, 103, 97, 99, 100, 46, 116, 103, 97, 99, 116, 100, 46, 46, 103, 97, 99, 100, 97, 46, 100, 109, 109, 98, 98, 111, 111, 97, 97, 99, 99, 112, 112, 118, 118, 118, 118, 46, 46, 109, 109, 98, 98, 112, 112, 111, 111, 118, 118, 99, 99, 98, 98, 112, 112, 101, 101, 99, 99, 46, 46, 116, 116, 109, 109, 98, 98, 111, 111, 112, 46, 46, 46, 99, 99, 101, 101, 46, 97, 97, 101, 101, 118, 118, 46, 46, 46, 46, 97, 97, 101, 101, 118, 118, 46, 46, 46, 109, 109, 98, 98, 113, 113, 46, 46, 97, 97, 101, 101, 118, 118, 97, 97, 99, 99, 101, 101, 118, 118, 101, 101, 118, 118, 46, 46, 116, 116, 109, 109, 98, 98, 114, 114, 113, 113, 111, 111, 99, 99, 99, 99, 100, 97, 97, 112, 112, 118, 118, 46]
def nameL : List Nat := [103, 97, 99, 116, 109, 98, 112, 100, 114, 113, 118, 101, 111]

def mkGo : List (Nat × Int) → Int → Int
  | [], _ => 0
  | x :: t, c => if (x.1 : Int) = c then x.2 else mkGo t c
/-- the mark that a letter names -/
def mk (c : Int) : Int := mkGo (nameL.zip markList) c
def latT : List (Int × Int × Int) := List.zipWith (fun (b n : Nat) => if b = 46 then (0, 0, 0) else ((b : Int), mk n, 2)) basesL namesL
theorem lat_at (i : Nat) (h : i < 192) (h1 : i < basesL.length) (h2 : i < namesL.length) : latT.getD i (0, 0, 0) = if basesL[i]'h1 = 46 then (0, 0, 0) else (((basesL[i]'h1 : Nat) : Int), mk (namesL[i]'h2 : Nat), 2) := by
  have hl : i < latT.length := by show i < 192; exact h
  have e : latT.getD i (0, 0, 0) = latT[i] := by rw [List.getD, List.getElem?_eq_getElem hl]; rfl
  rw [e]
  simp only [latT, List.getElem_zipWith]
def sylA (s : Int) : Int := if s % 28 = 0 then 4352 + s / 588 else 44032 + s - s % 28
def sylB (s : Int) : Int := if s % 28 = 0 then 4449 + s % 588 / 28 else 4519 + s % 28
def lst : List (Int × Int × Int) → Int → Int × Int × Int
  | [], _ => (0, 0, 0)
  | x :: t, r => if r < x.1 then (0, 0, 0) else if r = x.1 then (x.2.1, x.2.2, if x.2.2 = 0 then 1 else 2) else lst t r
/-- what r decomposes to: two numbers, and how many of them count -/
def pairF (r : Int) : Int × Int × Int :=
  if 192 ≤ r ∧ r ≤ 383 then latT.getD (r - 192).toNat (0, 0, 0)
  else if 44032 ≤ r ∧ r ≤ 55203 then (sylA (r - 44032), sylB (r - 44032), 2)
  else lst listRows r
/-- the full decomposition, at most so deep -/
def full : Nat → Int → List Int
  | 0, r => [r]
  | k + 1, r => if (pairF r).2.2 = 0 then [r] else full k (pairF r).1 ++ (if (pairF r).2.2 = 2 then full k (pairF r).2.1 else [])
/-- so deep suffices -/
def dep : Nat → Int → Bool
  | 0, r => (pairF r).2.2 == 0
  | k + 1, r => (pairF r).2.2 == 0 || (dep k (pairF r).1 && ((pairF r).2.2 == 1 || ((pairF r).2.2 == 2 && dep k (pairF r).2.1)))

def plainB (r : Int) : Bool := !(decide (192 ≤ r ∧ r ≤ 383) || decide (44032 ≤ r ∧ r ≤ 55203) || listRows.any fun x => x.1 == r)
theorem lst_none : ∀ {l : List (Int × Int × Int)} {r : Int}, (l.any fun x => x.1 == r) = false → lst l r = (0, 0, 0) := by
  intro l
  induction l with
  | nil => intro r _; rfl
  | cons x t ih =>
    intro r h
    simp only [List.any_cons, Bool.or_eq_false_iff, beq_eq_false_iff_ne, ne_eq] at h
    simp only [lst, ih h.2]
    have : ¬ r = x.1 := fun e => h.1 e.symm
    rw [if_neg this]
    simp
theorem plain_pair {r : Int} (h : plainB r = true) : pairF r = (0, 0, 0) := by
  simp only [plainB, Bool.not_eq_true', Bool.or_eq_false_iff, decide_eq_false_iff_not] at h
  unfold pairF
  rw [if_neg h.1.1, if_neg h.1.2, lst_none h.2]

/-- every number is plain, or a Latin letter of the table, or a syllable, or listed -/
theorem kinds (p : Int → Prop) (h1 : ∀ r, plainB r = true → p r) (h2 : ∀ i < 192, p (192 + (i : Nat))) (h3 : ∀ s, 0 ≤ s → s ≤ 11171 → p (44032 + s)) (h4 : ∀ x ∈ listRows, p x.1) (r : Int) : p r := by
  by_cases ha : 192 ≤ r ∧ r ≤ 383
  · have := h2 (r - 192).toNat (by omega)
    rwa [show 192 + (((r - 192).toNat : Nat) : Int) = r from by omega] at this
  by_cases hb : 44032 ≤ r ∧ r ≤ 55203
  · have := h3 (r - 44032) (by omega) (by omega)
    rwa [show 44032 + (r - 44032) = r from by omega] at this
  by_cases hc : (listRows.any fun x => x.1 == r) = true
  · obtain ⟨x, hx, e⟩ := List.any_eq_true.1 hc
    have := h4 x hx
    rwa [eq_of_beq e] at this
  · exact h1 r (by simp only [plainB, decide_eq_false ha, decide_eq_false hb, Bool.eq_false_iff.2 hc]; rfl)

theorem syl_pair {s : Int} (h0 : 0 ≤ s) (h1 : s ≤ 11171) : pairF (44032 + s) = (sylA s, sylB s, 2) := by
  unfold pairF
  rw [if_neg (by omega), if_pos (by omega), show 44032 + s - 44032 = s from by omega]
/-- the letters of syllables are plain -/
theorem lead_plain : ∀ i < 19, plainB (4352 + (i : Nat)) = true := by decide +kernel
theorem vowel_plain : ∀ i < 21, plainB (4449 + (i : Nat)) = true := by decide +kernel
theorem tail_plain : ∀ i < 28, plainB (4519 + (i : Nat)) = true := by decide +kernel
theorem plain_lead {x : Int} (h : 4352 ≤ x) (h' : x ≤ 4370) : plainB x = true := by
  have := lead_plain (x - 4352).toNat (by omega); rwa [show 4352 + (((x - 4352).toNat : Nat) : Int) = x from by omega] at this
theorem plain_vowel {x : Int} (h : 4449 ≤ x) (h' : x ≤ 4469) : plainB x = true := by
  have := vowel_plain (x - 4449).toNat (by omega); rwa [show 4449 + (((x - 4449).toNat : Nat) : Int) = x from by omega] at this
theorem plain_tail {x : Int} (h : 4519 ≤ x) (h' : x ≤ 4546) : plainB x = true := by
  have := tail_plain (x - 4519).toNat (by omega); rwa [show 4519 + (((x - 4519).toNat : Nat) : Int) = x from by omega] at this
/-- a syllable's pair: a lead and a vowel, or a syllable without a tail and a tail -/
theorem syl_open {s : Int} (h0 : 0 ≤ s) (h1 : s ≤ 11171) (hz : s % 28 = 0) : pairF (44032 + s) = (4352 + s / 588, 4449 + s % 588 / 28, 2) := by
  rw [syl_pair h0 h1]; simp only [sylA, sylB, if_pos hz]
theorem syl_closed {s : Int} (h0 : 0 ≤ s) (h1 : s ≤ 11171) (hz : ¬ s % 28 = 0) : pairF (44032 + s) = (44032 + (s - s % 28), 4519 + s % 28, 2) := by
  rw [syl_pair h0 h1]; simp only [sylA, sylB, if_neg hz]; rw [show 44032 + s - s % 28 = 44032 + (s - s % 28) from by omega]
theorem full_plain {r : Int} (k : Nat) (h : plainB r = true) : full k r = [r] := by
  cases k with
  | zero => rfl
  | succ k => simp only [full, plain_pair h, if_true]
theorem dep_plain {r : Int} (k : Nat) (h : plainB r = true) : dep k r = true := by
  cases k with
  | zero => simp [dep, plain_pair h]
  | succ k => simp [dep, plain_pair h]
theorem full_open {s : Int} (k : Nat) (h0 : 0 ≤ s) (h1 : s ≤ 11171) (hz : s % 28 = 0) : full (k + 1) (44032 + s) = [4352 + s / 588, 4449 + s % 588 / 28] := by
  simp only [full, syl_open h0 h1 hz, full_plain k (plain_lead (x := 4352 + s / 588) (by omega) (by omega)), full_plain k (plain_vowel (x := 4449 + s % 588 / 28) (by omega) (by omega))]
  rfl
theorem dep_open {s : Int} (k : Nat) (h0 : 0 ≤ s) (h1 : s ≤ 11171) (hz : s % 28 = 0) : dep (k + 1) (44032 + s) = true := by
  simp only [dep, syl_open h0 h1 hz, dep_plain k (plain_lead (x := 4352 + s / 588) (by omega) (by omega)), dep_plain k (plain_vowel (x := 4449 + s % 588 / 28) (by omega) (by omega))]
  rfl
theorem full_closed {s : Int} (k : Nat) (h0 : 0 ≤ s) (h1 : s ≤ 11171) (hz : ¬ s % 28 = 0) : full (k + 2) (44032 + s) = [4352 + s / 588, 4449 + s % 588 / 28, 4519 + s % 28] := by
  rw [full, syl_closed h0 h1 hz]
  simp only [full_open k (s := s - s % 28) (by omega) (by omega) (by omega), full_plain (k + 1) (plain_tail (x := 4519 + s % 28) (by omega) (by omega))]
  rw [show (s - s % 28) / 588 = s / 588 from by omega, show (s - s % 28) % 588 / 28 = s % 588 / 28 from by omega]
  rfl
theorem dep_closed {s : Int} (k : Nat) (h0 : 0 ≤ s) (h1 : s ≤ 11171) (hz : ¬ s % 28 = 0) : dep (k + 2) (44032 + s) = true := by
  rw [dep, syl_closed h0 h1 hz]
  simp only [dep_open k (s := s - s % 28) (by omega) (by omega) (by omega), dep_plain (k + 1) (plain_tail (x := 4519 + s % 28) (by omega) (by omega))]
  rfl
theorem dep_all (r : Int) : dep 3 r = true := by
  refine kinds (fun r => dep 3 r = true) (fun r h => dep_plain 3 h) (by decide +kernel) (fun s h0 h1 => ?_) (by decide +kernel) r
  by_cases hz : s % 28 = 0
  · exact dep_open 2 h0 h1 hz
  · exact dep_closed 1 h0 h1 hz
def fullF (r : Int) : List Int := full 3 r
/-- the first of the full decomposition -/
def fstF (r : Int) : Int := (fullF r).headD 0
def opn (r : Int) : Bool := cls (fstF r) == 0 && !trl (fstF r)
/-- how deep the first goes, and what it comes to -/
def hgt : Nat → Int → Nat
  | 0, _ => 0
  | k + 1, x => if (pairF x).2.2 = 0 then 0 else hgt k (pairF x).1 + 1
def hd : Nat → Int → Int
  | 0, x => x
  | k + 1, x => if (pairF x).2.2 = 0 then x else hd k (pairF x).1
theorem dep_fst {k : Nat} {x : Int} (h : dep (k + 1) x = true) (hz : ¬ (pairF x).2.2 = 0) : dep k (pairF x).1 = true := by
  have e : ((pairF x).2.2 == 0) = false := by simpa using hz
  rw [dep, e, Bool.false_or, Bool.and_eq_true] at h
  exact h.1
theorem hgt_more (k : Nat) : ∀ x, dep k x = true → hgt (k + 1) x = hgt k x := by
  induction k with
  | zero => intro x h; have : (pairF x).2.2 = 0 := by simpa [dep] using h
            simp [hgt, this]
  | succ k ih =>
    intro x h
    by_cases hz : (pairF x).2.2 = 0
    · simp [hgt, hz]
    · have e1 : hgt (k + 1 + 1) x = if (pairF x).2.2 = 0 then 0 else hgt (k + 1) (pairF x).1 + 1 := rfl
      have e2 : hgt (k + 1) x = if (pairF x).2.2 = 0 then 0 else hgt k (pairF x).1 + 1 := rfl
      rw [e1, e2, if_neg hz, if_neg hz, ih _ (dep_fst h hz)]
theorem hd_more (k : Nat) : ∀ x, dep k x = true → hd (k + 1) x = hd k x := by
  induction k with
  | zero => intro x h; have : (pairF x).2.2 = 0 := by simpa [dep] using h
            simp [hd, this]
  | succ k ih =>
    intro x h
    by_cases hz : (pairF x).2.2 = 0
    · simp [hd, hz]
    · have e1 : hd (k + 1 + 1) x = if (pairF x).2.2 = 0 then x else hd (k + 1) (pairF x).1 := rfl
      have e2 : hd (k + 1) x = if (pairF x).2.2 = 0 then x else hd k (pairF x).1 := rfl
      rw [e1, e2, if_neg hz, if_neg hz, ih _ (dep_fst h hz)]
theorem hgt_step {x : Int} (hz : ¬ (pairF x).2.2 = 0) : hgt 3 x = hgt 3 (pairF x).1 + 1 := by
  rw [← hgt_more 3 x (dep_all x), hgt, if_neg hz]
theorem hd_step {x : Int} (hz : ¬ (pairF x).2.2 = 0) : hd 3 x = hd 3 (pairF x).1 := by
  rw [← hd_more 3 x (dep_all x), hd, if_neg hz]
theorem full_hd (k : Nat) : ∀ x, ∃ t, full k x = hd k x :: t := by
  induction k with
  | zero => intro x; exact ⟨[], rfl⟩
  | succ k ih =>
    intro x
    by_cases hz : (pairF x).2.2 = 0
    · exact ⟨[], by simp [full, hd, hz]⟩
    · obtain ⟨t, ht⟩ := ih (pairF x).1
      refine ⟨t ++ (if (pairF x).2.2 = 2 then full k (pairF x).2.1 else []), ?_⟩
      rw [full, hd, if_neg hz, if_neg hz, ht]
      rfl
theorem fst_hd (x : Int) : fstF x = hd 3 x := by
  obtain ⟨t, ht⟩ := full_hd 3 x
  rw [fstF, fullF, ht]; rfl
/-- a number that decomposes: how many it decomposes to -/
theorem pair_n (x : Int) : (pairF x).2.2 = 0 ∨ (pairF x).2.2 = 1 ∨ (pairF x).2.2 = 2 := by
  have h := dep_all x
  rw [dep] at h
  simp only [Bool.or_eq_true, Bool.and_eq_true, beq_iff_eq] at h
  rcases h with h | ⟨_, h | ⟨h, _⟩⟩
  · exact .inl h
  · exact .inr (.inl h)
  · exact .inr (.inr h)
end Go.Proofs.YtochodombojamaaDoor.Ucd

/-
  CONTRACTS OF mark, latin, syllable and Pair.
-/
namespace Go.Proofs.YtochodombojamaaDoor.Ucd
open Go.RowKit Utf

theorem below_iter {B : Nat} {w u : World} (h : Below B w u) (hB : B ≤ u.heap.size) (s : ByteArray) (k : Nat) : Below B w (u.iter s k) := h.alloc hB _
def nameS : ByteArray := ⟨#[103, 97, 99, 116, 109, 98, 112, 100, 114, 113, 118, 101, 111]⟩
theorem name_at : ∀ i : Fin 13, (nameS[i.1]'i.2).toNat = nameL[i.1]'i.2 := by decide
theorem nameL_lt : ∀ x ∈ nameL, x < 128 := by decide

set_option maxHeartbeats 2000000 in
theorem mark_any (c : Int) (w : World) (hL : Laid w) : Calls Tryd.prog 51 #[.int .i32 c] w (Ret w (.int .i32 (mk c))) := by
  have HM := Lib.hid hL.2.2.2.2.1
  have HS := Lib.hid hL.size
  clear hL
  obtain ⟨S, hS⟩ : ∃ S, S = nameS := ⟨_, rfl⟩
  have hsz : S.size = 13 := by rw [hS]; rfl
  have HZ := Lib.hid hsz
  have HN := Lib.hid hS
  go_enter Tryd.func51, Tryd.ntmps51
  have hSg : (⟨#[103, 97, 99, 116, 109, 98, 112, 100, 114, 113, 118, 101, 111]⟩ : ByteArray) = S := hS.symm
  rw [hSg]
  clear hSg hS hsz
  go_wp2
  go_loopw [] (fun wr => ∃ k : Nat, k ≤ 13 ∧ wr = w.iter S k ∧ Hid (mkGo ((nameL.zip markList).drop k) c = mk c)) (fun wr => 13 - wr.iterPos w.heap.size)
  case atStart => exact ⟨0, Nat.zero_le _, rfl, Lib.hid rfl⟩
  case round =>
    obtain ⟨k, hk, rfl, H⟩ := hrel
    by_cases hlt : k < 13
    · have hn : ∀ ty, (Instr.next (.pointer (some ⟨w.heap.size, 0, none⟩)) true ty).run Tryd.prog (w.iter S k) = .ok (.tuple #[.bool true, .int .i64 k, .int .i32 ((nameL[k]'hlt : Nat) : Int)]) (w.iter S (k + 1)) := fun ty => by
        have hb : k < S.size := by rw [HZ.out]; exact hlt
        have e : (S[k]'hb).toNat = nameL[k]'hlt := by
          have h2 : ∀ T (hT : T = S) (hk : k < T.size), (S[k]'hb).toNat = (T[k]'hk).toNat := fun T hT hk => by subst hT; rfl
          rw [h2 nameS HN.out.symm hlt]
          exact name_at ⟨k, hlt⟩
        have := run_next_ascii (P := Tryd.prog) w S k ty hb (by rw [e]; exact nameL_lt _ (List.getElem_mem _))
        rwa [e] at this
      have hmL : k < markList.length := hlt
      have hd : mkGo ((nameL.zip markList).drop k) c = if ((nameL[k]'hlt : Nat) : Int) = c then markList[k]'hmL else mkGo ((nameL.zip markList).drop (k + 1)) c := by
        have hz : k < (nameL.zip markList).length := hlt
        rw [List.drop_eq_getElem_cons hz]
        simp only [mkGo, List.getElem_zip]
        rfl
      have hcell : (w.iter S (k + 1)).cell? ⟨2, k, none⟩ = some (.int .i32 (markList[k]'hmL)) := by
        have h := (HM.out.alloc (.stringIter S (k + 1))).cell k
        rw [nums_get hmL] at h
        exact h
      have hb1 := below_iter (Below.refl w.heap.size w) (Nat.le_refl _) S (k + 1)
      have HBB := Lib.hid hb1
      generalize nameL[k]'hlt = nm at hn hd
      generalize markList[k]'hmL = mv at hcell hd
      have HD := Lib.hid hd
      clear hd hmL hb1
      by_cases hc : (nm : Int) = c
      · have HC := Lib.hid hc
        have hc' : ((nm : Int) == c) = true := by simp [hc]
        clear hc
        go_wp2
        go_ret
        exact ⟨ret_int (k := .i32) (a := mv) (by rw [← H.out, HD.out, if_pos HC.out]), HBB.out⟩
      · have HC := Lib.hid hc
        have hc' : ((nm : Int) == c) = false := by simp [hc]
        clear hc
        go_wp2
        go_roundw
        case rel => exact ⟨k + 1, by omega, rfl, Lib.hid (by rw [← H.out, HD.out, if_neg HC.out])⟩
        case measure => simp; omega
    · obtain rfl : k = 13 := by omega
      have hn : ∀ ty, (Instr.next (.pointer (some ⟨w.heap.size, 0, none⟩)) true ty).run Tryd.prog (w.iter S 13) = .ok (.tuple #[.bool false]) (w.iter S 13) := fun ty => run_next_end w S 13 ty (by rw [HZ.out]; omega)
      go_wp2
      go_ret
      exact ⟨ret_int (k := .i32) (a := 0) (by rw [← H.out]; rfl), below_iter (Below.refl w.heap.size w) (Nat.le_refl _) S 13⟩

def basesS : ByteArray := { data := (([65, 65, 65, 65, 65, 65, 46, 67, 69, 69, 69, 69, 73, 73, 73, 73, 46, 78, 79, 79, 79, 79, 79, 46, 46, 85, 85, 85, 85, 89, 46, 46, 97, 97, 97, 97, 97, 97, 46, 99, 101, 101, 101, 101, 105, 105, 105, 105].append [46, 110, 111, 111, 111, 111, 111, 46, 46, 117, 117, 117, 117, 121, 46, 121, 65, 97, 65, 97, 65, 97, 67, 99, 67, 99, 67, 99, 67, 99, 68, 100, 46, 46, 69, 101, 69, 101, 69, 101, 69, 101, 69, 101, 71, 103, 71, 103]).append ([71, 103, 71, 103, 72, 104, 46, 46, 73, 105, 73, 105, 73, 105, 73, 105, 73, 46, 46, 46, 74, 106, 75, 107, 46, 76, 108, 76, 108, 76, 108, 46, 46, 46, 46, 78, 110, 78, 110, 78, 110, 46, 46, 46, 79, 111, 79, 111].append [79, 111, 46, 46, 82, 114, 82, 114, 82, 114, 83, 115, 83, 115, 83, 115, 83, 115, 84, 116, 84, 116, 46, 46, 85, 117, 85, 117, 85, 117, 85, 117, 85, 117, 85, 117, 87, 119, 89, 121, 89, 90, 122, 90, 122, 90, 122, 46])).toArray }
def namesS : ByteArray := { data := (([103, 97, 99, 116, 100, 114, 46, 101, 103, 97, 99, 100, 103, 97, 99, 100, 46, 116, 103, 97, 99, 116, 100, 46, 46, 103, 97, 99, 100, 97, 46, 46, 103, 97, 99, 116, 100, 114, 46, 101, 103, 97, 99, 100, 103, 97, 99, 100].append [46, 116, 103, 97, 99, 116, 100, 46, 46, 103, 97, 99, 100, 97, 46, 100, 109, 109, 98, 98, 111, 111, 97, 97, 99, 99, 112, 112, 118, 118, 118, 118, 46, 46, 109, 109, 98, 98, 112, 112, 111, 111, 118, 118, 99, 99, 98, 98]).append ([112, 112, 101, 101, 99, 99, 46, 46, 116, 116, 109, 109, 98, 98, 111, 111, 112, 46, 46, 46, 99, 99, 101, 101, 46, 97, 97, 101, 101, 118, 118, 46, 46, 46, 46, 97, 97, 101, 101, 118, 118, 46, 46, 46, 109, 109, 98, 98].append [113, 113, 46, 46, 97, 97, 101, 101, 118, 118, 97, 97, 99, 99, 101, 101, 118, 118, 101, 101, 118, 118, 46, 46, 116, 116, 109, 109, 98, 98, 114, 114, 113, 113, 111, 111, 99, 99, 99, 99, 100, 97, 97, 112, 112, 118, 118, 46])).toArray }
theorem bases_at : ∀ i : Fin 192, (basesS[i.1]'i.2).toNat = basesL[i.1]'i.2 := by decide +kernel
theorem names_at : ∀ i : Fin 192, (namesS[i.1]'i.2).toNat = namesL[i.1]'i.2 := by decide +kernel
theorem small_at : (∀ x ∈ basesL, x < 128) ∧ ∀ x ∈ namesL, x < 128 := by decide +kernel
theorem index_at {P : Program} {t : TypeId} (ht : P.underlying t = some .string) (s : ByteArray) (k : Nat) (h : k < s.size) (u : World) : (Instr.index t (.string s) (.int .i64 k)).run P u = .ok (.int .u8 (s[k]'h).toNat) u := by
  simp [Instr.index, run_underlying ht, asIntOf, h]
theorem below_of_drew {B : Nat} {u v : World} (h : Below B u.drew v) : Below B u v := ⟨h.os, h.tape, h.output, h.size, h.block⟩
set_option maxHeartbeats 2000000 in
theorem latin_any (i : Nat) (hi : i < 192) (w : World) (hL : Laid w) : Calls Tryd.prog 45 #[.int .i64 i] w (Ret w (.tuple #[.int .i32 (latT.getD i (0, 0, 0)).1, .int .i32 (latT.getD i (0, 0, 0)).2.1, .int .i64 (latT.getD i (0, 0, 0)).2.2])) := by
  have hx : ∀ u : World, (Instr.index 9 (.string basesS) (.int .i64 i)).run Tryd.prog u = .ok (.int .u8 (basesL[i]'hi)) u := fun u => by
    rw [index_at Tryd.underlying9 basesS i hi u, bases_at ⟨i, hi⟩]
  have hy : ∀ u : World, (Instr.index 9 (.string namesS) (.int .i64 i)).run Tryd.prog u = .ok (.int .u8 (namesL[i]'hi)) u := fun u => by
    rw [index_at Tryd.underlying9 namesS i hi u, names_at ⟨i, hi⟩]
  have hl := lat_at i hi hi hi
  have hb : basesL[i]'hi < 128 := small_at.1 _ (List.getElem_mem _)
  have hn : namesL[i]'hi < 128 := small_at.2 _ (List.getElem_mem _)
  generalize basesL[i]'hi = b at hx hl hb
  generalize namesL[i]'hi = nm at hy hl hn
  rw [hl]
  clear hl
  obtain ⟨S, hS⟩ : ∃ S, S = basesS := ⟨_, rfl⟩
  obtain ⟨T, hT⟩ : ∃ T, T = namesS := ⟨_, rfl⟩
  rw [← hS] at hx
  rw [← hT] at hy
  have gS : ({ data := (([65, 65, 65, 65, 65, 65, 46, 67, 69, 69, 69, 69, 73, 73, 73, 73, 46, 78, 79, 79, 79, 79, 79, 46, 46, 85, 85, 85, 85, 89, 46, 46, 97, 97, 97, 97, 97, 97, 46, 99, 101, 101, 101, 101, 105, 105, 105, 105].append [46, 110, 111, 111, 111, 111, 111, 46, 46, 117, 117, 117, 117, 121, 46, 121, 65, 97, 65, 97, 65, 97, 67, 99, 67, 99, 67, 99, 67, 99, 68, 100, 46, 46, 69, 101, 69, 101, 69, 101, 69, 101, 69, 101, 71, 103, 71, 103]).append ([71, 103, 71, 103, 72, 104, 46, 46, 73, 105, 73, 105, 73, 105, 73, 105, 73, 46, 46, 46, 74, 106, 75, 107, 46, 76, 108, 76, 108, 76, 108, 46, 46, 46, 46, 78, 110, 78, 110, 78, 110, 46, 46, 46, 79, 111, 79, 111].append [79, 111, 46, 46, 82, 114, 82, 114, 82, 114, 83, 115, 83, 115, 83, 115, 83, 115, 84, 116, 84, 116, 46, 46, 85, 117, 85, 117, 85, 117, 85, 117, 85, 117, 85, 117, 87, 119, 89, 121, 89, 90, 122, 90, 122, 90, 122, 46])).toArray } : ByteArray) = S := hS.symm
  have gT : ({ data := (([103, 97, 99, 116, 100, 114, 46, 101, 103, 97, 99, 100, 103, 97, 99, 100, 46, 116, 103, 97, 99, 116, 100, 46, 46, 103, 97, 99, 100, 97, 46, 46, 103, 97, 99, 116, 100, 114, 46, 101, 103, 97, 99, 100, 103, 97, 99, 100].append [46, 116, 103, 97, 99, 116, 100, 46, 46, 103, 97, 99, 100, 97, 46, 100, 109, 109, 98, 98, 111, 111, 97, 97, 99, 99, 112, 112, 118, 118, 118, 118, 46, 46, 109, 109, 98, 98, 112, 112, 111, 111, 118, 118, 99, 99, 98, 98]).append ([112, 112, 101, 101, 99, 99, 46, 46, 116, 116, 109, 109, 98, 98, 111, 111, 112, 46, 46, 46, 99, 99, 101, 101, 46, 97, 97, 101, 101, 118, 118, 46, 46, 46, 46, 97, 97, 101, 101, 118, 118, 46, 46, 46, 109, 109, 98, 98].append [113, 113, 46, 46, 97, 97, 101, 101, 118, 118, 97, 97, 99, 99, 101, 101, 118, 118, 101, 101, 118, 118, 46, 46, 116, 116, 109, 109, 98, 98, 114, 114, 113, 113, 111, 111, 99, 99, 99, 99, 100, 97, 97, 112, 112, 118, 118, 46])).toArray } : ByteArray) = T := hT.symm
  have HL := Lib.hid hL
  clear hL
  by_cases hz : b = 46
  · subst hz
    go_enter Tryd.func45, Tryd.ntmps45
    rw [gS, gT]
    clear gS gT hS hT
    go_wp2
    exact bodyPost_ret (v := .tuple #[.int .i32 0, .int .i32 0, .int .i64 0]) (by simp [results, Tryd.results45, go_sem]) rfl ⟨rfl, Below.refl _ _⟩
  · have hz' : ((b : Int) == 46) = false := by simp; omega
    have HZ := Lib.hid hz
    clear hz
    go_enter Tryd.func45, Tryd.ntmps45
    rw [gS, gT]
    clear gS gT hS hT
    go_wp2
    have e1 : IntKind.i32.wrap (nm : Int) = nm := IntWalk.i32_in _ (by omega)
    have e2 : IntKind.i32.wrap (b : Int) = b := IntWalk.i32_in _ (by omega)
    go_region_held3 (fun _ => True) (trivial) (first | (go_at_call 51; refine (mark_any nm _ HL.out.drew).mono ?_; rintro e w1 ⟨rfl, hb1⟩; have HB1 := Lib.hid hb1; clear hb1))
    all_goals go_wp2
    all_goals exact bodyPost_ret (v := .tuple #[.int .i32 b, .int .i32 (mk nm), .int .i64 2]) (by simp [results, Tryd.results45, go_sem]) rfl ⟨rfl, below_of_drew HB1.out⟩

set_option maxHeartbeats 2000000 in
theorem syllable_any (t : Int) (h0 : 0 ≤ t) (h1 : t ≤ 11171) (w : World) : Calls Tryd.prog 46 #[.int .i32 t] w fun e w' => e = .returned (.tuple #[.int .i32 (sylA t), .int .i32 (sylB t)]) ∧ w = w' := by
  have q1 := Int.emod_nonneg t (b := 28) (by omega)
  have q2 := Int.emod_lt_of_pos t (b := 28) (by omega)
  by_cases hz : t % 28 = 0
  · have ha : sylA t = 4352 + t / 588 := by unfold sylA; rw [if_pos hz]
    have hb : sylB t = 4449 + t % 588 / 28 := by unfold sylB; rw [if_pos hz]
    rw [ha, hb]
    clear ha hb
    have hz' : (t % 28 == 0) = true := by simp [hz]
    have HZ := Lib.hid hz
    clear hz
    go_enter Tryd.func46, Tryd.ntmps46
    go_wp2
    go_ret2
    exact ⟨rfl, rfl⟩
  · have ha : sylA t = 44032 + t - t % 28 := by unfold sylA; rw [if_neg hz]
    have hb : sylB t = 4519 + t % 28 := by unfold sylB; rw [if_neg hz]
    rw [ha, hb]
    clear ha hb
    have hz' : (t % 28 == 0) = false := by simp [hz]
    have HZ := Lib.hid hz
    clear hz
    go_enter Tryd.func46, Tryd.ntmps46
    go_wp2
    go_ret2
    exact ⟨rfl, rfl⟩
end Go.Proofs.YtochodombojamaaDoor.Ucd

/-
  CONTRACT OF Pair.
-/
namespace Go.Proofs.YtochodombojamaaDoor.Ucd
open Go.RowKit Utf

theorem latin_int (x : Int) (h0 : 0 ≤ x) (h1 : x ≤ 191) (w : World) (hL : Laid w) : Calls Tryd.prog 45 #[.int .i64 x] w (Ret w (.tuple #[.int .i32 (latT.getD x.toNat (0, 0, 0)).1, .int .i32 (latT.getD x.toNat (0, 0, 0)).2.1, .int .i64 (latT.getD x.toNat (0, 0, 0)).2.2])) := by
  have := latin_any x.toNat (by omega) w hL
  rwa [show ((x.toNat : Nat) : Int) = x from by omega] at this
theorem below_drewN {B : Nat} {u v : World} (h : Below B u v) (k : Nat) : Below B u (v.drewN k) := ⟨h.os, h.tape, h.output, h.size, h.block⟩
/-- three numbers told -/
def trip (p : Int × Int × Int) : Value := .tuple #[.int .i32 p.1, .int .i32 p.2.1, .int .i64 p.2.2]

set_option maxHeartbeats 4000000 in
theorem pair_a (r : Int) (w : World) (hL : Laid w) (h1 : 192 ≤ r) (h2 : r ≤ 383) : Calls Tryd.prog 37 #[.int .i32 r] w (Ret w (trip (pairF r))) := by
  have e : pairF r = latT.getD (r - 192).toNat (0, 0, 0) := by unfold pairF; rw [if_pos ⟨h1, h2⟩]
  rw [e]
  clear e
  have HL := Lib.hid hL
  have HC := Lib.hid (latin_int (r - 192) (by omega) (by omega) w hL)
  clear hL
  generalize latT.getD (r - 192).toNat (0, 0, 0) = q at HC
  obtain ⟨qa, qb, qn⟩ := q
  go_enter Tryd.func37, Tryd.ntmps37
  go_wp2_with (go_at_call 45; refine HC.out.mono ?_; rintro e w1 ⟨rfl, hb1⟩; have HB1 := Lib.hid hb1; clear hb1)
  exact bodyPost_ret (v := .tuple #[.int .i32 qa, .int .i32 qb, .int .i64 qn]) (by simp [results, Tryd.results37, go_sem]) rfl ⟨rfl, HB1.out⟩

set_option maxHeartbeats 4000000 in
theorem pair_b (r : Int) (w : World) (h1 : 44032 ≤ r) (h2 : r ≤ 55203) : Calls Tryd.prog 37 #[.int .i32 r] w (Ret w (trip (pairF r))) := by
  have e : pairF r = (sylA (r - 44032), sylB (r - 44032), 2) := by unfold pairF; rw [if_neg (by omega), if_pos ⟨h1, h2⟩]
  rw [e]
  clear e
  have HC := Lib.hid (syllable_any (r - 44032) (by omega) (by omega) w)
  generalize sylA (r - 44032) = qa at HC
  generalize sylB (r - 44032) = qb at HC
  go_enter Tryd.func37, Tryd.ntmps37
  go_wp2_with (go_at_call 46; refine HC.out.mono ?_; rintro e w1 ⟨rfl, rfl⟩)
  exact bodyPost_ret (v := .tuple #[.int .i32 qa, .int .i32 qb, .int .i64 2]) (by simp [results, Tryd.results37, go_sem]) rfl ⟨rfl, Below.refl _ _⟩

set_option maxHeartbeats 8000000 in
theorem pair_c (r : Int) (w : World) (hL : Laid w) (h : r < 192 ∨ (383 < r ∧ r < 44032) ∨ 55203 < r) : Calls Tryd.prog 37 #[.int .i32 r] w (Ret w (trip (lst listRows r))) := by
  obtain ⟨ty, fr, hB⟩ := hL.2.2.2.1
  have HB := Lib.hid hB
  clear hL hB
  rcases h with h | ⟨h, h'⟩ | h
  all_goals
    go_enter Tryd.func37, Tryd.ntmps37
    go_wp2_with (refine wpList_load_row rfl _ _ rfl 1 rfl _ _ _ _ HB.out Tryd.underlying72 rfl (by kernel_rfl) ?_)
    obtain ⟨arr, harr⟩ : ∃ arr, arr = (c3 listRows).toArray := ⟨_, rfl⟩
    rw [← harr]
    have HI := Lib.hid (show ∀ k : Nat, k < 31 → ∀ u : World, (Instr.index 72 (.agg arr) (.int .i64 k)).run Tryd.prog u = .ok (.agg (arr.extract (k * 3) (k * 3 + 3))) u from fun k hk u => run_index_row arr k Tryd.underlying72 Tryd.isAgg71 Tryd.sizeOf71 hk u)
    have HA := Lib.hid harr
    clear harr
    go_loopw [37] (fun i wr => ∃ k : Nat, k ≤ 31 ∧ i = .int .i64 k ∧ Hid (lst (listRows.drop k) r = lst listRows r ∧ Below w.heap.size w wr)) (fun i _ => 31 - (intOf i).toNat)
    case atStart => exact ⟨0, Nat.zero_le _, rfl, Lib.hid ⟨rfl, Below.refl _ _⟩⟩
    case round =>
      obtain ⟨k, hk, rfl, H⟩ := hrel
      by_cases hlt : k < 31
      · have hx : ∀ u : World, (Instr.index 72 (.agg arr) (.int .i64 k)).run Tryd.prog u = .ok (.agg #[.int .i32 (listRows[k]'hlt).1, .int .i32 (listRows[k]'hlt).2.1, .int .i32 (listRows[k]'hlt).2.2]) u := fun u => by
          rw [HI.out k hlt u, HA.out, c3_row listRows k hlt]
        have hd : lst (listRows.drop k) r = if r < (listRows[k]'hlt).1 then (0, 0, 0) else if r = (listRows[k]'hlt).1 then ((listRows[k]'hlt).2.1, (listRows[k]'hlt).2.2, if (listRows[k]'hlt).2.2 = 0 then 1 else 2) else lst (listRows.drop (k + 1)) r := by
          rw [List.drop_eq_getElem_cons hlt]; rfl
        generalize listRows[k]'hlt = row at hx hd
        obtain ⟨x, a, b⟩ := row
        dsimp only at hx hd
        have HD := Lib.hid hd
        have hw : Below w.heap.size w (wr.alloc (.cells #[.int .i32 x, .int .i32 a, .int .i32 b] 71)) := H.out.2.alloc H.out.2.size _
        have HW := Lib.hid hw
        clear hd hw
        by_cases c1 : r < x
        · go_wp2
          exact bodyPost_ret (v := .tuple #[.int .i32 0, .int .i32 0, .int .i64 0]) (by simp [results, Tryd.results37, go_sem]) rfl ⟨by rw [← H.out.1, HD.out, if_pos c1]; rfl, HW.out⟩
        by_cases c2 : r = x
        · subst c2
          by_cases c3 : b = 0
          · subst c3
            go_wp2
            exact bodyPost_ret (v := .tuple #[.int .i32 a, .int .i32 0, .int .i64 1]) (by simp [results, Tryd.results37, go_sem]) rfl ⟨by rw [← H.out.1, HD.out]; simp [trip], HW.out⟩
          · have c3' : (b == 0) = false := by simp [c3]
            have C3 := Lib.hid c3
            clear c3
            go_wp2
            go_quiet (fail)
            go_wp2
            exact bodyPost_ret (v := .tuple #[.int .i32 a, .int .i32 b, .int .i64 2]) (by simp [results, Tryd.results37, go_sem]) rfl ⟨by rw [← H.out.1, HD.out]; simp [trip, C3.out], below_drewN HW.out _⟩
        · have c2' : (r == x) = false := by simp [c2]
          have C2 := Lib.hid c2
          clear c2
          go_wp2
          go_roundw
          case rel => exact ⟨k + 1, by omega, by go_num, Lib.hid ⟨by rw [← H.out.1, HD.out, if_neg c1, if_neg C2.out], HW.out⟩⟩
          case measure => simp [intOf]; omega
      · go_wp2
        exact bodyPost_ret (v := .tuple #[.int .i32 0, .int .i32 0, .int .i64 0]) (by simp [results, Tryd.results37, go_sem]) rfl ⟨by rw [← H.out.1, List.drop_of_length_le (by show 31 ≤ k; omega)]; rfl, H.out.2⟩

theorem pair_any (r : Int) (w : World) (hL : Laid w) : Calls Tryd.prog 37 #[.int .i32 r] w (Ret w (trip (pairF r))) := by
  by_cases ha : 192 ≤ r ∧ r ≤ 383
  · exact pair_a r w hL ha.1 ha.2
  by_cases hb : 44032 ≤ r ∧ r ≤ 55203
  · exact pair_b r w hb.1 hb.2
  · have e : pairF r = lst listRows r := by unfold pairF; rw [if_neg ha, if_neg hb]
    rw [e]
    exact pair_c r w hL (by omega)
end Go.Proofs.YtochodombojamaaDoor.Ucd
