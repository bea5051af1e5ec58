/-
  CONTRACTS OF shifted, foldAlone and Fold.
-/
import Derived.Test.YtochodombojamaaDoorUcdFull
import Derived.BigQuiet
import Derived.Deep.QuietTactic
namespace Go.Proofs.YtochodombojamaaDoor.Ucd
open Go.RowKit Utf

/-- the first row of shifts that r lies in, by its step -/
def shf : List (Int × Int × Int × Int) → Int → Int
  | [], r => r
  | x :: t, r => if x.1 ≤ r ∧ r ≤ x.2.1 ∧ (r - x.1) % x.2.2.1 = 0 then r + x.2.2.2 else shf t r
def foldA (r : Int) : Int := if r = 215 then r else if r = 930 then r else if r = 181 then 956 else if r = 376 then 255 else if r = 383 then 115 else if r = 837 then 953 else if r = 902 then 940 else if r = 962 then 963 else if r = 8486 then 969 else if r = 8490 then 107 else if r = 8491 then 229 else shf shRows r
def foldF (r : Int) : List Int := if r = 223 ∨ r = 7838 then [115, 115] else if r = 304 then [105, 775] else [foldA r]
theorem sh_bd : ∀ x ∈ shRows, 0 ≤ x.1 ∧ x.2.1 ≤ 8000 ∧ 1 ≤ x.2.2.1 ∧ x.2.2.1 ≤ 2 ∧ 0 ≤ x.2.2.2 ∧ x.2.2.2 ≤ 80 := by decide +kernel

/-- a slice that the call made, and what it reads as -/
def New (w : World) (xs : List Int) (e : Ending) (w' : World) : Prop := ∃ A c, e = .returned (.slice A xs.length c) ∧ xs.length ≤ c ∧ c ≤ 9223372036854775807 ∧ Rd w' w'.heap.size A (nums xs) ∧ Below w.heap.size w w'
theorem own_form {w : World} {base : Nat} {e : TypeId} {size n : Nat} {v : Value} {xs : List Value} (h : w.ownsRow base e size v n xs) : ∃ A c, v = .slice A n c ∧ n ≤ c ∧ c ≤ 9223372036854775807 ∧ Rd w w.heap.size A xs := by
  have h2 := h.2
  rcases h2 with ⟨rfl, rfl⟩ | ⟨g, cap, cur, rfl, _, _, h1, h2, _⟩
  · exact ⟨none, 0, rfl, Nat.le_refl _, by omega, Rd.of_own h⟩
  · exact ⟨_, cap, rfl, h1, h2, Rd.of_own h⟩
theorem Mine.new {w : World} {xs : List Int} {e : Ending} {w' : World} (h : Mine w.heap.size w xs e w') : New w xs e w' := by
  obtain ⟨v, rfl, hown, hb⟩ := h
  obtain ⟨A, c, rfl, h1, h2, h3⟩ := own_form hown
  exact ⟨A, c, rfl, h1, h2, h3, hb⟩
theorem new_made (w u : World) (hb : Below w.heap.size w u) (xs : List Int) (n : Nat) (hn : xs.length = n) (h : n ≤ 100) : New w xs (.returned (.slice (some ⟨u.heap.size, 0, none⟩) n n)) (u.alloc (.cells (nums xs).toArray 21)) := by
  subst hn
  exact ⟨_, _, rfl, Nat.le_refl _, by omega, (rd_new u _ (nums xs) _ rfl).more (by simp), hb.alloc hb.size _⟩

end Go.Proofs.YtochodombojamaaDoor.Ucd

/-
  CONTRACTS OF SameRunes and of both Named.
-/
namespace Go.Proofs.YtochodombojamaaDoor.Ucd
open Go.RowKit Utf

def nmGo : List UInt8 → Int → List UInt8 → Int × Bool
  | [], _, _ => (0, false)
  | c :: t, i, l => if (l == [c]) = true then (i + 1, true) else nmGo t (i + 1) l
/-- the category that a text names -/
def nmF (l : List UInt8) : Int × Bool := nmGo [76, 77, 78, 80, 83, 90, 67] 0 l

def allL : List UInt8 := [76, 77, 78, 80, 83, 90, 67]
def same (a b : List Int) : Bool := decide (a = b)
theorem take_succ_eq {a b : List Int} {k : Nat} (ha : k < a.length) (hb : k < b.length) (h : a.take k = b.take k) (e : a[k] = b[k]) : a.take (k + 1) = b.take (k + 1) := by
  rw [List.take_succ_eq_append_getElem ha, List.take_succ_eq_append_getElem hb, h, e]
set_option maxHeartbeats 2000000 in
theorem same_any (A B : Option Addr) (a b : List Int) (n m c d : Nat) (w : World) (ha : Rd w w.heap.size A (nums a)) (hb : Rd w w.heap.size B (nums b)) (hn : a.length = n) (hm : b.length = m) (hn1 : n ≤ 1099511627776) (hm1 : m ≤ 1099511627776) :
    Calls Tryd.prog 11 #[.slice A n c, .slice B m d] w fun e w' => e = .returned (.bool (same a b)) ∧ ∃ k, w' = w.drewN k := by
  suffices H : Calls Tryd.prog 11 #[.slice A n c, .slice B m d] w (fun e w' => Hid (e = .returned (.bool (same a b)) ∧ ∃ k, w' = w.drewN k)) from H.mono fun e w' h => h.out
  by_cases hnm : n = m
  · subst hnm
    have HN := Lib.hid hn; have HM := Lib.hid hm
    clear hn hm
    go_enter Tryd.func11, Tryd.ntmps11
    go_wp2
    go_loopw [5] (fun i wr => ∃ k j : Nat, k ≤ n ∧ i = .int .i64 k ∧ Hid (a.take k = b.take k) ∧ Hid (wr = w.drewN j)) (fun i _ => n - (intOf i).toNat)
    case atStart => exact ⟨0, 0, Nat.zero_le _, rfl, Lib.hid rfl, Lib.hid rfl⟩
    case round =>
      obtain ⟨k, j, hk, rfl, HT, HJ⟩ := hrel
      by_cases hlt : k < n
      · have hka : k < a.length := by rw [HN.out]; exact hlt
        have hkb : k < b.length := by rw [HM.out]; exact hlt
        obtain ⟨ba, oa, rfl, _⟩ := ha.form (by rw [nums_len]; omega)
        obtain ⟨bb, ob, rfl, _⟩ := hb.form (by rw [nums_len]; omega)
        have hwr : ∀ p : Addr, wr.cell? p = w.cell? p := fun p => by rw [HJ.out]; rfl
        have a1 := ha.num hka
        have b1 := hb.num hkb
        rw [← hwr] at a1 b1
        have HTS := Lib.hid (take_succ_eq hka hkb HT.out)
        have HNE := Lib.hid (show a[k] ≠ b[k] → same a b = false from fun h => by unfold same; rw [decide_eq_false]; rintro rfl; exact h rfl)
        obtain ⟨x, hx⟩ : ∃ x, x = a[k] := ⟨_, rfl⟩
        obtain ⟨y, hy⟩ : ∃ y, y = b[k] := ⟨_, rfl⟩
        rw [← hx] at a1 HTS HNE
        rw [← hy] at b1 HTS HNE
        clear hx hy hwr HT
        by_cases hxy : x = y
        · subst hxy
          go_wp2_with fail
          go_quiet (fail)
          go_wp2
          go_roundw
          case rel => exact ⟨k + 1, _, by omega, by go_num, Lib.hid (HTS.out trivial), Lib.hid (by rw [HJ.out, World.drewN_drewN])⟩
          case measure => simp [intOf]; omega
        · have hne : (x != y) = true := by simpa using hxy
          have HF := Lib.hid (HNE.out hxy)
          clear hxy
          go_wp2_with fail
          go_quiet (fail)
          go_wp2
          go_ret
          exact Lib.hid ⟨by rw [HF.out]; rfl, _, by rw [HJ.out, World.drewN_drewN]⟩
      · have hkn : k = n := by omega
        have HF := Lib.hid (show same a b = true by
          have := HT.out
          rw [List.take_of_length_le (by have := HN.out; omega), List.take_of_length_le (by have := HM.out; omega)] at this
          unfold same; exact decide_eq_true this)
        clear hkn
        go_wp2
        go_ret
        exact Lib.hid ⟨by rw [HF.out]; rfl, _, HJ.out⟩
  · have hs : same a b = false := by unfold same; rw [decide_eq_false]; rintro rfl; exact hnm (hn.symm.trans hm)
    have HS := Lib.hid hs
    have hne : ((n : Int) == (m : Int)) = false := by simp; omega
    have hne2 : ((n : Int) != (m : Int)) = true := by simp; omega
    clear hs hn hm hnm
    go_enter Tryd.func11, Tryd.ntmps11
    go_wp2
    go_ret
    exact Lib.hid ⟨by rw [HS.out]; rfl, 0, rfl⟩
end Go.Proofs.YtochodombojamaaDoor.Ucd

/-
  CONTRACT OF fixed: the chapter's examples come out true, wherever the tables are laid.
-/
namespace Go.Proofs.YtochodombojamaaDoor.Ucd
open Go.RowKit Utf

/-- a slice of n numbers, told and read -/
def Told (w : World) (l : List Int) (n : Nat) (e : Ending) (w' : World) : Prop := ∃ A c, e = .returned (.slice A n c) ∧ Rd w' w'.heap.size A (nums l) ∧ Below w.heap.size w w'
theorem New.told {w : World} {xs l : List Int} {n : Nat} {e : Ending} {w' : World} (h : New w xs e w') (he : xs = l) (hn : l.length = n) : Told w l n e w' := by
  subst he; subst hn
  obtain ⟨A, c, rfl, _, _, h3, hb⟩ := h
  exact ⟨A, c, rfl, h3, hb⟩
theorem dec_at (r : Int) (l : List Int) (n : Nat) (he : fullF r = l) (hn : l.length = n) (w : World) (hL : Laid w) : Calls Tryd.prog 20 #[.int .i32 r] w (Told w l n) :=
  (decompose_any r w hL).mono fun _ _ h => h.new.told he hn
theorem same_at (A B : Option Addr) (l : List Int) (n c d : Nat) (w : World) (ha : Rd w w.heap.size A (nums l)) (hb : Rd w w.heap.size B (nums l)) (hn : l.length = n) (hn1 : n ≤ 1000) :
    Calls Tryd.prog 11 #[.slice A n c, .slice B n d] w fun e w' => e = .returned (.bool true) ∧ ∃ k, w' = w.drewN k :=
  (same_any A B l l n n c d w ha hb hn hn (by omega) (by omega)).mono fun e w' h => ⟨by rw [h.1]; unfold same; rw [decide_eq_true rfl], h.2⟩
theorem class_at (r v : Int) (hv : cls r = v) (w : World) (hL : Laid w) : Calls Tryd.prog 31 #[.int .i32 r] w (Ret w (.int .i64 v)) := hv ▸ class_any r w hL
theorem pair_at (r a b n : Int) (hv : pairF r = (a, b, n)) (w : World) (hL : Laid w) : Calls Tryd.prog 37 #[.int .i32 r] w (Ret w (.tuple #[.int .i32 a, .int .i32 b, .int .i64 n])) := by
  have := pair_any r w hL
  rw [hv] at this
  exact this

end Go.Proofs.YtochodombojamaaDoor.Ucd

/-
  PLAIN MATHEMATICS OF FULL DECOMPOSITIONS: nothing in one decomposes, nothing behind its first opens; what a syllable's is.
-/
namespace Go.Proofs.YtochodombojamaaDoor.Ucd
open Go.RowKit Utf

def okB (r : Int) : Bool := decide (1 ≤ (fullF r).length) && decide ((fullF r).length ≤ 3) && (fullF r).all (fun x => (pairF x).2.2 == 0) && (fullF r).tail.all (fun x => !opn x) && (opn ((fullF r).headD 0) == opn r)
theorem fst_plain {r : Int} (h : plainB r = true) : fullF r = [r] := full_plain 3 h
theorem opn_plain {r : Int} (h : plainB r = true) : opn r = (cls r == 0 && !trl r) := by rw [opn, fstF, fst_plain h]; rfl
theorem vowel_shut : ∀ i < 21, opn (4449 + (i : Nat)) = false := by decide +kernel
theorem tail_shut : ∀ i < 28, 0 < i → opn (4519 + (i : Nat)) = false := by decide +kernel
theorem lead_opens : ∀ i < 19, opn (4352 + (i : Nat)) = true := by decide +kernel
theorem shut_vowel {x : Int} (h : 4449 ≤ x) (h' : x ≤ 4469) : opn x = false := by
  have := vowel_shut (x - 4449).toNat (by omega); rwa [show 4449 + (((x - 4449).toNat : Nat) : Int) = x from by omega] at this
theorem shut_tail {x : Int} (h : 4520 ≤ x) (h' : x ≤ 4546) : opn x = false := by
  have := tail_shut (x - 4519).toNat (by omega) (by omega); rwa [show 4519 + (((x - 4519).toNat : Nat) : Int) = x from by omega] at this
theorem opens_lead {x : Int} (h : 4352 ≤ x) (h' : x ≤ 4370) : opn x = true := by
  have := lead_opens (x - 4352).toNat (by omega); rwa [show 4352 + (((x - 4352).toNat : Nat) : Int) = x from by omega] at this
theorem full_syl {s : Int} (h0 : 0 ≤ s) (h1 : s ≤ 11171) : fullF (44032 + s) = if s % 28 = 0 then [4352 + s / 588, 4449 + s % 588 / 28] else [4352 + s / 588, 4449 + s % 588 / 28, 4519 + s % 28] := by
  by_cases hz : s % 28 = 0
  · rw [if_pos hz]; exact full_open 2 h0 h1 hz
  · rw [if_neg hz]; exact full_closed 1 h0 h1 hz
theorem opn_syl {s : Int} (h0 : 0 ≤ s) (h1 : s ≤ 11171) : opn (44032 + s) = true := by
  have hl := opens_lead (x := 4352 + s / 588) (by omega) (by omega)
  have hp := plain_lead (x := 4352 + s / 588) (by omega) (by omega)
  have e : fstF (44032 + s) = 4352 + s / 588 := by
    rw [fstF, full_syl h0 h1]
    split <;> rfl
  have e2 : fstF (4352 + s / 588) = 4352 + s / 588 := by rw [fstF, fst_plain hp]; rfl
  rw [opn, e]
  rw [opn, e2] at hl
  exact hl
theorem bottom (r : Int) : okB r = true := by
  refine kinds (fun r => okB r = true) (fun r h => ?_) (by decide +kernel) (fun s h0 h1 => ?_) (by decide +kernel) r
  · unfold okB
    rw [fst_plain h]
    simp [plain_pair h]
  · have a1 := plain_lead (x := 4352 + s / 588) (by omega) (by omega)
    have a2 := plain_vowel (x := 4449 + s % 588 / 28) (by omega) (by omega)
    have b1 := opens_lead (x := 4352 + s / 588) (by omega) (by omega)
    have b2 := shut_vowel (x := 4449 + s % 588 / 28) (by omega) (by omega)
    unfold okB
    rw [opn_syl h0 h1, full_syl h0 h1]
    by_cases hz : s % 28 = 0
    · rw [if_pos hz]
      simp [plain_pair a1, plain_pair a2, b1, b2]
    · rw [if_neg hz]
      have a3 := plain_tail (x := 4519 + s % 28) (by omega) (by omega)
      have b3 := shut_tail (x := 4519 + s % 28) (by omega) (by omega)
      simp [plain_pair a1, plain_pair a2, plain_pair a3, b1, b2, b3]
theorem bottom_parts (r : Int) : 1 ≤ (fullF r).length ∧ (fullF r).length ≤ 3 ∧ (∀ x ∈ fullF r, (pairF x).2.2 = 0) ∧ (∀ x ∈ (fullF r).tail, opn x = false) ∧ opn ((fullF r).headD 0) = opn r := by
  have h := bottom r
  simp only [okB, Bool.and_eq_true, decide_eq_true_eq, List.all_eq_true, beq_iff_eq, Bool.not_eq_true'] at h
  obtain ⟨⟨⟨⟨h1, h2⟩, h3⟩, h4⟩, h5⟩ := h
  exact ⟨h1, h2, h3, h4, h5⟩
/-- the tables, as one thing -/
structure Tabs (w : World) : Prop where
  out : Laid w
end Go.Proofs.YtochodombojamaaDoor.Ucd
