/-
  CONTRACT OF the document's Pair.
-/
import Derived.Test.YthpadpoomelhbaaDoorUcdRune
import Derived.Test.YthpadpoomelhbaaDoorUcdFew
namespace Go.Proofs.YthpadpoomelhbaaDoor.Ucd
open Go.RowKit Utf

/-- the last place of r, counted on from i; a if there is none -/
def lastIx : List Int → Int → Int → Int → Int
  | [], _, a, _ => a
  | c :: t, i, a, r => lastIx t (i + 1) (if c = r then i else a) r
theorem last_no : ∀ {l : List Int} {i a r : Int}, (∀ c ∈ l, c ≠ r) → lastIx l i a r = a := by
  intro l
  induction l with
  | nil => intro i a r _; rfl
  | cons c t ih => intro i a r h; rw [lastIx, if_neg (h c (by simp)), ih fun y hy => h y (by simp [hy])]
theorem last_lo : ∀ {l : List Int} {i a r : Int}, -1 ≤ a → 0 ≤ i → -1 ≤ lastIx l i a r := by
  intro l
  induction l with
  | nil => intro i a r h _; exact h
  | cons c t ih => intro i a r h hi; rw [lastIx]; exact ih (by split <;> omega) (by omega)
def rlat (r : Int) : Int × Int × Int := if 0 ≤ lastIx compT 0 (-1) r then (letT.getD (lastIx compT 0 (-1) r).toNat 0, markT.getD (lastIx compT 0 (-1) r).toNat 0, 2) else kfind fewT r
theorem comp_in : ∀ c ∈ compT, 192 ≤ c ∧ c ≤ 383 := by decide +kernel
theorem rlat_near : ∀ i < 192, rlat (192 + (i : Nat)) = pairF (192 + (i : Nat)) := by decide +kernel
theorem rlat_eq (r : Int) (h : ¬ (44032 ≤ r ∧ r ≤ 55203)) : rlat r = pairF r := by
  by_cases hr : 192 ≤ r ∧ r ≤ 383
  · have := rlat_near (r - 192).toNat (by omega)
    rwa [show 192 + (((r - 192).toNat : Nat) : Int) = r from by omega] at this
  · have e : lastIx compT 0 (-1) r = -1 := last_no fun c hc e => by have := comp_in c hc; omega
    rw [rlat, e, if_neg (by omega), few_lst, pairF, if_neg hr, if_neg h]
theorem syl_eq (s : Int) : (sylA s, sylB s, (2 : Int)) = if s % 28 = 0 then (4352 + s / 588, 4449 + s / 28 % 21, 2) else (44032 + (s / 588 * 21 + s / 28 % 21) * 28, 4519 + s % 28, 2) := by
  unfold sylA sylB
  by_cases hz : s % 28 = 0
  · simp only [if_pos hz, Prod.mk.injEq]
    exact ⟨trivial, by omega, trivial⟩
  · simp only [if_neg hz, Prod.mk.injEq]
    first | exact ⟨by omega, trivial, trivial⟩ | exact ⟨by omega, trivial⟩ | omega

set_option maxHeartbeats 4000000 in
theorem rpair_syl (r : Int) (w : World) (h1 : 44032 ≤ r) (h2 : r ≤ 55203) : Calls Tryd.prog 21 #[.int .i32 r] w (Ret w (trip (pairF r))) := by
  have e : pairF r = (sylA (r - 44032), sylB (r - 44032), 2) := by unfold pairF; rw [if_neg (by omega), if_pos ⟨h1, h2⟩]
  rw [e, syl_eq]
  clear e
  have hin : inB r 44032 55203 = true := decide_eq_true ⟨h1, h2⟩
  have q0 : 0 ≤ r - 44032 := by omega
  have q1 := Int.emod_nonneg (r - 44032) (b := 28) (by omega)
  have q2 := Int.emod_lt_of_pos (r - 44032) (b := 28) (by omega)
  have q3 : 0 ≤ (r - 44032) / 588 := by omega
  have q4 : (r - 44032) / 588 ≤ 18 := by omega
  have q5 : 0 ≤ (r - 44032) / 28 := by omega
  have q6 : 0 ≤ (r - 44032) / 28 % 21 := by omega
  have q7 : (r - 44032) / 28 % 21 ≤ 20 := by omega
  by_cases hz : (r - 44032) % 28 = 0
  · have hz' : ((r - 44032) % 28 == 0) = true := by simpa using hz
    rw [if_pos hz]
    clear hz
    go_enter Tryd.func21, Tryd.ntmps21
    go_wp2_with (go_at_call 31; refine (in_any _ _ _ _).mono ?_; rintro e w' ⟨rfl, rfl⟩)
    exact bodyPost_ret (v := .tuple #[.int .i32 (4352 + (r - 44032) / 588), .int .i32 (4449 + (r - 44032) / 28 % 21), .int .i64 2]) (by simp [results, Tryd.results21, go_sem]) rfl ⟨rfl, Below.refl _ _⟩
  · have hz' : ((r - 44032) % 28 == 0) = false := by simpa using hz
    rw [if_neg hz]
    clear hz
    go_enter Tryd.func21, Tryd.ntmps21
    go_wp2_with (go_at_call 31; refine (in_any _ _ _ _).mono ?_; rintro e w' ⟨rfl, rfl⟩)
    exact bodyPost_ret (v := .tuple #[.int .i32 (44032 + ((r - 44032) / 588 * 21 + (r - 44032) / 28 % 21) * 28), .int .i32 (4519 + (r - 44032) % 28), .int .i64 2]) (by simp [results, Tryd.results21, go_sem]) rfl ⟨rfl, Below.refl _ _⟩

set_option maxHeartbeats 8000000 in
theorem rpair_lat (r : Int) (w : World) (h : ¬ (44032 ≤ r ∧ r ≤ 55203)) : Calls Tryd.prog 21 #[.int .i32 r] w (Ret w (trip (rlat r))) := by
  have hin : inB r 44032 55203 = false := decide_eq_false h
  have HLO := Lib.hid (show -1 ≤ lastIx compT 0 (-1) r from last_lo (by omega) (by omega))
  have HRL := Lib.hid (show rlat r = if 0 ≤ lastIx compT 0 (-1) r then (letT.getD (lastIx compT 0 (-1) r).toNat 0, markT.getD (lastIx compT 0 (-1) r).toNat 0, 2) else kfind fewT r from rfl)
  have HS : Hid (compS.size = 322) := Lib.hid (by decide +kernel)
  have HT : Hid (runes compS compS.size 0 = compT) := Lib.hid compT_runes
  have HC := Lib.hid (composed_any w)
  clear h
  generalize compS = S at HS HT HC
  go_enter Tryd.func21, Tryd.ntmps21
  go_wp2_with (first | (go_at_call 31; refine (in_any _ _ _ _).mono ?_; rintro e w' ⟨rfl, rfl⟩) | (go_at_call 36; refine HC.out.mono ?_; rintro e w' ⟨rfl, rfl⟩))
  go_loopw [9, 10] (fun a i wr => ∃ (f pos k : Nat) (z : Int), a = .int .i64 z ∧ i = .int .i64 k ∧ wr = w.iter S pos ∧ Hid (S.size ≤ pos + f ∧ k ≤ pos ∧ lastIx (runes S f pos) k z r = lastIx compT 0 (-1) r)) (fun _ _ wr => S.size - wr.iterPos w.heap.size)
  case atStart => exact ⟨S.size, 0, 0, -1, rfl, rfl, rfl, Lib.hid ⟨by omega, by omega, by rw [HT.out]; rfl⟩⟩
  case round =>
    obtain ⟨f, pos, k, z, rfl, rfl, rfl, H⟩ := hrel
    have hBB := below_iter (Below.refl w.heap.size w) (Nat.le_refl _) S
    by_cases hlt : pos < S.size
    · have hn : ∀ ty, (Instr.next (.pointer (some ⟨w.heap.size, 0, none⟩)) true ty).run Tryd.prog (w.iter S pos) = .ok (.tuple #[.bool true, .int .i64 pos, .int .i32 (Utf8.decode S pos).1]) (w.iter S (pos + (Utf8.decode S pos).2)) := fun ty => run_next_any w S pos ty hlt
      obtain ⟨f', rfl, hr, hf'⟩ := runes_next S f pos hlt H.out.1
      have hp := decode_pos S pos hlt
      have hkb : k ≤ 1000000 := by have := H.out.2.1; have := HS.out; omega
      generalize (Utf8.decode S pos).1 = c at hn hr
      generalize (Utf8.decode S pos).2 = d at hn hr hf' hp
      have HR := Lib.hid hr; have HF := Lib.hid hf'; have HP := Lib.hid hp; have HLT := Lib.hid hlt
      clear hr hf' hBB hp hlt
      by_cases hk : (c : Int) = r
      · have hk' : ((c : Int) == r) = true := by rw [hk]; exact beq_self_eq_true _
        have HK := Lib.hid hk
        clear hk
        go_wp2
        go_roundw
        case rel => exact ⟨f', pos + d, k + 1, k, rfl, by go_num, rfl, Lib.hid ⟨HF.out, by have := H.out.2.1; have := HP.out; omega, by rw [← H.out.2.2, HR.out, lastIx, if_pos HK.out]; rfl⟩⟩
        case measure => have := HP.out; have := HLT.out; simp; omega
      · have hk' : ((c : Int) == r) = false := by simpa using hk
        have HK := Lib.hid hk
        clear hk
        go_wp2
        go_roundw
        case rel => exact ⟨f', pos + d, k + 1, z, rfl, by go_num, rfl, Lib.hid ⟨HF.out, by have := H.out.2.1; have := HP.out; omega, by rw [← H.out.2.2, HR.out, lastIx, if_neg HK.out]; rfl⟩⟩
        case measure => have := HP.out; have := HLT.out; simp; omega
    · have hn : ∀ ty, (Instr.next (.pointer (some ⟨w.heap.size, 0, none⟩)) true ty).run Tryd.prog (w.iter S pos) = .ok (.tuple #[.bool false]) (w.iter S pos) := fun ty => run_next_end w S pos ty hlt
      have HB := Lib.hid (hBB pos)
      have hz : z = lastIx compT 0 (-1) r := by rw [← H.out.2.2, runes_end S f pos hlt]; rfl
      rw [← hz] at HLO HRL
      clear hBB hlt hz
      by_cases hz0 : 0 ≤ z
      · have HR := Lib.hid (HRL.out.trans (if_pos hz0))
        obtain ⟨j, rfl⟩ : ∃ j : Nat, z = j := ⟨z.toNat, by omega⟩
        clear hz0
        go_wp2_with fail
        refine (letters_any _).mono ?_
        rintro e w' ⟨rfl, rfl⟩
        go_wp2_with fail
        refine (nth_any letS j _ (by decide +kernel)).mono ?_
        rintro e w2 ⟨rfl, hb2⟩
        have HB2 := Lib.hid (HB.out.trans (hb2.mono HB.out.size))
        clear hb2
        go_wp2_with fail
        refine (marked_any _).mono ?_
        rintro e w' ⟨rfl, rfl⟩
        go_wp2_with fail
        refine (nth_any markS j _ (by decide +kernel)).mono ?_
        rintro e w3 ⟨rfl, hb3⟩
        have HB3 := Lib.hid (HB2.out.trans (hb3.mono HB2.out.size))
        clear hb3
        rw [letT_runes, markT_runes]
        go_wp2_with fail
        exact bodyPost_ret (v := .tuple #[.int .i32 (letT.getD j 0), .int .i32 (markT.getD j 0), .int .i64 2]) (by simp [results, Tryd.results21, go_sem]) rfl ⟨by rw [HR.out]; rfl, HB3.out⟩
      · have HR := Lib.hid (HRL.out.trans (if_neg hz0))
        have hzn : z < 0 := by omega
        clear hz0
        generalize hq : kfind fewT r = q
        have HQ := Lib.hid hq
        obtain ⟨qa, qb, qn⟩ := q
        clear hq
        go_wp2_with fail
        refine (few_any r _).mono ?_
        rintro e w' ⟨rfl, rfl⟩
        rw [HQ.out]
        dsimp only [trip]
        go_wp2_with fail
        exact bodyPost_ret (v := .tuple #[.int .i32 qa, .int .i32 qb, .int .i64 qn]) (by simp [results, Tryd.results21, go_sem]) rfl ⟨by rw [HR.out, HQ.out]; rfl, HB.out⟩

theorem rpair_any (r : Int) (w : World) : Calls Tryd.prog 21 #[.int .i32 r] w (Ret w (trip (pairF r))) := by
  by_cases h : 44032 ≤ r ∧ r ≤ 55203
  · exact rpair_syl r w h.1 h.2
  · rw [← rlat_eq r h]; exact rpair_lat r w h
end Go.Proofs.YthpadpoomelhbaaDoor.Ucd
