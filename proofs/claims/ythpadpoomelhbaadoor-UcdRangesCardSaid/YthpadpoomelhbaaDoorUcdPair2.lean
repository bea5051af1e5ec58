/-
  CONTRACT OF Pair.
-/
import Derived.Test.YthpadpoomelhbaaDoorUcdPair
namespace Go.Proofs.YthpadpoomelhbaaDoor.Ucd
open Go.RowKit Utf

theorem latin_int (x : Int) (h0 : 0 ≤ x) (h1 : x ≤ 191) (w : World) (hL : Laid w) : Calls Tryd.prog 34 #[.int .i64 x] w (Ret w (.tuple #[.int .i32 (latT.getD x.toNat (0, 0, 0)).1, .int .i32 (latT.getD x.toNat (0, 0, 0)).2.1, .int .i64 (latT.getD x.toNat (0, 0, 0)).2.2])) := by
  have := latin_any x.toNat (by omega) w hL
  rwa [show ((x.toNat : Nat) : Int) = x from by omega] at this
theorem below_drewN {B : Nat} {u v : World} (h : Below B u v) (k : Nat) : Below B u (v.drewN k) := ⟨h.os, h.tape, h.output, h.size, h.block⟩
/-- three numbers told -/
def trip (p : Int × Int × Int) : Value := .tuple #[.int .i32 p.1, .int .i32 p.2.1, .int .i64 p.2.2]

set_option maxHeartbeats 4000000 in
theorem pair_a (r : Int) (w : World) (hL : Laid w) (h1 : 192 ≤ r) (h2 : r ≤ 383) : Calls Tryd.prog 20 #[.int .i32 r] w (Ret w (trip (pairF r))) := by
  have e : pairF r = latT.getD (r - 192).toNat (0, 0, 0) := by unfold pairF; rw [if_pos ⟨h1, h2⟩]
  rw [e]
  clear e
  have HL := Lib.hid hL
  have HC := Lib.hid (latin_int (r - 192) (by omega) (by omega) w hL)
  clear hL
  generalize latT.getD (r - 192).toNat (0, 0, 0) = q at HC
  obtain ⟨qa, qb, qn⟩ := q
  go_enter Tryd.func20, Tryd.ntmps20
  go_wp2_with (go_at_call 34; refine HC.out.mono ?_; rintro e w1 ⟨rfl, hb1⟩; have HB1 := Lib.hid hb1; clear hb1)
  exact bodyPost_ret (v := .tuple #[.int .i32 qa, .int .i32 qb, .int .i64 qn]) (by simp [results, Tryd.results20, go_sem]) rfl ⟨rfl, HB1.out⟩

set_option maxHeartbeats 4000000 in
theorem pair_b (r : Int) (w : World) (h1 : 44032 ≤ r) (h2 : r ≤ 55203) : Calls Tryd.prog 20 #[.int .i32 r] w (Ret w (trip (pairF r))) := by
  have e : pairF r = (sylA (r - 44032), sylB (r - 44032), 2) := by unfold pairF; rw [if_neg (by omega), if_pos ⟨h1, h2⟩]
  rw [e]
  clear e
  have HC := Lib.hid (syllable_any (r - 44032) (by omega) (by omega) w)
  generalize sylA (r - 44032) = qa at HC
  generalize sylB (r - 44032) = qb at HC
  go_enter Tryd.func20, Tryd.ntmps20
  go_wp2_with (go_at_call 35; refine HC.out.mono ?_; rintro e w1 ⟨rfl, rfl⟩)
  exact bodyPost_ret (v := .tuple #[.int .i32 qa, .int .i32 qb, .int .i64 2]) (by simp [results, Tryd.results20, go_sem]) rfl ⟨rfl, Below.refl _ _⟩

set_option maxHeartbeats 8000000 in
theorem pair_c (r : Int) (w : World) (hL : Laid w) (h : r < 192 ∨ (383 < r ∧ r < 44032) ∨ 55203 < r) : Calls Tryd.prog 20 #[.int .i32 r] w (Ret w (trip (lst listRows r))) := by
  obtain ⟨ty, fr, hB⟩ := hL.2.2.2.1
  have HB := Lib.hid hB
  clear hL hB
  rcases h with h | ⟨h, h'⟩ | h
  all_goals
    go_enter Tryd.func20, Tryd.ntmps20
    go_wp2_with (refine wpList_load_row rfl _ _ rfl 1 rfl _ _ _ _ HB.out Tryd.underlying53 rfl (by kernel_rfl) ?_)
    obtain ⟨arr, harr⟩ : ∃ arr, arr = (c3 listRows).toArray := ⟨_, rfl⟩
    rw [← harr]
    have HI := Lib.hid (show ∀ k : Nat, k < 31 → ∀ u : World, (Instr.index 53 (.agg arr) (.int .i64 k)).run Tryd.prog u = .ok (.agg (arr.extract (k * 3) (k * 3 + 3))) u from fun k hk u => run_index_row arr k Tryd.underlying53 Tryd.isAgg52 Tryd.sizeOf52 hk u)
    have HA := Lib.hid harr
    clear harr
    go_loopw [37] (fun i wr => ∃ k : Nat, k ≤ 31 ∧ i = .int .i64 k ∧ Hid (lst (listRows.drop k) r = lst listRows r ∧ Below w.heap.size w wr)) (fun i _ => 31 - (intOf i).toNat)
    case atStart => exact ⟨0, Nat.zero_le _, rfl, Lib.hid ⟨rfl, Below.refl _ _⟩⟩
    case round =>
      obtain ⟨k, hk, rfl, H⟩ := hrel
      by_cases hlt : k < 31
      · have hx : ∀ u : World, (Instr.index 53 (.agg arr) (.int .i64 k)).run Tryd.prog u = .ok (.agg #[.int .i32 (listRows[k]'hlt).1, .int .i32 (listRows[k]'hlt).2.1, .int .i32 (listRows[k]'hlt).2.2]) u := fun u => by
          rw [HI.out k hlt u, HA.out, c3_row listRows k hlt]
        have hd : lst (listRows.drop k) r = if r < (listRows[k]'hlt).1 then (0, 0, 0) else if r = (listRows[k]'hlt).1 then ((listRows[k]'hlt).2.1, (listRows[k]'hlt).2.2, if (listRows[k]'hlt).2.2 = 0 then 1 else 2) else lst (listRows.drop (k + 1)) r := by
          rw [List.drop_eq_getElem_cons hlt]; rfl
        generalize listRows[k]'hlt = row at hx hd
        obtain ⟨x, a, b⟩ := row
        dsimp only at hx hd
        have HD := Lib.hid hd
        have hw : Below w.heap.size w (wr.alloc (.cells #[.int .i32 x, .int .i32 a, .int .i32 b] 52)) := H.out.2.alloc H.out.2.size _
        have HW := Lib.hid hw
        clear hd hw
        by_cases c1 : r < x
        · go_wp2
          exact bodyPost_ret (v := .tuple #[.int .i32 0, .int .i32 0, .int .i64 0]) (by simp [results, Tryd.results20, go_sem]) rfl ⟨by rw [← H.out.1, HD.out, if_pos c1]; rfl, HW.out⟩
        by_cases c2 : r = x
        · subst c2
          by_cases c3 : b = 0
          · subst c3
            go_wp2
            exact bodyPost_ret (v := .tuple #[.int .i32 a, .int .i32 0, .int .i64 1]) (by simp [results, Tryd.results20, go_sem]) rfl ⟨by rw [← H.out.1, HD.out]; simp [trip], HW.out⟩
          · have c3' : (b == 0) = false := by simp [c3]
            have C3 := Lib.hid c3
            clear c3
            go_wp2
            go_quiet (fail)
            go_wp2
            exact bodyPost_ret (v := .tuple #[.int .i32 a, .int .i32 b, .int .i64 2]) (by simp [results, Tryd.results20, go_sem]) rfl ⟨by rw [← H.out.1, HD.out]; simp [trip, C3.out], below_drewN HW.out _⟩
        · have c2' : (r == x) = false := by simp [c2]
          have C2 := Lib.hid c2
          clear c2
          go_wp2
          go_roundw
          case rel => exact ⟨k + 1, by omega, by go_num, Lib.hid ⟨by rw [← H.out.1, HD.out, if_neg c1, if_neg C2.out], HW.out⟩⟩
          case measure => simp [intOf]; omega
      · go_wp2
        exact bodyPost_ret (v := .tuple #[.int .i32 0, .int .i32 0, .int .i64 0]) (by simp [results, Tryd.results20, go_sem]) rfl ⟨by rw [← H.out.1, List.drop_of_length_le (by show 31 ≤ k; omega)]; rfl, H.out.2⟩

theorem pair_any (r : Int) (w : World) (hL : Laid w) : Calls Tryd.prog 20 #[.int .i32 r] w (Ret w (trip (pairF r))) := by
  by_cases ha : 192 ≤ r ∧ r ≤ 383
  · exact pair_a r w hL ha.1 ha.2
  by_cases hb : 44032 ≤ r ∧ r ≤ 55203
  · exact pair_b r w hb.1 hb.2
  · have e : pairF r = lst listRows r := by unfold pairF; rw [if_neg ha, if_neg hb]
    rw [e]
    exact pair_c r w hL (by omega)
end Go.Proofs.YthpadpoomelhbaaDoor.Ucd
