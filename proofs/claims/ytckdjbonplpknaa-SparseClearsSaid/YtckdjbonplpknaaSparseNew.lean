/-
  CONTRACTS OF New, takes, OF EACH KIND.
-/
import Derived.Test.YtckdjbonplpknaaSparseWords
namespace Go.Proofs.Ytckdjbonplpknaa.Sparse
open Go.RowKit Mem
set_option maxRecDepth 100000

set_option maxHeartbeats 2000000 in
theorem new_uint8 (n : Int) (w : World) (h1 : -9223372036854775808 ≤ n) (h2 : n ≤ 9223372036854775807) : Calls Try.prog 11 #[.int .i64 n] w (Made 64 5 .u8 w n) := by
  obtain ⟨i0, hi, hz0, hz1, hz2⟩ := info_parts infoU16
  obtain ⟨N, hN⟩ : ∃ N, N = room n := ⟨_, rfl⟩
  have hsm : N ≤ 65536 := hN ▸ room_le n
  obtain ⟨z, hz⟩ : ∃ z : Int, z = (N : Int) := ⟨_, rfl⟩
  have hmk : (Instr.makeSlice 48 (.int .i64 z) (.int .i64 z)).run Try.prog w = .ok (.slice (some ⟨w.heap.size, 0, none⟩) N N) (w.alloc (.cells (ks .u16 (List.replicate N 0)).toArray 38)) := by
    have h := run_make (P := Try.prog) w 48 38 i0 (.int .u16 0) Try.underlying48 hi hz0 .i64 .i64 z z (by omega) (by omega) (by rw [hz2]; omega) (by omega)
    rw [show z.toNat = N from by omega, hz1, Nat.mul_one] at h
    rw [h]
    show Result.ok _ (w.alloc (.cells (madeCells #[Value.int .u16 0] N) _)) = _
    rw [made_u16]
  suffices H : Calls Try.prog 11 #[.int .i64 n] w fun e w' => e = .returned (.pointer (some ⟨w.heap.size + 1, 0, none⟩)) ∧ w' = (w.alloc (.cells (ks .u16 (List.replicate N 0)).toArray 38)).alloc (.cells #[.slice none 0 0, .slice (some ⟨w.heap.size, 0, none⟩) N N] 64) from by
    refine H.mono ?_
    rintro e w' ⟨rfl, rfl⟩
    have hb : Below w.heap.size w ((w.alloc (.cells (ks .u16 (List.replicate N 0)).toArray 38)).alloc (.cells #[.slice none 0 0, .slice (some ⟨w.heap.size, 0, none⟩) N N] 64)) := ((Below.refl _ _).alloc (Nat.le_refl _) _).alloc (by simp) _
    have hB := Blk.new (w.alloc (.cells (ks .u16 (List.replicate N 0)).toArray 38)) 64 [.slice none 0 0, .slice (some ⟨w.heap.size, 0, none⟩) N N]
    have hs : (w.alloc (.cells (ks .u16 (List.replicate N 0)).toArray 38)).heap.size = w.heap.size + 1 := by simp
    rw [hs] at hB
    refine ⟨w.heap.size + 1, w.heap.size, rfl, ⟨?_, World.ownsRow_nil _ _ _ _, by omega, Nat.le_refl _, room_le n, ⟨List.replicate N 0, (Blk.new w 38 _).alloc _, by rw [List.length_replicate, hN], fun x hx => by have := (List.mem_replicate.1 hx).2; omega, fun i h => by simp at h⟩, by simp [Value.ownBlock], by simp [Value.ownBlock], by omega, List.nodup_nil, fun x hx => by simp at hx⟩, hb⟩
    rw [← hN]; exact hB
  by_cases c1 : n < 0
  · have e1 := room_neg c1
    have e2 : z = 0 := by omega
    subst e2
    clear hN hsm hi hz0 hz1 hz2 hz e1
    go_enter Try.func11, Try.ntmps11
    go_wp2
    go_ret
    exact ⟨rfl, rfl⟩
  · by_cases c2 : (65536 : Int) < n
    · have e1 := room_big c2
      have e2 : z = 65536 := by omega
      subst e2
      clear hN hsm hi hz0 hz1 hz2 hz e1
      go_enter Try.func11, Try.ntmps11
      go_wp2
      go_ret
      exact ⟨rfl, rfl⟩
    · have e1 := room_mid c1 c2
      have e2 : z = n := by omega
      subst e2
      clear hN hsm hi hz0 hz1 hz2 hz e1
      go_enter Try.func11, Try.ntmps11
      go_wp2
      go_ret
      exact ⟨rfl, rfl⟩

set_option maxHeartbeats 2000000 in
theorem takes_uint8 (x : Int) (g p N : Nat) (v : Value) (w : World) (h : Blk w g 64 [v, .slice (some ⟨p, 0, none⟩) N N]) (hl : 0 ≤ x) (hh : x ≤ 255) :
    Calls Try.prog 34 #[.pointer (some ⟨g, 0, none⟩), .int .u8 x] w (Tells w (.bool (decide (0 ≤ x ∧ x < N)))) := by
  have c1 := h.cell 1
  simp only [List.getElem?_cons_succ, List.getElem?_cons_zero] at c1
  have ew : IntKind.i64.wrap x = x := IntWalk.i64_in _ (by omega)
  clear h
  by_cases c2 : 0 ≤ x
  · have d2 : decide ((0 : Int) ≤ x) = true := decide_eq_true c2
    by_cases c3 : x < N
    · have d3 : decide (x < (N : Int)) = true := decide_eq_true c3
      rw [decide_eq_true (p := 0 ≤ x ∧ x < N) ⟨c2, c3⟩]
      go_enter Try.func34, Try.ntmps34
      go_wp2
      go_ret
      exact ⟨rfl, rfl⟩
    · have d3 : decide (x < (N : Int)) = false := decide_eq_false c3
      rw [decide_eq_false (p := 0 ≤ x ∧ x < N) fun k => c3 k.2]
      go_enter Try.func34, Try.ntmps34
      go_wp2
      go_ret
      exact ⟨rfl, rfl⟩
  · omega

set_option maxHeartbeats 2000000 in
theorem new_uint16 (n : Int) (w : World) (h1 : -9223372036854775808 ≤ n) (h2 : n ≤ 9223372036854775807) : Calls Try.prog 12 #[.int .i64 n] w (Made 66 38 .u16 w n) := by
  obtain ⟨i0, hi, hz0, hz1, hz2⟩ := info_parts infoU16
  obtain ⟨N, hN⟩ : ∃ N, N = room n := ⟨_, rfl⟩
  have hsm : N ≤ 65536 := hN ▸ room_le n
  obtain ⟨z, hz⟩ : ∃ z : Int, z = (N : Int) := ⟨_, rfl⟩
  have hmk : (Instr.makeSlice 48 (.int .i64 z) (.int .i64 z)).run Try.prog w = .ok (.slice (some ⟨w.heap.size, 0, none⟩) N N) (w.alloc (.cells (ks .u16 (List.replicate N 0)).toArray 38)) := by
    have h := run_make (P := Try.prog) w 48 38 i0 (.int .u16 0) Try.underlying48 hi hz0 .i64 .i64 z z (by omega) (by omega) (by rw [hz2]; omega) (by omega)
    rw [show z.toNat = N from by omega, hz1, Nat.mul_one] at h
    rw [h]
    show Result.ok _ (w.alloc (.cells (madeCells #[Value.int .u16 0] N) _)) = _
    rw [made_u16]
  suffices H : Calls Try.prog 12 #[.int .i64 n] w fun e w' => e = .returned (.pointer (some ⟨w.heap.size + 1, 0, none⟩)) ∧ w' = (w.alloc (.cells (ks .u16 (List.replicate N 0)).toArray 38)).alloc (.cells #[.slice none 0 0, .slice (some ⟨w.heap.size, 0, none⟩) N N] 66) from by
    refine H.mono ?_
    rintro e w' ⟨rfl, rfl⟩
    have hb : Below w.heap.size w ((w.alloc (.cells (ks .u16 (List.replicate N 0)).toArray 38)).alloc (.cells #[.slice none 0 0, .slice (some ⟨w.heap.size, 0, none⟩) N N] 66)) := ((Below.refl _ _).alloc (Nat.le_refl _) _).alloc (by simp) _
    have hB := Blk.new (w.alloc (.cells (ks .u16 (List.replicate N 0)).toArray 38)) 66 [.slice none 0 0, .slice (some ⟨w.heap.size, 0, none⟩) N N]
    have hs : (w.alloc (.cells (ks .u16 (List.replicate N 0)).toArray 38)).heap.size = w.heap.size + 1 := by simp
    rw [hs] at hB
    refine ⟨w.heap.size + 1, w.heap.size, rfl, ⟨?_, World.ownsRow_nil _ _ _ _, by omega, Nat.le_refl _, room_le n, ⟨List.replicate N 0, (Blk.new w 38 _).alloc _, by rw [List.length_replicate, hN], fun x hx => by have := (List.mem_replicate.1 hx).2; omega, fun i h => by simp at h⟩, by simp [Value.ownBlock], by simp [Value.ownBlock], by omega, List.nodup_nil, fun x hx => by simp at hx⟩, hb⟩
    rw [← hN]; exact hB
  by_cases c1 : n < 0
  · have e1 := room_neg c1
    have e2 : z = 0 := by omega
    subst e2
    clear hN hsm hi hz0 hz1 hz2 hz e1
    go_enter Try.func12, Try.ntmps12
    go_wp2
    go_ret
    exact ⟨rfl, rfl⟩
  · by_cases c2 : (65536 : Int) < n
    · have e1 := room_big c2
      have e2 : z = 65536 := by omega
      subst e2
      clear hN hsm hi hz0 hz1 hz2 hz e1
      go_enter Try.func12, Try.ntmps12
      go_wp2
      go_ret
      exact ⟨rfl, rfl⟩
    · have e1 := room_mid c1 c2
      have e2 : z = n := by omega
      subst e2
      clear hN hsm hi hz0 hz1 hz2 hz e1
      go_enter Try.func12, Try.ntmps12
      go_wp2
      go_ret
      exact ⟨rfl, rfl⟩

set_option maxHeartbeats 2000000 in
theorem takes_uint16 (x : Int) (g p N : Nat) (v : Value) (w : World) (h : Blk w g 66 [v, .slice (some ⟨p, 0, none⟩) N N]) (hl : 0 ≤ x) (hh : x ≤ 65535) :
    Calls Try.prog 36 #[.pointer (some ⟨g, 0, none⟩), .int .u16 x] w (Tells w (.bool (decide (0 ≤ x ∧ x < N)))) := by
  have c1 := h.cell 1
  simp only [List.getElem?_cons_succ, List.getElem?_cons_zero] at c1
  have ew : IntKind.i64.wrap x = x := IntWalk.i64_in _ (by omega)
  clear h
  by_cases c2 : 0 ≤ x
  · have d2 : decide ((0 : Int) ≤ x) = true := decide_eq_true c2
    by_cases c3 : x < N
    · have d3 : decide (x < (N : Int)) = true := decide_eq_true c3
      rw [decide_eq_true (p := 0 ≤ x ∧ x < N) ⟨c2, c3⟩]
      go_enter Try.func36, Try.ntmps36
      go_wp2
      go_ret
      exact ⟨rfl, rfl⟩
    · have d3 : decide (x < (N : Int)) = false := decide_eq_false c3
      rw [decide_eq_false (p := 0 ≤ x ∧ x < N) fun k => c3 k.2]
      go_enter Try.func36, Try.ntmps36
      go_wp2
      go_ret
      exact ⟨rfl, rfl⟩
  · omega

set_option maxHeartbeats 2000000 in
theorem new_int32 (n : Int) (w : World) (h1 : -9223372036854775808 ≤ n) (h2 : n ≤ 9223372036854775807) : Calls Try.prog 13 #[.int .i64 n] w (Made 68 21 .i32 w n) := by
  obtain ⟨i0, hi, hz0, hz1, hz2⟩ := info_parts infoU16
  obtain ⟨N, hN⟩ : ∃ N, N = room n := ⟨_, rfl⟩
  have hsm : N ≤ 65536 := hN ▸ room_le n
  obtain ⟨z, hz⟩ : ∃ z : Int, z = (N : Int) := ⟨_, rfl⟩
  have hmk : (Instr.makeSlice 48 (.int .i64 z) (.int .i64 z)).run Try.prog w = .ok (.slice (some ⟨w.heap.size, 0, none⟩) N N) (w.alloc (.cells (ks .u16 (List.replicate N 0)).toArray 38)) := by
    have h := run_make (P := Try.prog) w 48 38 i0 (.int .u16 0) Try.underlying48 hi hz0 .i64 .i64 z z (by omega) (by omega) (by rw [hz2]; omega) (by omega)
    rw [show z.toNat = N from by omega, hz1, Nat.mul_one] at h
    rw [h]
    show Result.ok _ (w.alloc (.cells (madeCells #[Value.int .u16 0] N) _)) = _
    rw [made_u16]
  suffices H : Calls Try.prog 13 #[.int .i64 n] w fun e w' => e = .returned (.pointer (some ⟨w.heap.size + 1, 0, none⟩)) ∧ w' = (w.alloc (.cells (ks .u16 (List.replicate N 0)).toArray 38)).alloc (.cells #[.slice none 0 0, .slice (some ⟨w.heap.size, 0, none⟩) N N] 68) from by
    refine H.mono ?_
    rintro e w' ⟨rfl, rfl⟩
    have hb : Below w.heap.size w ((w.alloc (.cells (ks .u16 (List.replicate N 0)).toArray 38)).alloc (.cells #[.slice none 0 0, .slice (some ⟨w.heap.size, 0, none⟩) N N] 68)) := ((Below.refl _ _).alloc (Nat.le_refl _) _).alloc (by simp) _
    have hB := Blk.new (w.alloc (.cells (ks .u16 (List.replicate N 0)).toArray 38)) 68 [.slice none 0 0, .slice (some ⟨w.heap.size, 0, none⟩) N N]
    have hs : (w.alloc (.cells (ks .u16 (List.replicate N 0)).toArray 38)).heap.size = w.heap.size + 1 := by simp
    rw [hs] at hB
    refine ⟨w.heap.size + 1, w.heap.size, rfl, ⟨?_, World.ownsRow_nil _ _ _ _, by omega, Nat.le_refl _, room_le n, ⟨List.replicate N 0, (Blk.new w 38 _).alloc _, by rw [List.length_replicate, hN], fun x hx => by have := (List.mem_replicate.1 hx).2; omega, fun i h => by simp at h⟩, by simp [Value.ownBlock], by simp [Value.ownBlock], by omega, List.nodup_nil, fun x hx => by simp at hx⟩, hb⟩
    rw [← hN]; exact hB
  by_cases c1 : n < 0
  · have e1 := room_neg c1
    have e2 : z = 0 := by omega
    subst e2
    clear hN hsm hi hz0 hz1 hz2 hz e1
    go_enter Try.func13, Try.ntmps13
    go_wp2
    go_ret
    exact ⟨rfl, rfl⟩
  · by_cases c2 : (65536 : Int) < n
    · have e1 := room_big c2
      have e2 : z = 65536 := by omega
      subst e2
      clear hN hsm hi hz0 hz1 hz2 hz e1
      go_enter Try.func13, Try.ntmps13
      go_wp2
      go_ret
      exact ⟨rfl, rfl⟩
    · have e1 := room_mid c1 c2
      have e2 : z = n := by omega
      subst e2
      clear hN hsm hi hz0 hz1 hz2 hz e1
      go_enter Try.func13, Try.ntmps13
      go_wp2
      go_ret
      exact ⟨rfl, rfl⟩

set_option maxHeartbeats 2000000 in
theorem takes_int32 (x : Int) (g p N : Nat) (v : Value) (w : World) (h : Blk w g 68 [v, .slice (some ⟨p, 0, none⟩) N N]) (hl : -2147483648 ≤ x) (hh : x ≤ 2147483647) :
    Calls Try.prog 38 #[.pointer (some ⟨g, 0, none⟩), .int .i32 x] w (Tells w (.bool (decide (0 ≤ x ∧ x < N)))) := by
  have c1 := h.cell 1
  simp only [List.getElem?_cons_succ, List.getElem?_cons_zero] at c1
  have ew : IntKind.i64.wrap x = x := IntWalk.i64_in _ (by omega)
  clear h
  by_cases c2 : 0 ≤ x
  · have d2 : decide ((0 : Int) ≤ x) = true := decide_eq_true c2
    by_cases c3 : x < N
    · have d3 : decide (x < (N : Int)) = true := decide_eq_true c3
      rw [decide_eq_true (p := 0 ≤ x ∧ x < N) ⟨c2, c3⟩]
      go_enter Try.func38, Try.ntmps38
      go_wp2
      go_ret
      exact ⟨rfl, rfl⟩
    · have d3 : decide (x < (N : Int)) = false := decide_eq_false c3
      rw [decide_eq_false (p := 0 ≤ x ∧ x < N) fun k => c3 k.2]
      go_enter Try.func38, Try.ntmps38
      go_wp2
      go_ret
      exact ⟨rfl, rfl⟩
  · have d2 : decide ((0 : Int) ≤ x) = false := decide_eq_false c2
    rw [decide_eq_false (p := 0 ≤ x ∧ x < N) fun k => c2 k.1]
    go_enter Try.func38, Try.ntmps38
    go_wp2
    go_ret
    exact ⟨rfl, rfl⟩

set_option maxHeartbeats 2000000 in
theorem new_int (n : Int) (w : World) (h1 : -9223372036854775808 ≤ n) (h2 : n ≤ 9223372036854775807) : Calls Try.prog 14 #[.int .i64 n] w (Made 70 3 .i64 w n) := by
  obtain ⟨i0, hi, hz0, hz1, hz2⟩ := info_parts infoU16
  obtain ⟨N, hN⟩ : ∃ N, N = room n := ⟨_, rfl⟩
  have hsm : N ≤ 65536 := hN ▸ room_le n
  obtain ⟨z, hz⟩ : ∃ z : Int, z = (N : Int) := ⟨_, rfl⟩
  have hmk : (Instr.makeSlice 48 (.int .i64 z) (.int .i64 z)).run Try.prog w = .ok (.slice (some ⟨w.heap.size, 0, none⟩) N N) (w.alloc (.cells (ks .u16 (List.replicate N 0)).toArray 38)) := by
    have h := run_make (P := Try.prog) w 48 38 i0 (.int .u16 0) Try.underlying48 hi hz0 .i64 .i64 z z (by omega) (by omega) (by rw [hz2]; omega) (by omega)
    rw [show z.toNat = N from by omega, hz1, Nat.mul_one] at h
    rw [h]
    show Result.ok _ (w.alloc (.cells (madeCells #[Value.int .u16 0] N) _)) = _
    rw [made_u16]
  suffices H : Calls Try.prog 14 #[.int .i64 n] w fun e w' => e = .returned (.pointer (some ⟨w.heap.size + 1, 0, none⟩)) ∧ w' = (w.alloc (.cells (ks .u16 (List.replicate N 0)).toArray 38)).alloc (.cells #[.slice none 0 0, .slice (some ⟨w.heap.size, 0, none⟩) N N] 70) from by
    refine H.mono ?_
    rintro e w' ⟨rfl, rfl⟩
    have hb : Below w.heap.size w ((w.alloc (.cells (ks .u16 (List.replicate N 0)).toArray 38)).alloc (.cells #[.slice none 0 0, .slice (some ⟨w.heap.size, 0, none⟩) N N] 70)) := ((Below.refl _ _).alloc (Nat.le_refl _) _).alloc (by simp) _
    have hB := Blk.new (w.alloc (.cells (ks .u16 (List.replicate N 0)).toArray 38)) 70 [.slice none 0 0, .slice (some ⟨w.heap.size, 0, none⟩) N N]
    have hs : (w.alloc (.cells (ks .u16 (List.replicate N 0)).toArray 38)).heap.size = w.heap.size + 1 := by simp
    rw [hs] at hB
    refine ⟨w.heap.size + 1, w.heap.size, rfl, ⟨?_, World.ownsRow_nil _ _ _ _, by omega, Nat.le_refl _, room_le n, ⟨List.replicate N 0, (Blk.new w 38 _).alloc _, by rw [List.length_replicate, hN], fun x hx => by have := (List.mem_replicate.1 hx).2; omega, fun i h => by simp at h⟩, by simp [Value.ownBlock], by simp [Value.ownBlock], by omega, List.nodup_nil, fun x hx => by simp at hx⟩, hb⟩
    rw [← hN]; exact hB
  by_cases c1 : n < 0
  · have e1 := room_neg c1
    have e2 : z = 0 := by omega
    subst e2
    clear hN hsm hi hz0 hz1 hz2 hz e1
    go_enter Try.func14, Try.ntmps14
    go_wp2
    go_ret
    exact ⟨rfl, rfl⟩
  · by_cases c2 : (65536 : Int) < n
    · have e1 := room_big c2
      have e2 : z = 65536 := by omega
      subst e2
      clear hN hsm hi hz0 hz1 hz2 hz e1
      go_enter Try.func14, Try.ntmps14
      go_wp2
      go_ret
      exact ⟨rfl, rfl⟩
    · have e1 := room_mid c1 c2
      have e2 : z = n := by omega
      subst e2
      clear hN hsm hi hz0 hz1 hz2 hz e1
      go_enter Try.func14, Try.ntmps14
      go_wp2
      go_ret
      exact ⟨rfl, rfl⟩

set_option maxHeartbeats 2000000 in
theorem takes_int (x : Int) (g p N : Nat) (v : Value) (w : World) (h : Blk w g 70 [v, .slice (some ⟨p, 0, none⟩) N N]) (hl : -9223372036854775808 ≤ x) (hh : x ≤ 9223372036854775807) :
    Calls Try.prog 40 #[.pointer (some ⟨g, 0, none⟩), .int .i64 x] w (Tells w (.bool (decide (0 ≤ x ∧ x < N)))) := by
  have c1 := h.cell 1
  simp only [List.getElem?_cons_succ, List.getElem?_cons_zero] at c1
  have ew : IntKind.i64.wrap x = x := IntWalk.i64_in _ (by omega)
  clear h
  by_cases c2 : 0 ≤ x
  · have d2 : decide ((0 : Int) ≤ x) = true := decide_eq_true c2
    by_cases c3 : x < N
    · have d3 : decide (x < (N : Int)) = true := decide_eq_true c3
      rw [decide_eq_true (p := 0 ≤ x ∧ x < N) ⟨c2, c3⟩]
      go_enter Try.func40, Try.ntmps40
      go_wp2
      go_ret
      exact ⟨rfl, rfl⟩
    · have d3 : decide (x < (N : Int)) = false := decide_eq_false c3
      rw [decide_eq_false (p := 0 ≤ x ∧ x < N) fun k => c3 k.2]
      go_enter Try.func40, Try.ntmps40
      go_wp2
      go_ret
      exact ⟨rfl, rfl⟩
  · have d2 : decide ((0 : Int) ≤ x) = false := decide_eq_false c2
    rw [decide_eq_false (p := 0 ≤ x ∧ x < N) fun k => c2 k.1]
    go_enter Try.func40, Try.ntmps40
    go_wp2
    go_ret
    exact ⟨rfl, rfl⟩

end Go.Proofs.Ytckdjbonplpknaa.Sparse
