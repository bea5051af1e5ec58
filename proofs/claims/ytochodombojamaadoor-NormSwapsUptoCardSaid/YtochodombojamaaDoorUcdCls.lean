/-
  CONTRACT OF Class: looked up in the table.
-/
import Derived.Test.YtochodombojamaaDoorUcdWords
import Derived.LoopTactic
namespace Go.Proofs.YtochodombojamaaDoor.Ucd
open Go.RowKit Utf

set_option maxHeartbeats 2000000 in
theorem class_any (r : Int) (w : World) (hL : Laid w) :
    Calls Tryd.prog 31 #[.int .i32 r] w (Ret w (.int .i64 (cls r))) := by
  obtain ⟨ty, fr, hB⟩ := hL.1
  have HB := Lib.hid hB
  clear hL hB
  go_enter Tryd.func31, Tryd.ntmps31
  go_wp2_with (refine wpList_load_row rfl _ _ rfl 0 rfl _ _ _ _ HB.out Tryd.underlying61 rfl (by kernel_rfl) ?_)
  obtain ⟨arr, harr⟩ : ∃ arr, arr = (c3 clsRows).toArray := ⟨_, rfl⟩
  rw [← harr]
  have hidx : ∀ k : Nat, k < 23 → ∀ u : World, (Instr.index 61 (.agg arr) (.int .i64 k)).run Tryd.prog u = .ok (.agg (arr.extract (k * 3) (k * 3 + 3))) u := fun k hk u => run_index_row arr k Tryd.underlying61 Tryd.isAgg60 Tryd.sizeOf60 hk u
  have HI := Lib.hid hidx
  have HA := Lib.hid harr
  clear hidx harr
  go_loopw [6] (fun i wr => ∃ k : Nat, k ≤ 23 ∧ i = .int .i64 k ∧ Hid (look 0 (clsRows.drop k) r = cls r ∧ Below w.heap.size w wr)) (fun i _ => 23 - (intOf i).toNat)
  case atStart => exact ⟨0, Nat.zero_le _, rfl, Lib.hid ⟨rfl, Below.refl _ _⟩⟩
  case round =>
    obtain ⟨k, hk, rfl, H⟩ := hrel
    by_cases hlt : k < 23
    · have hx : ∀ u : World, (Instr.index 61 (.agg arr) (.int .i64 k)).run Tryd.prog u = .ok (.agg #[.int .i32 (clsRows[k]'hlt).1, .int .i32 (clsRows[k]'hlt).2.1, .int .i32 (clsRows[k]'hlt).2.2]) u := fun u => by
        rw [HI.out k hlt u, HA.out, c3_row clsRows k hlt]
      have hd : look 0 (clsRows.drop k) r = if r < (clsRows[k]'hlt).1 then 0 else if r ≤ (clsRows[k]'hlt).2.1 then (clsRows[k]'hlt).2.2 else look 0 (clsRows.drop (k + 1)) r := by
        rw [List.drop_eq_getElem_cons hlt]; rfl
      have hv : -2147483648 ≤ (clsRows[k]'hlt).2.2 ∧ (clsRows[k]'hlt).2.2 ≤ 2147483647 := by
        have : ∀ x ∈ clsRows, -2147483648 ≤ x.2.2 ∧ x.2.2 ≤ 2147483647 := by decide +kernel
        exact this _ (List.getElem_mem _)
      generalize clsRows[k]'hlt = row at hx hd hv
      obtain ⟨lo, hi, v⟩ := row
      dsimp only at hx hd hv
      obtain ⟨v1, v2⟩ := hv
      have HD := Lib.hid hd
      clear hd
      go_wp2
      · go_ret
        have ht : r < lo := by assumption
        exact ⟨ret_int (by rw [← H.out.1, HD.out, if_pos ht]), H.out.2.alloc H.out.2.size _⟩
      · go_ret
        have ht : lo ≤ r := by assumption
        have hu : r ≤ hi := by assumption
        exact ⟨ret_int (by rw [← H.out.1, HD.out, if_neg (by omega), if_pos hu]), H.out.2.alloc H.out.2.size _⟩
      · have ht : lo ≤ r := by assumption
        have hu : hi < r := by assumption
        go_roundw
        case rel => exact ⟨k + 1, by omega, by go_num, Lib.hid ⟨by rw [← H.out.1, HD.out, if_neg (by omega), if_neg (by omega)], H.out.2.alloc H.out.2.size _⟩⟩
        case measure => simp [intOf]; omega
    · go_wp2
      go_ret
      exact ⟨ret_int (by rw [← H.out.1, List.drop_of_length_le (by show 23 ≤ k; omega)]; rfl), H.out.2⟩
end Go.Proofs.YtochodombojamaaDoor.Ucd
