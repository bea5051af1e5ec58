/-
  CONTRACT OF the document's next: the next number at which a category may change.
-/
import Derived.Test.YthpadpoomelhbaaDoorUcdRanges
import Derived.Test.YthpadpoomelhbaaDoorUcdRcat
namespace Go.Proofs.YthpadpoomelhbaaDoor.Ucd
open Go.RowKit Utf

def nxT : List Int := [1024, 1154, 1155, 1162, 1328, 1632, 1642, 4352, 4608, 7680, 8125, 8192, 8203, 8208, 8232, 8234, 8240, 8260, 8352, 8385, 8400, 8413, 8486, 8487, 8490, 8492, 8592, 8960, 12288, 12289, 12292, 12353, 12439, 12441, 12443, 12449, 12539, 19968, 40960, 44032, 55204, 65296, 65306, 65533, 65534, 128512, 128592, 1114112, 1114113]
def above : List Int → Int → Int
  | [], r => r + 1
  | x :: t, r => if r < x then x else above t r
def rnx (r : Int) : Int := if r < 1024 ∨ (8112 ≤ r ∧ r < 9216) ∨ (12288 ≤ r ∧ r < 12544) then r + 1 else above nxT r

theorem next_near (r : Int) (w : World) (h0 : 0 ≤ r) (h : r < 1024 ∨ (8112 ≤ r ∧ r < 9216) ∨ (12288 ≤ r ∧ r < 12544)) : Calls Tryd.prog 33 #[.int .i32 r] w (Ret w (.int .i32 (rnx r))) := by
  have HE := Lib.hid (show rnx r = r + 1 from if_pos h)
  rcases h with h | ⟨h, h'⟩ | ⟨h, h'⟩
  all_goals
    first
    | (have d1 : decide (r < 1024) = true := decide_eq_true (by omega))
    | (have d1 : decide (r < 1024) = false := decide_eq_false (by omega); have d2 : decide (8112 ≤ r) = true := decide_eq_true (by omega); have d3 : decide (r < 9216) = true := decide_eq_true (by omega))
    | (have d1 : decide (r < 1024) = false := decide_eq_false (by omega); have d2 : decide (8112 ≤ r) = true := decide_eq_true (by omega); have d3 : decide (r < 9216) = false := decide_eq_false (by omega); have d4 : decide (12288 ≤ r) = true := decide_eq_true (by omega); have d5 : decide (r < 12544) = true := decide_eq_true (by omega))
    go_enter Tryd.func33, Tryd.ntmps33
    go_wp2
    go_ret
    exact ⟨ret_int HE.out.symm, Below.refl _ _⟩

set_option maxHeartbeats 8000000 in
theorem next_far (r : Int) (w : World) (h2 : r ≤ 1114112) (h : (1024 ≤ r ∧ r < 8112) ∨ (9216 ≤ r ∧ r < 12288) ∨ 12544 ≤ r) : Calls Tryd.prog 33 #[.int .i32 r] w (Ret w (.int .i32 (rnx r))) := by
  have HE := Lib.hid (show rnx r = above nxT r from if_neg (by omega))
  have d1 : decide (r < 1024) = false := decide_eq_false (by omega)
  rcases h with ⟨h, h'⟩ | ⟨h, h'⟩ | h
  all_goals
    first
    | (have d2 : decide (8112 ≤ r) = false := decide_eq_false (by omega); have d4 : decide (12288 ≤ r) = false := decide_eq_false (by omega))
    | (have d2 : decide (8112 ≤ r) = true := decide_eq_true (by omega); have d3 : decide (r < 9216) = false := decide_eq_false (by omega); have d4 : decide (12288 ≤ r) = false := decide_eq_false (by omega))
    | (have d2 : decide (8112 ≤ r) = true := decide_eq_true (by omega); have d3 : decide (r < 9216) = false := decide_eq_false (by omega); have d4 : decide (12288 ≤ r) = true := decide_eq_true (by omega); have d5 : decide (r < 12544) = false := decide_eq_false (by omega))
    go_enter Tryd.func33, Tryd.ntmps33
    go_wp2
    have hW : ∃ W, W = w.alloc (.cells (Value.int .i32 1024 :: Value.int .i32 1154 :: Value.int .i32 1155 :: Value.int .i32 1162 :: Value.int .i32 1328 :: Value.int .i32 1632 :: Value.int .i32 1642 :: Value.int .i32 4352 :: Value.int .i32 4608 :: Value.int .i32 7680 :: Value.int .i32 8125 :: Value.int .i32 8192 :: Value.int .i32 8203 :: Value.int .i32 8208 :: Value.int .i32 8232 :: Value.int .i32 8234 :: Value.int .i32 8240 :: Value.int .i32 8260 :: Value.int .i32 8352 :: Value.int .i32 8385 :: Value.int .i32 8400 :: Value.int .i32 8413 :: Value.int .i32 8486 :: Value.int .i32 8487 :: Value.int .i32 8490 :: Value.int .i32 8492 :: Value.int .i32 8592 :: Value.int .i32 8960 :: Value.int .i32 12288 :: Value.int .i32 12289 :: Value.int .i32 12292 :: Value.int .i32 12353 :: Value.int .i32 12439 :: Value.int .i32 12441 :: Value.int .i32 12443 :: Value.int .i32 12449 :: Value.int .i32 12539 :: Value.int .i32 19968 :: Value.int .i32 40960 :: Value.int .i32 44032 :: Value.int .i32 55204 :: Value.int .i32 65296 :: Value.int .i32 65306 :: Value.int .i32 65533 :: Value.int .i32 65534 :: Value.int .i32 128512 :: Value.int .i32 128592 :: Value.int .i32 1114112 :: Value.int .i32 1114113 :: []).toArray 21) := ⟨_, rfl⟩
    obtain ⟨W, hW⟩ := hW
    rw [← hW]
    have B1 : Blk W w.heap.size 21 (nums nxT) := by rw [hW]; exact Blk.new w _ (nums nxT)
    have BW : Below w.heap.size w W := by rw [hW]; exact (Below.refl _ _).alloc (Nat.le_refl _) _
    have HB1 := Lib.hid B1; have HBW := Lib.hid BW
    clear hW B1 BW
    go_loop [4] (fun i => ∃ k : Nat, k ≤ 49 ∧ i = .int .i64 k ∧ Hid (above (nxT.drop k) r = above nxT r)) (fun i => 49 - (intOf i).toNat)
    case atStart => exact ⟨0, Nat.zero_le _, rfl, Lib.hid rfl⟩
    case round =>
      obtain ⟨k, hk, rfl, H⟩ := hrel
      by_cases hlt : k < 49
      · have hl : k < nxT.length := hlt
        have c1 : W.cell? ⟨w.heap.size, k, none⟩ = some (.int .i32 (nxT[k]'hl)) := by rw [HB1.out.cell k, nums_get hl]
        have hd : above (nxT.drop k) r = if r < nxT[k]'hl then nxT[k]'hl else above (nxT.drop (k + 1)) r := by
          rw [List.drop_eq_getElem_cons hl]; rfl
        generalize nxT[k]'hl = x at c1 hd
        have HD := Lib.hid hd
        clear hd hl
        by_cases hc : r < x
        · go_wp2
          go_ret
          exact ⟨ret_int (by rw [HE.out, ← H.out, HD.out, if_pos hc]), HBW.out⟩
        · have hc' : x ≤ r := by omega
          go_wp2
          go_round
          case rel => exact ⟨k + 1, by omega, by go_num, Lib.hid (by rw [← H.out, HD.out, if_neg (by omega)])⟩
          case measure => simp [intOf]; omega
      · obtain rfl : k = 49 := by omega
        go_wp2
        go_ret
        exact ⟨ret_int (by rw [HE.out, ← H.out]; rfl), HBW.out⟩

theorem rnext_any (r : Int) (w : World) (h0 : 0 ≤ r) (h2 : r ≤ 1114112) : Calls Tryd.prog 33 #[.int .i32 r] w (Ret w (.int .i32 (rnx r))) := by
  by_cases h : r < 1024 ∨ (8112 ≤ r ∧ r < 9216) ∨ (12288 ≤ r ∧ r < 12544)
  · exact next_near r w h0 h
  · exact next_far r w h2 (by omega)
theorem above_gt : ∀ (l : List Int) (r : Int), r < above l r
  | [], r => by rw [above]; omega
  | x :: t, r => by
    rw [above]
    split
    · assumption
    · exact above_gt t r
theorem above_le : ∀ (l : List Int) (r : Int), (∀ x ∈ l, x ≤ 1114113) → r ≤ 1114112 → above l r ≤ 1114113
  | [], r, _, h => by rw [above]; omega
  | x :: t, r, hl, h => by
    rw [above]
    split
    · exact hl x (by simp)
    · exact above_le t r (fun y hy => hl y (by simp [hy])) h
theorem rnx_gt (r : Int) : r < rnx r := by
  unfold rnx
  split
  · omega
  · exact above_gt _ _
theorem rnx_le (r : Int) (h : r ≤ 1114112) : rnx r ≤ 1114113 := by
  unfold rnx
  split
  · omega
  · exact above_le _ _ (by decide) h
end Go.Proofs.YthpadpoomelhbaaDoor.Ucd
