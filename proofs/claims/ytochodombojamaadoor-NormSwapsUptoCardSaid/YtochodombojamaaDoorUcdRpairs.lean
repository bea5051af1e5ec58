/-
  CONTRACTS OF the document's lists of letters: the runes of a text, the k-th of them, the last place of a rune.
-/
import Derived.Test.YtochodombojamaaDoorUcdBase
import Derived.Lib.OthersKept
namespace Go.Proofs.YtochodombojamaaDoor.Ucd
open Go.RowKit Utf

/-- the runes of a text from a place on (fuel: how many at most) -/
def runes (s : ByteArray) : Nat → Nat → List Int
  | 0, _ => []
  | f + 1, pos => if pos < s.size then ((Utf8.decode s pos).1 : Int) :: runes s f (pos + (Utf8.decode s pos).2) else []
def runesOf (s : ByteArray) : List Int := runes s s.size 0
theorem decode_pos (s : ByteArray) (pos : Nat) (h : pos < s.size) : 1 ≤ (Utf8.decode s pos).2 := by
  by_cases ha : (s[pos]'h).toNat < 128
  · rw [decode_ascii s pos h ha]; exact Nat.le_refl _
  · exact (decode_high s pos h (by omega)).2
theorem runes_end (s : ByteArray) (f pos : Nat) (h : ¬ pos < s.size) : runes s f pos = [] := by
  cases f with
  | zero => rfl
  | succ f => rw [runes, if_neg h]
theorem runes_next (s : ByteArray) (f pos : Nat) (h : pos < s.size) (hf : s.size ≤ pos + f) : ∃ f', f = f' + 1 ∧ runes s f pos = ((Utf8.decode s pos).1 : Int) :: runes s f' (pos + (Utf8.decode s pos).2) ∧ s.size ≤ pos + (Utf8.decode s pos).2 + f' := by
  cases f with
  | zero => omega
  | succ f => exact ⟨f, rfl, by rw [runes, if_pos h], by have := decode_pos s pos h; omega⟩

def compS : ByteArray := { data := ((([195, 128, 195, 129, 195, 130, 195, 131, 195, 132, 195, 133, 195, 135, 195, 136, 195, 137, 195, 138, 195, 139, 195, 140, 195, 141, 195, 142, 195, 143, 195, 145, 195, 146, 195, 147, 195, 148, 195, 149].append [195, 150, 195, 153, 195, 154, 195, 155, 195, 156, 195, 157, 195, 160, 195, 161, 195, 162, 195, 163, 195, 164, 195, 165, 195, 167, 195, 168, 195, 169, 195, 170, 195, 171, 195, 172, 195, 173, 195, 174]).append ([195, 175, 195, 177, 195, 178, 195, 179, 195, 180, 195, 181, 195, 182, 195, 185, 195, 186, 195, 187, 195, 188, 195, 189, 195, 191, 196, 128, 196, 129, 196, 130, 196, 131, 196, 132, 196, 133, 196, 134].append [196, 135, 196, 136, 196, 137, 196, 138, 196, 139, 196, 140, 196, 141, 196, 142, 196, 143, 196, 146, 196, 147, 196, 148, 196, 149, 196, 150, 196, 151, 196, 152, 196, 153, 196, 154, 196, 155, 196, 156, 196])).append (([157, 196, 158, 196, 159, 196, 160, 196, 161, 196, 162, 196, 163, 196, 164, 196, 165, 196, 168, 196, 169, 196, 170, 196, 171, 196, 172, 196, 173, 196, 174, 196, 175, 196, 176, 196, 180, 196, 181, 196].append [182, 196, 183, 196, 185, 196, 186, 196, 187, 196, 188, 196, 189, 196, 190, 197, 131, 197, 132, 197, 133, 197, 134, 197, 135, 197, 136, 197, 140, 197, 141, 197, 142, 197, 143, 197, 144, 197, 145, 197]).append ([148, 197, 149, 197, 150, 197, 151, 197, 152, 197, 153, 197, 154, 197, 155, 197, 156, 197, 157, 197, 158, 197, 159, 197, 160, 197, 161, 197, 162, 197, 163, 197, 164, 197, 165, 197, 168, 197, 169, 197].append [170, 197, 171, 197, 172, 197, 173, 197, 174, 197, 175, 197, 176, 197, 177, 197, 178, 197, 179, 197, 180, 197, 181, 197, 182, 197, 183, 197, 184, 197, 185, 197, 186, 197, 187, 197, 188, 197, 189, 197, 190]))).toArray }
def compT : List Int := [192, 193, 194, 195, 196, 197, 199, 200, 201, 202, 203, 204, 205, 206, 207, 209, 210, 211, 212, 213, 214, 217, 218, 219, 220, 221, 224, 225, 226, 227, 228, 229, 231, 232, 233, 234, 235, 236, 237, 238, 239, 241, 242, 243, 244, 245, 246, 249, 250, 251, 252, 253, 255, 256, 257, 258, 259, 260, 261, 262, 263, 264, 265, 266, 267, 268, 269, 270, 271, 274, 275, 276, 277, 278, 279, 280, 281, 282, 283, 284, 285, 286, 287, 288, 289, 290, 291, 292, 293, 296, 297, 298, 299, 300, 301, 302, 303, 304, 308, 309, 310, 311, 313, 314, 315, 316, 317, 318, 323, 324, 325, 326, 327, 328, 332, 333, 334, 335, 336, 337, 340, 341, 342, 343, 344, 345, 346, 347, 348, 349, 350, 351, 352, 353, 354, 355, 356, 357, 360, 361, 362, 363, 364, 365, 366, 367, 368, 369, 370, 371, 372, 373, 374, 375, 376, 377, 378, 379, 380, 381, 382]
theorem compT_runes : runesOf compS = compT := by decide +kernel
def letS : ByteArray := { data := (([65, 65, 65, 65, 65, 65, 67, 69, 69, 69, 69, 73, 73, 73, 73, 78, 79, 79, 79, 79, 79, 85, 85, 85, 85, 89, 97, 97, 97, 97, 97, 97, 99, 101, 101, 101, 101, 105, 105, 105].append [105, 110, 111, 111, 111, 111, 111, 117, 117, 117, 117, 121, 121, 65, 97, 65, 97, 65, 97, 67, 99, 67, 99, 67, 99, 67, 99, 68, 100, 69, 101, 69, 101, 69, 101, 69, 101, 69, 101, 71]).append ([103, 71, 103, 71, 103, 71, 103, 72, 104, 73, 105, 73, 105, 73, 105, 73, 105, 73, 74, 106, 75, 107, 76, 108, 76, 108, 76, 108, 78, 110, 78, 110, 78, 110, 79, 111, 79, 111, 79, 111].append [82, 114, 82, 114, 82, 114, 83, 115, 83, 115, 83, 115, 83, 115, 84, 116, 84, 116, 85, 117, 85, 117, 85, 117, 85, 117, 85, 117, 85, 117, 87, 119, 89, 121, 89, 90, 122, 90, 122, 90, 122])).toArray }
def letT : List Int := [65, 65, 65, 65, 65, 65, 67, 69, 69, 69, 69, 73, 73, 73, 73, 78, 79, 79, 79, 79, 79, 85, 85, 85, 85, 89, 97, 97, 97, 97, 97, 97, 99, 101, 101, 101, 101, 105, 105, 105, 105, 110, 111, 111, 111, 111, 111, 117, 117, 117, 117, 121, 121, 65, 97, 65, 97, 65, 97, 67, 99, 67, 99, 67, 99, 67, 99, 68, 100, 69, 101, 69, 101, 69, 101, 69, 101, 69, 101, 71, 103, 71, 103, 71, 103, 71, 103, 72, 104, 73, 105, 73, 105, 73, 105, 73, 105, 73, 74, 106, 75, 107, 76, 108, 76, 108, 76, 108, 78, 110, 78, 110, 78, 110, 79, 111, 79, 111, 79, 111, 82, 114, 82, 114, 82, 114, 83, 115, 83, 115, 83, 115, 83, 115, 84, 116, 84, 116, 85, 117, 85, 117, 85, 117, 85, 117, 85, 117, 85, 117, 87, 119, 89, 121, 89, 90, 122, 90, 122, 90, 122]
theorem letT_runes : runesOf letS = letT := by decide +kernel
def markS : ByteArray := { data := ((([204, 128, 204, 129, 204, 130, 204, 131, 204, 136, 204, 138, 204, 167, 204, 128, 204, 129, 204, 130, 204, 136, 204, 128, 204, 129, 204, 130, 204, 136, 204, 131, 204, 128, 204, 129, 204, 130, 204, 131].append [204, 136, 204, 128, 204, 129, 204, 130, 204, 136, 204, 129, 204, 128, 204, 129, 204, 130, 204, 131, 204, 136, 204, 138, 204, 167, 204, 128, 204, 129, 204, 130, 204, 136, 204, 128, 204, 129, 204, 130]).append ([204, 136, 204, 131, 204, 128, 204, 129, 204, 130, 204, 131, 204, 136, 204, 128, 204, 129, 204, 130, 204, 136, 204, 129, 204, 136, 204, 132, 204, 132, 204, 134, 204, 134, 204, 168, 204, 168, 204, 129].append [204, 129, 204, 130, 204, 130, 204, 135, 204, 135, 204, 140, 204, 140, 204, 140, 204, 140, 204, 132, 204, 132, 204, 134, 204, 134, 204, 135, 204, 135, 204, 168, 204, 168, 204, 140, 204, 140, 204, 130, 204])).append (([130, 204, 134, 204, 134, 204, 135, 204, 135, 204, 167, 204, 167, 204, 130, 204, 130, 204, 131, 204, 131, 204, 132, 204, 132, 204, 134, 204, 134, 204, 168, 204, 168, 204, 135, 204, 130, 204, 130, 204].append [167, 204, 167, 204, 129, 204, 129, 204, 167, 204, 167, 204, 140, 204, 140, 204, 129, 204, 129, 204, 167, 204, 167, 204, 140, 204, 140, 204, 132, 204, 132, 204, 134, 204, 134, 204, 139, 204, 139, 204]).append ([129, 204, 129, 204, 167, 204, 167, 204, 140, 204, 140, 204, 129, 204, 129, 204, 130, 204, 130, 204, 167, 204, 167, 204, 140, 204, 140, 204, 167, 204, 167, 204, 140, 204, 140, 204, 131, 204, 131, 204].append [132, 204, 132, 204, 134, 204, 134, 204, 138, 204, 138, 204, 139, 204, 139, 204, 168, 204, 168, 204, 130, 204, 130, 204, 130, 204, 130, 204, 136, 204, 129, 204, 129, 204, 135, 204, 135, 204, 140, 204, 140]))).toArray }
def markT : List Int := [768, 769, 770, 771, 776, 778, 807, 768, 769, 770, 776, 768, 769, 770, 776, 771, 768, 769, 770, 771, 776, 768, 769, 770, 776, 769, 768, 769, 770, 771, 776, 778, 807, 768, 769, 770, 776, 768, 769, 770, 776, 771, 768, 769, 770, 771, 776, 768, 769, 770, 776, 769, 776, 772, 772, 774, 774, 808, 808, 769, 769, 770, 770, 775, 775, 780, 780, 780, 780, 772, 772, 774, 774, 775, 775, 808, 808, 780, 780, 770, 770, 774, 774, 775, 775, 807, 807, 770, 770, 771, 771, 772, 772, 774, 774, 808, 808, 775, 770, 770, 807, 807, 769, 769, 807, 807, 780, 780, 769, 769, 807, 807, 780, 780, 772, 772, 774, 774, 779, 779, 769, 769, 807, 807, 780, 780, 769, 769, 770, 770, 807, 807, 780, 780, 807, 807, 780, 780, 771, 771, 772, 772, 774, 774, 778, 778, 779, 779, 808, 808, 770, 770, 770, 770, 776, 769, 769, 775, 775, 780, 780]
theorem markT_runes : runesOf markS = markT := by decide +kernel
theorem composed_any (w : World) : Calls Tryd.prog 25 #[] w fun e w' => e = .returned (.string compS) ∧ w = w' := by
  obtain ⟨S, hS⟩ : ∃ S, S = compS := ⟨_, rfl⟩
  have gS : ({ data := ((([195, 128, 195, 129, 195, 130, 195, 131, 195, 132, 195, 133, 195, 135, 195, 136, 195, 137, 195, 138, 195, 139, 195, 140, 195, 141, 195, 142, 195, 143, 195, 145, 195, 146, 195, 147, 195, 148, 195, 149].append [195, 150, 195, 153, 195, 154, 195, 155, 195, 156, 195, 157, 195, 160, 195, 161, 195, 162, 195, 163, 195, 164, 195, 165, 195, 167, 195, 168, 195, 169, 195, 170, 195, 171, 195, 172, 195, 173, 195, 174]).append ([195, 175, 195, 177, 195, 178, 195, 179, 195, 180, 195, 181, 195, 182, 195, 185, 195, 186, 195, 187, 195, 188, 195, 189, 195, 191, 196, 128, 196, 129, 196, 130, 196, 131, 196, 132, 196, 133, 196, 134].append [196, 135, 196, 136, 196, 137, 196, 138, 196, 139, 196, 140, 196, 141, 196, 142, 196, 143, 196, 146, 196, 147, 196, 148, 196, 149, 196, 150, 196, 151, 196, 152, 196, 153, 196, 154, 196, 155, 196, 156, 196])).append (([157, 196, 158, 196, 159, 196, 160, 196, 161, 196, 162, 196, 163, 196, 164, 196, 165, 196, 168, 196, 169, 196, 170, 196, 171, 196, 172, 196, 173, 196, 174, 196, 175, 196, 176, 196, 180, 196, 181, 196].append [182, 196, 183, 196, 185, 196, 186, 196, 187, 196, 188, 196, 189, 196, 190, 197, 131, 197, 132, 197, 133, 197, 134, 197, 135, 197, 136, 197, 140, 197, 141, 197, 142, 197, 143, 197, 144, 197, 145, 197]).append ([148, 197, 149, 197, 150, 197, 151, 197, 152, 197, 153, 197, 154, 197, 155, 197, 156, 197, 157, 197, 158, 197, 159, 197, 160, 197, 161, 197, 162, 197, 163, 197, 164, 197, 165, 197, 168, 197, 169, 197].append [170, 197, 171, 197, 172, 197, 173, 197, 174, 197, 175, 197, 176, 197, 177, 197, 178, 197, 179, 197, 180, 197, 181, 197, 182, 197, 183, 197, 184, 197, 185, 197, 186, 197, 187, 197, 188, 197, 189, 197, 190]))).toArray } : ByteArray) = S := hS.symm
  rw [← hS]
  go_enter Tryd.func25, Tryd.ntmps25
  rw [gS]
  clear gS hS
  go_wp2
  go_ret
  exact ⟨rfl, rfl⟩
theorem letters_any (w : World) : Calls Tryd.prog 27 #[] w fun e w' => e = .returned (.string letS) ∧ w = w' := by
  obtain ⟨S, hS⟩ : ∃ S, S = letS := ⟨_, rfl⟩
  have gS : ({ data := (([65, 65, 65, 65, 65, 65, 67, 69, 69, 69, 69, 73, 73, 73, 73, 78, 79, 79, 79, 79, 79, 85, 85, 85, 85, 89, 97, 97, 97, 97, 97, 97, 99, 101, 101, 101, 101, 105, 105, 105].append [105, 110, 111, 111, 111, 111, 111, 117, 117, 117, 117, 121, 121, 65, 97, 65, 97, 65, 97, 67, 99, 67, 99, 67, 99, 67, 99, 68, 100, 69, 101, 69, 101, 69, 101, 69, 101, 69, 101, 71]).append ([103, 71, 103, 71, 103, 71, 103, 72, 104, 73, 105, 73, 105, 73, 105, 73, 105, 73, 74, 106, 75, 107, 76, 108, 76, 108, 76, 108, 78, 110, 78, 110, 78, 110, 79, 111, 79, 111, 79, 111].append [82, 114, 82, 114, 82, 114, 83, 115, 83, 115, 83, 115, 83, 115, 84, 116, 84, 116, 85, 117, 85, 117, 85, 117, 85, 117, 85, 117, 85, 117, 87, 119, 89, 121, 89, 90, 122, 90, 122, 90, 122])).toArray } : ByteArray) = S := hS.symm
  rw [← hS]
  go_enter Tryd.func27, Tryd.ntmps27
  rw [gS]
  clear gS hS
  go_wp2
  go_ret
  exact ⟨rfl, rfl⟩
theorem marked_any (w : World) : Calls Tryd.prog 28 #[] w fun e w' => e = .returned (.string markS) ∧ w = w' := by
  obtain ⟨S, hS⟩ : ∃ S, S = markS := ⟨_, rfl⟩
  have gS : ({ data := ((([204, 128, 204, 129, 204, 130, 204, 131, 204, 136, 204, 138, 204, 167, 204, 128, 204, 129, 204, 130, 204, 136, 204, 128, 204, 129, 204, 130, 204, 136, 204, 131, 204, 128, 204, 129, 204, 130, 204, 131].append [204, 136, 204, 128, 204, 129, 204, 130, 204, 136, 204, 129, 204, 128, 204, 129, 204, 130, 204, 131, 204, 136, 204, 138, 204, 167, 204, 128, 204, 129, 204, 130, 204, 136, 204, 128, 204, 129, 204, 130]).append ([204, 136, 204, 131, 204, 128, 204, 129, 204, 130, 204, 131, 204, 136, 204, 128, 204, 129, 204, 130, 204, 136, 204, 129, 204, 136, 204, 132, 204, 132, 204, 134, 204, 134, 204, 168, 204, 168, 204, 129].append [204, 129, 204, 130, 204, 130, 204, 135, 204, 135, 204, 140, 204, 140, 204, 140, 204, 140, 204, 132, 204, 132, 204, 134, 204, 134, 204, 135, 204, 135, 204, 168, 204, 168, 204, 140, 204, 140, 204, 130, 204])).append (([130, 204, 134, 204, 134, 204, 135, 204, 135, 204, 167, 204, 167, 204, 130, 204, 130, 204, 131, 204, 131, 204, 132, 204, 132, 204, 134, 204, 134, 204, 168, 204, 168, 204, 135, 204, 130, 204, 130, 204].append [167, 204, 167, 204, 129, 204, 129, 204, 167, 204, 167, 204, 140, 204, 140, 204, 129, 204, 129, 204, 167, 204, 167, 204, 140, 204, 140, 204, 132, 204, 132, 204, 134, 204, 134, 204, 139, 204, 139, 204]).append ([129, 204, 129, 204, 167, 204, 167, 204, 140, 204, 140, 204, 129, 204, 129, 204, 130, 204, 130, 204, 167, 204, 167, 204, 140, 204, 140, 204, 167, 204, 167, 204, 140, 204, 140, 204, 131, 204, 131, 204].append [132, 204, 132, 204, 134, 204, 134, 204, 138, 204, 138, 204, 139, 204, 139, 204, 168, 204, 168, 204, 130, 204, 130, 204, 130, 204, 130, 204, 136, 204, 129, 204, 129, 204, 135, 204, 135, 204, 140, 204, 140]))).toArray } : ByteArray) = S := hS.symm
  rw [← hS]
  go_enter Tryd.func28, Tryd.ntmps28
  rw [gS]
  clear gS hS
  go_wp2
  go_ret
  exact ⟨rfl, rfl⟩

set_option maxHeartbeats 4000000 in
theorem nth_any (s : ByteArray) (at_ : Nat) (w : World) (hs : s.size ≤ 1000000) : Calls Tryd.prog 26 #[.string s, .int .i64 at_] w (Ret w (.int .i32 ((runesOf s).getD at_ 0))) := by
  have HS := Lib.hid hs
  clear hs
  go_enter Tryd.func26, Tryd.ntmps26
  go_wp2
  go_loopw [5] (fun i wr => ∃ f pos k : Nat, i = .int .i64 k ∧ wr = w.iter s pos ∧ Hid (s.size ≤ pos + f ∧ k ≤ at_ ∧ k ≤ pos ∧ (runes s f pos).getD (at_ - k) 0 = (runesOf s).getD at_ 0)) (fun _ wr => s.size - wr.iterPos w.heap.size)
  case atStart => exact ⟨s.size, 0, 0, rfl, rfl, Lib.hid ⟨by omega, by omega, by omega, rfl⟩⟩
  case round =>
    obtain ⟨f, pos, k, rfl, rfl, H⟩ := hrel
    have hBB := below_iter (Below.refl w.heap.size w) (Nat.le_refl _) s
    by_cases hlt : pos < s.size
    · have hn : ∀ ty, (Instr.next (.pointer (some ⟨w.heap.size, 0, none⟩)) true ty).run Tryd.prog (w.iter s pos) = .ok (.tuple #[.bool true, .int .i64 pos, .int .i32 (Utf8.decode s pos).1]) (w.iter s (pos + (Utf8.decode s pos).2)) := fun ty => run_next_any w s pos ty hlt
      obtain ⟨f', rfl, hr, hf'⟩ := runes_next s f pos hlt H.out.1
      have hp := decode_pos s pos hlt
      have hkb : k ≤ 1000000 := by have := H.out.2.2.1; have := HS.out; omega
      generalize (Utf8.decode s pos).1 = c at hn hr
      generalize (Utf8.decode s pos).2 = d at hn hr hf' hp
      have HR := Lib.hid hr; have HF := Lib.hid hf'; have HB := Lib.hid (hBB (pos + d)); have HP := Lib.hid hp; have HLT := Lib.hid hlt
      clear hr hf' hBB hp hlt
      by_cases hk : k = at_
      · have hk' : ((k : Int) == (at_ : Int)) = true := by rw [hk]; exact beq_self_eq_true _
        have HK := Lib.hid hk
        clear hk
        go_wp2
        go_ret
        exact ⟨ret_int (by rw [← H.out.2.2.2, HR.out, HK.out]; simp), HB.out⟩
      · have hk' : ((k : Int) == (at_ : Int)) = false := by simp; omega
        have HK := Lib.hid hk
        clear hk
        go_wp2
        go_roundw
        case rel => exact ⟨f', pos + d, k + 1, by go_num, rfl, Lib.hid ⟨HF.out, by have := H.out.2.1; have := HK.out; omega, by have := H.out.2.2.1; have := HP.out; omega, by
          rw [← H.out.2.2.2, HR.out, show at_ - k = (at_ - (k + 1)) + 1 from by have := H.out.2.1; have := HK.out; omega]
          simp⟩⟩
        case measure => have := HP.out; have := HLT.out; simp; omega
    · have hn : ∀ ty, (Instr.next (.pointer (some ⟨w.heap.size, 0, none⟩)) true ty).run Tryd.prog (w.iter s pos) = .ok (.tuple #[.bool false]) (w.iter s pos) := fun ty => run_next_end w s pos ty hlt
      have HB := Lib.hid (hBB pos)
      have HE := Lib.hid (show (runesOf s).getD at_ 0 = 0 by rw [← H.out.2.2.2, runes_end s f pos hlt]; simp)
      clear hBB hlt
      go_wp2
      go_ret
      exact ⟨ret_int HE.out.symm, HB.out⟩
end Go.Proofs.YtochodombojamaaDoor.Ucd

/-
  CONTRACT OF the document's few.
-/
namespace Go.Proofs.YtochodombojamaaDoor.Ucd
open Go.RowKit Utf

def fewT : List (Int × Int × Int × Int) := [(469, 220, 772, 2), (470, 252, 772, 2), (832, 768, 0, 1), (833, 769, 0, 1), (835, 787, 0, 1), (836, 776, 769, 2), (902, 913, 769, 2), (912, 970, 769, 2), (940, 945, 769, 2), (943, 953, 769, 2), (970, 953, 776, 2), (972, 959, 769, 2), (7691, 100, 775, 2), (7693, 100, 803, 2), (7777, 115, 775, 2), (7779, 115, 803, 2), (7785, 7779, 775, 2), (7841, 97, 803, 2), (7844, 194, 769, 2), (7845, 226, 769, 2), (7863, 7841, 774, 2), (7865, 101, 803, 2), (7879, 7865, 770, 2), (8049, 940, 0, 1), (8115, 945, 837, 2), (8486, 937, 0, 1), (8490, 75, 0, 1), (8491, 197, 0, 1), (8800, 61, 824, 2), (12364, 12363, 12441, 2), (12497, 12495, 12442, 2)]
def kfind : List (Int × Int × Int × Int) → Int → Int × Int × Int
  | [], _ => (0, 0, 0)
  | x :: t, r => if r = x.1 then x.2 else kfind t r
theorem kfind_no : ∀ {l : List (Int × Int × Int × Int)} {r : Int}, (∀ x ∈ l, r ≠ x.1) → kfind l r = (0, 0, 0) := by
  intro l
  induction l with
  | nil => intro r _; rfl
  | cons x t ih => intro r h; rw [kfind, if_neg (h x (by simp)), ih fun y hy => h y (by simp [hy])]
theorem few_keys : ∀ x ∈ fewT, kfind fewT x.1 = lst listRows x.1 := by decide +kernel
theorem few_lst (r : Int) : kfind fewT r = lst listRows r := by
  by_cases h : ∃ x ∈ fewT, r = x.1
  · obtain ⟨x, hx, rfl⟩ := h
    exact few_keys x hx
  · have hn : ∀ x ∈ fewT, r ≠ x.1 := fun x hx e => h ⟨x, hx, e⟩
    rw [kfind_no hn, lst_none]
    have hk : ∀ y ∈ listRows, ∃ x ∈ fewT, x.1 = y.1 := by decide +kernel
    simp only [List.any_eq_false, beq_iff_eq]
    intro y hy e
    obtain ⟨x, hx, e2⟩ := hk y hy
    exact hn x hx (by rw [e2, e])
set_option maxRecDepth 100000 in
set_option maxHeartbeats 16000000 in
theorem few_any (r : Int) (w : World) : Calls Tryd.prog 29 #[.int .i32 r] w fun e w' => e = .returned (trip (kfind fewT r)) ∧ w = w' := by
  by_cases k0 : r = 469
  · as_aux_lemma =>
    subst k0
    go_enter Tryd.func29, Tryd.ntmps29
    go_wp2
    exact bodyPost_ret (v := .tuple #[.int .i32 220, .int .i32 772, .int .i64 2]) (by simp [results, Tryd.results29, go_sem]) rfl ⟨rfl, rfl⟩
  by_cases k1 : r = 470
  · as_aux_lemma =>
    subst k1
    go_enter Tryd.func29, Tryd.ntmps29
    go_wp2
    exact bodyPost_ret (v := .tuple #[.int .i32 252, .int .i32 772, .int .i64 2]) (by simp [results, Tryd.results29, go_sem]) rfl ⟨rfl, rfl⟩
  by_cases k2 : r = 832
  · as_aux_lemma =>
    subst k2
    go_enter Tryd.func29, Tryd.ntmps29
    go_wp2
    exact bodyPost_ret (v := .tuple #[.int .i32 768, .int .i32 0, .int .i64 1]) (by simp [results, Tryd.results29, go_sem]) rfl ⟨rfl, rfl⟩
  by_cases k3 : r = 833
  · as_aux_lemma =>
    subst k3
    go_enter Tryd.func29, Tryd.ntmps29
    go_wp2
    exact bodyPost_ret (v := .tuple #[.int .i32 769, .int .i32 0, .int .i64 1]) (by simp [results, Tryd.results29, go_sem]) rfl ⟨rfl, rfl⟩
  by_cases k4 : r = 835
  · as_aux_lemma =>
    subst k4
    go_enter Tryd.func29, Tryd.ntmps29
    go_wp2
    exact bodyPost_ret (v := .tuple #[.int .i32 787, .int .i32 0, .int .i64 1]) (by simp [results, Tryd.results29, go_sem]) rfl ⟨rfl, rfl⟩
  by_cases k5 : r = 836
  · as_aux_lemma =>
    subst k5
    go_enter Tryd.func29, Tryd.ntmps29
    go_wp2
    exact bodyPost_ret (v := .tuple #[.int .i32 776, .int .i32 769, .int .i64 2]) (by simp [results, Tryd.results29, go_sem]) rfl ⟨rfl, rfl⟩
  by_cases k6 : r = 902
  · as_aux_lemma =>
    subst k6
    go_enter Tryd.func29, Tryd.ntmps29
    go_wp2
    exact bodyPost_ret (v := .tuple #[.int .i32 913, .int .i32 769, .int .i64 2]) (by simp [results, Tryd.results29, go_sem]) rfl ⟨rfl, rfl⟩
  by_cases k7 : r = 912
  · as_aux_lemma =>
    subst k7
    go_enter Tryd.func29, Tryd.ntmps29
    go_wp2
    exact bodyPost_ret (v := .tuple #[.int .i32 970, .int .i32 769, .int .i64 2]) (by simp [results, Tryd.results29, go_sem]) rfl ⟨rfl, rfl⟩
  by_cases k8 : r = 940
  · as_aux_lemma =>
    subst k8
    go_enter Tryd.func29, Tryd.ntmps29
    go_wp2
    exact bodyPost_ret (v := .tuple #[.int .i32 945, .int .i32 769, .int .i64 2]) (by simp [results, Tryd.results29, go_sem]) rfl ⟨rfl, rfl⟩
  by_cases k9 : r = 943
  · as_aux_lemma =>
    subst k9
    go_enter Tryd.func29, Tryd.ntmps29
    go_wp2
    exact bodyPost_ret (v := .tuple #[.int .i32 953, .int .i32 769, .int .i64 2]) (by simp [results, Tryd.results29, go_sem]) rfl ⟨rfl, rfl⟩
  by_cases k10 : r = 970
  · as_aux_lemma =>
    subst k10
    go_enter Tryd.func29, Tryd.ntmps29
    go_wp2
    exact bodyPost_ret (v := .tuple #[.int .i32 953, .int .i32 776, .int .i64 2]) (by simp [results, Tryd.results29, go_sem]) rfl ⟨rfl, rfl⟩
  by_cases k11 : r = 972
  · as_aux_lemma =>
    subst k11
    go_enter Tryd.func29, Tryd.ntmps29
    go_wp2
    exact bodyPost_ret (v := .tuple #[.int .i32 959, .int .i32 769, .int .i64 2]) (by simp [results, Tryd.results29, go_sem]) rfl ⟨rfl, rfl⟩
  by_cases k12 : r = 7691
  · as_aux_lemma =>
    subst k12
    go_enter Tryd.func29, Tryd.ntmps29
    go_wp2
    exact bodyPost_ret (v := .tuple #[.int .i32 100, .int .i32 775, .int .i64 2]) (by simp [results, Tryd.results29, go_sem]) rfl ⟨rfl, rfl⟩
  by_cases k13 : r = 7693
  · as_aux_lemma =>
    subst k13
    go_enter Tryd.func29, Tryd.ntmps29
    go_wp2
    exact bodyPost_ret (v := .tuple #[.int .i32 100, .int .i32 803, .int .i64 2]) (by simp [results, Tryd.results29, go_sem]) rfl ⟨rfl, rfl⟩
  by_cases k14 : r = 7777
  · as_aux_lemma =>
    subst k14
    go_enter Tryd.func29, Tryd.ntmps29
    go_wp2
    exact bodyPost_ret (v := .tuple #[.int .i32 115, .int .i32 775, .int .i64 2]) (by simp [results, Tryd.results29, go_sem]) rfl ⟨rfl, rfl⟩
  by_cases k15 : r = 7779
  · as_aux_lemma =>
    subst k15
    go_enter Tryd.func29, Tryd.ntmps29
    go_wp2
    exact bodyPost_ret (v := .tuple #[.int .i32 115, .int .i32 803, .int .i64 2]) (by simp [results, Tryd.results29, go_sem]) rfl ⟨rfl, rfl⟩
  by_cases k16 : r = 7785
  · as_aux_lemma =>
    subst k16
    go_enter Tryd.func29, Tryd.ntmps29
    go_wp2
    exact bodyPost_ret (v := .tuple #[.int .i32 7779, .int .i32 775, .int .i64 2]) (by simp [results, Tryd.results29, go_sem]) rfl ⟨rfl, rfl⟩
  by_cases k17 : r = 7841
  · as_aux_lemma =>
    subst k17
    go_enter Tryd.func29, Tryd.ntmps29
    go_wp2
    exact bodyPost_ret (v := .tuple #[.int .i32 97, .int .i32 803, .int .i64 2]) (by simp [results, Tryd.results29, go_sem]) rfl ⟨rfl, rfl⟩
  by_cases k18 : r = 7844
  · as_aux_lemma =>
    subst k18
    go_enter Tryd.func29, Tryd.ntmps29
    go_wp2
    exact bodyPost_ret (v := .tuple #[.int .i32 194, .int .i32 769, .int .i64 2]) (by simp [results, Tryd.results29, go_sem]) rfl ⟨rfl, rfl⟩
  by_cases k19 : r = 7845
  · as_aux_lemma =>
    subst k19
    go_enter Tryd.func29, Tryd.ntmps29
    go_wp2
    exact bodyPost_ret (v := .tuple #[.int .i32 226, .int .i32 769, .int .i64 2]) (by simp [results, Tryd.results29, go_sem]) rfl ⟨rfl, rfl⟩
  by_cases k20 : r = 7863
  · as_aux_lemma =>
    subst k20
    go_enter Tryd.func29, Tryd.ntmps29
    go_wp2
    exact bodyPost_ret (v := .tuple #[.int .i32 7841, .int .i32 774, .int .i64 2]) (by simp [results, Tryd.results29, go_sem]) rfl ⟨rfl, rfl⟩
  by_cases k21 : r = 7865
  · as_aux_lemma =>
    subst k21
    go_enter Tryd.func29, Tryd.ntmps29
    go_wp2
    exact bodyPost_ret (v := .tuple #[.int .i32 101, .int .i32 803, .int .i64 2]) (by simp [results, Tryd.results29, go_sem]) rfl ⟨rfl, rfl⟩
  by_cases k22 : r = 7879
  · as_aux_lemma =>
    subst k22
    go_enter Tryd.func29, Tryd.ntmps29
    go_wp2
    exact bodyPost_ret (v := .tuple #[.int .i32 7865, .int .i32 770, .int .i64 2]) (by simp [results, Tryd.results29, go_sem]) rfl ⟨rfl, rfl⟩
  by_cases k23 : r = 8049
  · as_aux_lemma =>
    subst k23
    go_enter Tryd.func29, Tryd.ntmps29
    go_wp2
    exact bodyPost_ret (v := .tuple #[.int .i32 940, .int .i32 0, .int .i64 1]) (by simp [results, Tryd.results29, go_sem]) rfl ⟨rfl, rfl⟩
  by_cases k24 : r = 8115
  · as_aux_lemma =>
    subst k24
    go_enter Tryd.func29, Tryd.ntmps29
    go_wp2
    exact bodyPost_ret (v := .tuple #[.int .i32 945, .int .i32 837, .int .i64 2]) (by simp [results, Tryd.results29, go_sem]) rfl ⟨rfl, rfl⟩
  by_cases k25 : r = 8486
  · as_aux_lemma =>
    subst k25
    go_enter Tryd.func29, Tryd.ntmps29
    go_wp2
    exact bodyPost_ret (v := .tuple #[.int .i32 937, .int .i32 0, .int .i64 1]) (by simp [results, Tryd.results29, go_sem]) rfl ⟨rfl, rfl⟩
  by_cases k26 : r = 8490
  · as_aux_lemma =>
    subst k26
    go_enter Tryd.func29, Tryd.ntmps29
    go_wp2
    exact bodyPost_ret (v := .tuple #[.int .i32 75, .int .i32 0, .int .i64 1]) (by simp [results, Tryd.results29, go_sem]) rfl ⟨rfl, rfl⟩
  by_cases k27 : r = 8491
  · as_aux_lemma =>
    subst k27
    go_enter Tryd.func29, Tryd.ntmps29
    go_wp2
    exact bodyPost_ret (v := .tuple #[.int .i32 197, .int .i32 0, .int .i64 1]) (by simp [results, Tryd.results29, go_sem]) rfl ⟨rfl, rfl⟩
  by_cases k28 : r = 8800
  · as_aux_lemma =>
    subst k28
    go_enter Tryd.func29, Tryd.ntmps29
    go_wp2
    exact bodyPost_ret (v := .tuple #[.int .i32 61, .int .i32 824, .int .i64 2]) (by simp [results, Tryd.results29, go_sem]) rfl ⟨rfl, rfl⟩
  by_cases k29 : r = 12364
  · as_aux_lemma =>
    subst k29
    go_enter Tryd.func29, Tryd.ntmps29
    go_wp2
    exact bodyPost_ret (v := .tuple #[.int .i32 12363, .int .i32 12441, .int .i64 2]) (by simp [results, Tryd.results29, go_sem]) rfl ⟨rfl, rfl⟩
  by_cases k30 : r = 12497
  · as_aux_lemma =>
    subst k30
    go_enter Tryd.func29, Tryd.ntmps29
    go_wp2
    exact bodyPost_ret (v := .tuple #[.int .i32 12495, .int .i32 12442, .int .i64 2]) (by simp [results, Tryd.results29, go_sem]) rfl ⟨rfl, rfl⟩
  have HF := Lib.hid (show kfind fewT r = (0, 0, 0) by simp only [fewT, kfind, if_neg k0, if_neg k1, if_neg k2, if_neg k3, if_neg k4, if_neg k5, if_neg k6, if_neg k7, if_neg k8, if_neg k9, if_neg k10, if_neg k11, if_neg k12, if_neg k13, if_neg k14, if_neg k15, if_neg k16, if_neg k17, if_neg k18, if_neg k19, if_neg k20, if_neg k21, if_neg k22, if_neg k23, if_neg k24, if_neg k25, if_neg k26, if_neg k27, if_neg k28, if_neg k29, if_neg k30])
  have q0 : (r == 469) = false := by simpa using k0
  have q1 : (r == 470) = false := by simpa using k1
  have q2 : (r == 832) = false := by simpa using k2
  have q3 : (r == 833) = false := by simpa using k3
  have q4 : (r == 835) = false := by simpa using k4
  have q5 : (r == 836) = false := by simpa using k5
  have q6 : (r == 902) = false := by simpa using k6
  have q7 : (r == 912) = false := by simpa using k7
  have q8 : (r == 940) = false := by simpa using k8
  have q9 : (r == 943) = false := by simpa using k9
  have q10 : (r == 970) = false := by simpa using k10
  have q11 : (r == 972) = false := by simpa using k11
  have q12 : (r == 7691) = false := by simpa using k12
  have q13 : (r == 7693) = false := by simpa using k13
  have q14 : (r == 7777) = false := by simpa using k14
  have q15 : (r == 7779) = false := by simpa using k15
  have q16 : (r == 7785) = false := by simpa using k16
  have q17 : (r == 7841) = false := by simpa using k17
  have q18 : (r == 7844) = false := by simpa using k18
  have q19 : (r == 7845) = false := by simpa using k19
  have q20 : (r == 7863) = false := by simpa using k20
  have q21 : (r == 7865) = false := by simpa using k21
  have q22 : (r == 7879) = false := by simpa using k22
  have q23 : (r == 8049) = false := by simpa using k23
  have q24 : (r == 8115) = false := by simpa using k24
  have q25 : (r == 8486) = false := by simpa using k25
  have q26 : (r == 8490) = false := by simpa using k26
  have q27 : (r == 8491) = false := by simpa using k27
  have q28 : (r == 8800) = false := by simpa using k28
  have q29 : (r == 12364) = false := by simpa using k29
  have q30 : (r == 12497) = false := by simpa using k30
  clear k0 k1 k2 k3 k4 k5 k6 k7 k8 k9 k10 k11 k12 k13 k14 k15 k16 k17 k18 k19 k20 k21 k22 k23 k24 k25 k26 k27 k28 k29 k30
  rw [HF.out]
  go_enter Tryd.func29, Tryd.ntmps29
  go_wp2
  exact bodyPost_ret (v := .tuple #[.int .i32 0, .int .i32 0, .int .i64 0]) (by simp [results, Tryd.results29, go_sem]) rfl ⟨rfl, rfl⟩
end Go.Proofs.YtochodombojamaaDoor.Ucd

/-
  CONTRACT OF the document's Pair.
-/
namespace Go.Proofs.YtochodombojamaaDoor.Ucd
open Go.RowKit Utf

/-- the last place of r, counted on from i; a if there is none -/
def lastIx : List Int → Int → Int → Int → Int
  | [], _, a, _ => a
  | c :: t, i, a, r => lastIx t (i + 1) (if c = r then i else a) r
theorem last_no : ∀ {l : List Int} {i a r : Int}, (∀ c ∈ l, c ≠ r) → lastIx l i a r = a := by
  intro l
  induction l with
  | nil => intro i a r _; rfl
  | cons c t ih => intro i a r h; rw [lastIx, if_neg (h c (by simp)), ih fun y hy => h y (by simp [hy])]
theorem last_lo : ∀ {l : List Int} {i a r : Int}, -1 ≤ a → 0 ≤ i → -1 ≤ lastIx l i a r := by
  intro l
  induction l with
  | nil => intro i a r h _; exact h
  | cons c t ih => intro i a r h hi; rw [lastIx]; exact ih (by split <;> omega) (by omega)
def rlat (r : Int) : Int × Int × Int := if 0 ≤ lastIx compT 0 (-1) r then (letT.getD (lastIx compT 0 (-1) r).toNat 0, markT.getD (lastIx compT 0 (-1) r).toNat 0, 2) else kfind fewT r
theorem comp_in : ∀ c ∈ compT, 192 ≤ c ∧ c ≤ 383 := by decide +kernel
theorem rlat_near : ∀ i < 192, rlat (192 + (i : Nat)) = pairF (192 + (i : Nat)) := by decide +kernel
theorem rlat_eq (r : Int) (h : ¬ (44032 ≤ r ∧ r ≤ 55203)) : rlat r = pairF r := by
  by_cases hr : 192 ≤ r ∧ r ≤ 383
  · have := rlat_near (r - 192).toNat (by omega)
    rwa [show 192 + (((r - 192).toNat : Nat) : Int) = r from by omega] at this
  · have e : lastIx compT 0 (-1) r = -1 := last_no fun c hc e => by have := comp_in c hc; omega
    rw [rlat, e, if_neg (by omega), few_lst, pairF, if_neg hr, if_neg h]
theorem syl_eq (s : Int) : (sylA s, sylB s, (2 : Int)) = if s % 28 = 0 then (4352 + s / 588, 4449 + s / 28 % 21, 2) else (44032 + (s / 588 * 21 + s / 28 % 21) * 28, 4519 + s % 28, 2) := by
  unfold sylA sylB
  by_cases hz : s % 28 = 0
  · simp only [if_pos hz, Prod.mk.injEq]
    exact ⟨trivial, by omega, trivial⟩
  · simp only [if_neg hz, Prod.mk.injEq]
    first | exact ⟨by omega, trivial, trivial⟩ | exact ⟨by omega, trivial⟩ | omega

set_option maxHeartbeats 4000000 in
theorem rpair_syl (r : Int) (w : World) (h1 : 44032 ≤ r) (h2 : r ≤ 55203) : Calls Tryd.prog 17 #[.int .i32 r] w (Ret w (trip (pairF r))) := by
  have e : pairF r = (sylA (r - 44032), sylB (r - 44032), 2) := by unfold pairF; rw [if_neg (by omega), if_pos ⟨h1, h2⟩]
  rw [e, syl_eq]
  clear e
  have hin : inB r 44032 55203 = true := decide_eq_true ⟨h1, h2⟩
  have q0 : 0 ≤ r - 44032 := by omega
  have q1 := Int.emod_nonneg (r - 44032) (b := 28) (by omega)
  have q2 := Int.emod_lt_of_pos (r - 44032) (b := 28) (by omega)
  have q3 : 0 ≤ (r - 44032) / 588 := by omega
  have q4 : (r - 44032) / 588 ≤ 18 := by omega
  have q5 : 0 ≤ (r - 44032) / 28 := by omega
  have q6 : 0 ≤ (r - 44032) / 28 % 21 := by omega
  have q7 : (r - 44032) / 28 % 21 ≤ 20 := by omega
  by_cases hz : (r - 44032) % 28 = 0
  · have hz' : ((r - 44032) % 28 == 0) = true := by simpa using hz
    rw [if_pos hz]
    clear hz
    go_enter Tryd.func17, Tryd.ntmps17
    go_wp2_with (go_at_call 18; refine (in_any _ _ _ _).mono ?_; rintro e w' ⟨rfl, rfl⟩)
    exact bodyPost_ret (v := .tuple #[.int .i32 (4352 + (r - 44032) / 588), .int .i32 (4449 + (r - 44032) / 28 % 21), .int .i64 2]) (by simp [results, Tryd.results17, go_sem]) rfl ⟨rfl, Below.refl _ _⟩
  · have hz' : ((r - 44032) % 28 == 0) = false := by simpa using hz
    rw [if_neg hz]
    clear hz
    go_enter Tryd.func17, Tryd.ntmps17
    go_wp2_with (go_at_call 18; refine (in_any _ _ _ _).mono ?_; rintro e w' ⟨rfl, rfl⟩)
    exact bodyPost_ret (v := .tuple #[.int .i32 (44032 + ((r - 44032) / 588 * 21 + (r - 44032) / 28 % 21) * 28), .int .i32 (4519 + (r - 44032) % 28), .int .i64 2]) (by simp [results, Tryd.results17, go_sem]) rfl ⟨rfl, Below.refl _ _⟩

set_option maxHeartbeats 8000000 in
theorem rpair_lat (r : Int) (w : World) (h : ¬ (44032 ≤ r ∧ r ≤ 55203)) : Calls Tryd.prog 17 #[.int .i32 r] w (Ret w (trip (rlat r))) := by
  have hin : inB r 44032 55203 = false := decide_eq_false h
  have HLO := Lib.hid (show -1 ≤ lastIx compT 0 (-1) r from last_lo (by omega) (by omega))
  have HRL := Lib.hid (show rlat r = if 0 ≤ lastIx compT 0 (-1) r then (letT.getD (lastIx compT 0 (-1) r).toNat 0, markT.getD (lastIx compT 0 (-1) r).toNat 0, 2) else kfind fewT r from rfl)
  have HS : Hid (compS.size = 322) := Lib.hid (by decide +kernel)
  have HT : Hid (runes compS compS.size 0 = compT) := Lib.hid compT_runes
  have HC := Lib.hid (composed_any w)
  clear h
  generalize compS = S at HS HT HC
  go_enter Tryd.func17, Tryd.ntmps17
  go_wp2_with (first | (go_at_call 18; refine (in_any _ _ _ _).mono ?_; rintro e w' ⟨rfl, rfl⟩) | (go_at_call 25; refine HC.out.mono ?_; rintro e w' ⟨rfl, rfl⟩))
  go_loopw [9, 10] (fun a i wr => ∃ (f pos k : Nat) (z : Int), a = .int .i64 z ∧ i = .int .i64 k ∧ wr = w.iter S pos ∧ Hid (S.size ≤ pos + f ∧ k ≤ pos ∧ lastIx (runes S f pos) k z r = lastIx compT 0 (-1) r)) (fun _ _ wr => S.size - wr.iterPos w.heap.size)
  case atStart => exact ⟨S.size, 0, 0, -1, rfl, rfl, rfl, Lib.hid ⟨by omega, by omega, by rw [HT.out]; rfl⟩⟩
  case round =>
    obtain ⟨f, pos, k, z, rfl, rfl, rfl, H⟩ := hrel
    have hBB := below_iter (Below.refl w.heap.size w) (Nat.le_refl _) S
    by_cases hlt : pos < S.size
    · have hn : ∀ ty, (Instr.next (.pointer (some ⟨w.heap.size, 0, none⟩)) true ty).run Tryd.prog (w.iter S pos) = .ok (.tuple #[.bool true, .int .i64 pos, .int .i32 (Utf8.decode S pos).1]) (w.iter S (pos + (Utf8.decode S pos).2)) := fun ty => run_next_any w S pos ty hlt
      obtain ⟨f', rfl, hr, hf'⟩ := runes_next S f pos hlt H.out.1
      have hp := decode_pos S pos hlt
      have hkb : k ≤ 1000000 := by have := H.out.2.1; have := HS.out; omega
      generalize (Utf8.decode S pos).1 = c at hn hr
      generalize (Utf8.decode S pos).2 = d at hn hr hf' hp
      have HR := Lib.hid hr; have HF := Lib.hid hf'; have HP := Lib.hid hp; have HLT := Lib.hid hlt
      clear hr hf' hBB hp hlt
      by_cases hk : (c : Int) = r
      · have hk' : ((c : Int) == r) = true := by rw [hk]; exact beq_self_eq_true _
        have HK := Lib.hid hk
        clear hk
        go_wp2
        go_roundw
        case rel => exact ⟨f', pos + d, k + 1, k, rfl, by go_num, rfl, Lib.hid ⟨HF.out, by have := H.out.2.1; have := HP.out; omega, by rw [← H.out.2.2, HR.out, lastIx, if_pos HK.out]; rfl⟩⟩
        case measure => have := HP.out; have := HLT.out; simp; omega
      · have hk' : ((c : Int) == r) = false := by simpa using hk
        have HK := Lib.hid hk
        clear hk
        go_wp2
        go_roundw
        case rel => exact ⟨f', pos + d, k + 1, z, rfl, by go_num, rfl, Lib.hid ⟨HF.out, by have := H.out.2.1; have := HP.out; omega, by rw [← H.out.2.2, HR.out, lastIx, if_neg HK.out]; rfl⟩⟩
        case measure => have := HP.out; have := HLT.out; simp; omega
    · have hn : ∀ ty, (Instr.next (.pointer (some ⟨w.heap.size, 0, none⟩)) true ty).run Tryd.prog (w.iter S pos) = .ok (.tuple #[.bool false]) (w.iter S pos) := fun ty => run_next_end w S pos ty hlt
      have HB := Lib.hid (hBB pos)
      have hz : z = lastIx compT 0 (-1) r := by rw [← H.out.2.2, runes_end S f pos hlt]; rfl
      rw [← hz] at HLO HRL
      clear hBB hlt hz
      by_cases hz0 : 0 ≤ z
      · have HR := Lib.hid (HRL.out.trans (if_pos hz0))
        obtain ⟨j, rfl⟩ : ∃ j : Nat, z = j := ⟨z.toNat, by omega⟩
        clear hz0
        go_wp2_with fail
        refine (letters_any _).mono ?_
        rintro e w' ⟨rfl, rfl⟩
        go_wp2_with fail
        refine (nth_any letS j _ (by decide +kernel)).mono ?_
        rintro e w2 ⟨rfl, hb2⟩
        have HB2 := Lib.hid (HB.out.trans (hb2.mono HB.out.size))
        clear hb2
        go_wp2_with fail
        refine (marked_any _).mono ?_
        rintro e w' ⟨rfl, rfl⟩
        go_wp2_with fail
        refine (nth_any markS j _ (by decide +kernel)).mono ?_
        rintro e w3 ⟨rfl, hb3⟩
        have HB3 := Lib.hid (HB2.out.trans (hb3.mono HB2.out.size))
        clear hb3
        rw [letT_runes, markT_runes]
        go_wp2_with fail
        exact bodyPost_ret (v := .tuple #[.int .i32 (letT.getD j 0), .int .i32 (markT.getD j 0), .int .i64 2]) (by simp [results, Tryd.results17, go_sem]) rfl ⟨by rw [HR.out]; rfl, HB3.out⟩
      · have HR := Lib.hid (HRL.out.trans (if_neg hz0))
        have hzn : z < 0 := by omega
        clear hz0
        generalize hq : kfind fewT r = q
        have HQ := Lib.hid hq
        obtain ⟨qa, qb, qn⟩ := q
        clear hq
        go_wp2_with fail
        refine (few_any r _).mono ?_
        rintro e w' ⟨rfl, rfl⟩
        rw [HQ.out]
        dsimp only [trip]
        go_wp2_with fail
        exact bodyPost_ret (v := .tuple #[.int .i32 qa, .int .i32 qb, .int .i64 qn]) (by simp [results, Tryd.results17, go_sem]) rfl ⟨by rw [HR.out, HQ.out]; rfl, HB.out⟩

theorem rpair_any (r : Int) (w : World) : Calls Tryd.prog 17 #[.int .i32 r] w (Ret w (trip (pairF r))) := by
  by_cases h : 44032 ≤ r ∧ r ≤ 55203
  · exact rpair_syl r w h.1 h.2
  · rw [← rlat_eq r h]; exact rpair_lat r w h
end Go.Proofs.YtochodombojamaaDoor.Ucd
