/-
  CONTRACTS OF THE ENCODERS: one sequence more; all of a list.
-/
import Derived.Test.YtipcbiecdabihaaGreatUtfRead
namespace Go.Proofs.YtipcbiecdabihaaGreat.Utf
open Go.RowKit
set_option maxRecDepth 100000

def encN (q : Nat) : List UInt8 :=
  if q < 128 then [UInt8.ofNat q] else if q < 2048 then [UInt8.ofNat (192 + q / 64), UInt8.ofNat (128 + q % 64)]
  else if q < 65536 then [UInt8.ofNat (224 + q / 4096), UInt8.ofNat (128 + q / 64 % 64), UInt8.ofNat (128 + q % 64)]
  else [UInt8.ofNat (240 + q / 262144), UInt8.ofNat (128 + q / 4096 % 64), UInt8.ofNat (128 + q / 64 % 64), UInt8.ofNat (128 + q % 64)]
def fix (r : Int) : Nat := if vld r then r.toNat else 65533
def enc (l : List Int) : List UInt8 := l.flatMap fun r => encN (fix r)

theorem encN_le (q : Nat) : (encN q).length ≤ 4 := by unfold encN; repeat (split <;> try simp)
theorem enc_le (l : List Int) : (enc l).length ≤ 4 * l.length := by
  induction l with
  | nil => simp [enc]
  | cons r t ih =>
    have := encN_le (fix r)
    simp only [enc, List.flatMap_cons, List.length_append, List.length_cons] at ih ⊢
    omega
theorem enc_append (a b : List Int) : enc (a ++ b) = enc a ++ enc b := List.flatMap_append
theorem fix_valid {r : Int} (h : vld r = true) : ∃ q : Nat, r = q ∧ fix r = q ∧ q ≤ 1114111 := by
  have h' := (vld_iff r).1 h
  exact ⟨r.toNat, by omega, by unfold fix; rw [if_pos h], by omega⟩
theorem fix_not {r : Int} (h : vld r = false) : fix r = 65533 := by unfold fix; rw [if_neg (by simp [h])]
theorem by_of (n : Nat) (h : n < 256) : Value.int .u8 ((UInt8.ofNat n).toNat : Int) = .int .u8 (n : Int) := by
  have : (UInt8.ofNat n).toNat = n := by simp [UInt8.toNat_ofNat']; omega
  rw [this]
theorem bys1 {q : Nat} (h : q < 128) : bys (encN q) = [.int .u8 q] := by
  unfold encN; rw [if_pos h]; simp only [bys, List.map_cons, List.map_nil]; rw [by_of _ (by omega)]
theorem bys2 {q : Nat} (h : 128 ≤ q) (h2 : q < 2048) : bys (encN q) = [.int .u8 (192 + (q : Int) / 64), .int .u8 (128 + (q : Int) % 64)] := by
  unfold encN; rw [if_neg (by omega), if_pos h2]; simp only [bys, List.map_cons, List.map_nil]; rw [by_of _ (by omega), by_of _ (by omega)]; rfl
theorem bys3 {q : Nat} (h : 2048 ≤ q) (h2 : q < 65536) : bys (encN q) = [.int .u8 (224 + (q : Int) / 4096), .int .u8 (128 + (q : Int) / 64 % 64), .int .u8 (128 + (q : Int) % 64)] := by
  unfold encN; rw [if_neg (by omega), if_neg (by omega), if_pos h2]; simp only [bys, List.map_cons, List.map_nil]; rw [by_of _ (by omega), by_of _ (by omega), by_of _ (by omega)]; rfl
theorem bys4 {q : Nat} (h : 65536 ≤ q) (h2 : q ≤ 1114111) : bys (encN q) = [.int .u8 (240 + (q : Int) / 262144), .int .u8 (128 + (q : Int) / 4096 % 64), .int .u8 (128 + (q : Int) / 64 % 64), .int .u8 (128 + (q : Int) % 64)] := by
  unfold encN; rw [if_neg (by omega), if_neg (by omega), if_neg (by omega)]; simp only [bys, List.map_cons, List.map_nil]; rw [by_of _ (by omega), by_of _ (by omega), by_of _ (by omega), by_of _ (by omega)]; rfl

def Grew (w : World) (base : Nat) (v : Value) (n : Nat) (xs : List Value) (l : List UInt8) (e : Ending) (w' : World) : Prop :=
  ∃ v', e = .returned v' ∧ w'.ownsRow base 5 1 v' (n + l.length) (xs ++ bys l) ∧ ∀ H, base = H → H ≤ w.heap.size → (∀ k, v.ownBlock = some k → H ≤ k) → Below H w w'
theorem grew_of {w w' u : World} {base n m : Nat} {v v' : Value} {xs news : List Value} {l : List UInt8} (hm : news.length = m) (hl : bys l = news) (hu : ∀ H, H ≤ w.heap.size → Below H w u)
    (hown : w'.ownsRow base 5 1 v' (n + m) (xs ++ news)) (hg : u.grownBy w' v.ownBlock) : Grew w base v n xs l (.returned v') w' := by
  subst hl
  rw [bys_len] at hm
  subst hm
  exact ⟨v', rfl, hown, fun H _ hH hk => (hu H hH).grown hg (Nat.le_trans hH (hu H hH).size) hk⟩
theorem oneU8 {l : List Value} (h : ∀ u ∈ l, ∃ n : Int, u = .int .u8 n) : ∀ u ∈ l, u.oneCell' = true := fun u hu => by obtain ⟨n, rfl⟩ := h u hu; rfl

set_option maxRecDepth 100000 in
set_option maxHeartbeats 2000000 in
theorem put_any (base : Nat) (v : Value) (n : Nat) (xs : List Value) (r : Int) (w : World) (hown : w.ownsRow base 5 1 v n xs) (hb : base ≤ w.heap.size) (hn : n + 4 ≤ 140737488355328) :
    Calls Tryz.prog 49 #[v, .int .i32 r] w (Grew w base v n xs (encN (fix r))) := by
  obtain ⟨i0, hi, hz0, hz1, hz2⟩ := info_parts infoU8
  cases hv : vld r with
  | true =>
    obtain ⟨q, rfl, hf, hq⟩ := fix_valid hv
    rw [hf]
    have HV := Lib.hid hv
    clear hv hf
    have hcase : q < 128 ∨ (128 ≤ q ∧ q < 2048) ∨ (2048 ≤ q ∧ q < 65536) ∨ 65536 ≤ q := by omega
    rcases hcase with c1 | ⟨c1, c2⟩ | ⟨k1, k2⟩ | k1
    · have HB := Lib.hid (bys1 c1)
      go_enter Tryz.func49, Tryz.ntmps49
      go_wp2_with (first
        | (go_at_call 70; refine (rvalid_any _ _).mono ?_; rintro e w' ⟨rfl, rfl⟩; rw [HV.out])
        | (at_builtin; refine wpList_append_rd _ rfl (.tmp 10) (.tmp 13) _ rfl base 5 i0 _ 1 1 Tryz.underlying46 hi hz0 hz1 hz2 rfl (by decide) _ _ _ rfl (hown.alloc _) _ (some ⟨w.heap.size, 0, none⟩) 1 1 _ rfl rfl (rd_new _ _ [.int .u8 (q : Int)] _ (by simp)) (oneU8 (by simp)) (by unfold maxLen; omega) (by omega) (by simp; omega) ?_; intro v2 w2 hown2 hgr2 hat2))
      go_ret
      exact grew_of rfl HB.out (fun H hH => (Below.refl _ _).alloc hH _) hown2 hgr2

    · have HB := Lib.hid (bys2 c1 c2)
      go_enter Tryz.func49, Tryz.ntmps49
      go_wp2_with (first
        | (go_at_call 70; refine (rvalid_any _ _).mono ?_; rintro e w' ⟨rfl, rfl⟩; rw [HV.out])
        | (at_builtin; refine wpList_append_rd _ rfl (.tmp 17) (.tmp 26) _ rfl base 5 i0 _ 1 1 Tryz.underlying46 hi hz0 hz1 hz2 rfl (by decide) _ _ _ rfl (hown.alloc _) _ (some ⟨w.heap.size, 0, none⟩) 2 2 _ rfl rfl (rd_new _ _ [.int .u8 (192 + (q : Int) / 64), .int .u8 (128 + (q : Int) % 64)] _ (by simp)) (oneU8 (by simp)) (by unfold maxLen; omega) (by omega) (by simp; omega) ?_; intro v2 w2 hown2 hgr2 hat2))
      go_ret
      exact grew_of rfl HB.out (fun H hH => (Below.refl _ _).alloc hH _) hown2 hgr2

    · have HB := Lib.hid (bys3 k1 k2)
      have n1 : ¬ (q : Int) < 128 := by omega
      have n2 : ¬ (q : Int) < 2048 := by omega
      have n3 : decide ((q : Int) < 128) = false := by simp; omega
      have n4 : decide ((q : Int) < 2048) = false := by simp; omega
      have c2 : (q : Int) < 65536 := by omega
      clear k1 k2 hq
      go_enter Tryz.func49, Tryz.ntmps49
      go_wp2_with (first
        | (go_at_call 70; refine (rvalid_any _ _).mono ?_; rintro e w' ⟨rfl, rfl⟩; rw [HV.out])
        | (at_builtin; refine wpList_append_rd _ rfl (.tmp 30) (.tmp 44) _ rfl base 5 i0 _ 1 1 Tryz.underlying46 hi hz0 hz1 hz2 rfl (by decide) _ _ _ rfl (hown.alloc _) _ (some ⟨w.heap.size, 0, none⟩) 3 3 _ rfl rfl (rd_new _ _ [.int .u8 (224 + (q : Int) / 4096), .int .u8 (128 + (q : Int) / 64 % 64), .int .u8 (128 + (q : Int) % 64)] _ (by simp)) (oneU8 (by simp)) (by unfold maxLen; omega) (by omega) (by simp; omega) ?_; intro v2 w2 hown2 hgr2 hat2))
      go_ret
      exact grew_of rfl HB.out (fun H hH => (Below.refl _ _).alloc hH _) hown2 hgr2

    · have HB := Lib.hid (bys4 k1 hq)
      have n1 : ¬ (q : Int) < 128 := by omega
      have n2 : ¬ (q : Int) < 2048 := by omega
      have n5 : ¬ (q : Int) < 65536 := by omega
      have n3 : decide ((q : Int) < 128) = false := by simp; omega
      have n4 : decide ((q : Int) < 2048) = false := by simp; omega
      have n6 : decide ((q : Int) < 65536) = false := by simp; omega
      have c2 : (q : Int) ≤ 1114111 := by omega
      clear k1 hq
      go_enter Tryz.func49, Tryz.ntmps49
      go_wp2_with (first
        | (go_at_call 70; refine (rvalid_any _ _).mono ?_; rintro e w' ⟨rfl, rfl⟩; rw [HV.out])
        | (at_builtin; refine wpList_append_rd _ rfl (.tmp 46) (.tmp 65) _ rfl base 5 i0 _ 1 1 Tryz.underlying46 hi hz0 hz1 hz2 rfl (by decide) _ _ _ rfl (hown.alloc _) _ (some ⟨w.heap.size, 0, none⟩) 4 4 _ rfl rfl (rd_new _ _ [.int .u8 (240 + (q : Int) / 262144), .int .u8 (128 + (q : Int) / 4096 % 64), .int .u8 (128 + (q : Int) / 64 % 64), .int .u8 (128 + (q : Int) % 64)] _ (by simp)) (oneU8 (by simp)) (by unfold maxLen; omega) (by omega) (by simp; omega) ?_; intro v2 w2 hown2 hgr2 hat2))
      go_ret
      exact grew_of rfl HB.out (fun H hH => (Below.refl _ _).alloc hH _) hown2 hgr2

  | false =>
    rw [fix_not hv]
    have HV := Lib.hid hv
    clear hv
    have HB := Lib.hid (show bys (encN 65533) = [.int .u8 239, .int .u8 191, .int .u8 189] from rfl)
    go_enter Tryz.func49, Tryz.ntmps49
    go_wp2_with (first
      | (go_at_call 70; refine (rvalid_any _ _).mono ?_; rintro e w' ⟨rfl, rfl⟩; rw [HV.out])
      | (at_builtin; refine wpList_append_rd _ rfl (.tmp 30) (.tmp 44) _ rfl base 5 i0 _ 1 1 Tryz.underlying46 hi hz0 hz1 hz2 rfl (by decide) _ _ _ rfl (hown.alloc _) _ (some ⟨w.heap.size, 0, none⟩) 3 3 _ rfl rfl (rd_new _ _ [.int .u8 239, .int .u8 191, .int .u8 189] _ (by simp)) (oneU8 (by simp)) (by unfold maxLen; omega) (by omega) (by simp; omega) ?_; intro v2 w2 hown2 hgr2 hat2))
    go_ret
    exact grew_of rfl HB.out (fun H hH => (Below.refl _ _).alloc hH _) hown2 hgr2

end Go.Proofs.YtipcbiecdabihaaGreat.Utf
