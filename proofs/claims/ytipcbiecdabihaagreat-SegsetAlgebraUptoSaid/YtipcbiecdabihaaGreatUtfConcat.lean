/-
  CONTRACTS OF slices.Grow AND slices.Concat, as the decoder uses them: two slices of bytes, not both empty.
-/
import Derived.Test.YtipcbiecdabihaaGreatUtfEncAll
import Derived.Lib.AppendZeros
namespace Go.Proofs.YtipcbiecdabihaaGreat.Utf
open Go.RowKit
set_option maxRecDepth 100000

def Room (w : World) (e : Ending) (w' : World) : Prop := ∃ v, e = .returned v ∧ w'.ownsRow w.heap.size 5 1 v 0 [] ∧ Below w.heap.size w w'

set_option maxHeartbeats 1000000 in
theorem grow_any (n : Nat) (w : World) (h1 : 1 ≤ n) (h2 : n ≤ 2199023255552) : Calls Tryz.prog 113 #[.slice none 0 0, .int .i64 n] w (Room w) := by
  obtain ⟨i0, hi, hz0, hz1, hz2⟩ := info_parts infoU8
  have hrun := fun (u : World) (ty : TypeId) => Lib.run_append_nil_zeros (P := Tryz.prog) u 46 3 ty 5 i0 (.int .u8 0) .i64 .i64 Tryz.underlying46 Tryz.underlying3 hi hz0 n h1 (by omega) (by omega) (by rw [hz2]; omega)
  have HR := Lib.hid hrun
  clear hrun
  have hp : (0 : Int) < (n : Int) := by omega
  have hge := grownCap_ge w n 0 5
  have hle := grownCap_le_maxLen w n 0 5 (by unfold maxLen; omega)
  have hsz : (Builtin.zeroCells (Value.cells (.int .u8 0)) n ++ Builtin.zeroCells (Value.cells (.int .u8 0)) (grownCap w n 0 5 - n)).size = grownCap w n 0 5 * 1 := by
    rw [Array.size_append, size_zeroCells, size_zeroCells]
    have : (Value.cells (.int .u8 0)).size = 1 := rfl
    rw [this]; omega
  obtain ⟨C, hC⟩ : ∃ C, C = grownCap w n 0 5 := ⟨_, rfl⟩
  obtain ⟨Z, hZ⟩ : ∃ Z, Z = Builtin.zeroCells (Value.cells (.int .u8 0)) n ++ Builtin.zeroCells (Value.cells (.int .u8 0)) (grownCap w n 0 5 - n) := ⟨_, rfl⟩
  have HR0 : Hid (∀ ty : TypeId, (Builtin.append_ #[46, 3] ty #[.slice none 0 0, .int .i64 n]).run Tryz.prog w = .ok (.slice (some ⟨w.heap.size, 0, none⟩) n C) (w.drew.alloc (.cells Z 5))) := fun ty => by rw [HR.out w ty, hC, hZ]
  rw [← hZ, ← hC] at hsz
  rw [← hC] at hge hle
  have HSZ := Lib.hid hsz
  have hown : (w.drew.alloc (.cells Z 5)).ownsRow w.heap.size 5 1 (.slice (some ⟨w.heap.size, 0, none⟩) 0 C) 0 [] := World.ownsRow_made w.drew Z C (Nat.le_refl _) hle hsz
  have HO := Lib.hid hown
  unfold maxLen at hle
  clear hsz hC hZ HR hown
  go_enter Tryz.func113, Tryz.ntmps113
  go_wp2_with (first
    | (at_builtin; refine Lib.wpList_append_run _ rfl (.tmp 20) (.tmp 21) _ _ rfl _ _ rfl rfl _ _ (HR0.out _) ?_))
  all_goals go_ret
  all_goals exact ⟨_, rfl, HO.out, ((Below.refl _ _).drew).alloc (Nat.le_refl _) _⟩

def Joined (w : World) (l : List UInt8) (e : Ending) (w' : World) : Prop :=
  ∃ A c, e = .returned (.slice A l.length c) ∧ l.length ≤ c ∧ c ≤ maxLen ∧ Rd w' w'.heap.size A (bys l) ∧ Below w.heap.size w w'
theorem joined_of {w w' : World} {v : Value} {n : Nat} {l : List UInt8} {xs : List Value} (hn : n = l.length) (hx : xs = bys l) (hown : w'.ownsRow w.heap.size 5 1 v n xs) (hp : 0 < n) (hb : Below w.heap.size w w') : Joined w l (.returned v) w' := by
  subst hn hx
  obtain ⟨g, cap, rfl, _, _⟩ := hown.form hp
  have hr := Rd.of_own hown
  rcases hown.2 with ⟨h, _⟩ | ⟨g', cap', cur, h, _, _, h1, h2, _⟩
  · cases h
  · simp only [Value.slice.injEq] at h
    obtain ⟨_, _, rfl⟩ := h
    exact ⟨_, _, rfl, h1, h2, hr, hb⟩

set_option maxHeartbeats 2000000 in
theorem concat_any (b o n1 c1 n2 c2 : Nat) (A1 A2 : Option Addr) (l1 l2 : List UInt8) (w : World) (hb : b < w.heap.size) (h1 : w.cell? ⟨b, o, none⟩ = some (.slice A1 n1 c1)) (h2 : w.cell? ⟨b, o + 1, none⟩ = some (.slice A2 n2 c2))
    (r1 : Rd w w.heap.size A1 (bys l1)) (r2 : Rd w w.heap.size A2 (bys l2)) (e1 : l1.length = n1) (e2 : l2.length = n2) (b1 : 1 ≤ n1) (b2 : n1 ≤ 1099511627776) (b3 : n2 ≤ 1099511627776) :
    Calls Tryz.prog 97 #[.slice (some ⟨b, o, none⟩) 2 2] w (Joined w (l1 ++ l2)) := by
  obtain ⟨i0, hi, hz0, hz1, hz2⟩ := info_parts infoU8
  have E1 := Lib.hid e1; have E2 := Lib.hid e2
  clear e1 e2
  have hgr := grow_any (n1 + n2) w (by omega) (by omega)
  rw [Int.natCast_add] at hgr
  have HG := Lib.hid hgr
  clear hgr
  have n1' : (0 : Int) ≤ (n1 : Int) := by omega
  go_enter Tryz.func97, Tryz.ntmps97
  go_wp2_with fail
  refine wp_loop_rounds 3 ?_
  rw [rounds_succ]
  go_wp2_with fail
  rw [rounds_succ]
  go_wp2_with fail
  rw [rounds_succ]
  go_wp2_with fail
  refine HG.out.mono ?_
  rintro e w1 ⟨v1, rfl, hown0, hb1⟩
  have g1 : w1.cell? ⟨b, o, none⟩ = some (.slice A1 n1 c1) := (hb1.cell (p := ⟨b, o, none⟩) hb).trans h1
  have g2 : w1.cell? ⟨b, o + 1, none⟩ = some (.slice A2 n2 c2) := (hb1.cell (p := ⟨b, o + 1, none⟩) hb).trans h2
  have q1 := r1.below hb1
  have hs1 := hb1.size
  have m1 : ((n1 : Int) + (n2 : Int)) ≤ 2199023255552 := by omega
  have k1 : (bys l1).length = n1 * 1 := by rw [bys_len, E1.out, Nat.mul_one]
  have k2 : (bys l2).length = n2 * 1 := by rw [bys_len, E2.out, Nat.mul_one]
  have K1 := Lib.hid k1; have K2 := Lib.hid k2
  clear h1 h2 k1 k2
  go_wp2_with fail
  refine wp_loop_rounds 3 ?_
  rw [rounds_succ]
  go_wp2_with (first
    | (at_builtin; refine wpList_append_rd _ rfl (.tmp 31) (.tmp 32) _ rfl w.heap.size 5 i0 _ 1 1 Tryz.underlying46 hi hz0 hz1 hz2 rfl (by decide) _ 0 [] rfl hown0 w.heap.size A1 n1 c1 (bys l1) rfl K1.out q1 (bys_one _) (by unfold maxLen; omega) (by omega) hs1 ?_; intro v2 w2 hown2 hgr2 hat2; have hb2 := hb1.grown hgr2 hs1 (fun g hg => (hown0.lt g hg).1); have g3 : w2.cell? ⟨b, o + 1, none⟩ = some (.slice A2 n2 c2) := (hb2.cell (p := ⟨b, o + 1, none⟩) hb).trans ((hb1.cell (p := ⟨b, o + 1, none⟩) hb).symm.trans g2)))
  have q2 := r2.below hb2
  have hs2 := hb2.size
  rw [rounds_succ]
  go_wp2_with (first
    | (at_builtin; refine wpList_append_rd _ rfl (.tmp 31) (.tmp 32) _ rfl w.heap.size 5 i0 _ 1 1 Tryz.underlying46 hi hz0 hz1 hz2 rfl (by decide) _ (0 + n1) ([] ++ bys l1) rfl hown2 w.heap.size A2 n2 c2 (bys l2) rfl K2.out q2 (bys_one _) (by unfold maxLen; omega) (by omega) hs2 ?_; intro v3 w3 hown3 hgr3 hat3))
  rw [rounds_succ]
  go_wp2
  go_ret
  exact joined_of (n := 0 + n1 + n2) (by rw [List.length_append, E1.out, E2.out]; omega) (by rw [List.nil_append, bys_append]) hown3 (by omega) (hb2.grown hgr3 hs2 (fun g hg => (hown2.lt g hg).1))
end Go.Proofs.YtipcbiecdabihaaGreat.Utf
