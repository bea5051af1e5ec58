/-
  CONTRACTS OF slices.Grow, Concat (of one list and of two) at texts, and of rising.
-/
import Derived.Lib.AppendZeros
import Derived.Test.YtipcbiecdabihaaGreatSsetText
namespace Go.Proofs.YtipcbiecdabihaaGreat.Sset
open Go.RowKit
open Utf (Rd Blk wpList_append_rd own_ne)
open Rset
set_option maxRecDepth 100000

def RoomT (w : World) (e : Ending) (w' : World) : Prop := ∃ v, e = .returned v ∧ w'.ownsRow w.heap.size 9 1 v 0 [] ∧ Below w.heap.size w w'
set_option maxHeartbeats 1000000 in
theorem growT_some (n : Nat) (w : World) (h1 : 1 ≤ n) (h2 : n ≤ 4294967296) : Calls Tryz.prog 91 #[.slice none 0 0, .int .i64 n] w (RoomT w) := by
  obtain ⟨i0, hi, hz0, hz1, hz2⟩ := info_parts infoStr
  have hrun := fun (u : World) (ty : TypeId) => Lib.run_append_nil_zeros (P := Tryz.prog) u 23 3 ty 9 i0 (.string ⟨#[]⟩) .i64 .i64 Tryz.underlying23 Tryz.underlying3 hi hz0 n h1 (by omega) (by omega) (by rw [hz2]; omega)
  have HR := Lib.hid hrun
  clear hrun
  have hp : (0 : Int) < (n : Int) := by omega
  have hge := grownCap_ge w n 0 9
  have hle := grownCap_le_maxLen w n 0 9 (by unfold maxLen; omega)
  have hsz : (Builtin.zeroCells (Value.cells (.string ⟨#[]⟩)) n ++ Builtin.zeroCells (Value.cells (.string ⟨#[]⟩)) (grownCap w n 0 9 - n)).size = grownCap w n 0 9 * 1 := by
    rw [Array.size_append, size_zeroCells, size_zeroCells]
    have : (Value.cells (.string ⟨#[]⟩)).size = 1 := rfl
    rw [this]; omega
  obtain ⟨C, hC⟩ : ∃ C, C = grownCap w n 0 9 := ⟨_, rfl⟩
  obtain ⟨Z, hZ⟩ : ∃ Z, Z = Builtin.zeroCells (Value.cells (.string ⟨#[]⟩)) n ++ Builtin.zeroCells (Value.cells (.string ⟨#[]⟩)) (grownCap w n 0 9 - n) := ⟨_, rfl⟩
  have HR0 : Hid (∀ ty : TypeId, (Builtin.append_ #[23, 3] ty #[.slice none 0 0, .int .i64 n]).run Tryz.prog w = .ok (.slice (some ⟨w.heap.size, 0, none⟩) n C) (w.drew.alloc (.cells Z 9))) := fun ty => by rw [HR.out w ty, hC, hZ]
  rw [← hZ, ← hC] at hsz
  rw [← hC] at hge hle
  have HSZ := Lib.hid hsz
  have hown : (w.drew.alloc (.cells Z 9)).ownsRow w.heap.size 9 1 (.slice (some ⟨w.heap.size, 0, none⟩) 0 C) 0 [] := World.ownsRow_made w.drew Z C (Nat.le_refl _) hle hsz
  have HO := Lib.hid hown
  unfold maxLen at hle
  clear hsz hC hZ HR hown
  go_enter Tryz.func91, Tryz.ntmps91
  go_wp2_with (first
    | (at_builtin; refine Lib.wpList_append_run _ rfl (.tmp 20) (.tmp 21) _ _ rfl _ _ rfl rfl _ _ (HR0.out _) ?_))
  all_goals go_ret
  all_goals exact ⟨_, rfl, HO.out, ((Below.refl _ _).drew).alloc (Nat.le_refl _) _⟩
theorem growT_none (w : World) : Calls Tryz.prog 91 #[.slice none 0 0, .int .i64 0] w (RoomT w) := by
  go_enter Tryz.func91, Tryz.ntmps91
  go_wp2_with fail
  go_ret
  exact ⟨_, rfl, World.ownsRow_nil _ _ _ _, Below.refl _ _⟩
theorem growT_any (n : Nat) (w : World) (h2 : n ≤ 4294967296) : Calls Tryz.prog 91 #[.slice none 0 0, .int .i64 n] w (RoomT w) := by
  by_cases h : n = 0
  · subst h; exact growT_none w
  · exact growT_some n w (by omega) h2
theorem ownT_of {B n : Nat} {w w' : World} {v : Value} {l : List Tx} {xs : List Value} (hn : n = l.length) (hx : xs = txs l) (hown : w'.ownsRow B 9 1 v n xs) (hb : Below B w w') : OwnT B w l (.returned v) w' := by
  subst hn hx
  exact ⟨v, rfl, hown, hb⟩

set_option maxHeartbeats 2000000 in
theorem concat1_any (b o n1 c1 : Nat) (A1 : Option Addr) (l1 : List Tx) (w : World) (hb : b < w.heap.size) (h1 : w.cell? ⟨b, o, none⟩ = some (.slice A1 n1 c1))
    (r1 : Rd w w.heap.size A1 (txs l1)) (e1 : l1.length = n1) (b2 : n1 ≤ 2147483648) :
    Calls Tryz.prog 74 #[.slice (some ⟨b, o, none⟩) 1 1] w (OwnT w.heap.size w l1) := by
  obtain ⟨i0, hi, hz0, hz1, hz2⟩ := info_parts infoStr
  have E1 := Lib.hid e1
  clear e1
  have HG := Lib.hid (growT_any n1 w (by omega))
  have n1' : (0 : Int) ≤ (n1 : Int) := by omega
  go_enter Tryz.func74, Tryz.ntmps74
  go_wp2_with fail
  refine wp_loop_rounds 2 ?_
  rw [rounds_succ]
  go_wp2_with fail
  rw [rounds_succ]
  go_wp2_with fail
  refine HG.out.mono ?_
  rintro e w1 ⟨v1, rfl, hown0, hb1⟩
  have g1 : w1.cell? ⟨b, o, none⟩ = some (.slice A1 n1 c1) := (hb1.cell (p := ⟨b, o, none⟩) hb).trans h1
  have q1 := r1.below hb1
  have hs1 := hb1.size
  have k1 : (txs l1).length = n1 * 1 := by rw [txs_len, E1.out, Nat.mul_one]
  have K1 := Lib.hid k1
  clear h1 k1
  go_wp2_with fail
  refine wp_loop_rounds 2 ?_
  rw [rounds_succ]
  go_wp2_with (first
    | (at_builtin; refine wpList_append_rd _ rfl (.tmp 31) (.tmp 32) _ rfl w.heap.size 9 i0 _ 1 16 Tryz.underlying23 hi hz0 hz1 hz2 rfl (by decide) _ 0 [] rfl hown0 w.heap.size A1 n1 c1 (txs l1) rfl K1.out q1 (txs_one _) (by unfold maxLen; omega) (by omega) hs1 ?_; intro v2 w2 hown2 hgr2 hat2; have hb2 := hb1.grown hgr2 hs1 (fun g hg => (hown0.lt g hg).1)))
  rw [rounds_succ]
  go_wp2
  go_ret
  exact ownT_of (n := 0 + n1) (by rw [E1.out]; omega) (by rw [List.nil_append]) hown2 hb2

set_option maxHeartbeats 2000000 in
theorem concat2_any (b o n1 c1 n2 c2 : Nat) (A1 A2 : Option Addr) (l1 l2 : List Tx) (w : World) (hb : b < w.heap.size) (h1 : w.cell? ⟨b, o, none⟩ = some (.slice A1 n1 c1)) (h2 : w.cell? ⟨b, o + 1, none⟩ = some (.slice A2 n2 c2))
    (r1 : Rd w w.heap.size A1 (txs l1)) (r2 : Rd w w.heap.size A2 (txs l2)) (e1 : l1.length = n1) (e2 : l2.length = n2) (b2 : n1 ≤ 2147483648) (b3 : n2 ≤ 2147483648) :
    Calls Tryz.prog 74 #[.slice (some ⟨b, o, none⟩) 2 2] w (OwnT w.heap.size w (l1 ++ l2)) := by
  obtain ⟨i0, hi, hz0, hz1, hz2⟩ := info_parts infoStr
  have E1 := Lib.hid e1; have E2 := Lib.hid e2
  clear e1 e2
  have hgr := growT_any (n1 + n2) w (by omega)
  rw [Int.natCast_add] at hgr
  have HG := Lib.hid hgr
  clear hgr
  have n1' : (0 : Int) ≤ (n1 : Int) := by omega
  go_enter Tryz.func74, Tryz.ntmps74
  go_wp2_with fail
  refine wp_loop_rounds 3 ?_
  rw [rounds_succ]
  go_wp2_with fail
  rw [rounds_succ]
  go_wp2_with fail
  rw [rounds_succ]
  go_wp2_with fail
  refine HG.out.mono ?_
  rintro e w1 ⟨v1, rfl, hown0, hb1⟩
  have g1 : w1.cell? ⟨b, o, none⟩ = some (.slice A1 n1 c1) := (hb1.cell (p := ⟨b, o, none⟩) hb).trans h1
  have g2 : w1.cell? ⟨b, o + 1, none⟩ = some (.slice A2 n2 c2) := (hb1.cell (p := ⟨b, o + 1, none⟩) hb).trans h2
  have q1 := r1.below hb1
  have hs1 := hb1.size
  have m1 : ((n1 : Int) + (n2 : Int)) ≤ 4294967296 := by omega
  have k1 : (txs l1).length = n1 * 1 := by rw [txs_len, E1.out, Nat.mul_one]
  have k2 : (txs l2).length = n2 * 1 := by rw [txs_len, E2.out, Nat.mul_one]
  have K1 := Lib.hid k1; have K2 := Lib.hid k2
  clear h1 h2 k1 k2
  go_wp2_with fail
  refine wp_loop_rounds 3 ?_
  rw [rounds_succ]
  go_wp2_with (first
    | (at_builtin; refine wpList_append_rd _ rfl (.tmp 31) (.tmp 32) _ rfl w.heap.size 9 i0 _ 1 16 Tryz.underlying23 hi hz0 hz1 hz2 rfl (by decide) _ 0 [] rfl hown0 w.heap.size A1 n1 c1 (txs l1) rfl K1.out q1 (txs_one _) (by unfold maxLen; omega) (by omega) hs1 ?_; intro v2 w2 hown2 hgr2 hat2; have hb2 := hb1.grown hgr2 hs1 (fun g hg => (hown0.lt g hg).1); have g3 : w2.cell? ⟨b, o + 1, none⟩ = some (.slice A2 n2 c2) := (hb2.cell (p := ⟨b, o + 1, none⟩) hb).trans ((hb1.cell (p := ⟨b, o + 1, none⟩) hb).symm.trans g2)))
  have q2 := r2.below hb2
  have hs2 := hb2.size
  rw [rounds_succ]
  go_wp2_with (first
    | (at_builtin; refine wpList_append_rd _ rfl (.tmp 31) (.tmp 32) _ rfl w.heap.size 9 i0 _ 1 16 Tryz.underlying23 hi hz0 hz1 hz2 rfl (by decide) _ (0 + n1) ([] ++ txs l1) rfl hown2 w.heap.size A2 n2 c2 (txs l2) rfl K2.out q2 (txs_one _) (by unfold maxLen; omega) (by omega) hs2 ?_; intro v3 w3 hown3 hgr3 hat3))
  rw [rounds_succ]
  go_wp2
  go_ret
  exact ownT_of (n := 0 + n1 + n2) (by rw [List.length_append, E1.out, E2.out]; omega) (by rw [List.nil_append, txs_append]) hown3 (hb2.grown hgr3 hs2 (fun g hg => (hown2.lt g hg).1))

theorem rising_of (v : Value) (l : List Tx) (w : World) (hl : l.length ≤ 4294967296) (hc : Calls Tryz.prog 74 #[v] w (OwnT w.heap.size w l)) :
    Calls Tryz.prog 52 #[v] w (OwnT w.heap.size w (rise l)) := by
  have HC := Lib.hid hc; have HL := Lib.hid hl
  have HE := Lib.hid (show rise l = Lib.compact (l.mergeSort fun x y => decide (x ≤ y)) from rfl)
  rw [HE.out]
  clear hc hl
  go_enter Tryz.func52, Tryz.ntmps52
  go_wp2_with fail
  refine HC.out.mono ?_
  rintro e w1 ⟨v1, rfl, ho1, hb1⟩
  have HB1 := Lib.hid hb1
  have HS := Lib.hid (sortT_any w.heap.size l.length v1 l w1 ho1 hb1.size HL.out)
  clear ho1 hb1 HC
  go_wp2_with fail
  refine HS.out.mono ?_
  rintro e w2 ⟨rfl, ho2, hb2⟩
  have HB2 := Lib.hid (HB1.out.trans hb2)
  have HC := Lib.hid (compT_any w.heap.size l.length v1 _ w2 ho2 HB2.out.size HL.out)
  clear ho2 hb2 HS
  go_wp2_with fail
  refine HC.out.mono ?_
  rintro e w3 ⟨v3, rfl, ho3, hb3⟩
  have HB3 := Lib.hid (HB2.out.trans hb3)
  have HO := Lib.hid ho3
  clear ho3 hb3 HC
  go_wp2_with fail
  go_ret
  exact ⟨_, rfl, HO.out, HB3.out⟩
theorem rising1_any (b o n1 c1 : Nat) (A1 : Option Addr) (l1 : List Tx) (w : World) (hb : b < w.heap.size) (h1 : w.cell? ⟨b, o, none⟩ = some (.slice A1 n1 c1)) (r1 : ArgT w A1 n1 l1) :
    Calls Tryz.prog 52 #[.slice (some ⟨b, o, none⟩) 1 1] w (OwnT w.heap.size w (rise l1)) :=
  rising_of _ _ w (by have := r1.sm; have := r1.len; omega) (concat1_any b o n1 c1 A1 l1 w hb h1 r1.rd r1.len (by have := r1.sm; omega))
theorem rising2_any (b o n1 c1 n2 c2 : Nat) (A1 A2 : Option Addr) (l1 l2 : List Tx) (w : World) (hb : b < w.heap.size) (h1 : w.cell? ⟨b, o, none⟩ = some (.slice A1 n1 c1)) (h2 : w.cell? ⟨b, o + 1, none⟩ = some (.slice A2 n2 c2)) (r1 : ArgT w A1 n1 l1) (r2 : ArgT w A2 n2 l2) :
    Calls Tryz.prog 52 #[.slice (some ⟨b, o, none⟩) 2 2] w (OwnT w.heap.size w (rise (l1 ++ l2))) :=
  rising_of _ _ w (by have := r1.sm; have := r1.len; have := r2.sm; have := r2.len; rw [List.length_append]; omega) (concat2_any b o n1 c1 n2 c2 A1 A2 l1 l2 w hb h1 h2 r1.rd r2.rd r1.len r2.len (by have := r1.sm; omega) (by have := r2.sm; omega))
end Go.Proofs.YtipcbiecdabihaaGreat.Sset
