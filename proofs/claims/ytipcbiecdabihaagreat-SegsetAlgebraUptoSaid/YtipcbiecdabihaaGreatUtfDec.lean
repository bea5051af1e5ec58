/-
  CONTRACTS OF THE DECODER: New, Pending, Close.
-/
import Derived.Test.YtipcbiecdabihaaGreatUtfConcat
import Derived.Test.YtipcbiecdabihaaGreatUtfRdec
import Derived.Test.YtipcbiecdabihaaGreatUtfSame
import Derived.RegionTactic
import Derived.ChangeAlike
namespace Go.Proofs.YtipcbiecdabihaaGreat.Utf
open Go.RowKit
set_option maxRecDepth 100000

/-- the decoder's six cells -/
def dcs (k0 k1 k2 : UInt8) (n q : Nat) (b : Bool) : List Value := [.int .u8 k0.toNat, .int .u8 k1.toNat, .int .u8 k2.toNat, .int .i64 n, .int .i64 q, .bool b]
def Dc (w : World) (g : Nat) (k0 k1 k2 : UInt8) (n q : Nat) (b : Bool) : Prop := Blk w g 107 (dcs k0 k1 k2 n q b)

section
variable {w w' : World} {g n q : Nat} {k0 k1 k2 : UInt8} {b : Bool}
theorem Dc.c3 (h : Dc w g k0 k1 k2 n q b) : w.cell? ⟨g, 3, none⟩ = some (.int .i64 n) := Blk.cell h 3
theorem Dc.c4 (h : Dc w g k0 k1 k2 n q b) : w.cell? ⟨g, 4, none⟩ = some (.int .i64 q) := Blk.cell h 4
theorem Dc.c5 (h : Dc w g k0 k1 k2 n q b) : w.cell? ⟨g, 5, none⟩ = some (.bool b) := Blk.cell h 5
theorem Dc.fr (h : Dc w g k0 k1 k2 n q b) (i : Nat) : w.frozen? ⟨g, i, none⟩ = false := Blk.frozen h i
end

theorem new_any (w : World) : Calls Tryz.prog 83 #[] w fun e w' => e = .returned (.pointer (some ⟨w.heap.size, 0, none⟩)) ∧ w' = w.alloc (.cells (dcs 0 0 0 0 0 false).toArray 107) := by
  go_enter Tryz.func83, Tryz.ntmps83
  go_wp2
  go_ret
  exact ⟨rfl, rfl⟩

theorem close_nil (w : World) : Calls Tryz.prog 85 #[.pointer none] w fun e w' => e = .returned (.slice none 0 0) ∧ w = w' := by
  go_enter Tryz.func85, Tryz.ntmps85
  go_wp2
  go_ret
  exact ⟨rfl, rfl⟩

theorem grown_set {w u : World} {g : Nat} (h : w.grownBy u (some g)) (i : Nat) (v : Value) : w.grownBy (u.setCell ⟨g, i, none⟩ v) (some g) :=
  ⟨h.os, h.tape, h.output, by rw [World.size_setCell]; exact h.size, fun k hk hne => (heap_setCell_other u _ k v (fun e => hne (by rw [e]))).trans (h.block k hk hne)⟩
theorem grown_alloc {w u : World} {r : Option Nat} (h : w.grownBy u r) (o : Obj) : w.grownBy (u.alloc o) r :=
  ⟨h.os, h.tape, h.output, by rw [World.size_alloc]; have := h.size; omega, fun k hk hne => (Below.heap_alloc u o k (Nat.lt_of_lt_of_le hk h.size)).trans (h.block k hk hne)⟩
theorem grown_drew {w u : World} {r : Option Nat} (h : w.grownBy u r) : w.grownBy u.drew r := ⟨h.os, h.tape, h.output, h.size, h.block⟩
theorem grown_below {w u v : World} {r : Option Nat} (h : w.grownBy u r) (hb : Below w.heap.size u v) : w.grownBy v r :=
  ⟨hb.os.trans h.os, hb.tape.trans h.tape, hb.output.trans h.output, Nat.le_trans h.size hb.size, fun k hk hne => (hb.block k hk).trans (h.block k hk hne)⟩

/-- what Close tells -/
def last (n q : Nat) : List Pt := if n = 0 then [] else [⟨65533, q, n⟩]
def Closed (w : World) (g : Nat) (k0 k1 k2 : UInt8) (n q : Nat) (e : Ending) (w' : World) : Prop :=
  ∃ A, e = .returned (.slice A (last n q).length (last n q).length) ∧ Rd w' w'.heap.size A (pts (last n q)) ∧ Dc w' g k0 k1 k2 0 q true ∧ w.grownBy w' (some g)

set_option maxHeartbeats 1000000 in
theorem close_zero (g q : Nat) (k0 k1 k2 : UInt8) (b : Bool) (w : World) (h : Dc w g k0 k1 k2 0 q b) : Calls Tryz.prog 85 #[.pointer (some ⟨g, 0, none⟩)] w (Closed w g k0 k1 k2 0 q) := by
  have h3 : w.cell? ⟨g, 3, none⟩ = some (.int .i64 0) := h.c3
  have h5 := h.c5
  have f5 := h.fr 5
  have H := Lib.hid h
  clear h
  go_enter Tryz.func85, Tryz.ntmps85
  go_wp2
  go_ret
  exact ⟨none, rfl, Rd.empty _ _ _, (H.out : Blk _ _ _ _).set_ 5 (.bool true), ⟨rfl, rfl, rfl, by simp, fun k _ hk => heap_setCell_other _ _ _ _ (fun e => hk (by rw [e]))⟩⟩

set_option maxHeartbeats 1000000 in
theorem close_some (g n q : Nat) (k0 k1 k2 : UInt8) (b : Bool) (w : World) (h : Dc w g k0 k1 k2 n q b) (hn : n ≠ 0) : Calls Tryz.prog 85 #[.pointer (some ⟨g, 0, none⟩)] w (Closed w g k0 k1 k2 n q) := by
  have h3 := h.c3
  have h4 := h.c4
  have h5 := h.c5
  have f3 := h.fr 3
  have f4 := h.fr 4
  have f5 := h.fr 5
  have hne : ((n : Int) == 0) = false := by simp; omega
  have H := Lib.hid h
  have HN := Lib.hid hn
  have hlt : g < w.heap.size := Blk.lt h
  clear h hn
  go_enter Tryz.func85, Tryz.ntmps85
  go_wp2
  go_region
  all_goals go_wp2
  go_ret
  have el : last n q = [⟨65533, q, n⟩] := by unfold last; rw [if_neg HN.out]
  have hB : Blk ((w.setCell ⟨g, 5, none⟩ (.bool true)).setCell ⟨g, 3, none⟩ (.int .i64 0)) g 107 (dcs k0 k1 k2 0 q true) :=
    ((H.out : Blk _ _ _ _).set_ 5 (.bool true)).set_ 3 (.int .i64 0)
  have hz : ((w.setCell ⟨g, 5, none⟩ (.bool true)).setCell ⟨g, 3, none⟩ (.int .i64 0)).heap.size = w.heap.size := by simp
  refine ⟨some ⟨w.heap.size + 1, 0, none⟩, by rw [el]; rfl, ?_, (hB.alloc _).alloc _, grown_drew (grown_alloc (grown_alloc (grown_set (grown_set (World.grownBy.refl w _) 5 _) 3 _) _) _)⟩
  rw [el]
  have := rd_new (((w.setCell ⟨g, 5, none⟩ (.bool true)).setCell ⟨g, 3, none⟩ (.int .i64 0)).alloc (.cells #[.int .i32 65533, .int .i64 q, .int .i64 n] 58)) 58 (pts [⟨65533, q, n⟩]) (w.heap.size + 1) (by simp)
  exact (this.more (by simp)).drew
end Go.Proofs.YtipcbiecdabihaaGreat.Utf
