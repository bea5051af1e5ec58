/-
  CONTRACT OF fixed: the chapter's examples hold.
-/
import Derived.Test.YtckdjbonplpknaaSparseRun
import Derived.Test.YtckdjbonplpknaaSparseRef
namespace Go.Proofs.Ytckdjbonplpknaa.Sparse
open Go.RowKit Mem
set_option maxRecDepth 100000

def exOps : List (Int × Int) := [(1, 2), (1, 0), (1, 2), (1, 4), (4, 1)]
theorem ex_outs : outs (room 4) exOps [] = [1, 1, 0, 0, 0] := by decide +kernel
theorem ex_fin : fin (room 4) exOps [] = [2, 0] := by decide +kernel
theorem ex_fresh : fresh (room 4) [] 3 = true := by decide +kernel
theorem ex_put : put (room 4) [] 3 = [3] := by decide +kernel
set_option maxHeartbeats 4000000 in
theorem fixed_any (w : World) : Calls Try.prog 7 #[] w (Ret w (.bool true)) := by
  have HNEW := Lib.hid (new_int 4 w (by omega) (by omega))
  have HX := Lib.hid (show ∀ o ∈ exOps, -9223372036854775808 ≤ o.2 ∧ o.2 ≤ 9223372036854775807 from by decide +kernel)
  go_enter Try.func7, Try.ntmps7
  go_wp2_with fail
  refine HNEW.out.mono ?_
  rintro e w1 ⟨g, p, rfl, hs, hb⟩
  have HS := Lib.hid hs; have HB := Lib.hid hb
  have HR := Lib.hid (run_any 4 (some ⟨w1.heap.size, 0, none⟩) exOps 5 5 (w1.alloc (.cells (opv exOps).toArray 28)) (by omega) (by omega) (by have := rd_new w1 28 (opv exOps) _ rfl; simpa using this) rfl HX.out (by omega))
  clear hs hb HNEW
  go_wp2_with fail
  refine HR.out.mono ?_
  rintro e w2 ⟨v, u, rfl, k1, k2, k3⟩
  rw [ex_outs] at k1
  rw [ex_fin] at k2
  have hb2 : Below w1.heap.size w1 w2 := ((Below.refl _ _).alloc (Nat.le_refl _) _).trans (k3.mono (by simp))
  have HS2 := Lib.hid (HS.out.next hb2)
  have HB2 := Lib.hid (HB.out.trans (hb2.mono HB.out.size))
  have HD := Lib.hid (show ∀ i, w1.heap.size + 1 ≤ i → ¬ Ft g p (.slice none 0 0) i from fun i hi hf => by have := (HS.out.hers hf).2; omega)
  rw [show (w1.alloc (.cells (opv exOps).toArray 28)).heap.size = w1.heap.size + 1 from by simp] at k1 k2
  have k1' : w2.ownsRow (w1.heap.size + 1) 3 1 v 5 (ks .i64 [1, 1, 0, 0, 0]) := k1
  have k2' : w2.ownsRow (w1.heap.size + 1) 3 1 u 2 (ks .i64 [2, 0]) := k2
  have HO1 := Lib.hid k1'; have HO2 := Lib.hid k2'
  obtain ⟨A1, ca1, rfl, _, _, _⟩ := own_form k1'
  obtain ⟨A2, ca2, rfl, _, _, _⟩ := own_form k2'
  have HA := Lib.hid (add_int 3 _ g p _ _ _ w2 HS2.out (by omega) (by omega))
  clear k1 k2 k1' k2' k3 hb2 HR HS HB HX
  go_wp2_with fail
  refine HA.out.mono ?_
  rintro e w3 ⟨u3, he, s3, c3, g3⟩
  rw [ex_fresh] at he
  rw [ex_put] at s3
  subst he
  have HO3 := Lib.hid (own_keep HO1.out c3 fun i hi => HD.out i (HO1.out.lt i hi).1)
  have HO4 := Lib.hid (own_keep HO2.out c3 fun i hi => HD.out i (HO2.out.lt i hi).1)
  have HB3 := Lib.hid (HB2.out.trans (c3.below (B := w.heap.size) (by have := HB2.out.size; exact this) fun i hi => HS2.out.low hi))
  have HH := Lib.hid (has_int 3 _ g p _ _ _ w3 s3 (by omega) (by omega))
  rw [show decide ((3 : Int) ∈ [(3 : Int)]) = true from by decide] at HH
  have HL := Lib.hid (len_int _ g p _ _ _ w3 s3)
  rw [show (([(3 : Int)].length : Nat) : Int) = 1 from rfl] at HL
  have HR1 := Lib.hid (Rd.of_own HO3.out); have HR2 := Lib.hid (Rd.of_own HO4.out)
  have HQ1 := Lib.hid (show Calls Try.prog 10 #[.slice A1 5 ca1, .slice (some ⟨w3.heap.size, 0, none⟩) 5 5] (w3.alloc (.cells #[.int .i64 1, .int .i64 1, .int .i64 0, .int .i64 0, .int .i64 0] 3)) (Ret (w3.alloc (.cells #[.int .i64 1, .int .i64 1, .int .i64 0, .int .i64 0, .int .i64 0] 3)) (.bool true)) from
    same_yes A1 _ [1, 1, 0, 0, 0] [1, 1, 0, 0, 0] 5 5 ca1 5 _ ((HR1.out.below ((Below.refl _ _).alloc (Nat.le_refl _) _)).more (by simp)) ((rd_new w3 3 (ks .i64 [1, 1, 0, 0, 0]) _ rfl).more (by simp)) rfl rfl (by omega) rfl)
  have HQ2 := Lib.hid (show ∀ w4 : World, Below w3.heap.size w3 w4 → Calls Try.prog 10 #[.slice A2 2 ca2, .slice (some ⟨w4.heap.size, 0, none⟩) 2 2] (w4.alloc (.cells #[.int .i64 2, .int .i64 0] 3)) (Ret (w4.alloc (.cells #[.int .i64 2, .int .i64 0] 3)) (.bool true)) from fun w4 hb4 =>
    same_yes A2 _ [2, 0] [2, 0] 2 2 ca2 2 _ (((HR2.out.below hb4).below ((Below.refl _ _).alloc hb4.size _)).more (by have := hb4.size; simp; omega)) ((rd_new w4 3 (ks .i64 [2, 0]) _ rfl).more (by simp)) rfl rfl (by omega) rfl)
  have HB0 := Lib.hid (show ∀ (u v : World) (o : Obj), Below (u.alloc o).heap.size (u.alloc o) v → Below u.heap.size u v from fun u v o h => ((Below.refl _ _).alloc (Nat.le_refl _) _).trans (h.mono (by simp)))
  clear s3 c3 g3 HA HS2 HO1 HO2 HD
  go_wp2_with (first
    | (go_at_call 22; refine HH.out.mono ?_; rintro e4 w4 ⟨rfl, rfl⟩)
    | (go_at_call 30; refine HL.out.mono ?_; rintro e4 w4 ⟨rfl, rfl⟩)
    | (go_at_call 10; refine HQ1.out.mono ?_; rintro e4 w4 ⟨rfl, h4⟩; have HB4 := Lib.hid (HB0.out _ _ _ h4); have HQ3 := Lib.hid (HQ2.out w4 HB4.out); clear h4 HQ1 HQ2)
    | (go_at_call 10; refine HQ3.out.mono ?_; rintro e5 w5 ⟨rfl, h5⟩; have HB5 := Lib.hid (HB0.out _ _ _ h5); clear h5))
  go_ret
  exact ⟨rfl, HB3.out.trans ((HB4.out.trans (HB5.out.mono HB4.out.size)).mono HB3.out.size)⟩
end Go.Proofs.Ytckdjbonplpknaa.Sparse
