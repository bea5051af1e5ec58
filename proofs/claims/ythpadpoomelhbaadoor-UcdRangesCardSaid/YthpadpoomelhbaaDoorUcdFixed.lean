/-
  CONTRACT OF fixed: the chapter's examples come out true, wherever the tables are laid.
-/
import Derived.Test.YthpadpoomelhbaaDoorUcdFold
import Derived.Test.YthpadpoomelhbaaDoorUcdNamed
import Derived.Test.YthpadpoomelhbaaDoorUcdCat
namespace Go.Proofs.YthpadpoomelhbaaDoor.Ucd
open Go.RowKit Utf

/-- a slice of n numbers, told and read -/
def Told (w : World) (l : List Int) (n : Nat) (e : Ending) (w' : World) : Prop := ∃ A c, e = .returned (.slice A n c) ∧ Rd w' w'.heap.size A (nums l) ∧ Below w.heap.size w w'
theorem New.told {w : World} {xs l : List Int} {n : Nat} {e : Ending} {w' : World} (h : New w xs e w') (he : xs = l) (hn : l.length = n) : Told w l n e w' := by
  subst he; subst hn
  obtain ⟨A, c, rfl, _, _, h3, hb⟩ := h
  exact ⟨A, c, rfl, h3, hb⟩
theorem dec_at (r : Int) (l : List Int) (n : Nat) (he : fullF r = l) (hn : l.length = n) (w : World) (hL : Laid w) : Calls Tryd.prog 23 #[.int .i32 r] w (Told w l n) :=
  (decompose_any r w hL).mono fun _ _ h => h.new.told he hn
theorem fold_at (r : Int) (l : List Int) (n : Nat) (he : foldF r = l) (hn : l.length = n) (h1 : -2147483648 ≤ r) (h2 : r ≤ 2147483647) (w : World) (hL : Laid w) : Calls Tryd.prog 27 #[.int .i32 r] w (Told w l n) :=
  (fold_any r w hL h1 h2).mono fun _ _ h => h.told he hn
theorem same_at (A B : Option Addr) (l : List Int) (n c d : Nat) (w : World) (ha : Rd w w.heap.size A (nums l)) (hb : Rd w w.heap.size B (nums l)) (hn : l.length = n) (hn1 : n ≤ 1000) :
    Calls Tryd.prog 22 #[.slice A n c, .slice B n d] w fun e w' => e = .returned (.bool true) ∧ ∃ k, w' = w.drewN k :=
  (same_any A B l l n n c d w ha hb hn hn (by omega) (by omega)).mono fun e w' h => ⟨by rw [h.1]; unfold same; rw [decide_eq_true rfl], h.2⟩
theorem class_at (r v : Int) (hv : cls r = v) (w : World) (hL : Laid w) : Calls Tryd.prog 12 #[.int .i32 r] w (Ret w (.int .i64 v)) := hv ▸ class_any r w hL
theorem cat_at (r v : Int) (hv : cat r = v) (w : World) (hL : Laid w) : Calls Tryd.prog 14 #[.int .i32 r] w (Ret w (.int .i64 v)) := hv ▸ category_any r w hL
theorem opens_at (r : Int) (v : Bool) (hv : opn r = v) (w : World) (hL : Laid w) : Calls Tryd.prog 25 #[.int .i32 r] w (Ret w (.bool v)) := hv ▸ opens_any r w hL
theorem pair_at (r a b n : Int) (hv : pairF r = (a, b, n)) (w : World) (hL : Laid w) : Calls Tryd.prog 20 #[.int .i32 r] w (Ret w (.tuple #[.int .i32 a, .int .i32 b, .int .i64 n])) := by
  have := pair_any r w hL
  rw [hv] at this
  exact this

set_option maxHeartbeats 4000000 in
theorem fixed_any (w : World) (hL : Laid w) : Calls Tryd.prog 11 #[] w (Ret w (.bool true)) := by
  have e0 : pairF 201 = (69, 769, 2) := by decide +kernel
  have e1 : nmF (⟨#[77]⟩ : ByteArray).toList = (2, true) := by decide +kernel
  have e2 : cls 769 = 230 := by decide +kernel
  have e3 : cls 65 = 0 := by decide +kernel
  have e4 : fullF 7785 = [115, 803, 775] := by decide +kernel
  have e5 : fullF 44033 = [4352, 4449, 4520] := by decide +kernel
  have e6 : cat 65 = 1 := by decide +kernel
  have e7 : cat 0 = 7 := by decide +kernel
  have e8 : foldF 223 = [115, 115] := by decide +kernel
  have e9 : opn 44032 = true := by decide +kernel
  have e10 : opn 769 = false := by decide +kernel
  have e11 : trl 4449 = true := by decide +kernel
  have E0 := Lib.hid e0; have E1 := Lib.hid e1; have E2 := Lib.hid e2; have E3 := Lib.hid e3; have E4 := Lib.hid e4; have E5 := Lib.hid e5
  have E6 := Lib.hid e6; have E7 := Lib.hid e7; have E8 := Lib.hid e8; have E9 := Lib.hid e9; have E10 := Lib.hid e10; have E11 := Lib.hid e11
  have HL := Lib.hid hL
  clear e0 e1 e2 e3 e4 e5 e6 e7 e8 e9 e10 e11 hL
  go_enter Tryd.func11, Tryd.ntmps11
  go_wp2_with fail
  refine (pair_at 201 69 769 2 E0.out _ HL.out).mono ?_
  rintro e w1 ⟨rfl, hb⟩
  have HB1 := Lib.hid hb; have HL1 := Lib.hid (HL.out.next hb)
  clear hb
  go_wp2_with fail
  refine (named_any _ _).mono ?_
  rintro e w1' ⟨rfl, rfl⟩
  rw [E1.out]
  go_wp2_with fail
  refine (class_at 769 230 E2.out _ HL1.out).mono ?_
  rintro e w2 ⟨rfl, hb⟩
  have HB2 := Lib.hid (HB1.out.trans (hb.mono HB1.out.size)); have HL2 := Lib.hid (HL1.out.next hb)
  clear hb
  go_wp2_with fail
  refine (class_at 65 0 E3.out _ HL2.out).mono ?_
  rintro e w3 ⟨rfl, hb⟩
  have HB3 := Lib.hid (HB2.out.trans (hb.mono HB2.out.size)); have HL3 := Lib.hid (HL2.out.next hb)
  clear hb
  go_wp2_with fail
  refine (dec_at 7785 [115, 803, 775] 3 E4.out rfl _ HL3.out).mono ?_
  rintro e w4 ⟨A, c, rfl, hr, hb⟩
  have HR := Lib.hid hr; have HB4 := Lib.hid (HB3.out.trans (hb.mono HB3.out.size)); have HL4 := Lib.hid (HL3.out.next hb)
  clear hr hb
  go_wp2_with fail
  refine (same_at _ _ [115, 803, 775] 3 _ _ _ ((HR.out.alloc (Nat.le_refl _) _).more (by simp)) ((rd_new w4 _ (nums [115, 803, 775]) w4.heap.size rfl).more (by simp)) rfl (by omega)).mono ?_
  rintro e w5 ⟨rfl, k, rfl⟩
  have HB5 := Lib.hid (below_drewN (HB4.out.alloc HB4.out.size (.cells (nums [115, 803, 775]).toArray 21)) k); have HL5 := Lib.hid ((HL4.out.alloc (.cells (nums [115, 803, 775]).toArray 21)).drewN k)
  clear HR
  go_wp2_with fail
  refine (dec_at 44033 [4352, 4449, 4520] 3 E5.out rfl _ HL5.out).mono ?_
  rintro e w6 ⟨A, c, rfl, hr, hb⟩
  have HR := Lib.hid hr; have HB6 := Lib.hid (HB5.out.trans (hb.mono HB5.out.size)); have HL6 := Lib.hid (HL5.out.next hb)
  clear hr hb
  go_wp2_with fail
  refine (same_at _ _ [4352, 4449, 4520] 3 _ _ _ ((HR.out.alloc (Nat.le_refl _) _).more (by simp)) ((rd_new w6 _ (nums [4352, 4449, 4520]) w6.heap.size rfl).more (by simp)) rfl (by omega)).mono ?_
  rintro e w7 ⟨rfl, k6, rfl⟩
  have HB7 := Lib.hid (below_drewN (HB6.out.alloc HB6.out.size (.cells (nums [4352, 4449, 4520]).toArray 21)) k6); have HL7 := Lib.hid ((HL6.out.alloc (.cells (nums [4352, 4449, 4520]).toArray 21)).drewN k6)
  clear HR
  go_wp2_with fail
  refine (cat_at 65 1 E6.out _ HL7.out).mono ?_
  rintro e w8 ⟨rfl, hb⟩
  have HB8 := Lib.hid (HB7.out.trans (hb.mono HB7.out.size)); have HL8 := Lib.hid (HL7.out.next hb)
  clear hb
  go_wp2_with fail
  refine (cat_at 0 7 E7.out _ HL8.out).mono ?_
  rintro e w9 ⟨rfl, hb⟩
  have HB9 := Lib.hid (HB8.out.trans (hb.mono HB8.out.size)); have HL9 := Lib.hid (HL8.out.next hb)
  clear hb
  go_wp2_with fail
  refine (fold_at 223 [115, 115] 2 E8.out rfl (by omega) (by omega) _ HL9.out).mono ?_
  rintro e w10 ⟨A, c, rfl, hr, hb⟩
  have HR := Lib.hid hr; have HB10 := Lib.hid (HB9.out.trans (hb.mono HB9.out.size)); have HL10 := Lib.hid (HL9.out.next hb)
  clear hr hb
  go_wp2_with fail
  refine (same_at _ _ [115, 115] 2 _ _ _ ((HR.out.alloc (Nat.le_refl _) _).more (by simp)) ((rd_new w10 _ (nums [115, 115]) w10.heap.size rfl).more (by simp)) rfl (by omega)).mono ?_
  rintro e w11 ⟨rfl, k10, rfl⟩
  have HB11 := Lib.hid (below_drewN (HB10.out.alloc HB10.out.size (.cells (nums [115, 115]).toArray 21)) k10); have HL11 := Lib.hid ((HL10.out.alloc (.cells (nums [115, 115]).toArray 21)).drewN k10)
  clear HR
  go_wp2_with fail
  refine (opens_at 44032 true E9.out _ HL11.out).mono ?_
  rintro e w12 ⟨rfl, hb⟩
  have HB12 := Lib.hid (HB11.out.trans (hb.mono HB11.out.size)); have HL12 := Lib.hid (HL11.out.next hb)
  clear hb
  go_wp2_with fail
  refine (opens_at 769 false E10.out _ HL12.out).mono ?_
  rintro e w13 ⟨rfl, hb⟩
  have HB13 := Lib.hid (HB12.out.trans (hb.mono HB12.out.size)); have HL13 := Lib.hid (HL12.out.next hb)
  clear hb
  go_wp2_with fail
  refine (trailing_any 4449 _).mono ?_
  rintro e w14 ⟨rfl, rfl⟩
  rw [E11.out]
  go_wp2
  go_ret
  exact ⟨rfl, HB13.out⟩
end Go.Proofs.YthpadpoomelhbaaDoor.Ucd
