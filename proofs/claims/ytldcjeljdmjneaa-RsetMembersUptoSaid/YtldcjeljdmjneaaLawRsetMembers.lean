/-
  Whatever two lists of ranges and whatever numbers there are: each number is where it is said to be, and what is told is normal. Conditions: the arguments hold together at most 1048576 values.
-/
import Derived.Test.YtldcjeljdmjneaaRsetFixed
import Derived.Laws.OwnMore
namespace Go.Proofs.Ytldcjeljdmjneaa.LawRsetMembers
open Go.ChangeShapes Go.WideShapes Go.ChangeAt Go.RowKit
open Utf (Rd Blk nums nums_len nums_append nums_one nums_get wpList_append_rd own_ne)
open Rset
set_option maxRecDepth 100000

abbrev Tri := Option Addr × Nat × List Rg
/-- what can be read, through the first loops -/
structure LI (w : World) (S : List Tri) (C : Option Addr) (l : List Int) (gs : Nat) (vals : List Value) (wr : World) : Prop where
  args : ∀ x ∈ S, Arg wr x.1 x.2.1 x.2.2
  rdc : Rd wr wr.heap.size C (nums l)
  blk : Blk wr gs 22 vals
  bel : Below w.heap.size w wr
theorem LI.next {w : World} {S : List Tri} {C : Option Addr} {l : List Int} {gs : Nat} {vals : List Value} {wr w' : World} (h : LI w S C l gs vals wr) (hb : Below wr.heap.size wr w') : LI w S C l gs vals w' :=
  ⟨fun x hx => (h.args x hx).next hb, (h.rdc.below hb).more hb.size, h.blk.below hb h.blk.lt, h.bel.trans (hb.mono h.bel.size)⟩
/-- while the places to ask at are gathered -/
structure QI (E : Nat) (w : World) (S : List Tri) (gs : Nat) (sA sB : Value) (X : List Int) (v : Value) (wr : World) : Prop where
  own : wr.ownsRow E 21 1 v X.length (nums X)
  rds : ∀ x ∈ S, Rd wr E x.1 (rgs x.2.2)
  blk : Blk wr gs 22 [sA, sB]
  bel : Below w.heap.size w wr
  size : E ≤ wr.heap.size
  le : w.heap.size ≤ E
section
variable {E : Nat} {w : World} {S : List Tri} {gs : Nat} {sA sB : Value} {X : List Int} {v : Value} {wr : World}
theorem QI.next (h : QI E w S gs sA sB X v wr) {w' : World} {v' : Value} {X' : List Int} (hg : wr.grownBy w' v.ownBlock) (ho : w'.ownsRow E 21 1 v' X'.length (nums X')) : QI E w S gs sA sB X' v' w' :=
  ⟨ho, fun x hx => (h.rds x hx).grown hg h.size (fun k hk => (h.own.lt k hk).1), h.blk.grown hg (fun e => own_ne h.own h.blk (by decide) e.symm), h.bel.grown hg (Nat.le_trans h.le h.size) (fun k hk => Nat.le_trans h.le (h.own.lt k hk).1), Nat.le_trans h.size hg.size, h.le⟩
end
/-- what can be read, while each place is asked at -/
structure RI (w : World) (S : List Tri) (Az : Option Addr) (Z : List Int) (wr : World) : Prop where
  args : ∀ x ∈ S, Arg wr x.1 x.2.1 x.2.2
  rd : Rd wr wr.heap.size Az (nums Z)
  bel : Below w.heap.size w wr
theorem RI.next {w : World} {S : List Tri} {Az : Option Addr} {Z : List Int} {wr w' : World} (h : RI w S Az Z wr) (hb : Below wr.heap.size wr w') : RI w S Az Z w' :=
  ⟨fun x hx => (h.args x hx).next hb, (h.rd.below hb).more hb.size, h.bel.trans (hb.mono h.bel.size)⟩
theorem infoNum : (Try.prog.info? 21).map (fun i => (i.zero, i.size, i.bytes)) = some (some (.int .i32 0), 1, 4) := by kernel_rfl
theorem compl_nm (l : List Rg) : Nm (compl l) := nl_nm _
theorem nm_gap {l : List Rg} (h : Nm l) {k : Nat} (hk : k + 1 < l.length) : l[k].2 + 2 ≤ l[k + 1].1 := List.pairwise_iff_getElem.1 h.gap k (k + 1) (by omega) hk (by omega)

set_option maxHeartbeats 32000000 in
theorem walk (A B C : Option Addr) (a b : List Rg) (l : List Int) (n m k0 c1 c2 c3 : Nat) (w : World) (hA : Arg w A n a) (hB : Arg w B m b) (hC : Rd w w.heap.size C (nums l)) (hl : l.length = k0) (hn : n ≤ 1048576) (hm : m ≤ 1048576) (hk : k0 ≤ 1048576) :
    Calls Try.prog 5 #[.slice A n c1, .slice B m c2, .slice C k0 c3] w (Law w) := by
  have HA := Lib.hid hA; have HBb := Lib.hid hB
  have HCC := Lib.hid hC; have HLL := Lib.hid hl
  have HB := Lib.hid (Below.refl w.heap.size w)
  clear hA hB hC hl
  go_enter Try.func5, Try.ntmps5
  go_wp2_with fail
  refine (fixed_any _).mono ?_
  rintro e w_0 ⟨rfl, hb_0⟩
  replace HA := Lib.hid (HA.out.next hb_0)
  replace HBb := Lib.hid (HBb.out.next hb_0)
  replace HB := Lib.hid (HB.out.trans (hb_0.mono HB.out.size))
  replace HCC := Lib.hid ((HCC.out.below hb_0).more hb_0.size)
  clear hb_0
  go_wp2_with fail
  refine (a_uni _ _ HA.out HBb.out).mono ?_
  rintro e w_1 ⟨A_1, n_1, c_1, rfl, h_1, hb_1⟩
  replace HA := Lib.hid (HA.out.next hb_1)
  replace HBb := Lib.hid (HBb.out.next hb_1)
  replace HB := Lib.hid (HB.out.trans (hb_1.mono HB.out.size))
  have HU := Lib.hid h_1
  clear h_1
  replace HCC := Lib.hid ((HCC.out.below hb_1).more hb_1.size)
  clear hb_1
  go_wp2_with fail
  refine (a_meet _ _ HA.out HBb.out).mono ?_
  rintro e w_2 ⟨A_2, n_2, c_2, rfl, h_2, hb_2⟩
  replace HA := Lib.hid (HA.out.next hb_2)
  replace HBb := Lib.hid (HBb.out.next hb_2)
  replace HU := Lib.hid (HU.out.next hb_2)
  replace HB := Lib.hid (HB.out.trans (hb_2.mono HB.out.size))
  have HM := Lib.hid h_2
  clear h_2
  replace HCC := Lib.hid ((HCC.out.below hb_2).more hb_2.size)
  clear hb_2
  go_wp2_with fail
  refine (a_minus _ _ HA.out HBb.out).mono ?_
  rintro e w_3 ⟨A_3, n_3, c_3, rfl, h_3, hb_3⟩
  replace HA := Lib.hid (HA.out.next hb_3)
  replace HBb := Lib.hid (HBb.out.next hb_3)
  replace HU := Lib.hid (HU.out.next hb_3)
  replace HM := Lib.hid (HM.out.next hb_3)
  replace HB := Lib.hid (HB.out.trans (hb_3.mono HB.out.size))
  have HWm := Lib.hid h_3
  clear h_3
  replace HCC := Lib.hid ((HCC.out.below hb_3).more hb_3.size)
  clear hb_3
  go_wp2_with fail
  refine (a_not _ HA.out).mono ?_
  rintro e w_4 ⟨A_4, n_4, c_4, rfl, h_4, hb_4⟩
  replace HA := Lib.hid (HA.out.next hb_4)
  replace HBb := Lib.hid (HBb.out.next hb_4)
  replace HU := Lib.hid (HU.out.next hb_4)
  replace HM := Lib.hid (HM.out.next hb_4)
  replace HWm := Lib.hid (HWm.out.next hb_4)
  replace HB := Lib.hid (HB.out.trans (hb_4.mono HB.out.size))
  have HN := Lib.hid h_4
  clear h_4
  replace HCC := Lib.hid ((HCC.out.below hb_4).more hb_4.size)
  clear hb_4
  go_wp2_with fail
  refine (a_norm _ HA.out).mono ?_
  rintro e w_5 ⟨A_5, n_5, c_5, rfl, h_5, hb_5⟩
  replace HA := Lib.hid (HA.out.next hb_5)
  replace HBb := Lib.hid (HBb.out.next hb_5)
  replace HU := Lib.hid (HU.out.next hb_5)
  replace HM := Lib.hid (HM.out.next hb_5)
  replace HWm := Lib.hid (HWm.out.next hb_5)
  replace HN := Lib.hid (HN.out.next hb_5)
  replace HB := Lib.hid (HB.out.trans (hb_5.mono HB.out.size))
  have HO := Lib.hid h_5
  clear h_5
  replace HCC := Lib.hid ((HCC.out.below hb_5).more hb_5.size)
  clear hb_5
  obtain ⟨S, hS⟩ : ∃ S : List Tri, S = [(A, n, a), (B, m, b), (A_1, n_1, uni a b), (A_2, n_2, meet a b), (A_3, n_3, minus a b), (A_4, n_4, compl a), (A_5, n_5, norm a)] := ⟨_, rfl⟩
  obtain ⟨gs, hgs⟩ : ∃ gs, gs = w_5.heap.size := ⟨_, rfl⟩
  obtain ⟨W6, hW6⟩ : ∃ W6, W6 = w_5.alloc (.cells #[.slice A_1 n_1 c_1, .slice A_2 n_2 c_2, .slice A_3 n_3 c_3, .slice A_4 n_4 c_4, .slice A_5 n_5 c_5] 22) := ⟨_, rfl⟩
  have hb6 : Below w_5.heap.size w_5 W6 := by rw [hW6]; exact (Below.refl _ _).alloc (Nat.le_refl _) _
  have hLI : Hid (LI w S C l gs [.slice A_1 n_1 c_1, .slice A_2 n_2 c_2, .slice A_3 n_3 c_3, .slice A_4 n_4 c_4, .slice A_5 n_5 c_5] W6) := by
    refine ⟨fun x hx => ?_, (HCC.out.below hb6).more hb6.size, ?_, HB.out.trans (hb6.mono HB.out.size)⟩
    · rw [hS] at hx
      simp only [List.mem_cons, List.not_mem_nil, or_false] at hx
      rcases hx with rfl | rfl | rfl | rfl | rfl | rfl | rfl
      · exact HA.out.next hb6
      · exact HBb.out.next hb6
      · exact HU.out.next hb6
      · exact HM.out.next hb6
      · exact HWm.out.next hb6
      · exact HN.out.next hb6
      · exact HO.out.next hb6
    · rw [hW6, hgs]; exact Blk.new w_5 _ [.slice A_1 n_1 c_1, .slice A_2 n_2 c_2, .slice A_3 n_3 c_3, .slice A_4 n_4 c_4, .slice A_5 n_5 c_5]
  have HM0 := Lib.hid (show (A, n, a) ∈ S by rw [hS]; simp)
  have HM1 := Lib.hid (show (B, m, b) ∈ S by rw [hS]; simp)
  have HM2 := Lib.hid (show (A_1, n_1, uni a b) ∈ S by rw [hS]; simp)
  have HM3 := Lib.hid (show (A_2, n_2, meet a b) ∈ S by rw [hS]; simp)
  have HM4 := Lib.hid (show (A_3, n_3, minus a b) ∈ S by rw [hS]; simp)
  have HM5 := Lib.hid (show (A_4, n_4, compl a) ∈ S by rw [hS]; simp)
  have HM6 := Lib.hid (show (A_5, n_5, norm a) ∈ S by rw [hS]; simp)
  have HGS := Lib.hid hgs; have HW6 := Lib.hid hW6
  clear hS hgs hW6 hb6 HA HBb HU HM HWm HN HO HCC HB
  go_wp2_with fail
  rw [← HGS.out, ← HW6.out]
  clear HGS HW6
  go_loopw [45] (fun iv wr => ∃ j : Nat, j ≤ 5 ∧ iv = .int .i64 j ∧ Hid (LI w S C l gs [.slice A_1 n_1 c_1, .slice A_2 n_2 c_2, .slice A_3 n_3 c_3, .slice A_4 n_4 c_4, .slice A_5 n_5 c_5] wr)) (fun iv _ => 5 - (intOf iv).toNat)
  case atStart => exact ⟨0, by omega, rfl, hLI⟩
  case round =>
    obtain ⟨j, hj, rfl, HI⟩ := hrel
    clear hLI
    by_cases hj5 : j < 5
    · have hls : Hid (∃ (X : Option Addr) (p q : Nat) (L : List Rg), wr.cell? ⟨gs, j, none⟩ = some (.slice X p q) ∧ (X, p, L) ∈ S ∧ Nm L) := by
        have : j = 0 ∨ j = 1 ∨ j = 2 ∨ j = 3 ∨ j = 4 := by omega
        rcases this with rfl | rfl | rfl | rfl | rfl
        · exact ⟨_, _, _, _, (HI.out.blk.cell 0).trans rfl, HM2.out, nl_nm _⟩
        · exact ⟨_, _, _, _, (HI.out.blk.cell 1).trans rfl, HM3.out, nl_nm _⟩
        · exact ⟨_, _, _, _, (HI.out.blk.cell 2).trans rfl, HM4.out, nl_nm _⟩
        · exact ⟨_, _, _, _, (HI.out.blk.cell 3).trans rfl, HM5.out, nl_nm _⟩
        · exact ⟨_, _, _, _, (HI.out.blk.cell 4).trans rfl, HM6.out, nl_nm _⟩
      obtain ⟨X, p, q, L, hcell, hmem, hnm⟩ := hls.out
      have HMX := Lib.hid hmem; have HNM := Lib.hid hnm
      have hpl : p ≤ 557056 := by have h := (HI.out.args _ hmem).len; have := nm_len hnm; dsimp only at h; omega
      have HPL := Lib.hid (show L.length = p from (HI.out.args _ hmem).len)
      clear hmem hnm hls
      have hjd : decide ((j : Int) < 5) = true := by rw [decide_eq_true_eq]; omega
      go_wp2_with fail
      go_loopw [51] (fun iv wr => ∃ k : Nat, k ≤ p ∧ iv = .int .i64 k ∧ Hid (LI w S C l gs [.slice A_1 n_1 c_1, .slice A_2 n_2 c_2, .slice A_3 n_3 c_3, .slice A_4 n_4 c_4, .slice A_5 n_5 c_5] wr)) (fun iv _ => p - (intOf iv).toNat)
      case atStart => exact ⟨0, Nat.zero_le _, rfl, HI⟩
      case round =>
        obtain ⟨k, hkp, rfl, HJ⟩ := hrel
        clear HI hcell
        by_cases hlt : k < p
        · have hkL : k < L.length := by rw [HPL.out]; exact hlt
          have hrd : Rd wr wr.heap.size X (rgs L) := (HJ.out.args _ HMX.out).rd
          obtain ⟨xb, xo, rfl, hxb⟩ := rd_form_rg hrd (by omega)
          obtain ⟨d1, d2⟩ := rd_rg hrd hkL
          have hok := HNM.out.ok _ (List.getElem_mem hkL)
          have HJ2 := Lib.hid (fun (nq : Nat) (x1 x2 : Int) => HJ.out.next (below_drewN ((Below.refl wr.heap.size wr).alloc (Nat.le_refl _) (.cells #[.int .i32 x1, .int .i32 x2] 26)) nq))
          cases k with
          | zero =>
            generalize L[0] = r at *
            obtain ⟨x1, x2⟩ := r
            dsimp only at *
            rw [Nat.zero_mul, Nat.add_zero] at d1 d2
            have e1 : decide (x1 < 0) = false := decide_eq_false (by omega)
            have e2 : decide (x2 < x1) = false := decide_eq_false (by omega)
            have e3 : decide (1114111 < x2) = false := decide_eq_false (by omega)
            clear hrd hkL hok
            go_wp2_with fail
            go_quiet (fail)
            go_wp2_with fail
            go_roundw
            case rel => exact ⟨1, by omega, by go_num, Lib.hid (HJ2.out _ x1 x2)⟩
            case measure => simp [intOf]; omega
          | succ k =>
            obtain ⟨f1, f2⟩ := rd_rg hrd (k := k) (by omega)
            have hgap := nm_gap HNM.out hkL
            have hok0 := HNM.out.ok _ (List.getElem_mem (show k < L.length by omega))
            generalize L[k + 1] = r at *
            generalize L[k] = r0 at *
            obtain ⟨x1, x2⟩ := r
            obtain ⟨y1, y2⟩ := r0
            dsimp only at *
            have e1 : decide (x1 < 0) = false := decide_eq_false (by omega)
            have e2 : decide (x2 < x1) = false := decide_eq_false (by omega)
            have e3 : decide (1114111 < x2) = false := decide_eq_false (by omega)
            have e4 : decide ((0 : Int) < (k : Int) + 1) = true := by rw [decide_eq_true_eq]; omega
            have e5 : decide (x1 < y2 + 2) = false := decide_eq_false (by omega)
            have e6 : IntKind.i32.wrap (y2 + 2) = y2 + 2 := IntWalk.i32_in _ (by omega)
            have e7 : IntKind.i64.wrap ((k : Int) + 1 - 1) = (k : Int) := by rw [IntWalk.i64_in _ (by omega)]; omega
            clear hrd hkL hok hok0 hgap
            go_wp2_with fail
            go_quiet (fail)
            go_wp2_with fail
            go_roundw
            case rel => exact ⟨k + 2, by omega, by go_num, Lib.hid (HJ2.out _ x1 x2)⟩
            case measure => simp [intOf]; omega
        · go_wp2_with fail
          go_roundw
          case rel => exact ⟨j + 1, by omega, by go_num, HJ⟩
          case measure => simp [intOf]; omega
    · obtain ⟨W7, hW7⟩ : ∃ W7, W7 = wr := ⟨_, rfl⟩
      rw [← hW7] at HI ⊢
      clear hW7
      obtain ⟨i1, hi1, hy0, hy1, hy2⟩ := info_parts infoNum
      have HLC := Lib.hid (show (nums l).length = k0 * 1 by rw [nums_len, HLL.out, Nat.mul_one])
      have HO0 := Lib.hid (show (W7.alloc (.cells #[.int .i32 0, .int .i32 1114111, .int .i32 (-1), .int .i32 1114112] 21)).ownsRow W7.heap.size 21 1 (.slice (some ⟨W7.heap.size, 0, none⟩) 4 4) 4 (nums [0, 1114111, -1, 1114112]) from World.ownsRow_lit W7 #[.int .i32 0, .int .i32 1114111, .int .i32 (-1), .int .i32 1114112] 4 (Nat.le_refl _) (by unfold maxLen; omega) rfl)
      go_wp2_with (at_builtin; refine wpList_append_rd _ rfl (.tmp 89) (.tmp 90) _ rfl W7.heap.size 21 i1 _ 1 4 Try.underlying31 hi1 hy0 hy1 hy2 rfl (by decide) _ 4 (nums [0, 1114111, -1, 1114112]) rfl HO0.out _ C k0 c3 (nums l) rfl HLC.out (HI.out.rdc.alloc (Nat.le_refl _) _) (nums_one _) (by unfold maxLen; omega) (by omega) (by simp) ?_; intro v8 w8 hown8 hgr8 _; have hb8 : Below W7.heap.size W7 w8 := ((Below.refl _ _).alloc (Nat.le_refl _) _).grown hgr8 (by simp) (fun y hy => (HO0.out.lt y hy).1); have HO8 := Lib.hid (show w8.ownsRow W7.heap.size 21 1 v8 ([0, 1114111, -1, 1114112] ++ l).length (nums ([0, 1114111, -1, 1114112] ++ l)) from by rw [nums_append, List.length_append, HLL.out]; exact hown8); have HB8 := Lib.hid hb8; clear hown8 hgr8 hb8)
      obtain ⟨g2, hg2⟩ : ∃ g2, g2 = w8.heap.size := ⟨_, rfl⟩
      obtain ⟨W9, hW9⟩ : ∃ W9, W9 = w8.alloc (.cells #[.slice A n c1, .slice B m c2] 22) := ⟨_, rfl⟩
      have hQI : Hid (QI W7.heap.size w S g2 (.slice A n c1) (.slice B m c2) ([0, 1114111, -1, 1114112] ++ l) v8 W9) := by
        have hb9 : Below w8.heap.size w8 W9 := by rw [hW9]; exact (Below.refl _ _).alloc (Nat.le_refl _) _
        refine ⟨own_below HO8.out hb9, fun x hx => ?_, by rw [hW9, hg2]; exact Blk.new w8 _ [.slice A n c1, .slice B m c2], HI.out.bel.trans ((HB8.out.trans (hb9.mono HB8.out.size)).mono HI.out.bel.size), Nat.le_trans HB8.out.size hb9.size, HI.out.bel.size⟩
        exact ((HI.out.args x hx).rd.below HB8.out).below (hb9.mono HB8.out.size)
      have HXL := Lib.hid (show ([0, 1114111, -1, 1114112] ++ l).length = 4 + k0 by rw [List.length_append, HLL.out]; rfl)
      obtain ⟨X0, hX0⟩ : ∃ X0, X0 = [0, 1114111, -1, 1114112] ++ l := ⟨_, rfl⟩
      rw [← hX0] at hQI HXL
      rw [← hg2, ← hW9]
      have HAa := Lib.hid (show a.length = n ∧ b.length = m from ⟨(HI.out.args _ HM0.out).len, (HI.out.args _ HM1.out).len⟩)
      have HNS := Lib.hid (fun x (hx : x ∈ S) => show x.2.2.length = x.2.1 ∧ Fit x.2.2 ∧ x.2.1 ≤ 8388608 from ⟨(HI.out.args x hx).len, (HI.out.args x hx).fit, (HI.out.args x hx).sm⟩)
      obtain ⟨E, hE⟩ : ∃ E, E = W7.heap.size := ⟨_, rfl⟩
      rw [← hE] at hQI
      clear hg2 hW9 hX0 HI HO0 HO8 HB8 HLC HLL hE
      go_loopw [15, 96] (fun xv iv wr => ∃ (j : Nat) (X : List Int) (v : Value), j ≤ 2 ∧ iv = .int .i64 j ∧ xv = v ∧ Hid (X.length ≤ 4 + k0 + 4 * ((if 1 ≤ j then n else 0) + (if 2 ≤ j then m else 0))) ∧ Hid (QI E w S g2 (.slice A n c1) (.slice B m c2) X v wr)) (fun _ iv _ => 2 - (intOf iv).toNat)
      case atStart => exact ⟨0, X0, _, by omega, rfl, rfl, Lib.hid (by rw [HXL.out]; simp), hQI⟩
      case round =>
        obtain ⟨j, X, v, hj2, rfl, rfl, HXB, HQ⟩ := hrel
        clear hQI HXL
        by_cases hjlt : j < 2
        · have hls : Hid (∃ (Y : Option Addr) (p q : Nat) (L : List Rg), wr.cell? ⟨g2, j, none⟩ = some (.slice Y p q) ∧ (Y, p, L) ∈ S ∧ L.length = p ∧ p ≤ 1048576 ∧ X.length + 4 * p ≤ 4 + k0 + 4 * ((if 1 ≤ j + 1 then n else 0) + (if 2 ≤ j + 1 then m else 0))) := by
            have hXB := HXB.out
            obtain ⟨ha1, hb1⟩ := HAa.out
            have : j = 0 ∨ j = 1 := by omega
            rcases this with rfl | rfl
            · exact ⟨_, _, _, a, (HQ.out.blk.cell 0).trans rfl, HM0.out, ha1, hn, by simp at hXB ⊢; omega⟩
            · exact ⟨_, _, _, b, (HQ.out.blk.cell 1).trans rfl, HM1.out, hb1, hm, by simp at hXB ⊢; omega⟩
          obtain ⟨Y, p, q, L, hcell, hmem, hLp, hps, hXp⟩ := hls.out
          have HMY := Lib.hid hmem; have HLP := Lib.hid hLp; have HXP := Lib.hid hXp
          clear hmem hLp hXp hls HXB
          have hjd : decide ((j : Int) < 2) = true := by rw [decide_eq_true_eq]; omega
          go_wp2_with fail
          go_loopw [15, 102] (fun xv iv wr => ∃ (k : Nat) (Z : List Int) (v : Value), k ≤ p ∧ iv = .int .i64 k ∧ xv = v ∧ Hid (Z.length = X.length + 4 * k) ∧ Hid (QI E w S g2 (.slice A n c1) (.slice B m c2) Z v wr)) (fun _ iv _ => p - (intOf iv).toNat)
          case atStart => exact ⟨0, X, _, Nat.zero_le _, rfl, rfl, Lib.hid rfl, HQ⟩
          case round =>
            obtain ⟨k, Z, v, hkp, rfl, rfl, HZL, HQ2⟩ := hrel
            clear HQ hcell
            by_cases hlt : k < p
            · have hkL : k < L.length := by rw [HLP.out]; exact hlt
              have hrd : Rd wr E Y (rgs L) := HQ2.out.rds _ HMY.out
              obtain ⟨xb, xo, rfl, hxb⟩ := rd_form_rg hrd (by omega)
              obtain ⟨d1, d2⟩ := rd_rg hrd hkL
              have hxs : xb < wr.heap.size := Nat.lt_of_lt_of_le hxb HQ2.out.size
              have HZB := Lib.hid (show Z.length ≤ 16777216 by
                have h1 := HXP.out; have h2 := HZL.out
                have h3 : (if 1 ≤ j + 1 then n else 0) ≤ 1048576 := by split <;> omega
                have h4 : (if 2 ≤ j + 1 then m else 0) ≤ 1048576 := by split <;> omega
                omega)
              generalize L[k] = r at *
              obtain ⟨x1, x2⟩ := r
              dsimp only at *
              clear hrd hkL
              obtain ⟨y1, hy1'⟩ : ∃ y, IntKind.i32.wrap (x1 - 1) = y := ⟨_, rfl⟩
              obtain ⟨y2, hy2'⟩ : ∃ y, IntKind.i32.wrap (x2 + 1) = y := ⟨_, rfl⟩
              go_wp2_with (at_builtin; refine wpList_append_rd _ rfl (.tmp 106) (.tmp 117) _ rfl E 21 i1 _ 1 4 Try.underlying31 hi1 hy0 hy1 hy2 rfl (by decide) u15 Z.length (nums Z) rfl ((HQ2.out.own.alloc _).alloc _) _ (some ⟨wr.heap.size + 1, 0, none⟩) 4 4 (nums [x1, x2, y1, y2]) rfl rfl (rd_new _ _ (nums [x1, x2, y1, y2]) _ (by simp)) (nums_one _) (by have := HZB.out; unfold maxLen; omega) (by have := HZB.out; omega) (by have := HQ2.out.size; simp; omega) ?_; intro v6 w6 hown6 hgr6 _; have HN6 := Lib.hid (HQ2.out.next (X' := Z ++ [x1, x2, y1, y2]) (((grownBy_alloc wr _ _).trans (grownBy_alloc _ _ _)).trans hgr6) (by rw [nums_append, List.length_append]; exact hown6)); clear hown6 hgr6)
              go_roundw
              case rel => exact ⟨k + 1, Z ++ [x1, x2, y1, y2], _, by omega, by go_num, rfl, Lib.hid (by rw [List.length_append, HZL.out]; simp; omega), HN6⟩
              case measure => simp [intOf]; omega
            · have HZ2 := Lib.hid (show Z.length ≤ 4 + k0 + 4 * ((if 1 ≤ j + 1 then n else 0) + (if 2 ≤ j + 1 then m else 0)) from by have h1 := HXP.out; have h2 := HZL.out; omega)
              go_wp2_with fail
              go_roundw
              case rel => exact ⟨j + 1, Z, _, by omega, by go_num, rfl, HZ2, HQ2⟩
              case measure => simp [intOf]; omega
        · obtain ⟨Az, cz, hvz, _, _, hrz⟩ := own_form HQ.out.own
          obtain ⟨pz, hpz⟩ : ∃ pz, pz = X.length := ⟨_, rfl⟩
          rw [← hpz] at hvz
          subst hvz
          have hpzb : pz ≤ 16777216 := by
            have h1 := HXB.out
            have h3 : (if 1 ≤ j then n else 0) ≤ 1048576 := by split <;> omega
            have h4 : (if 2 ≤ j then m else 0) ≤ 1048576 := by split <;> omega
            omega
          have HPZ := Lib.hid hpz.symm
          have HRI : Hid (RI w S Az X wr) := ⟨fun x hx => ⟨(HQ.out.rds x hx).more HQ.out.size, (HNS.out x hx).1, (HNS.out x hx).2.1, (HNS.out x hx).2.2⟩, hrz, HQ.out.bel⟩
          clear hrz hpz HQ HXB HNS HAa
          go_wp2_with fail
          go_loopw [123] (fun iv wr => ∃ j : Nat, j ≤ pz ∧ iv = .int .i64 j ∧ Hid (RI w S Az X wr)) (fun iv _ => pz - (intOf iv).toNat)
          case atStart => exact ⟨0, Nat.zero_le _, rfl, HRI⟩
          case round =>
            obtain ⟨j, hj, rfl, HR⟩ := hrel
            clear HRI
            by_cases hjp : j < pz
            · have hjX : j < X.length := by rw [HPZ.out]; exact hjp
              obtain ⟨xb, xo, rfl, hxb⟩ := HR.out.rd.form (by rw [nums_len]; omega)
              have cx := HR.out.rd.num hjX
              generalize X[j] = x at *
              clear hjX
              cases hp : has a x with
              | true =>
                have hx := inR_iff.1 (has_inR hp)
                have HP := Lib.hid hp
                have HPN := Lib.hid ((norm_has a x).trans hp)
                have HC := Lib.hid (show has (compl a) x = false by rw [compl_has, hp, Bool.not_true, Bool.and_false])
                cases hq : has b x with
                | true =>
                  have HQ := Lib.hid hq
                  have HU := Lib.hid (show has (uni a b) x = true by rw [uni_has, hp]; rfl)
                  have HT := Lib.hid (show has (meet a b) x = true by rw [meet_has, hp, hq]; rfl)
                  have HV := Lib.hid (show has (minus a b) x = false by rw [minus_has, hp, hq]; rfl)
                  clear hp hq hx
                  go_wp2_with fail
                  refine (a_rhas _ (HR.out.args _ HM0.out) x HP.out).mono ?_
                  rintro e w_a ⟨rfl, rfl⟩
                  go_wp2_with fail
                  refine (a_rhas _ (HR.out.args _ HM1.out) x HQ.out).mono ?_
                  rintro e w_b ⟨rfl, rfl⟩
                  go_wp2_with fail
                  refine (a_has _ (HR.out.args _ HM0.out) x HP.out).mono ?_
                  rintro e u_1 ⟨rfl, hb⟩
                  replace HR := Lib.hid (HR.out.next hb)
                  clear hb
                  go_wp2_with fail
                  refine (a_has _ (HR.out.args _ HM2.out) x HU.out).mono ?_
                  rintro e u_2 ⟨rfl, hb⟩
                  replace HR := Lib.hid (HR.out.next hb)
                  clear hb
                  go_wp2_with fail
                  refine (a_has _ (HR.out.args _ HM3.out) x HT.out).mono ?_
                  rintro e u_3 ⟨rfl, hb⟩
                  replace HR := Lib.hid (HR.out.next hb)
                  clear hb
                  go_wp2_with fail
                  refine (a_has _ (HR.out.args _ HM4.out) x HV.out).mono ?_
                  rintro e u_4 ⟨rfl, hb⟩
                  replace HR := Lib.hid (HR.out.next hb)
                  clear hb
                  go_wp2_with fail
                  refine (a_has _ (HR.out.args _ HM5.out) x HC.out).mono ?_
                  rintro e u_5 ⟨rfl, hb⟩
                  replace HR := Lib.hid (HR.out.next hb)
                  clear hb
                  go_wp2_with fail
                  refine (a_norm _ (HR.out.args _ HM0.out)).mono ?_
                  rintro e u_7 ⟨A_z, n_z, c_z, rfl, hz, hb⟩
                  replace HR := Lib.hid (HR.out.next hb)
                  have HZ := Lib.hid hz
                  clear hb hz
                  go_wp2_with fail
                  refine (a_has _ HZ.out x HPN.out).mono ?_
                  rintro e u_8 ⟨rfl, hb⟩
                  replace HR := Lib.hid (HR.out.next hb)
                  clear hb HZ
                  go_wp2_with fail
                  go_roundw
                  case rel => exact ⟨j + 1, by omega, by go_num, HR⟩
                  case measure => simp [intOf]; omega
                | false =>
                  have HQ := Lib.hid hq
                  have HU := Lib.hid (show has (uni a b) x = true by rw [uni_has, hp]; rfl)
                  have HT := Lib.hid (show has (meet a b) x = false by rw [meet_has, hp, hq]; rfl)
                  have HV := Lib.hid (show has (minus a b) x = true by rw [minus_has, hp, hq]; rfl)
                  clear hp hq hx
                  go_wp2_with fail
                  refine (a_rhas _ (HR.out.args _ HM0.out) x HP.out).mono ?_
                  rintro e w_a ⟨rfl, rfl⟩
                  go_wp2_with fail
                  refine (a_rhas _ (HR.out.args _ HM1.out) x HQ.out).mono ?_
                  rintro e w_b ⟨rfl, rfl⟩
                  go_wp2_with fail
                  refine (a_has _ (HR.out.args _ HM0.out) x HP.out).mono ?_
                  rintro e u_1 ⟨rfl, hb⟩
                  replace HR := Lib.hid (HR.out.next hb)
                  clear hb
                  go_wp2_with fail
                  refine (a_has _ (HR.out.args _ HM2.out) x HU.out).mono ?_
                  rintro e u_2 ⟨rfl, hb⟩
                  replace HR := Lib.hid (HR.out.next hb)
                  clear hb
                  go_wp2_with fail
                  refine (a_has _ (HR.out.args _ HM3.out) x HT.out).mono ?_
                  rintro e u_3 ⟨rfl, hb⟩
                  replace HR := Lib.hid (HR.out.next hb)
                  clear hb
                  go_wp2_with fail
                  refine (a_has _ (HR.out.args _ HM4.out) x HV.out).mono ?_
                  rintro e u_4 ⟨rfl, hb⟩
                  replace HR := Lib.hid (HR.out.next hb)
                  clear hb
                  go_wp2_with fail
                  refine (a_has _ (HR.out.args _ HM5.out) x HC.out).mono ?_
                  rintro e u_5 ⟨rfl, hb⟩
                  replace HR := Lib.hid (HR.out.next hb)
                  clear hb
                  go_wp2_with fail
                  refine (a_norm _ (HR.out.args _ HM0.out)).mono ?_
                  rintro e u_7 ⟨A_z, n_z, c_z, rfl, hz, hb⟩
                  replace HR := Lib.hid (HR.out.next hb)
                  have HZ := Lib.hid hz
                  clear hb hz
                  go_wp2_with fail
                  refine (a_has _ HZ.out x HPN.out).mono ?_
                  rintro e u_8 ⟨rfl, hb⟩
                  replace HR := Lib.hid (HR.out.next hb)
                  clear hb HZ
                  go_wp2_with fail
                  go_roundw
                  case rel => exact ⟨j + 1, by omega, by go_num, HR⟩
                  case measure => simp [intOf]; omega
              | false =>
                have HP := Lib.hid hp
                have HPN := Lib.hid ((norm_has a x).trans hp)
                obtain ⟨rx, hrx⟩ : ∃ rx : Bool, inR x = rx := ⟨_, rfl⟩
                have HC := Lib.hid (show has (compl a) x = rx by rw [compl_has, hp, hrx, Bool.not_false, Bool.and_true])
                have hd : (decide (0 ≤ x) = true ∧ decide (x ≤ 1114111) = rx) ∨ (decide (0 ≤ x) = false ∧ rx = false) := by
                  rw [← hrx]
                  unfold inR
                  by_cases h0 : 0 ≤ x
                  · left; rw [decide_eq_true h0]; simp
                  · right; rw [decide_eq_false h0]; simp
                clear hrx
                cases hq : has b x with
                | true =>
                  have HQ := Lib.hid hq
                  have HU := Lib.hid (show has (uni a b) x = true by rw [uni_has, hp, hq]; rfl)
                  have HT := Lib.hid (show has (meet a b) x = false by rw [meet_has, hp]; rfl)
                  have HV := Lib.hid (show has (minus a b) x = false by rw [minus_has, hp]; rfl)
                  clear hp hq
                  rcases hd with ⟨hd1, hd2⟩ | ⟨hd1, hd2⟩
                  · cases rx with
                    | true =>
                      go_wp2_with fail
                      refine (a_rhas _ (HR.out.args _ HM0.out) x HP.out).mono ?_
                      rintro e w_a ⟨rfl, rfl⟩
                      go_wp2_with fail
                      refine (a_rhas _ (HR.out.args _ HM1.out) x HQ.out).mono ?_
                      rintro e w_b ⟨rfl, rfl⟩
                      go_wp2_with fail
                      refine (a_has _ (HR.out.args _ HM0.out) x HP.out).mono ?_
                      rintro e u_1 ⟨rfl, hb⟩
                      replace HR := Lib.hid (HR.out.next hb)
                      clear hb
                      go_wp2_with fail
                      refine (a_has _ (HR.out.args _ HM2.out) x HU.out).mono ?_
                      rintro e u_2 ⟨rfl, hb⟩
                      replace HR := Lib.hid (HR.out.next hb)
                      clear hb
                      go_wp2_with fail
                      refine (a_has _ (HR.out.args _ HM3.out) x HT.out).mono ?_
                      rintro e u_3 ⟨rfl, hb⟩
                      replace HR := Lib.hid (HR.out.next hb)
                      clear hb
                      go_wp2_with fail
                      refine (a_has _ (HR.out.args _ HM4.out) x HV.out).mono ?_
                      rintro e u_4 ⟨rfl, hb⟩
                      replace HR := Lib.hid (HR.out.next hb)
                      clear hb
                      go_wp2_with fail
                      refine (a_has _ (HR.out.args _ HM5.out) x HC.out).mono ?_
                      rintro e u_5 ⟨rfl, hb⟩
                      replace HR := Lib.hid (HR.out.next hb)
                      clear hb
                      go_wp2_with fail
                      refine (a_norm _ (HR.out.args _ HM0.out)).mono ?_
                      rintro e u_7 ⟨A_z, n_z, c_z, rfl, hz, hb⟩
                      replace HR := Lib.hid (HR.out.next hb)
                      have HZ := Lib.hid hz
                      clear hb hz
                      go_wp2_with fail
                      refine (a_has _ HZ.out x HPN.out).mono ?_
                      rintro e u_8 ⟨rfl, hb⟩
                      replace HR := Lib.hid (HR.out.next hb)
                      clear hb HZ
                      go_wp2_with fail
                      go_roundw
                      case rel => exact ⟨j + 1, by omega, by go_num, HR⟩
                      case measure => simp [intOf]; omega
                    | false =>
                      go_wp2_with fail
                      refine (a_rhas _ (HR.out.args _ HM0.out) x HP.out).mono ?_
                      rintro e w_a ⟨rfl, rfl⟩
                      go_wp2_with fail
                      refine (a_rhas _ (HR.out.args _ HM1.out) x HQ.out).mono ?_
                      rintro e w_b ⟨rfl, rfl⟩
                      go_wp2_with fail
                      refine (a_has _ (HR.out.args _ HM0.out) x HP.out).mono ?_
                      rintro e u_1 ⟨rfl, hb⟩
                      replace HR := Lib.hid (HR.out.next hb)
                      clear hb
                      go_wp2_with fail
                      refine (a_has _ (HR.out.args _ HM2.out) x HU.out).mono ?_
                      rintro e u_2 ⟨rfl, hb⟩
                      replace HR := Lib.hid (HR.out.next hb)
                      clear hb
                      go_wp2_with fail
                      refine (a_has _ (HR.out.args _ HM3.out) x HT.out).mono ?_
                      rintro e u_3 ⟨rfl, hb⟩
                      replace HR := Lib.hid (HR.out.next hb)
                      clear hb
                      go_wp2_with fail
                      refine (a_has _ (HR.out.args _ HM4.out) x HV.out).mono ?_
                      rintro e u_4 ⟨rfl, hb⟩
                      replace HR := Lib.hid (HR.out.next hb)
                      clear hb
                      go_wp2_with fail
                      refine (a_has _ (HR.out.args _ HM5.out) x HC.out).mono ?_
                      rintro e u_5 ⟨rfl, hb⟩
                      replace HR := Lib.hid (HR.out.next hb)
                      clear hb
                      go_wp2_with fail
                      refine (a_norm _ (HR.out.args _ HM0.out)).mono ?_
                      rintro e u_7 ⟨A_z, n_z, c_z, rfl, hz, hb⟩
                      replace HR := Lib.hid (HR.out.next hb)
                      have HZ := Lib.hid hz
                      clear hb hz
                      go_wp2_with fail
                      refine (a_has _ HZ.out x HPN.out).mono ?_
                      rintro e u_8 ⟨rfl, hb⟩
                      replace HR := Lib.hid (HR.out.next hb)
                      clear hb HZ
                      go_wp2_with fail
                      go_roundw
                      case rel => exact ⟨j + 1, by omega, by go_num, HR⟩
                      case measure => simp [intOf]; omega
                  · subst hd2
                    go_wp2_with fail
                    refine (a_rhas _ (HR.out.args _ HM0.out) x HP.out).mono ?_
                    rintro e w_a ⟨rfl, rfl⟩
                    go_wp2_with fail
                    refine (a_rhas _ (HR.out.args _ HM1.out) x HQ.out).mono ?_
                    rintro e w_b ⟨rfl, rfl⟩
                    go_wp2_with fail
                    refine (a_has _ (HR.out.args _ HM0.out) x HP.out).mono ?_
                    rintro e u_1 ⟨rfl, hb⟩
                    replace HR := Lib.hid (HR.out.next hb)
                    clear hb
                    go_wp2_with fail
                    refine (a_has _ (HR.out.args _ HM2.out) x HU.out).mono ?_
                    rintro e u_2 ⟨rfl, hb⟩
                    replace HR := Lib.hid (HR.out.next hb)
                    clear hb
                    go_wp2_with fail
                    refine (a_has _ (HR.out.args _ HM3.out) x HT.out).mono ?_
                    rintro e u_3 ⟨rfl, hb⟩
                    replace HR := Lib.hid (HR.out.next hb)
                    clear hb
                    go_wp2_with fail
                    refine (a_has _ (HR.out.args _ HM4.out) x HV.out).mono ?_
                    rintro e u_4 ⟨rfl, hb⟩
                    replace HR := Lib.hid (HR.out.next hb)
                    clear hb
                    go_wp2_with fail
                    refine (a_has _ (HR.out.args _ HM5.out) x HC.out).mono ?_
                    rintro e u_5 ⟨rfl, hb⟩
                    replace HR := Lib.hid (HR.out.next hb)
                    clear hb
                    go_wp2_with fail
                    refine (a_norm _ (HR.out.args _ HM0.out)).mono ?_
                    rintro e u_7 ⟨A_z, n_z, c_z, rfl, hz, hb⟩
                    replace HR := Lib.hid (HR.out.next hb)
                    have HZ := Lib.hid hz
                    clear hb hz
                    go_wp2_with fail
                    refine (a_has _ HZ.out x HPN.out).mono ?_
                    rintro e u_8 ⟨rfl, hb⟩
                    replace HR := Lib.hid (HR.out.next hb)
                    clear hb HZ
                    go_wp2_with fail
                    go_roundw
                    case rel => exact ⟨j + 1, by omega, by go_num, HR⟩
                    case measure => simp [intOf]; omega
                | false =>
                  have HQ := Lib.hid hq
                  have HU := Lib.hid (show has (uni a b) x = false by rw [uni_has, hp, hq]; rfl)
                  have HT := Lib.hid (show has (meet a b) x = false by rw [meet_has, hp]; rfl)
                  have HV := Lib.hid (show has (minus a b) x = false by rw [minus_has, hp]; rfl)
                  clear hp hq
                  rcases hd with ⟨hd1, hd2⟩ | ⟨hd1, hd2⟩
                  · cases rx with
                    | true =>
                      go_wp2_with fail
                      refine (a_rhas _ (HR.out.args _ HM0.out) x HP.out).mono ?_
                      rintro e w_a ⟨rfl, rfl⟩
                      go_wp2_with fail
                      refine (a_rhas _ (HR.out.args _ HM1.out) x HQ.out).mono ?_
                      rintro e w_b ⟨rfl, rfl⟩
                      go_wp2_with fail
                      refine (a_has _ (HR.out.args _ HM0.out) x HP.out).mono ?_
                      rintro e u_1 ⟨rfl, hb⟩
                      replace HR := Lib.hid (HR.out.next hb)
                      clear hb
                      go_wp2_with fail
                      refine (a_has _ (HR.out.args _ HM2.out) x HU.out).mono ?_
                      rintro e u_2 ⟨rfl, hb⟩
                      replace HR := Lib.hid (HR.out.next hb)
                      clear hb
                      go_wp2_with fail
                      refine (a_has _ (HR.out.args _ HM3.out) x HT.out).mono ?_
                      rintro e u_3 ⟨rfl, hb⟩
                      replace HR := Lib.hid (HR.out.next hb)
                      clear hb
                      go_wp2_with fail
                      refine (a_has _ (HR.out.args _ HM4.out) x HV.out).mono ?_
                      rintro e u_4 ⟨rfl, hb⟩
                      replace HR := Lib.hid (HR.out.next hb)
                      clear hb
                      go_wp2_with fail
                      refine (a_has _ (HR.out.args _ HM5.out) x HC.out).mono ?_
                      rintro e u_5 ⟨rfl, hb⟩
                      replace HR := Lib.hid (HR.out.next hb)
                      clear hb
                      go_wp2_with fail
                      refine (a_norm _ (HR.out.args _ HM0.out)).mono ?_
                      rintro e u_7 ⟨A_z, n_z, c_z, rfl, hz, hb⟩
                      replace HR := Lib.hid (HR.out.next hb)
                      have HZ := Lib.hid hz
                      clear hb hz
                      go_wp2_with fail
                      refine (a_has _ HZ.out x HPN.out).mono ?_
                      rintro e u_8 ⟨rfl, hb⟩
                      replace HR := Lib.hid (HR.out.next hb)
                      clear hb HZ
                      go_wp2_with fail
                      go_roundw
                      case rel => exact ⟨j + 1, by omega, by go_num, HR⟩
                      case measure => simp [intOf]; omega
                    | false =>
                      go_wp2_with fail
                      refine (a_rhas _ (HR.out.args _ HM0.out) x HP.out).mono ?_
                      rintro e w_a ⟨rfl, rfl⟩
                      go_wp2_with fail
                      refine (a_rhas _ (HR.out.args _ HM1.out) x HQ.out).mono ?_
                      rintro e w_b ⟨rfl, rfl⟩
                      go_wp2_with fail
                      refine (a_has _ (HR.out.args _ HM0.out) x HP.out).mono ?_
                      rintro e u_1 ⟨rfl, hb⟩
                      replace HR := Lib.hid (HR.out.next hb)
                      clear hb
                      go_wp2_with fail
                      refine (a_has _ (HR.out.args _ HM2.out) x HU.out).mono ?_
                      rintro e u_2 ⟨rfl, hb⟩
                      replace HR := Lib.hid (HR.out.next hb)
                      clear hb
                      go_wp2_with fail
                      refine (a_has _ (HR.out.args _ HM3.out) x HT.out).mono ?_
                      rintro e u_3 ⟨rfl, hb⟩
                      replace HR := Lib.hid (HR.out.next hb)
                      clear hb
                      go_wp2_with fail
                      refine (a_has _ (HR.out.args _ HM4.out) x HV.out).mono ?_
                      rintro e u_4 ⟨rfl, hb⟩
                      replace HR := Lib.hid (HR.out.next hb)
                      clear hb
                      go_wp2_with fail
                      refine (a_has _ (HR.out.args _ HM5.out) x HC.out).mono ?_
                      rintro e u_5 ⟨rfl, hb⟩
                      replace HR := Lib.hid (HR.out.next hb)
                      clear hb
                      go_wp2_with fail
                      refine (a_norm _ (HR.out.args _ HM0.out)).mono ?_
                      rintro e u_7 ⟨A_z, n_z, c_z, rfl, hz, hb⟩
                      replace HR := Lib.hid (HR.out.next hb)
                      have HZ := Lib.hid hz
                      clear hb hz
                      go_wp2_with fail
                      refine (a_has _ HZ.out x HPN.out).mono ?_
                      rintro e u_8 ⟨rfl, hb⟩
                      replace HR := Lib.hid (HR.out.next hb)
                      clear hb HZ
                      go_wp2_with fail
                      go_roundw
                      case rel => exact ⟨j + 1, by omega, by go_num, HR⟩
                      case measure => simp [intOf]; omega
                  · subst hd2
                    go_wp2_with fail
                    refine (a_rhas _ (HR.out.args _ HM0.out) x HP.out).mono ?_
                    rintro e w_a ⟨rfl, rfl⟩
                    go_wp2_with fail
                    refine (a_rhas _ (HR.out.args _ HM1.out) x HQ.out).mono ?_
                    rintro e w_b ⟨rfl, rfl⟩
                    go_wp2_with fail
                    refine (a_has _ (HR.out.args _ HM0.out) x HP.out).mono ?_
                    rintro e u_1 ⟨rfl, hb⟩
                    replace HR := Lib.hid (HR.out.next hb)
                    clear hb
                    go_wp2_with fail
                    refine (a_has _ (HR.out.args _ HM2.out) x HU.out).mono ?_
                    rintro e u_2 ⟨rfl, hb⟩
                    replace HR := Lib.hid (HR.out.next hb)
                    clear hb
                    go_wp2_with fail
                    refine (a_has _ (HR.out.args _ HM3.out) x HT.out).mono ?_
                    rintro e u_3 ⟨rfl, hb⟩
                    replace HR := Lib.hid (HR.out.next hb)
                    clear hb
                    go_wp2_with fail
                    refine (a_has _ (HR.out.args _ HM4.out) x HV.out).mono ?_
                    rintro e u_4 ⟨rfl, hb⟩
                    replace HR := Lib.hid (HR.out.next hb)
                    clear hb
                    go_wp2_with fail
                    refine (a_has _ (HR.out.args _ HM5.out) x HC.out).mono ?_
                    rintro e u_5 ⟨rfl, hb⟩
                    replace HR := Lib.hid (HR.out.next hb)
                    clear hb
                    go_wp2_with fail
                    refine (a_norm _ (HR.out.args _ HM0.out)).mono ?_
                    rintro e u_7 ⟨A_z, n_z, c_z, rfl, hz, hb⟩
                    replace HR := Lib.hid (HR.out.next hb)
                    have HZ := Lib.hid hz
                    clear hb hz
                    go_wp2_with fail
                    refine (a_has _ HZ.out x HPN.out).mono ?_
                    rintro e u_8 ⟨rfl, hb⟩
                    replace HR := Lib.hid (HR.out.next hb)
                    clear hb HZ
                    go_wp2_with fail
                    go_roundw
                    case rel => exact ⟨j + 1, by omega, by go_num, HR⟩
                    case measure => simp [intOf]; omega
            · have HB := Lib.hid HR.out.bel
              go_wp2_with fail
              go_ret
              exact ⟨rfl, HB.out⟩

theorem contract (H : Type) (enc : TypeId × Value → H) (W : World) (base : Nat) (args : Array Value) (ds gs : List (DataW H)) (before : List MemPlace)
    (hval : ∀ (j : Nat) t v, Try.f5.params[j]? = some t → args[j]? = some v → Value.okWide Try.prog W .any base t v)
    (hW : DataW.Whole enc Try.prog Try.f5.params.toList Rows.rsetMembersSpec.vars false W args.toList ds gs before) (hk : Rows.uptoSmall H (ds ++ gs) = true) :
    Calls Try.prog 5 args W fun e W' => ∃ v, e = .returned v ∧ Rows.rsetMembersSpec.post enc Try.prog Try.f5 false true false false W args v W' := by
  have hW' := hW
  obtain ⟨p, q, hA0, hV, rfl, hfz, hnd⟩ := hW
  have hA : DataW.TrodAll enc Try.prog W 0 (fun _ => true) true Try.f5.params.toList args.toList ds p := hA0
  rw [Try.params5] at hA hval
  obtain ⟨v0, vs0, d0, ds0, p0, q0, hargs, rfl, rfl, h0, r0⟩ := trodAll_cons hA
  obtain ⟨v1, vs1, d1, ds1, p1, q1, rfl, rfl, rfl, h1, r1⟩ := trodAll_cons r0
  obtain ⟨v2, vs2, d2, ds2, p2, q2, rfl, rfl, rfl, h2, r2⟩ := trodAll_cons r1
  obtain ⟨rfl, rfl, rfl⟩ := trodAll_nil r2
  obtain rfl : args = #[v0, v1, v2] := by cases args; simp_all
  obtain ⟨rfl, rfl⟩ := trodVars_none hV
  obtain ⟨a0, len0, cap0, rfl⟩ := okWide_slice Try.underlying22 (hval 0 22 v0 rfl rfl)
  have k0 := h0
  have lt0 : ∀ x ∈ p0, x.block < W.heap.size := by obtain ⟨m, hm⟩ := k0; exact DataW.trod_lt m _ _ _ hm
  obtain ⟨l0, hl0, hc0, hm0, hf0, hr0, hb0⟩ := open_rgs h0
  obtain ⟨a1, len1, cap1, rfl⟩ := okWide_slice Try.underlying22 (hval 1 22 v1 rfl rfl)
  have k1 := h1
  have lt1 : ∀ x ∈ p1, x.block < W.heap.size := by obtain ⟨m, hm⟩ := k1; exact DataW.trod_lt m _ _ _ hm
  obtain ⟨l1, hl1, hc1, hm1, hf1, hr1, hb1⟩ := open_rgs h1
  obtain ⟨a2, len2, cap2, rfl⟩ := okWide_slice Try.underlying31 (hval 2 31 v2 rfl rfl)
  have k2 := h2
  have lt2 : ∀ x ∈ p2, x.block < W.heap.size := by obtain ⟨m, hm⟩ := k2; exact DataW.trod_lt m _ _ _ hm
  obtain ⟨l2, hl2, hc2, hm2, hf2, hr2, hb2⟩ := open_nums h2
  have hbd := bulk_bound hk
  simp only [List.append_nil, Rows.uptoBulkAll] at hbd
  have H0 : Arg W a0 len0 l0 := ⟨hr0, hl0, hf0, by omega⟩
  have H1 : Arg W a1 len1 l1 := ⟨hr1, hl1, hf1, by omega⟩
  clear hA0
  refine (walk a0 a1 a2 l0 l1 l2 len0 len1 len2 cap0 cap1 cap2 W H0 H1 hr2 hl2 (by omega) (by omega) (by omega)).mono fun e W' ⟨he, bel⟩ => ?_
  subst he
  exact ⟨_, rfl, _, _, _, [], _, [], hW', trodAll_mk1 (shut_bool Try.underlying4 _), (trodAll_cons_mk (Below.trod laidOut (by kernel_rfl) (of_decide_eq_true (by kernel_rfl)) k0 bel lt0) (trodAll_cons_mk (Below.trod laidOut (by kernel_rfl) (of_decide_eq_true (by kernel_rfl)) k1 bel lt1) (trodAll_cons_mk (Below.trod laidOut (by kernel_rfl) (of_decide_eq_true (by kernel_rfl)) k2 bel lt2) trodAll_mk0))), rfl, bel.frame _, fun h => by cases h⟩

set_option maxRecDepth 100000 in
theorem lifted (os : Os) (started : os.Started) (H : Type) (enc : TypeId × Value → H) (F : Stop.Interp) :
    ReturnsInHanded {} Try.checked os 5 .any ((Rows.OpenSpec.upto Rows.rsetMembersSpec).pre6 enc Try.prog Try.f5 Rows.rsetMembersUptoRow.domain false) (((Rows.OpenSpec.upto Rows.rsetMembersSpec).at F).post enc Try.prog Try.f5 false true false false) := by
  refine returnsInHanded_of_cond (C := Try.checked) (s := Rows.OpenSpec.upto Rows.rsetMembersSpec) (k := Rows.uptoSmall) rfl own started (by kernel_rfl) Try.func5
    (OpenSpec.witness (enc := enc) (C := Try.checked) (s := Rows.OpenSpec.upto Rows.rsetMembersSpec) (k := Rows.uptoSmall) rfl false ⟨#[], #[.slice none 0 0, .slice none 0 0, .slice none 0 0], []⟩ 8 (by kernel_rfl) (by kernel_rfl) (by kernel_rfl)
      (x := ([.nil, .nil, .nil], [], [])) (by kernel_rfl) rfl (by kernel_rfl)) ?_
  intro W base args ds gs before hval hW _ hk _
  exact contract H enc W base args ds gs before hval hW hk

/-- THE STATEMENT -/
theorem proved : Rows.RsetMembersUptoSaid :=
  OpenClaim.holds_of_cond 5 Try.f5 rfl rfl rfl rfl rfl rfl rfl ⟨rfl, rfl, rfl, rfl, rfl⟩ rfl rfl rfl rfl rfl (by kernel_rfl) Try.func5 (by kernel_rfl)
    (of_decide_eq_true (by kernel_rfl)) (by unfold Func.isWrapper; first | (rw [if_pos (by decide +kernel)]; kernel_rfl) | (rw [if_neg (by decide +kernel)]; exact ⟨rfl, rfl⟩))
    (fun os started H enc _ F => lifted os started H enc F)
end Go.Proofs.Ytldcjeljdmjneaa.LawRsetMembers
