/-
  CONTRACT OF join: a range joined on behind the others, in a row of the caller's.
-/
import Derived.Test.YtipcbiecdabihaaGreatRsetWords
import Derived.BigQuiet
import Derived.Deep.QuietTactic
namespace Go.Proofs.YtipcbiecdabihaaGreat.Rset
open Go.RowKit
open Utf (Rd Blk wpList_append_rd)

/-- what join leaves -/
def Joined (base : Nat) (w : World) (v : Value) (l : List Rg) (e : Ending) (w' : World) : Prop :=
  ∃ v', e = .returned v' ∧ w'.ownsRow base 38 2 v' l.length (rgs l) ∧ w.grownBy w' v.ownBlock
theorem grownBy_setCell (w : World) (g j : Nat) (u : Value) : w.grownBy (w.setCell ⟨g, j, none⟩ u) (some g) :=
  ⟨rfl, rfl, rfl, by simp, fun k _ hk => heap_setCell_other w ⟨g, j, none⟩ k u (fun e => hk (by simp [e]))⟩
theorem grownBy_drewN (w : World) (n : Nat) (row : Option Nat) : w.grownBy (w.drewN n) row := ⟨rfl, rfl, rfl, Nat.le_refl _, fun _ _ _ => rfl⟩
theorem grownBy_alloc (w : World) (o : Obj) (row : Option Nat) : w.grownBy (w.alloc o) row := ⟨rfl, rfl, rfl, by simp, fun k hk _ => Below.heap_alloc w o k hk⟩

set_option maxHeartbeats 1000000 in
theorem join_any (base : Nat) (v : Value) (l : List Rg) (x1 x2 : Int) (w : World) (hown : w.ownsRow base 38 2 v l.length (rgs l)) (hbase : base ≤ w.heap.size) (hsm : l.length ≤ 1073741824)
    (hf : ∀ r ∈ l, -2147483648 ≤ r.2 ∧ r.2 < 2147483647) :
    Calls Tryz.prog 90 #[v, .agg #[.int .i32 x1, .int .i32 x2]] w (Joined base w v (joinF l (x1, x2))) := by
  obtain ⟨i0, hi, hz0, hz1, hz2⟩ := info_parts infoRg
  rcases nil_or_snoc l with rfl | ⟨i, r, rfl⟩
  · obtain ⟨A, c, rfl, _, _, _⟩ := own_form hown
    have HO := Lib.hid hown
    clear hown hf
    simp only [List.length_nil]
    have HB := Lib.hid hbase
    clear hbase
    go_enter Tryz.func90, Tryz.ntmps90
    go_wp2_with fail
    go_quiet (fail)
    go_wp2_with (at_builtin; refine wpList_append_rd _ rfl (.tmp 30) (.tmp 32) _ rfl base 38 i0 _ 2 8 Tryz.underlying22 hi hz0 hz1 hz2 rfl (by decide) (.slice A 0 c) 0 (rgs []) rfl ((HO.out.alloc _).alloc _) _ (some ⟨w.heap.size + 1, 0, none⟩) 1 1 [.int .i32 x1, .int .i32 x2] rfl rfl (rd_new _ _ [.int .i32 x1, .int .i32 x2] _ (by simp)) (rgs_one [(x1, x2)]) (by unfold maxLen; omega) (by omega) (by have := HB.out; simp; omega) ?_; intro v6 w6 hown6 hgr6 _)
    go_ret
    have hg : w.grownBy w6 (Value.slice A 0 c).ownBlock := (((grownBy_alloc w _ _).trans (grownBy_drewN _ nq _)).trans (grownBy_alloc _ _ _)).trans hgr6
    exact ⟨v6, rfl, hown6, hg⟩
  · obtain ⟨g, cap, hv, hbg, hlt⟩ := hown.form (by simp)
    subst hv
    have hn : (i ++ [r]).length = i.length + 1 := by simp
    rw [hn] at hown hsm ⊢
    obtain ⟨k, hk⟩ : ∃ k, k = i.length := ⟨_, rfl⟩
    have hrr := hf r (by simp)
    have hc2 : w.cell? ⟨g, k * 2 + 1, none⟩ = some (.int .i32 r.2) := by
      rw [hown.cellAt _ (by omega), hk]
      have := (rgs_get (i ++ [r]) (k := i.length) (by simp)).2
      simpa using this
    have hf2 := hown.frozenAt (k * 2 + 1)
    have HK := Lib.hid hk
    have HJ := Lib.hid (joinF_snoc i r (x1, x2))
    rw [← hk] at hown
    have HO := Lib.hid hown
    have HB := Lib.hid hbase
    have HST := Lib.hid (show (rgs (i ++ [r])).set (k * 2 + 1) (.int .i32 x2) = rgs (i ++ [(r.1, x2)]) by rw [hk]; exact rgs_set_hi i r x2)
    obtain ⟨r1, r2⟩ := r
    dsimp only at hrr hc2
    rw [← hk] at hsm ⊢
    have hkk : decide ((0 : Int) < (k : Int) + 1) = true := by rw [decide_eq_true_eq]; omega
    have e1 : IntKind.i64.wrap ((k : Int) + 1 - 1) = k := by rw [IntWalk.i64_in _ (by omega)]; omega
    have e2 : IntKind.i32.wrap (r2 + 1) = r2 + 1 := IntWalk.i32_in _ (by omega)
    clear hown hbase hk hn hf
    have ne1 : ((⟨w.heap.size, 0, none⟩ : Addr).block ≠ g) := by simp; omega
    by_cases hj : r2 + 1 = x1
    · have hjb : (r2 + 1 == x1) = true := by simpa using hj
      have HJ2 := Lib.hid (HJ.out.trans (if_pos hj))
      clear hj
      go_enter Tryz.func90, Tryz.ntmps90
      go_wp2_with fail
      go_quiet (fail)
      go_wp2_with fail
      refine bodyPost_ret (v := .slice (some ⟨g, 0, none⟩) (k + 1) cap) (by simp [results, Tryz.results90, go_sem]) rfl ?_
      have hst := (((HO.out.alloc (.cells #[.int .i32 x1, .int .i32 x2] 38)).stored (k * 2 + 1) (.int .i32 x2)))
      rw [HST.out] at hst
      refine ⟨_, rfl, ?_, ((grownBy_alloc w _ _).trans (grownBy_drewN _ nq _)).trans (grownBy_setCell _ _ _ _)⟩
      rw [HJ2.out, show (i ++ [(r1, x2)]).length = k + 1 by simp [HK.out]]
      exact hst.1
    · have hjb : (r2 + 1 == x1) = false := by simpa using hj
      have HJ2 := Lib.hid (HJ.out.trans (if_neg hj))
      clear hj
      go_enter Tryz.func90, Tryz.ntmps90
      go_wp2_with fail
      go_quiet (fail)
      go_wp2_with (at_builtin; refine wpList_append_rd _ rfl (.tmp 30) (.tmp 32) _ rfl base 38 i0 _ 2 8 Tryz.underlying22 hi hz0 hz1 hz2 rfl (by decide) (.slice (some ⟨g, 0, none⟩) (k + 1) cap) (k + 1) (rgs (i ++ [(r1, r2)])) rfl ((HO.out.alloc _).alloc _) _ (some ⟨w.heap.size + 1, 0, none⟩) 1 1 [.int .i32 x1, .int .i32 x2] rfl rfl (rd_new _ _ [.int .i32 x1, .int .i32 x2] _ (by simp)) (rgs_one [(x1, x2)]) (by unfold maxLen; omega) (by omega) (by have := HB.out; simp; omega) ?_; intro v6 w6 hown6 hgr6 _)
      go_ret
      refine ⟨v6, rfl, ?_, (((grownBy_alloc w _ _).trans (grownBy_drewN _ nq _)).trans (grownBy_alloc _ _ _)).trans hgr6⟩
      rw [HJ2.out, show (i ++ [(r1, r2)] ++ [(x1, x2)]).length = k + 1 + 1 by simp [HK.out], rgs_append _ [(x1, x2)]]
      exact hown6
end Go.Proofs.YtipcbiecdabihaaGreat.Rset
