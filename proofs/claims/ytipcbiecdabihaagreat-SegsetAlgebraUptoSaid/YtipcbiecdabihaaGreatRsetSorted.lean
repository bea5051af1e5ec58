/-
  CONTRACT OF the document's sorted: halves sorted, and merged.
-/
import Derived.Test.YtipcbiecdabihaaGreatRsetRef1
import Derived.Deep.RegionHeld3
import Derived.Deep.RegionLaw
import Derived.Deep.DeepCutAuto
namespace Go.Proofs.YtipcbiecdabihaaGreat.Rset
set_option maxRecDepth 100000
open Go.RowKit
open Utf (Rd Blk wpList_append_rd own_ne)

theorem arg_to (b o n c t : Nat) (ht : t ≤ n) (hc : n ≤ c) (h0 : 0 < c) (u : World) : (Instr.slice 22 (.slice (some ⟨b, o, none⟩) n c) none (some (.int .i64 t)) none).run Tryz.prog u = .ok (.slice (some ⟨b, o, none⟩) t c) u := by
  have he : Tryz.prog.elem 22 = 38 := by simp [Program.elem, Tryz.underlying22]
  have hadd : (⟨b, o, none⟩ : Addr).add 0 = ⟨b, o, none⟩ := by unfold Addr.add; split <;> simp_all
  have hcz : ¬ c = 0 := by omega
  rw [run_slice_h u 22 (some ⟨b, o, none⟩) n c (by rw [he]; exact Tryz.underlying22) .i64 (t : Int) (by omega) (by omega), he, Tryz.sizeOf38]
  simp [Result.andThen, sliced, hadd]
theorem arg_from (b o n c t : Nat) (ht : t < n) (hc : n ≤ c) (u : World) : (Instr.slice 22 (.slice (some ⟨b, o, none⟩) n c) (some (.int .i64 t)) none none).run Tryz.prog u = .ok (.slice (some ⟨b, o + t * 2, none⟩) (n - t) (c - t)) u := by
  have he : Tryz.prog.elem 22 = 38 := by simp [Program.elem, Tryz.underlying22]
  rw [run_slice_l u 22 (some ⟨b, o, none⟩) n c (by rw [he]; exact Tryz.underlying22) .i64 (t : Int) (by omega) (by omega), he, Tryz.sizeOf38]
  simp only [Result.andThen, sliced, Int.toNat_natCast]
  simp [show ¬ c = t from by omega]
  unfold Addr.add; split <;> simp_all

/-! ### merging -/
structure Mrg (a b : List Rg) (i j : Nat) (R : List Rg) : Prop where
  perm : R.Perm (a.take i ++ b.take j)
  asc : Asc R
  le : ∀ r ∈ R, (∀ s ∈ a.drop i, r.1 ≤ s.1) ∧ ∀ s ∈ b.drop j, r.1 ≤ s.1
theorem Mrg.start (a b : List Rg) : Mrg a b 0 0 [] := ⟨List.Perm.refl _, List.Pairwise.nil, fun _ h => by simp at h⟩
theorem Mrg.len {a b : List Rg} {i j : Nat} {R : List Rg} (h : Mrg a b i j R) : R.length ≤ a.length + b.length := by
  have := h.perm.length_eq
  rw [List.length_append, List.length_take, List.length_take] at this
  omega
theorem asc_drop {a : List Rg} (h : Asc a) {i : Nat} (hi : i < a.length) : ∀ s ∈ a.drop i, a[i].1 ≤ s.1 := by
  intro s hs
  rw [List.drop_eq_getElem_cons hi] at hs
  have h2 : Asc (a.drop i) := List.Pairwise.sublist (List.drop_sublist _ _) h
  unfold Asc at h2
  rw [List.drop_eq_getElem_cons hi] at h2
  rcases List.mem_cons.1 hs with rfl | hs
  · exact Int.le_refl _
  · exact (List.pairwise_cons.1 h2).1 s hs
theorem Mrg.left {a b : List Rg} {i j : Nat} {R : List Rg} (h : Mrg a b i j R) (ha : Asc a) (hb : Asc b) (hi : i < a.length) (hj : ∀ k : j < b.length, a[i].1 ≤ b[j].1) : Mrg a b (i + 1) j (R ++ [a[i]]) := by
  have hm : a[i] ∈ a.drop i := by rw [List.drop_eq_getElem_cons hi]; exact List.mem_cons_self ..
  refine ⟨?_, ?_, fun r hr => ?_⟩
  · rw [List.take_succ_eq_append_getElem hi]
    refine (h.perm.append_right [a[i]]).trans ?_
    rw [List.append_assoc, List.append_assoc]
    exact List.Perm.append_left _ List.perm_append_comm
  · exact List.pairwise_append.2 ⟨h.asc, List.pairwise_singleton _ _, fun r hr s hs => by rw [List.mem_singleton.1 hs]; exact (h.le r hr).1 _ hm⟩
  · rcases List.mem_append.1 hr with hr | hr
    · refine ⟨fun s hs => (h.le r hr).1 s ?_, (h.le r hr).2⟩
      rw [List.drop_eq_getElem_cons hi]; exact List.mem_cons_of_mem _ hs
    · rw [List.mem_singleton.1 hr]
      refine ⟨fun s hs => asc_drop ha hi s (by rw [List.drop_eq_getElem_cons hi]; exact List.mem_cons_of_mem _ hs), fun s hs => ?_⟩
      by_cases hk : j < b.length
      · have := hj hk; have := asc_drop hb hk s hs; omega
      · rw [List.drop_of_length_le (by omega)] at hs; simp at hs
theorem Mrg.right {a b : List Rg} {i j : Nat} {R : List Rg} (h : Mrg a b i j R) (ha : Asc a) (hb : Asc b) (hj : j < b.length) (hi : ∀ k : i < a.length, b[j].1 ≤ a[i].1) : Mrg a b i (j + 1) (R ++ [b[j]]) := by
  have hm : b[j] ∈ b.drop j := by rw [List.drop_eq_getElem_cons hj]; exact List.mem_cons_self ..
  refine ⟨?_, ?_, fun r hr => ?_⟩
  · rw [List.take_succ_eq_append_getElem hj, ← List.append_assoc]
    exact h.perm.append_right [b[j]]
  · exact List.pairwise_append.2 ⟨h.asc, List.pairwise_singleton _ _, fun r hr s hs => by rw [List.mem_singleton.1 hs]; exact (h.le r hr).2 _ hm⟩
  · rcases List.mem_append.1 hr with hr | hr
    · refine ⟨(h.le r hr).1, fun s hs => (h.le r hr).2 s ?_⟩
      rw [List.drop_eq_getElem_cons hj]; exact List.mem_cons_of_mem _ hs
    · rw [List.mem_singleton.1 hr]
      refine ⟨fun s hs => ?_, fun s hs => asc_drop hb hj s (by rw [List.drop_eq_getElem_cons hj]; exact List.mem_cons_of_mem _ hs)⟩
      by_cases hk : i < a.length
      · have := hi hk; have := asc_drop ha hk s hs; omega
      · rw [List.drop_of_length_le (by omega)] at hs; simp at hs
theorem Mrg.done {a b : List Rg} {R : List Rg} (h : Mrg a b a.length b.length R) : R.Perm (a ++ b) ∧ Asc R := ⟨by have := h.perm; rwa [List.take_length, List.take_length] at this, h.asc⟩

/-- a slice that reads as a permutation that rises -/
def Srtd (w : World) (l : List Rg) (e : Ending) (w' : World) : Prop := ∃ A n c r, e = .returned (.slice A n c) ∧ r.length = n ∧ r.Perm l ∧ Asc r ∧ Rd w' w'.heap.size A (rgs r) ∧ Below w.heap.size w w'

/-- while both halves are merged -/
structure MI (H E0 : Nat) (w : World) (Aa Ab : Option Addr) (a b R : List Rg) (v : Value) (W : World) : Prop where
  own : W.ownsRow E0 38 2 v R.length (rgs R)
  rda : Rd W E0 Aa (rgs a)
  rdb : Rd W E0 Ab (rgs b)
  bel : Below H w W
  size : E0 ≤ W.heap.size
theorem MI.next {H E0 : Nat} {w W W' : World} {Aa Ab : Option Addr} {a b R R' : List Rg} {v v' : Value} (h : MI H E0 w Aa Ab a b R v W) (hg : W.grownBy W' v.ownBlock) (ho : W'.ownsRow E0 38 2 v' R'.length (rgs R')) (hE : H ≤ E0) : MI H E0 w Aa Ab a b R' v' W' :=
  ⟨ho, h.rda.grown hg h.size (fun k hk => (h.own.lt k hk).1), h.rdb.grown hg h.size (fun k hk => (h.own.lt k hk).1), h.bel.grown hg (Nat.le_trans hE h.size) (fun k hk => Nat.le_trans hE (h.own.lt k hk).1), Nat.le_trans h.size hg.size⟩

set_option maxHeartbeats 4000000 in
theorem sorted_step (N : Nat) (ih : ∀ (A : Option Addr) (l : List Rg) (n c : Nat) (w : World), l.length < N → Rd w w.heap.size A (rgs l) → l.length = n → n ≤ c → c ≤ 9223372036854775807 → n ≤ 1073741824 → Calls Tryz.prog 44 #[.slice A n c] w (Srtd w l))
    (A : Option Addr) (l : List Rg) (n c : Nat) (w : World) (hN : l.length = N) (ha : Rd w w.heap.size A (rgs l)) (hn : l.length = n) (hc : n ≤ c) (hcm : c ≤ 9223372036854775807) (hn1 : n ≤ 1073741824) :
    Calls Tryz.prog 44 #[.slice A n c] w (Srtd w l) := by
  obtain ⟨i0, hi, hz0, hz1, hz2⟩ := info_parts infoRg
  have HA := Lib.hid ha; have HN := Lib.hid hn; have HI := Lib.hid ih; have HNN := Lib.hid hN
  clear ha hn ih hN
  by_cases h2 : n < 2
  · have d2 : decide ((n : Int) < 2) = true := by rw [decide_eq_true_eq]; omega
    have HAS := Lib.hid (show Asc l by
      have : l.length < 2 := by have := HN.out; omega
      unfold Asc
      match l, this with
      | [], _ => exact List.Pairwise.nil
      | [x], _ => exact List.pairwise_singleton _ _)
    clear h2
    go_enter Tryz.func44, Tryz.ntmps44
    go_wp2_with fail
    go_ret
    exact ⟨A, n, c, l, rfl, HN.out, List.Perm.refl _, HAS.out, HA.out, Below.refl _ _⟩
  · have d2 : decide ((n : Int) < 2) = false := by rw [decide_eq_false_iff_not]; omega
    obtain ⟨b, o, rfl, hb⟩ := rd_form_rg HA.out (by have := HN.out; omega)
    obtain ⟨h, hh⟩ : ∃ h, h = n / 2 := ⟨_, rfl⟩
    have hq2 : (n : Int) / 2 = (h : Int) := by omega
    have hq : Int.tdiv (n : Int) 2 = (h : Int) := by rw [Int.tdiv_eq_ediv_of_nonneg (by omega)]; exact hq2
    have hh1 : 1 ≤ h := by omega
    have hh2 : h < n := by omega
    have HCA := Lib.hid (fun (u : World) (hu : Below w.heap.size w u) => HI.out (some ⟨b, o, none⟩) (l.take h) h c u (by rw [List.length_take]; have := HNN.out; have := HN.out; omega) (((HA.out.below hu).more hu.size).take_ (h * 2) |> fun r => by rwa [rgs_take] at r) (by rw [List.length_take]; have := HN.out; omega) (by omega) hcm (by omega))
    have HCB := Lib.hid (fun (u : World) (hu : Below w.heap.size w u) => HI.out (some ⟨b, o + h * 2, none⟩) (l.drop h) (n - h) (c - h) u (by rw [List.length_drop]; have := HNN.out; have := HN.out; omega) (((HA.out.below hu).more hu.size).drop_ (h * 2) |> fun r => by rwa [rgs_drop] at r) (by rw [List.length_drop]; have := HN.out; omega) (by omega) (by omega) (by omega))
    have HH := Lib.hid hh
    have hs1 := fun u => arg_to b o n c h (by omega) hc (by omega) u
    have hs2 := fun u => arg_from b o n c h hh2 hc u
    clear hh hb
    have hq3 : IntKind.i64.wrap (h : Int) = (h : Int) := IntWalk.i64_in _ (by omega)
    go_enter Tryz.func44, Tryz.ntmps44
    go_wp2_with fail
    go_cut [3, 4] (fun va vb W => ∃ (Aa Ab : Option Addr) (na nb ca cb : Nat) (a b : List Rg), va = .slice Aa na ca ∧ vb = .slice Ab nb cb ∧ Hid (a.length = na ∧ b.length = nb ∧ (a ++ b).Perm l ∧ Asc a ∧ Asc b ∧ Rd W W.heap.size Aa (rgs a) ∧ Rd W W.heap.size Ab (rgs b) ∧ Below w.heap.size w W))
    case first =>
      go_region_held3 (fun w' => Below w.heap.size w w') (first | assumption | exact below_drewN (Below.refl _ _) 1 | exact HX1.out | exact HX2.out)
        (first
        | (go_at_call 44; (with_reducible refine (HCA.out _ (by assumption)).mono ?_); rintro e w1 ⟨A1, n1, c1, r1, rfl, p1, p2, p3, p4, p5⟩; have HX1 := Lib.hid (Below.trans (by assumption) (p5.mono (Below.size (by assumption)))))
        | (go_at_call 44; (with_reducible refine (HCB.out _ (by assumption)).mono ?_); rintro e w2 ⟨A2, n2, c2, r2, rfl, q1, q2, q3, q4, q5⟩; have HX2 := Lib.hid (Below.trans (by assumption) (q5.mono (Below.size (by assumption))))))
      have hcut : Hid (r1.length = n1 ∧ r2.length = n2 ∧ (r1 ++ r2).Perm l ∧ Asc r1 ∧ Asc r2 ∧ Rd w2 w2.heap.size A1 (rgs r1) ∧ Rd w2 w2.heap.size A2 (rgs r2) ∧ Below w.heap.size w w2) := by
        refine ⟨p1, q1, ?_, p3, q3, (p4.below q5).more q5.size, q4, HX2.out⟩
        have := p2.append q2
        rwa [List.take_append_drop] at this
      clear p1 p2 p3 p4 p5 q1 q2 q3 q4 q5 HX1 HX2
      go_wp2_with fail
      go_meet
      exact ⟨_, _, _, _, _, _, _, _, rfl, rfl, hcut⟩
    case rest =>
      obtain ⟨Aa, Ab, na, nb, ca, cb, a, b, rfl, rfl, HR⟩ := hcut
      clear hs1 hs2 hq hq2 hq3 HCA HCB
      obtain ⟨HLA, HLB, HPM, HAA, HAB, HRA, HRB, HBW⟩ := HR.out
      have HLA := Lib.hid HLA; have HLB := Lib.hid HLB; have HPM := Lib.hid HPM; have HAA := Lib.hid HAA; have HAB := Lib.hid HAB
      have hsum : na + nb = n := by
        have h1 := HPM.out.length_eq
        rw [List.length_append, HLA.out, HLB.out, HN.out] at h1
        exact h1
      have hMI : Hid (MI w.heap.size wc.heap.size w Aa Ab a b [] (.slice none 0 0) wc) := ⟨World.ownsRow_nil _ _ _ _, HRA, HRB, HBW, Nat.le_refl _⟩
      clear HR HRA HRB hh1 hh2 HH
      have HBC := Lib.hid HBW.size
      clear HBW
      go_wp2_with fail
      go_loopw [5, 6, 7] (fun rv iv jv wr => ∃ (i j : Nat) (v : Value) (R : List Rg), i ≤ na ∧ j ≤ nb ∧ iv = .int .i64 i ∧ jv = .int .i64 j ∧ rv = v ∧ Hid (Mrg a b i j R) ∧ Hid (MI w.heap.size wc.heap.size w Aa Ab a b R v wr)) (fun _ iv jv _ => n - (intOf iv).toNat - (intOf jv).toNat)
      case atStart => exact ⟨0, 0, _, [], Nat.zero_le _, Nat.zero_le _, rfl, rfl, rfl, Lib.hid (Mrg.start a b), hMI⟩
      case round =>
        obtain ⟨i, j, v, R, hi1, hj1, rfl, rfl, rfl, HM, HI⟩ := hrel
        clear hMI
        have HLN := Lib.hid (show R.length ≤ 1073741824 by have := HM.out.len; have := HLA.out; have := HLB.out; omega)
        by_cases hlta : i < na
        · have hia : i < a.length := by rw [HLA.out]; exact hlta
          have dia : decide ((i : Int) < (na : Int)) = true := by rw [decide_eq_true_eq]; omega
          obtain ⟨xb, xo, rfl, hxb⟩ := rd_form_rg HI.out.rda (by omega)
          obtain ⟨c1, c2⟩ := rd_rg HI.out.rda hia
          have hxs : xb < wr.heap.size := Nat.lt_of_lt_of_le hxb HI.out.size
          have HML := Lib.hid (HM.out.left HAA.out HAB.out hia)
          by_cases hltb : j < nb
          · have hjb : j < b.length := by rw [HLB.out]; exact hltb
            have djb : ((j : Int) == (nb : Int)) = false := by simp; omega
            obtain ⟨yb, yo, rfl, hyb⟩ := rd_form_rg HI.out.rdb (by omega)
            obtain ⟨d1, d2⟩ := rd_rg HI.out.rdb hjb
            have hys : yb < wr.heap.size := Nat.lt_of_lt_of_le hyb HI.out.size
            have HMR := Lib.hid (HM.out.right HAA.out HAB.out hjb)
            by_cases hle : a[i].1 ≤ b[j].1
            · have HM2 := Lib.hid (HML.out fun _ => hle)
              clear HML HMR
              generalize a[i] = x at *
              generalize b[j] = y at *
              obtain ⟨x1, x2⟩ := x
              obtain ⟨y1, y2⟩ := y
              dsimp only at *
              have dle : decide (x1 ≤ y1) = true := decide_eq_true hle
              clear hia hjb hle
              go_wp2_with fail
              go_quiet (fail)
              go_wp2_with (at_builtin; refine wpList_append_rd _ rfl (.tmp 57) (.tmp 62) _ rfl wc.heap.size 38 i0 _ 2 8 Tryz.underlying22 hi hz0 hz1 hz2 rfl (by decide) u5 R.length (rgs R) rfl ((HI.out.own.alloc _)) _ (some ⟨wr.heap.size, 0, none⟩) 1 1 (rgs [(x1, x2)]) rfl rfl (rd_new _ _ (rgs [(x1, x2)]) _ (by simp)) (rgs_one _) (by have := HLN.out; unfold maxLen; omega) (by have := HLN.out; omega) (by have := HI.out.size; simp; omega) ?_; intro v6 w6 hown6 hgr6 _)
              have HN6 := Lib.hid (HI.out.next (R' := R ++ [(x1, x2)]) ((((grownBy_drewN wr _ _).trans (grownBy_alloc _ _ _))).trans hgr6) (by rw [rgs_append, List.length_append]; exact hown6) HBC.out)
              clear hown6 hgr6
              go_roundw
              case rel => exact ⟨i + 1, j, _, R ++ [(x1, x2)], by omega, by omega, by go_num, by go_num, rfl, HM2, HN6⟩
              case measure => simp [intOf]; omega
            · have HM2 := Lib.hid (HMR.out fun _ => by omega)
              clear HML HMR
              generalize a[i] = x at *
              generalize b[j] = y at *
              obtain ⟨x1, x2⟩ := x
              obtain ⟨y1, y2⟩ := y
              dsimp only at *
              have dle : decide (x1 ≤ y1) = false := decide_eq_false hle
              clear hia hjb hle
              go_wp2_with fail
              go_quiet (fail)
              go_wp2_with (at_builtin; refine wpList_append_rd _ rfl (.tmp 66) (.tmp 71) _ rfl wc.heap.size 38 i0 _ 2 8 Tryz.underlying22 hi hz0 hz1 hz2 rfl (by decide) u5 R.length (rgs R) rfl ((HI.out.own.alloc _)) _ (some ⟨wr.heap.size, 0, none⟩) 1 1 (rgs [(y1, y2)]) rfl rfl (rd_new _ _ (rgs [(y1, y2)]) _ (by simp)) (rgs_one _) (by have := HLN.out; unfold maxLen; omega) (by have := HLN.out; omega) (by have := HI.out.size; simp; omega) ?_; intro v6 w6 hown6 hgr6 _)
              have HN6 := Lib.hid (HI.out.next (R' := R ++ [(y1, y2)]) ((((grownBy_drewN wr _ _).trans (grownBy_alloc _ _ _))).trans hgr6) (by rw [rgs_append, List.length_append]; exact hown6) HBC.out)
              clear hown6 hgr6
              go_roundw
              case rel => exact ⟨i, j + 1, _, R ++ [(y1, y2)], by omega, by omega, by go_num, by go_num, rfl, HM2, HN6⟩
              case measure => simp [intOf]; omega
          · have djb : ((j : Int) == (nb : Int)) = true := by simp; omega
            have HM2 := Lib.hid (HML.out fun h => absurd h (by rw [HLB.out]; omega))
            clear HML
            generalize a[i] = x at *
            obtain ⟨x1, x2⟩ := x
            dsimp only at *
            clear hia
            go_wp2_with fail
            go_quiet (fail)
            go_wp2_with (at_builtin; refine wpList_append_rd _ rfl (.tmp 57) (.tmp 62) _ rfl wc.heap.size 38 i0 _ 2 8 Tryz.underlying22 hi hz0 hz1 hz2 rfl (by decide) u5 R.length (rgs R) rfl ((HI.out.own.alloc _)) _ (some ⟨wr.heap.size, 0, none⟩) 1 1 (rgs [(x1, x2)]) rfl rfl (rd_new _ _ (rgs [(x1, x2)]) _ (by simp)) (rgs_one _) (by have := HLN.out; unfold maxLen; omega) (by have := HLN.out; omega) (by have := HI.out.size; simp; omega) ?_; intro v6 w6 hown6 hgr6 _)
            have HN6 := Lib.hid (HI.out.next (R' := R ++ [(x1, x2)]) ((((grownBy_drewN wr _ _).trans (grownBy_alloc _ _ _))).trans hgr6) (by rw [rgs_append, List.length_append]; exact hown6) HBC.out)
            clear hown6 hgr6
            go_roundw
            case rel => exact ⟨i + 1, j, _, R ++ [(x1, x2)], by omega, by omega, by go_num, by go_num, rfl, HM2, HN6⟩
            case measure => simp [intOf]; omega
        · have dia : decide ((i : Int) < (na : Int)) = false := by rw [decide_eq_false_iff_not]; omega
          by_cases hltb : j < nb
          · have hjb : j < b.length := by rw [HLB.out]; exact hltb
            have djb : ((j : Int) == (nb : Int)) = false := by simp; omega
            obtain ⟨yb, yo, rfl, hyb⟩ := rd_form_rg HI.out.rdb (by omega)
            obtain ⟨d1, d2⟩ := rd_rg HI.out.rdb hjb
            have hys : yb < wr.heap.size := Nat.lt_of_lt_of_le hyb HI.out.size
            have HM2 := Lib.hid (HM.out.right HAA.out HAB.out hjb fun h => absurd h (by rw [HLA.out]; omega))
            generalize b[j] = y at *
            obtain ⟨y1, y2⟩ := y
            dsimp only at *
            clear hjb
            go_wp2_with fail
            go_quiet (fail)
            go_wp2_with (at_builtin; refine wpList_append_rd _ rfl (.tmp 66) (.tmp 71) _ rfl wc.heap.size 38 i0 _ 2 8 Tryz.underlying22 hi hz0 hz1 hz2 rfl (by decide) u5 R.length (rgs R) rfl ((HI.out.own.alloc _)) _ (some ⟨wr.heap.size, 0, none⟩) 1 1 (rgs [(y1, y2)]) rfl rfl (rd_new _ _ (rgs [(y1, y2)]) _ (by simp)) (rgs_one _) (by have := HLN.out; unfold maxLen; omega) (by have := HLN.out; omega) (by have := HI.out.size; simp; omega) ?_; intro v6 w6 hown6 hgr6 _)
            have HN6 := Lib.hid (HI.out.next (R' := R ++ [(y1, y2)]) ((((grownBy_drewN wr _ _).trans (grownBy_alloc _ _ _))).trans hgr6) (by rw [rgs_append, List.length_append]; exact hown6) HBC.out)
            clear hown6 hgr6
            go_roundw
            case rel => exact ⟨i, j + 1, _, R ++ [(y1, y2)], by omega, by omega, by go_num, by go_num, rfl, HM2, HN6⟩
            case measure => simp [intOf]; omega
          · have HD := Lib.hid (show R.Perm l ∧ Asc R from by
              have e1 : i = a.length := by have := HLA.out; omega
              have e2 : j = b.length := by have := HLB.out; omega
              have h := HM.out
              rw [e1, e2] at h
              exact ⟨h.done.1.trans HPM.out, h.done.2⟩)
            obtain ⟨Ao, co, hv, _, _, hro⟩ := own_form HI.out.own
            subst hv
            have HRO := Lib.hid hro
            clear hro
            go_wp2_with fail
            go_ret
            exact ⟨_, _, _, R, rfl, rfl, HD.out.1, HD.out.2, HRO.out, HI.out.bel⟩

theorem sorted_all (N : Nat) : ∀ (A : Option Addr) (l : List Rg) (n c : Nat) (w : World), l.length < N → Rd w w.heap.size A (rgs l) → l.length = n → n ≤ c → c ≤ 9223372036854775807 → n ≤ 1073741824 → Calls Tryz.prog 44 #[.slice A n c] w (Srtd w l) := by
  induction N with
  | zero => intro A l n c w h; exact absurd h (Nat.not_lt_zero _)
  | succ N ih =>
    intro A l n c w h ha hn hc hcm hn1
    refine sorted_step l.length (fun A l' n c w h' => ih A l' n c w (by omega)) A l n c w rfl ha hn hc hcm hn1
theorem sorted_any (A : Option Addr) (l : List Rg) (n c : Nat) (w : World) (ha : Rd w w.heap.size A (rgs l)) (hn : l.length = n) (hc : n ≤ c) (hcm : c ≤ 9223372036854775807) (hn1 : n ≤ 1073741824) :
    Calls Tryz.prog 44 #[.slice A n c] w (Srtd w l) := sorted_all (l.length + 1) A l n c w (Nat.lt_succ_self _) ha hn hc hcm hn1
end Go.Proofs.YtipcbiecdabihaaGreat.Rset
