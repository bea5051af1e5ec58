/-
  CONTRACT OF edges, ahead of and behind the sorting.
-/
import Derived.Test.YtipcbiecdabihaaGreatRsetJoin
import Derived.Test.YtipcbiecdabihaaGreatRsetSort
import Derived.Outline
namespace Go.Proofs.YtipcbiecdabihaaGreat.Rset
set_option maxRecDepth 100000
open Go.RowKit
open Utf (Rd Blk wpList_append_rd own_ne)

theorem infoEd : (Tryz.prog.info? 98).map (fun i => (i.zero, i.size, i.bytes)) = some (some (.agg #[.int .i64 0, .int .i64 0, .int .i64 0]), 3, 24) := by kernel_rfl
/-- what has been gathered ahead of list j -/
def pre (a b : List Rg) : Nat → List Ed
  | 0 => [(1114112, 0, 0)]
  | 1 => (1114112, 0, 0) :: edL 0 a
  | _ => edsF a b
theorem pre_len (a b : List Rg) (j : Nat) : (pre a b j).length ≤ 2 * (a.length + b.length) + 1 := by
  have := edL_len 0 a; have := edsF_len a b
  unfold pre; split
  · simp
  · rw [List.length_cons]; omega
  · exact edsF_len a b

/-- while they are gathered -/
structure EI (H : Nat) (w : World) (X : Option Addr) (l : List Rg) (sA sB : Value) (P : List Ed) (v : Value) (wi : World) : Prop where
  own : wi.ownsRow H 98 3 v P.length (eds P)
  blk : Blk wi (H + 1) 22 [sA, sB]
  bel : Below H w wi
  rd : Rd wi H X (rgs l)
section
variable {H : Nat} {w : World} {X : Option Addr} {l : List Rg} {sA sB v : Value} {P : List Ed} {wi : World}
theorem EI.size (h : EI H w X l sA sB P v wi) (hH : H ≤ w.heap.size) : H ≤ wi.heap.size := Nat.le_trans hH h.bel.size
theorem EI.next (h : EI H w X l sA sB P v wi) (hH : H ≤ w.heap.size) {v6 : Value} {w6 : World} {P' : List Ed} (hg : wi.grownBy w6 v.ownBlock) (ho : w6.ownsRow H 98 3 v6 P'.length (eds P')) : EI H w X l sA sB P' v6 w6 :=
  ⟨ho, h.blk.grown hg (fun e => own_ne h.own h.blk (by decide) e.symm), h.bel.grown hg (h.size hH) (fun k hk => (h.own.lt k hk).1), h.rd.grown hg (h.size hH) (fun k hk => (h.own.lt k hk).1)⟩
theorem EI.keep (h : EI H w X l sA sB P v wi) (hH : H ≤ w.heap.size) {w6 : World} (hb : Below wi.heap.size wi w6) : EI H w X l sA sB P v w6 :=
  ⟨own_below h.own hb, h.blk.below hb h.blk.lt, h.bel.trans (hb.mono (h.size hH)), h.rd.below (hb.mono (h.size hH))⟩
end
/-- the edges of both lists, rising, in new memory -/
def Edged (a b : List Rg) (w : World) (e : Ending) (w' : World) : Prop :=
  ∃ g C es, e = .returned (.slice (some ⟨g, 0, none⟩) es.length C) ∧ es.Perm (edsF a b) ∧ AscE es ∧ Rd w' w'.heap.size (some ⟨g, 0, none⟩) (eds es) ∧ Below w.heap.size w w' ∧ w.heap.size ≤ g

set_option maxHeartbeats 4000000 in
theorem edges_any (A B : Option Addr) (a b : List Rg) (n m c d : Nat) (w : World) (ha : Rd w w.heap.size A (rgs a)) (hb : Rd w w.heap.size B (rgs b)) (hn : a.length = n) (hm : b.length = m) (fa : Fit a) (fb : Fit b) (hsm : n + m ≤ 1073741824) :
    Calls Tryz.prog 89 #[.slice A n c, .slice B m d] w (Edged a b w) := by
  obtain ⟨i0, hi, hz0, hz1, hz2⟩ := info_parts infoEd
  have HA := Lib.hid ha; have HBb := Lib.hid hb; have HN := Lib.hid hn; have HM := Lib.hid hm; have HFA := Lib.hid fa; have HFB := Lib.hid fb
  clear ha hb hn hm fa fb
  go_enter Tryz.func89, Tryz.ntmps89
  go_wp2_with fail
  obtain ⟨H, hH⟩ : ∃ H, H = w.heap.size := ⟨_, rfl⟩
  rw [← hH]
  obtain ⟨W0, hW0⟩ : ∃ W0, W0 = ((w.alloc (.cells #[.int .i64 1114112, .int .i64 0, .int .i64 0] 98)).alloc (.cells #[.slice A n c, .slice B m d] 22)) := ⟨_, rfl⟩
  rw [← hW0]
  have hsA : Hid (W0.ownsRow H 98 3 (.slice (some ⟨H, 0, none⟩) 1 1) (pre a b 0).length (eds (pre a b 0)) ∧ Blk W0 (H + 1) 22 [.slice A n c, .slice B m d] ∧ Below H w W0) := by
    refine ⟨?_, ?_, ?_⟩
    · rw [hW0]
      have := World.ownsRow_lit w (e := 98) (size := 3) (base := H) #[.int .i64 1114112, .int .i64 0, .int .i64 0] 1 (by omega) (by unfold maxLen; omega) rfl
      rw [← hH] at this
      exact this.alloc _
    · have := Blk.new (w.alloc (.cells #[.int .i64 1114112, .int .i64 0, .int .i64 0] 98)) 22 [.slice A n c, .slice B m d]
      rw [World.size_alloc, ← hH] at this
      rw [hW0]; exact this
    · rw [hW0]; exact ((Below.refl _ w).alloc (by omega) _).alloc (by simp; omega) _
  have HH := Lib.hid hH
  clear hW0 hH
  go_loopw [5, 18] (fun l i wr => ∃ (j : Nat) (v : Value), j ≤ 2 ∧ i = .int .i64 j ∧ l = v ∧ Hid (wr.ownsRow H 98 3 v (pre a b j).length (eds (pre a b j)) ∧ Blk wr (H + 1) 22 [.slice A n c, .slice B m d] ∧ Below H w wr)) (fun _ i _ => 2 - (intOf i).toNat)
  case atStart => exact ⟨0, _, by omega, rfl, rfl, hsA⟩
  case round =>
    obtain ⟨j, v, hj, rfl, rfl, HI⟩ := hrel
    clear hsA
    by_cases hlt : j < 2
    · have hls : Hid (∃ (X : Option Addr) (p q : Nat) (l : List Rg), wr.cell? ⟨H + 1, j, none⟩ = some (.slice X p q) ∧ Rd wr H X (rgs l) ∧ l.length = p ∧ Fit l ∧ p ≤ n + m ∧ pre a b (j + 1) = pre a b j ++ edL j l ∧ (pre a b j).length + 2 * p ≤ 2 * (n + m) + 1) := by
        obtain ⟨_, h2, h3⟩ := HI.out
        have hN := HN.out; have hM := HM.out; have hHH := HH.out
        have : j = 0 ∨ j = 1 := by omega
        rcases this with rfl | rfl
        · refine ⟨A, n, c, a, (h2.cell 0).trans rfl, hHH ▸ HA.out.below (hHH ▸ h3), hN, HFA.out, by omega, rfl, by simp [pre]; omega⟩
        · refine ⟨B, m, d, b, (h2.cell 1).trans rfl, hHH ▸ HBb.out.below (hHH ▸ h3), hM, HFB.out, by omega, rfl, by have := edL_len 0 a; simp [pre]; omega⟩
      obtain ⟨X, p, q, l, hcell, hrd, hl, hfit, hpn, hpre, hlen⟩ := hls.out
      have HR := Lib.hid hrd; have HL := Lib.hid hl; have HF := Lib.hid hfit; have HP := Lib.hid hpre; have HE := Lib.hid hlen
      clear hrd hl hfit hpre hlen hls
      have hjd : decide ((j : Int) < 2) = true := by rw [decide_eq_true_eq]; omega
      go_wp2_with fail
      have hsI : Hid (EI H w X l (.slice A n c) (.slice B m d) (pre a b j ++ edL j (l.take 0)) u5 wr) := by
        rw [List.take_zero, edL_nil, List.append_nil]; exact ⟨HI.out.1, HI.out.2.1, HI.out.2.2, HR.out⟩
      clear HI HR
      go_loopw [5, 25] (fun l5 i wi => ∃ (k : Nat) (v : Value), k ≤ p ∧ i = .int .i64 k ∧ l5 = v ∧ Hid (EI H w X l (.slice A n c) (.slice B m d) (pre a b j ++ edL j (l.take k)) v wi)) (fun _ i _ => p - (intOf i).toNat)
      case atStart => exact ⟨0, _, Nat.zero_le _, rfl, rfl, hsI⟩
      case round =>
        obtain ⟨k, v, hk, rfl, rfl, HJ⟩ := hrel
        clear hsI hcell
        have HHw : Hid (H ≤ w.heap.size) := Nat.le_of_eq HH.out
        by_cases hkl : k < p
        · have hkL : k < l.length := by rw [HL.out]; exact hkl
          obtain ⟨xb, xo, rfl, hxb⟩ := rd_form_rg HJ.out.rd (by omega)
          obtain ⟨hc1, hc2⟩ := rd_rg HJ.out.rd hkL
          have HT := Lib.hid (edL_take j l k hkL)
          have hft := HF.out l[k] (List.getElem_mem hkL)
          have HE2 := Lib.hid (show (pre a b j ++ edL j (l.take k)).length ≤ 2147483649 by have := HE.out; have := edL_len j (l.take k); rw [List.length_append]; rw [List.length_take] at this; omega)
          generalize l[k] = r at hc1 hc2 HT hft
          obtain ⟨r1, r2⟩ := r
          dsimp only at hc1 hc2 hft
          have HH2 := Lib.hid (HJ.out.size HHw.out)
          clear hkL
          obtain ⟨lo, hlo⟩ : ∃ lo, (if r1 < 0 then (0 : Int) else r1) = lo := ⟨_, rfl⟩
          obtain ⟨hh, hhi⟩ : ∃ hh, (if 1114111 < r2 then (1114111 : Int) else r2) = hh := ⟨_, rfl⟩
          have hlo2 : max r1 0 = lo := by rw [← hlo]; split <;> omega
          have hhi2 : min r2 1114111 = hh := by rw [← hhi]; split <;> omega
          have HLO := Lib.hid hlo2.symm
          have HHI := Lib.hid hhi2.symm
          by_cases hle : lo ≤ hh
          · have HED := Lib.hid (show edL j (l.take (k + 1)) = edL j (l.take k) ++ [(lo, (j : Int), 1), (hh + 1, (j : Int), -1)] by
              rw [HT.out]; unfold edF; rw [if_pos (by have := HLO.out; have := HHI.out; simp only []; omega), HLO.out, HHI.out])
            have e1 : IntKind.i64.wrap lo = lo := IntWalk.i64_in _ (by have := HLO.out; omega)
            have e2 : IntKind.i64.wrap hh = hh := IntWalk.i64_in _ (by have := HHI.out; omega)
            have e3 : IntKind.i64.wrap (hh + 1) = hh + 1 := IntWalk.i64_in _ (by have := HHI.out; omega)
            clear HT
            go_wp2_with fail
            go_quiet (fail)
            go_wp2_with (at_builtin; refine wpList_append_rd _ rfl (.tmp 38) (.tmp 48) _ rfl H 98 i0 _ 3 24 Tryz.underlying95 hi hz0 hz1 hz2 rfl (by decide) u5 (pre a b j ++ edL j (l.take k)).length (eds (pre a b j ++ edL j (l.take k))) rfl ((HJ.out.own.alloc _).alloc _) _ (some ⟨wr.heap.size + 1, 0, none⟩) 2 2 (eds [(lo, (j : Int), 1), (hh + 1, (j : Int), -1)]) rfl rfl (rd_new _ _ (eds [(lo, (j : Int), 1), (hh + 1, (j : Int), -1)]) _ (by simp)) (eds_one _) (by have := HE2.out; unfold maxLen; omega) (by have := HE2.out; omega) (by have := HH2.out; simp; omega) ?_; intro v6 w6 hown6 hgr6 _)
            have HN6 : Hid (EI H w (some ⟨xb, xo, none⟩) l (.slice A n c) (.slice B m d) (pre a b j ++ edL j (l.take (k + 1))) v6 w6) := by
              refine HJ.out.next HHw.out ((((grownBy_alloc wr _ _).trans (grownBy_drewN _ nq _)).trans (grownBy_alloc _ _ _)).trans hgr6) ?_
              rw [HED.out, ← List.append_assoc, eds_append, List.length_append]
              exact hown6
            clear hown6 hgr6
            go_roundw
            case rel => exact ⟨k + 1, _, by omega, by go_num, rfl, HN6⟩
            case measure => simp [intOf]; omega
          · have HED := Lib.hid (show edL j (l.take (k + 1)) = edL j (l.take k) by
              rw [HT.out]; unfold edF; rw [if_neg (by have := HLO.out; have := HHI.out; simp only []; omega), List.append_nil])
            have hle2 : hh < lo := by omega
            clear HT
            go_wp2_with fail
            go_quiet (fail)
            go_wp2_with fail
            have HN6 : Hid (EI H w (some ⟨xb, xo, none⟩) l (.slice A n c) (.slice B m d) (pre a b j ++ edL j (l.take (k + 1))) u5 ((wr.alloc (.cells #[.int .i32 r1, .int .i32 r2] 38)).drewN nq)) := by
              rw [HED.out]
              exact HJ.out.keep HHw.out (below_drewN ((Below.refl _ wr).alloc (Nat.le_refl _) _) nq)
            go_roundw
            case rel => exact ⟨k + 1, _, by omega, by go_num, rfl, HN6⟩
            case measure => simp [intOf]; omega
        · have HN6 : Hid (EI H w X l (.slice A n c) (.slice B m d) (pre a b (j + 1)) u5 wr) := by
            have hkp : k = p := by omega
            have h := HJ.out
            rw [hkp, ← HL.out, List.take_length, ← HP.out] at h
            exact h
          clear HJ
          go_wp2_with fail
          go_roundw
          case rel => exact ⟨j + 1, _, by omega, by go_num, rfl, HN6.out.own, HN6.out.blk, HN6.out.bel⟩
          case measure => simp [intOf]; omega
    · have hj2 : j = 2 := by omega
      subst hj2
      obtain ⟨ho, _, hbl⟩ := HI.out
      have hpos : 0 < (edsF a b).length := by unfold edsF; simp
      have hel := edsF_len a b
      change wr.ownsRow H 98 3 u5 (edsF a b).length (eds (edsF a b)) at ho
      obtain ⟨g, cap, hv, hgH, hglt⟩ := ho.form hpos
      subst hv
      have HS := Lib.hid (sort_any H g cap _ _ wr ho hglt (by have := HN.out; have := HM.out; omega))
      have HBl := Lib.hid hbl
      have HHw : Hid (H ≤ wr.heap.size) := Nat.le_trans (Nat.le_of_eq HH.out) hbl.size
      clear hlt hj hsm ho hbl HI hpos hel
      generalize hL : (edsF a b).length = L at HS
      have HL := Lib.hid hL
      clear hL
      go_wp2_with fail
      refine HS.out.mono ?_
      rintro e w2 ⟨rfl, d, hp, hs, hr, hg⟩
      have HR := Lib.hid hr
      have HG := Lib.hid hg
      have HP := Lib.hid hp
      have HA2 := Lib.hid hs
      clear hr hg hp hs
      go_wp2_with fail
      go_ret
      refine ⟨g, cap, d, ?_, HP.out, HA2.out, HR.out, ?_⟩
      · rw [HP.out.length_eq, HL.out]; rfl
      · have := HBl.out.grown HG.out HHw.out (fun k hk => by injection hk with hk; omega)
        rw [HH.out] at this
        exact ⟨this, by have := HH.out; omega⟩
end Go.Proofs.YtipcbiecdabihaaGreat.Rset
