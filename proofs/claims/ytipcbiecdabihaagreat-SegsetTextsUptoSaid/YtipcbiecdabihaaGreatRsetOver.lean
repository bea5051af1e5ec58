/-
  CONTRACT OF over: the sweep over both lists' edges tells the normal list of what is kept; and of Union, Meet, Minus, Not, Norm.
-/
import Derived.Test.YtipcbiecdabihaaGreatRsetEdges
namespace Go.Proofs.YtipcbiecdabihaaGreat.Rset
set_option maxRecDepth 100000
open Go.RowKit
open Utf (Rd Blk wpList_append_rd own_ne)

/-- in the midst of the sweep -/
structure OI (H E0 : Nat) (w : World) (fv : Value) (A : Option Addr) (es : List Ed) (s : St) (v : Value) (W : World) : Prop where
  own : W.ownsRow E0 38 2 v s.L.length (rgs s.L)
  rd : Rd W E0 A (eds es)
  blkS : Blk W H 78 [fv]
  blkH : Blk W (H + 1) 94 [.int .i64 s.h0, .int .i64 s.h1]
  bel : Below H w W
  size : E0 ≤ W.heap.size

section
variable {H E0 : Nat} {w : World} {fv : Value} {A : Option Addr} {es : List Ed} {L : List Rg} {f h0 h1 : Int} {v : Value} {W W' : World}
theorem OI.base (h : OI H E0 w fv A es ⟨L, f, h0, h1⟩ v W) (f' : Int) : OI H E0 w fv A es ⟨L, f', h0, h1⟩ v W := ⟨h.own, h.rd, h.blkS, h.blkH, h.bel, h.size⟩
theorem OI.alloc (h : OI H E0 w fv A es ⟨L, f, h0, h1⟩ v W) (hE : H + 2 ≤ E0) (o : Obj) : OI H E0 w fv A es ⟨L, f, h0, h1⟩ v (W.alloc o) :=
  ⟨h.own.alloc o, h.rd.alloc h.size o, h.blkS.alloc o, h.blkH.alloc o, h.bel.alloc (by have := h.size; omega) o, by have := h.size; simp; omega⟩
theorem OI.drew (h : OI H E0 w fv A es ⟨L, f, h0, h1⟩ v W) : OI H E0 w fv A es ⟨L, f, h0, h1⟩ v W.drew := ⟨h.own, h.rd, h.blkS, h.blkH, ⟨h.bel.os, h.bel.tape, h.bel.output, h.bel.size, h.bel.block⟩, h.size⟩
theorem OI.next (h : OI H E0 w fv A es ⟨L, f, h0, h1⟩ v W) (hE : H + 2 ≤ E0) {L' : List Rg} {v' : Value} (hg : W.grownBy W' v.ownBlock) (ho : W'.ownsRow E0 38 2 v' L'.length (rgs L')) : OI H E0 w fv A es ⟨L', f, h0, h1⟩ v' W' :=
  ⟨ho, h.rd.grown hg h.size (fun k hk => (h.own.lt k hk).1), h.blkS.grown hg (fun e => by have := (h.own.lt H e.symm).1; omega), h.blkH.grown hg (fun e => by have := (h.own.lt (H + 1) e.symm).1; omega),
    h.bel.grown hg (by have := h.size; omega) (fun k hk => by have := (h.own.lt k hk).1; omega), Nat.le_trans h.size hg.size⟩
theorem OI.own_ne (h : OI H E0 w fv A es ⟨L, f, h0, h1⟩ v W) (hE : H + 2 ≤ E0) : v.ownBlock = none ∨ v.ownBlock ≠ some (H + 1) := .inr fun e => by have := (h.own.lt (H + 1) e).1; omega
theorem OI.set0 (h : OI H E0 w fv A es ⟨L, f, h0, h1⟩ v W) (hE : H + 2 ≤ E0) (hn : ∀ k, A = some k → H + 1 ≠ k.block) (z : Int) : OI H E0 w fv A es ⟨L, f, z, h1⟩ v (W.setCell ⟨H + 1, 0, none⟩ (.int .i64 z)) :=
  ⟨h.own.kept (grownBy_setCell W (H + 1) 0 _) (h.own_ne hE), fun hne => by
      obtain ⟨b, o, e, hb, hc⟩ := h.rd hne
      exact ⟨b, o, e, hb, fun j u hu => (World.cell?_of_block (Below.heap_setCell _ _ _ _ (fun e2 => hn _ e e2.symm))).trans (hc j u hu)⟩,
    h.blkS.far (by show H ≠ H + 1; omega) _, h.blkH.set_ 0 _, h.bel.setCell (by show H ≤ H + 1; omega) _, by rw [show (W.setCell ⟨H + 1, 0, none⟩ (.int .i64 z)).heap.size = W.heap.size by simp]; exact h.size⟩
theorem OI.set1 (h : OI H E0 w fv A es ⟨L, f, h0, h1⟩ v W) (hE : H + 2 ≤ E0) (hn : ∀ k, A = some k → H + 1 ≠ k.block) (z : Int) : OI H E0 w fv A es ⟨L, f, h0, z⟩ v (W.setCell ⟨H + 1, 1, none⟩ (.int .i64 z)) :=
  ⟨h.own.kept (grownBy_setCell W (H + 1) 1 _) (h.own_ne hE), fun hne => by
      obtain ⟨b, o, e, hb, hc⟩ := h.rd hne
      exact ⟨b, o, e, hb, fun j u hu => (World.cell?_of_block (Below.heap_setCell _ _ _ _ (fun e2 => hn _ e e2.symm))).trans (hc j u hu)⟩,
    h.blkS.far (by show H ≠ H + 1; omega) _, h.blkH.set_ 1 _, h.bel.setCell (by show H ≤ H + 1; omega) _, by rw [show (W.setCell ⟨H + 1, 1, none⟩ (.int .i64 z)).heap.size = W.heap.size by simp]; exact h.size⟩
theorem OI.joined (h : OI H E0 w fv A es ⟨L, f, h0, h1⟩ v W) (hE : H + 2 ≤ E0) {e1 e2 e3 : Int} {L' : List Rg} {v' : Value} (hg : (W.alloc (.cells #[.int .i64 e1, .int .i64 e2, .int .i64 e3] 98)).grownBy W' v.ownBlock) (ho : W'.ownsRow E0 38 2 v' L'.length (rgs L')) :
    Hid (OI H E0 w fv A es ⟨L', f, h0, h1⟩ v' W') ∧ W'.cell? ⟨W.heap.size, 0, none⟩ = some (.int .i64 e1) ∧ W'.cell? ⟨W.heap.size, 1, none⟩ = some (.int .i64 e2) ∧ W'.cell? ⟨W.heap.size, 2, none⟩ = some (.int .i64 e3) ∧
      W'.cell? ⟨H + 1, 0, none⟩ = some (.int .i64 h0) ∧ W'.cell? ⟨H + 1, 1, none⟩ = some (.int .i64 h1) ∧ W'.frozen? ⟨H + 1, 0, none⟩ = false ∧ W'.frozen? ⟨H + 1, 1, none⟩ = false := by
  have hA := h.alloc hE (.cells #[.int .i64 e1, .int .i64 e2, .int .i64 e3] 98)
  have hN := hA.next hE hg ho
  have hB : Blk (W.alloc (.cells #[.int .i64 e1, .int .i64 e2, .int .i64 e3] 98)) W.heap.size 98 [.int .i64 e1, .int .i64 e2, .int .i64 e3] := Blk.new W _ [.int .i64 e1, .int .i64 e2, .int .i64 e3]
  have hB' := hB.grown hg (fun e => Utf.own_ne hA.own hB (by decide) e.symm)
  exact ⟨hN, hB'.cell 0, hB'.cell 1, hB'.cell 2, hN.blkH.cell 0, hN.blkH.cell 1, hN.blkH.frozen 0, hN.blkH.frozen 1⟩
end

set_option maxHeartbeats 4000000 in
theorem over_any (keep : Bool → Bool → Bool) (g : Nat) (eg : ∀ args w, (callFunc g args).run Tryz.prog w = .ok (.enter g args) w) (hk : ∀ (p q : Bool) (u : World), Calls Tryz.prog g #[.bool p, .bool q] u fun e w' => e = .returned (.bool (keep p q)) ∧ u = w')
    (A B : Option Addr) (a b : List Rg) (n m c d : Nat) (w : World) (ha : Rd w w.heap.size A (rgs a)) (hb : Rd w w.heap.size B (rgs b)) (hn : a.length = n) (hm : b.length = m) (fa : Fit a) (fb : Fit b) (hsm : n + m ≤ 134217728) :
    Calls Tryz.prog 72 #[.agg #[.func (.func g) #[] #[]], .slice A n c, .slice B m d] w (Own w (nl fun x => keep (has a x) (has b x))) := by
  obtain ⟨H, hH⟩ : ∃ H, H = w.heap.size := ⟨_, rfl⟩
  obtain ⟨W0, hW0⟩ : ∃ W0, W0 = ((w.alloc (.cells #[.func (.func g) #[] #[]] 78)).alloc (.cells #[.int .i64 0, .int .i64 0] 94)) := ⟨_, rfl⟩
  have hb0 : Below H w W0 := by rw [hW0]; exact ((Below.refl _ w).alloc (by omega) _).alloc (by simp; omega) _
  have hs0 : W0.heap.size = H + 2 := by rw [hW0, hH]; simp
  have B1 := Lib.hid (show Blk W0 H 78 [.func (.func g) #[] #[]] by rw [hW0, hH]; exact (Blk.new w _ [.func (.func g) #[] #[]]).alloc _)
  have B2 := Lib.hid (show Blk W0 (H + 1) 94 [.int .i64 0, .int .i64 0] by
    have := Blk.new (w.alloc (.cells #[.func (.func g) #[] #[]] 78)) 94 [.int .i64 0, .int .i64 0]
    rw [World.size_alloc, ← hH] at this
    rw [hW0]; exact this)
  have HE := Lib.hid (edges_any A B a b n m c d W0 ((ha.below (hH ▸ hb0)).more (by omega)) ((hb.below (hH ▸ hb0)).more (by omega)) hn hm fa fb (by omega))
  have HL := Lib.hid (show 2 * (a.length + b.length) + 1 ≤ 268435457 by omega)
  have HK := Lib.hid hk
  have HB0 := Lib.hid hb0
  have HH := Lib.hid hH
  clear ha hb hn hm fa fb hsm hb0 hk
  go_enter Tryz.func72, Tryz.ntmps72
  go_wp2_with fail
  rw [← hW0, ← hH]
  clear hH
  refine HE.out.mono ?_
  rintro e W1 ⟨ge, C, es, rfl, hp, ha, hr, hb, hgl⟩
  obtain ⟨E0, hE0⟩ : ∃ E0, E0 = W1.heap.size := ⟨_, rfl⟩
  have hE2 : H + 2 ≤ E0 := by rw [hE0, ← hs0]; exact hb.size
  have hNL : es.length ≤ 268435457 := by have := edsF_len a b; have := HL.out; have := hp.length_eq; omega
  obtain ⟨N, hN⟩ : ∃ N, N = es.length := ⟨_, rfl⟩
  have hOI : Hid (OI H E0 w (.func (.func g) #[] #[]) (some ⟨ge, 0, none⟩) es (swp keep (es.take 0)) (.slice none 0 0) W1) := by
    refine ⟨World.ownsRow_nil _ _ _ _, hE0 ▸ hr, B1.out.below hb B1.out.lt, B2.out.below hb B2.out.lt, HB0.out.trans (hb.mono (by omega)), Nat.le_of_eq hE0⟩
  have HP := Lib.hid hp
  have HA := Lib.hid ha
  have HN := Lib.hid hN
  rw [← hN] at hNL ⊢
  clear hp ha hr hb hN hW0 hE0 HE B1 B2 HB0 HL
  have HE2 := Lib.hid hE2
  have HG := Lib.hid (show ∀ k : Addr, some (⟨ge, 0, none⟩ : Addr) = some k → H + 1 ≠ k.block from fun k hk => by injection hk with hk; subst hk; show H + 1 ≠ ge; omega)
  clear hE2 hgl hs0 W0
  go_wp2_with fail
  go_loopw [7, 9, 16] (fun l fr i wr => ∃ (k : Nat) (v : Value) (f : Int), k ≤ N ∧ i = .int .i64 k ∧ l = v ∧ fr = .int .i64 f ∧ Hid (f = (swp keep (es.take k)).fr) ∧ Hid (OI H E0 w (.func (.func g) #[] #[]) (some ⟨ge, 0, none⟩) es (swp keep (es.take k)) v wr)) (fun _ _ i _ => N - (intOf i).toNat)
  case atStart => exact ⟨0, _, 0, Nat.zero_le _, rfl, rfl, rfl, Lib.hid rfl, hOI⟩
  case round =>
    obtain ⟨k, v, f, hk, rfl, rfl, rfl, HF, HI⟩ := hrel
    clear hOI
    by_cases hkN : k < N
    · have hkL : k < es.length := by rw [← HN.out]; exact hkN
      obtain ⟨c0, c1, c2⟩ := rd_ed HI.out.rd hkL
      rw [Nat.zero_add] at c0 c1 c2
      have HT := Lib.hid (swp_take keep es k hkL)
      have HV := edsF_val a b es[k] (HP.out.mem_iff.1 (List.getElem_mem hkL))
      have HI2 := swp_inv keep HP.out HA.out k (by omega)
      obtain ⟨x1, x2, x3, x4⟩ := swp_facts keep HP.out HA.out k (by omega)
      have hfm := HF.out
      have hb0 := HI.out.blkH.cell 0
      have hb1 := HI.out.blkH.cell 1
      have hbS := HI.out.blkS.cell 0
      have hbf := HI.out.blkH.frozen
      generalize swp keep (es.take k) = s at *
      generalize es[k] = ed at *
      obtain ⟨e1, e2, e3⟩ := ed
      obtain ⟨L, fr, h0, h1⟩ := s
      dsimp only at *
      subst hfm
      have HI3 := Lib.hid HI2
      clear HI2 HF
      obtain ⟨⟨v1, v2⟩, v3, v4, v5⟩ := HV
      dsimp only at v1 v2 v3 v4 v5
      have hb0' : wr.cell? ⟨H + 1, 0, none⟩ = some (.int .i64 h0) := hb0
      have hb1' : wr.cell? ⟨H + 1, 1, none⟩ = some (.int .i64 h1) := hb1
      have hbS' : wr.cell? ⟨H, 0, none⟩ = some (.func (.func g) #[] #[]) := hbS
      have hf0 := hbf 0
      have hf1 := hbf 1
      have hge : ge < E0 := by
        obtain ⟨b', o', e, hb', _⟩ := HI.out.rd (by intro e; have := congrArg List.length e; rw [eds_len, List.length_nil] at this; omega)
        cases e; exact hb'
      have hsz := HI.out.size
      clear hb0 hb1 hbS hbf
      obtain ⟨kp, hkp⟩ : ∃ kp, kp = keep (decide (0 < h0)) (decide (0 < h1)) := ⟨_, rfl⟩
      have HC := Lib.hid (fun u => HK.out (decide (0 < h0)) (decide (0 < h1)) u)
      rw [← hkp] at HC
      have HKP := Lib.hid hkp
      clear hkp hkL
      have w1 : IntKind.i64.wrap (h0 + e3) = h0 + e3 := IntWalk.i64_in _ (by omega)
      have w2 : IntKind.i64.wrap (h1 + e3) = h1 + e3 := IntWalk.i64_in _ (by omega)
      have n1 : H + 1 < wr.heap.size := by have := HE2.out; omega
      have n2 : ge < wr.heap.size := by omega
      have n0 : H < wr.heap.size := by omega
      have m1 : IntKind.i32.wrap f = f := IntWalk.i32_in _ (by omega)
      have m2 : IntKind.i64.wrap (e1 - 1) = e1 - 1 := IntWalk.i64_in _ (by omega)
      have m3 : IntKind.i32.wrap (e1 - 1) = e1 - 1 := IntWalk.i32_in _ (by omega)
      have HIA := Lib.hid (HI.out.alloc HE2.out (.cells #[.int .i64 e1, .int .i64 e2, .int .i64 e3] 98))
      by_cases hlt : f < e1
      · have hltd : decide (f < e1) = true := decide_eq_true hlt
        cases kp with
        | true =>
          have HJ := Lib.hid (join_any E0 u7 L f (e1 - 1) (wr.alloc (.cells #[.int .i64 e1, .int .i64 e2, .int .i64 e3] 98)) HIA.out.own HIA.out.size (by omega) (fun r hr => by have h1 := HI3.out.lt r hr; have h2 := HI3.out.nm.ok r hr; dsimp only at h1; omega))
          have HS := Lib.hid (show swp keep (es.take (k + 1)) = ⟨joinF L (f, e1 - 1), e1, h0 + (if e2 = 0 then e3 else 0), h1 + (if e2 = 1 then e3 else 0)⟩ by
            rw [HT.out]; unfold stp; rw [if_pos ⟨hlt, HKP.out.symm⟩])
          clear HT hlt
          rcases v3 with rfl | rfl
          · go_wp2_with (first | (go_at_fn g; refine (HC.out _).mono ?_; rintro e w' ⟨rfl, rfl⟩) | (go_at_call 90; refine HJ.out.mono ?_; rintro e w6 ⟨v6, rfl, ho6, hg6⟩; obtain ⟨HIB, q0, q1, q2, q3, q4, q5, q6⟩ := HI.out.joined HE2.out hg6 ho6; clear ho6 hg6))
            go_region
            have HN2 : Hid (OI H E0 w (.func (.func g) #[] #[]) (some ⟨ge, 0, none⟩) es (swp keep (es.take (k + 1))) v6 ((w6.setCell ⟨H + 1, 0, none⟩ (.int .i64 (h0 + e3))).drew)) := by
              rw [HS.out]; simp only [Int.reduceEq, if_true, if_false, Int.add_zero]
              exact ((HIB.out.set0 HE2.out HG.out (h0 + e3)).base e1).drew
            have HF2 : Hid (e1 = (swp keep (es.take (k + 1))).fr) := by rw [HS.out]; exact Lib.hid rfl
            go_wp2_with fail
            go_roundw
            case rel => exact ⟨k + 1, _, _, by omega, by go_num, rfl, rfl, HF2, HN2⟩
            case measure => simp [intOf]; omega
          · go_wp2_with (first | (go_at_fn g; refine (HC.out _).mono ?_; rintro e w' ⟨rfl, rfl⟩) | (go_at_call 90; refine HJ.out.mono ?_; rintro e w6 ⟨v6, rfl, ho6, hg6⟩; obtain ⟨HIB, q0, q1, q2, q3, q4, q5, q6⟩ := HI.out.joined HE2.out hg6 ho6; clear ho6 hg6))
            go_region
            have HN2 : Hid (OI H E0 w (.func (.func g) #[] #[]) (some ⟨ge, 0, none⟩) es (swp keep (es.take (k + 1))) v6 ((w6.setCell ⟨H + 1, 1, none⟩ (.int .i64 (h1 + e3))).drew)) := by
              rw [HS.out]; simp only [Int.reduceEq, if_true, if_false, Int.add_zero]
              exact ((HIB.out.set1 HE2.out HG.out (h1 + e3)).base e1).drew
            have HF2 : Hid (e1 = (swp keep (es.take (k + 1))).fr) := by rw [HS.out]; exact Lib.hid rfl
            go_wp2_with fail
            go_roundw
            case rel => exact ⟨k + 1, _, _, by omega, by go_num, rfl, rfl, HF2, HN2⟩
            case measure => simp [intOf]; omega
        | false =>
          have HS := Lib.hid (show swp keep (es.take (k + 1)) = ⟨L, e1, h0 + (if e2 = 0 then e3 else 0), h1 + (if e2 = 1 then e3 else 0)⟩ by
            rw [HT.out]; unfold stp; rw [if_neg (fun h => by have := h.2; rw [← HKP.out] at this; cases this)])
          clear HT hlt
          rcases v3 with rfl | rfl
          · go_wp2_with (go_at_fn g; refine (HC.out _).mono ?_; rintro e w' ⟨rfl, rfl⟩)
            go_region
            have HN2 : Hid (OI H E0 w (.func (.func g) #[] #[]) (some ⟨ge, 0, none⟩) es (swp keep (es.take (k + 1))) u7 (((wr.setCell ⟨H + 1, 0, none⟩ (.int .i64 (h0 + e3))).alloc (.cells #[.int .i64 e1, .int .i64 0, .int .i64 e3] 98)).drew)) := by
              rw [HS.out]; simp only [Int.reduceEq, if_true, if_false, Int.add_zero]
              exact (((HI.out.set0 HE2.out HG.out (h0 + e3)).base e1).alloc HE2.out _).drew
            have HF2 : Hid (e1 = (swp keep (es.take (k + 1))).fr) := by rw [HS.out]; exact Lib.hid rfl
            go_wp2_with fail
            go_roundw
            case rel => exact ⟨k + 1, _, _, by omega, by go_num, rfl, rfl, HF2, HN2⟩
            case measure => simp [intOf]; omega
          · go_wp2_with (go_at_fn g; refine (HC.out _).mono ?_; rintro e w' ⟨rfl, rfl⟩)
            go_region
            have HN2 : Hid (OI H E0 w (.func (.func g) #[] #[]) (some ⟨ge, 0, none⟩) es (swp keep (es.take (k + 1))) u7 (((wr.setCell ⟨H + 1, 1, none⟩ (.int .i64 (h1 + e3))).alloc (.cells #[.int .i64 e1, .int .i64 1, .int .i64 e3] 98)).drew)) := by
              rw [HS.out]; simp only [Int.reduceEq, if_true, if_false, Int.add_zero]
              exact (((HI.out.set1 HE2.out HG.out (h1 + e3)).base e1).alloc HE2.out _).drew
            have HF2 : Hid (e1 = (swp keep (es.take (k + 1))).fr) := by rw [HS.out]; exact Lib.hid rfl
            go_wp2_with fail
            go_roundw
            case rel => exact ⟨k + 1, _, _, by omega, by go_num, rfl, rfl, HF2, HN2⟩
            case measure => simp [intOf]; omega
      · have hltd : decide (f < e1) = false := decide_eq_false hlt
        have HS := Lib.hid (show swp keep (es.take (k + 1)) = ⟨L, e1, h0 + (if e2 = 0 then e3 else 0), h1 + (if e2 = 1 then e3 else 0)⟩ by
          rw [HT.out]; unfold stp; rw [if_neg (fun h => hlt h.1)])
        clear HT hlt
        rcases v3 with rfl | rfl
        · go_wp2_with fail
          go_region
          have HN2 : Hid (OI H E0 w (.func (.func g) #[] #[]) (some ⟨ge, 0, none⟩) es (swp keep (es.take (k + 1))) u7 (((wr.setCell ⟨H + 1, 0, none⟩ (.int .i64 (h0 + e3))).alloc (.cells #[.int .i64 e1, .int .i64 0, .int .i64 e3] 98)).drew)) := by
            rw [HS.out]; simp only [Int.reduceEq, if_true, if_false, Int.add_zero]
            exact (((HI.out.set0 HE2.out HG.out (h0 + e3)).base e1).alloc HE2.out _).drew
          have HF2 : Hid (e1 = (swp keep (es.take (k + 1))).fr) := by rw [HS.out]; exact Lib.hid rfl
          go_wp2_with fail
          go_roundw
          case rel => exact ⟨k + 1, _, _, by omega, by go_num, rfl, rfl, HF2, HN2⟩
          case measure => simp [intOf]; omega
        · go_wp2_with fail
          go_region
          have HN2 : Hid (OI H E0 w (.func (.func g) #[] #[]) (some ⟨ge, 0, none⟩) es (swp keep (es.take (k + 1))) u7 (((wr.setCell ⟨H + 1, 1, none⟩ (.int .i64 (h1 + e3))).alloc (.cells #[.int .i64 e1, .int .i64 1, .int .i64 e3] 98)).drew)) := by
            rw [HS.out]; simp only [Int.reduceEq, if_true, if_false, Int.add_zero]
            exact (((HI.out.set1 HE2.out HG.out (h1 + e3)).base e1).alloc HE2.out _).drew
          have HF2 : Hid (e1 = (swp keep (es.take (k + 1))).fr) := by rw [HS.out]; exact Lib.hid rfl
          go_wp2_with fail
          go_roundw
          case rel => exact ⟨k + 1, _, _, by omega, by go_num, rfl, rfl, HF2, HN2⟩
          case measure => simp [intOf]; omega
    · have HO := Lib.hid (show wr.ownsRow w.heap.size 38 2 u7 (nl fun x => keep (has a x) (has b x)).length (rgs (nl fun x => keep (has a x) (has b x))) ∧ Below w.heap.size w wr from by
        have hkN2 : k = N := by omega
        have h := HI.out
        rw [hkN2, HN.out, List.take_length] at h
        have hs := swp_all keep HP.out HA.out
        have ho := h.own
        rw [hs] at ho
        exact ⟨own_mono ho (by have := HE2.out; have := HH.out; omega), HH.out ▸ h.bel⟩)
      clear HI HF
      go_wp2_with fail
      go_ret
      exact ⟨_, rfl, HO.out.1, HO.out.2⟩
end Go.Proofs.YtipcbiecdabihaaGreat.Rset
