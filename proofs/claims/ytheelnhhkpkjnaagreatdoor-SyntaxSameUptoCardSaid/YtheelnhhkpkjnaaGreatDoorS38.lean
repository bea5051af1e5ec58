/-
  Texts of stage 7, part 38.
-/
import Derived.Test.YtheelnhhkpkjnaaGreatDoorS36
import Derived.Test.YtheelnhhkpkjnaaGreatDoorS37
namespace Go.Proofs.YtheelnhhkpkjnaaGreatDoor.Syn
open Go.RowKit
open Utf (Rd Blk)
open Norm (Chg)
open Seg (sgs)
open Ucd (Laid)
open Sset (St Tx)
set_option maxRecDepth 100000
/-- what reading tells: the steps, in memory of the call's own; or the place and the error -/
def AnsOk (w : World) (l : List Nd) (v : Value) (w' : World) : Prop := ∃ V, w'.ownsRow w.heap.size 41 6 v l.length (nvs V) ∧ V.length = l.length ∧ ∀ (i : Nat) (h1 : i < V.length) (h2 : i < l.length), Held w' w.heap.size V[i] l[i]
def Ans (w : World) (x : Except (Nat × Nat) (List Nd)) (e : Ending) (w' : World) : Prop := match x with
  | .ok l => (∃ v, e = .returned (.tuple #[v, .int .i64 0, .int .i64 0]) ∧ AnsOk w l v w') ∧ Below w.heap.size w w'
  | .error (n, c) => e = .returned (.tuple #[.slice none 0 0, .int .i64 (n : Int), .int .i64 (c : Int)]) ∧ Below w.heap.size w w'
theorem assert_refu (W : World) (v : Value) : (Instr.typeAssert (.iface 90 v) 20 90 false).run Tryz.prog W = .ok v W := by kernel_rfl
theorem catch_refu (g2 g3 g4 : Nat) (place err : Int) (v2 v3 v4 : Value) (older : List PanicEntry) (w : World)
    (k2 : w.heap[g2]? = some (.cells #[v2] 22 (0, 0))) (k3 : w.heap[g3]? = some (.cells #[v3] 3 (0, 0))) (k4 : w.heap[g4]? = some (.cells #[v4] 27 (0, 0)))
    (h23 : g2 ≠ g3) (h24 : g2 ≠ g4) (h34 : g3 ≠ g4) :
    CallsD Tryz.prog 52 #[.pointer (some ⟨g2, 0, none⟩), .pointer (some ⟨g3, 0, none⟩), .pointer (some ⟨g4, 0, none⟩)] (.panicking ({ v := refu place err, recovered := false } :: older)) w fun e u' w' =>
      e = .returned (.tuple #[]) ∧ u' = .panicking ({ v := refu place err, recovered := true } :: older) ∧
      ∃ u, Below w.heap.size w u ∧ w' = ((u.setCell ⟨g2, 0, none⟩ (.slice none 0 0)).setCell ⟨g3, 0, none⟩ (.int .i64 place)).setCell ⟨g4, 0, none⟩ (.int .i64 err) := by
  refine callsD_of_wpS Tryz.func52 rfl fun c₀ cs hu => ?_
  apply wpS_seq
  apply wpS_region
  simp [wpOpsS, go_sem, recoverD, hu, Tryz.ntmps52, Exit.thenS]
  refine wpS_of_wp ?_
  simp only [refu]
  have hta := assert_refu
  simp only [Array.replicate_succ, Array.replicate_zero, List.push_toArray, List.append_toArray, List.nil_append, List.cons_append, List.setIfInBounds_toArray, List.set_cons_zero, List.set_cons_succ]
  go_wp2_with fail
  have hl2 : g2 < w.heap.size := (Array.getElem?_eq_some_iff.1 k2).1
  have hl3 : g3 < w.heap.size := (Array.getElem?_eq_some_iff.1 k3).1
  have hl4 : g4 < w.heap.size := (Array.getElem?_eq_some_iff.1 k4).1
  obtain ⟨u, hu0⟩ : ∃ u, u = w.alloc (.cells #[.int .i64 place, .int .i64 err] 90) := ⟨_, rfl⟩
  obtain ⟨gf, hgf⟩ : ∃ gf, gf = w.heap.size := ⟨_, rfl⟩
  have hb : Below w.heap.size w u := by rw [hu0]; exact (Below.refl _ _).alloc (Nat.le_refl _) _
  have m2 := (hb.block g2 hl2).trans k2
  have m3 := (hb.block g3 hl3).trans k3
  have m4 := (hb.block g4 hl4).trans k4
  have mf : u.heap[gf]? = some (.cells #[.int .i64 place, .int .i64 err] 90 (0, 0)) := by rw [hu0, hgf]; show (w.heap.push _)[w.heap.size]? = _; simp
  have e2 : u.cell? ⟨g2, 0, none⟩ = some v2 := by rw [cell_of_row u g2 0 _ _ _ m2]; rfl
  have e3 : u.cell? ⟨g3, 0, none⟩ = some v3 := by rw [cell_of_row u g3 0 _ _ _ m3]; rfl
  have e4 : u.cell? ⟨g4, 0, none⟩ = some v4 := by rw [cell_of_row u g4 0 _ _ _ m4]; rfl
  have ef0 : u.cell? ⟨gf, 0, none⟩ = some (.int .i64 place) := by rw [cell_of_row u gf 0 _ _ _ mf]; rfl
  have ef1 : u.cell? ⟨gf, 1, none⟩ = some (.int .i64 err) := by rw [cell_of_row u gf 1 _ _ _ mf]; rfl
  have z2 : u.frozen? ⟨g2, 0, none⟩ = false := by simp [World.frozen?, m2]
  have z3 : u.frozen? ⟨g3, 0, none⟩ = false := by simp [World.frozen?, m3]
  have z4 : u.frozen? ⟨g4, 0, none⟩ = false := by simp [World.frozen?, m4]
  have n2 : gf ≠ g2 := by omega
  have n3 : gf ≠ g3 := by omega
  have n4 : gf ≠ g4 := by omega
  rw [← hu0, ← hgf]
  have HB := Lib.hid hb
  have HU := Lib.hid hu
  clear hb m2 m3 m4 mf k2 k3 k4 hl2 hl3 hl4 hu0 hgf hu
  go_region
  simp (zetaDelta := true) [bodyPostS, results, Tryz.results52]
  exact ⟨u.drew, HB.out.drew, rfl⟩
/-- where nothing was given up, nothing turns -/
theorem catch_none (a2 a3 a4 : Value) (w : World) :
    CallsD Tryz.prog 52 #[a2, a3, a4] .returning w fun e u' w' => e = .returned (.tuple #[]) ∧ u' = .returning ∧ w' = w := by
  refine callsD_of_wpS Tryz.func52 rfl fun c₀ cs hu => ?_
  apply wpS_seq
  apply wpS_region
  simp [wpOpsS, go_sem, recoverD, hu, Tryz.ntmps52, Exit.thenS]
  have HU := Lib.hid hu
  clear hu
  refine wpS_of_wp ?_
  simp only [Array.replicate_succ, Array.replicate_zero, List.push_toArray, List.append_toArray, List.nil_append, List.cons_append, List.setIfInBounds_toArray, List.set_cons_zero, List.set_cons_succ]
  go_wp2_with fail
  simp (zetaDelta := true) [bodyPostS, results, Tryz.results52]
  have h := HU.out
  clear HU
  cases c₀
  dsimp only at h
  subst h
  rfl
theorem heap_last (w : World) (o : Obj) (g : Nat) (hg : w.heap.size = g) : (w.alloc o).heap[g]? = some o := by subst hg; show (w.heap.push o)[w.heap.size]? = _; simp
theorem heap_more {w : World} {g : Nat} {x : Obj} (o : Obj) (h : w.heap[g]? = some x) : (w.alloc o).heap[g]? = some x := by rw [Below.heap_alloc w o g (Array.getElem?_eq_some_iff.1 h).1]; exact h
theorem Ans.ok {w w' : World} {x : Except (Nat × Nat) (List Nd)} {l : List Nd} {v : Value} (hx : x = .ok l) (h : AnsOk w l v w') (hb : Below w.heap.size w w') : Ans w x (.returned (.tuple #[v, .int .i64 0, .int .i64 0])) w' := by rw [hx]; exact ⟨⟨v, rfl, h⟩, hb⟩
theorem Ans.bad {w w' : World} {x : Except (Nat × Nat) (List Nd)} {n c : Nat} {pl er : Int} (hx : x = .error (n, c)) (hp : pl = (n : Int)) (he : er = (c : Int)) (hb : Below w.heap.size w w') : Ans w x (.returned (.tuple #[.slice none 0 0, .int .i64 pl, .int .i64 er])) w' := by rw [hx, hp, he]; exact ⟨rfl, hb⟩
theorem own_three {w : World} {B b1 b2 b3 : Nat} {x y z a b c : Value} (h1 : Blk w b1 22 [x]) (h2 : Blk w b2 3 [y]) (h3 : Blk w b3 27 [z]) {e : TypeId} {sz m : Nat} {u : Value} {xs : List Value}
    (he1 : e ≠ 22) (he2 : e ≠ 3) (he3 : e ≠ 27) (h : w.ownsRow B e sz u m xs) : (((w.setCell ⟨b1, 0, none⟩ a).setCell ⟨b2, 0, none⟩ b).setCell ⟨b3, 0, none⟩ c).ownsRow B e sz u m xs := by
  have hc : Chg w (((w.setCell ⟨b1, 0, none⟩ a).setCell ⟨b2, 0, none⟩ b).setCell ⟨b3, 0, none⟩ c) fun k => k = b1 ∨ k = b2 ∨ k = b3 :=
    (((Chg.refl w _).setCell (p := ⟨b1, 0, none⟩) a (.inl rfl)).setCell (p := ⟨b2, 0, none⟩) b (.inr (.inl rfl))).setCell (p := ⟨b3, 0, none⟩) c (.inr (.inr rfl))
  refine Norm.own_keep h hc fun k hk hs => ?_
  rcases hs with rfl | rfl | rfl
  · exact Utf.own_ne h h1 he1 hk
  · exact Utf.own_ne h h2 he2 hk
  · exact Utf.own_ne h h3 he3 hk
set_option maxHeartbeats 16000000 in
theorem read_any (s : Src) (w : World) (hL : Laid w) (hs : s.Ok) (hr : Rd w w.heap.size s.A (sgs s.S)) :
    Calls Tryz.prog 30 #[.slice s.A s.n s.c] w (Ans w (pattern theE s.txs)) := by
  have hmf : ∀ (fn : Fn) (first cap : Array Value) (w : World), (Instr.makeFunc fn first cap).run Tryz.prog w = .ok (.func fn first cap) w := fun _ _ _ _ => rfl
  obtain ⟨x, hx⟩ : ∃ x, x = pattern theE s.txs := ⟨_, rfl⟩
  rw [← hx]
  have HX := Lib.hid (hx.trans (show pattern theE s.txs = match choice theE 32 s.txs with
    | .error (n, e) => .error (s.txs.length - n, e)
    | .ok (l, q) => if q = [] then .ok l else .error (s.txs.length - q.length, 2) from rfl))
  have HTL := Lib.hid (show s.txs.length = s.n by rw [Src.txs, List.length_map]; exact hs.len)
  obtain ⟨b, hb⟩ : ∃ b, b = w.heap.size := ⟨_, rfl⟩
  obtain ⟨g, hg⟩ : ∃ g, g = b + 1 + 1 + 1 := ⟨_, rfl⟩
  obtain ⟨W, hW⟩ : ∃ W, W = (((w.alloc (.cells #[.slice none 0 0] 22)).alloc (.cells #[.int .i64 0] 3)).alloc (.cells #[.int .i64 0] 27)).alloc (.cells #[.slice s.A s.n s.c, .int .i64 0, .int .i64 0, .slice none 0 0] 93) := ⟨_, rfl⟩
  have hsz : W.heap.size = g + 1 := by rw [hW, hg, hb]; simp
  have k2 : W.heap[b]? = some (.cells #[.slice none 0 0] 22 (0, 0)) := by rw [hW, hb]; exact heap_more _ (heap_more _ (heap_more _ (heap_last _ _ _ rfl)))
  have k3 : W.heap[b + 1]? = some (.cells #[.int .i64 0] 3 (0, 0)) := by rw [hW, hb]; exact heap_more _ (heap_more _ (heap_last _ _ _ (by simp)))
  have k4 : W.heap[b + 1 + 1]? = some (.cells #[.int .i64 0] 27 (0, 0)) := by rw [hW, hb]; exact heap_more _ (heap_last _ _ _ (by simp))
  have kr : Blk W g 93 [.slice s.A s.n s.c, .int .i64 0, .int .i64 0, .slice none 0 0] := by unfold Blk; rw [hW, hg, hb]; exact heap_last _ _ _ (by simp)
  have hbw : Below w.heap.size w W := by rw [hW]; exact (((((Below.refl _ _).alloc (Nat.le_refl _) _).alloc (by simp) _).alloc (by simp; omega) _).alloc (by simp; omega) _)
  have HR := Lib.hid (show RS W b g s s.txs 0 ⟨.slice none 0 0, [], []⟩ from ⟨hL.next hbw, by rw [hb]; exact hL.size, by omega, (hr.below hbw).more (by omega), hs, List.suffix_refl _, by omega, by
      rw [HTL.out, Nat.sub_self]; exact kr, World.ownsRow_nil _ _ _ _, rfl, fun i h1 => by simp at h1⟩)
  have HCH := Lib.hid (choice_any 32 0 rfl W s.txs _ HR.out (by rw [HTL.out]; have := hs.sm; simp; omega))
  have HW := Lib.hid hW; have HB := Lib.hid hb; have HGG := Lib.hid hg; have HBW := Lib.hid hbw; have HSZ := Lib.hid hsz
  have HK2 := Lib.hid k2; have HK3 := Lib.hid k3; have HK4 := Lib.hid k4
  clear hL hs hr hx hb hg hW hsz k2 k3 k4 kr hbw
  go_enter_defers Tryz.func30, Tryz.ntmps30
  go_wp2_with fail
  rw [← HW.out, ← HB.out, ← HGG.out]
  refine HCH.out.mono ?_
  rintro e w1 h1
  rcases h1.split with ⟨l, q, v, hx, rfl, rfl, ⟨st1, hl1, _, hr⟩, hk⟩ | ⟨n, k, hx, rfl, hb⟩
  · have H1 := Lib.hid hr; have HL1 := Lib.hid hl1
    have HB1 := Lib.hid (hk.below (by rw [HSZ.out]; omega))
    have HX1 := Lib.hid (show x = if q = [] then .ok l else .error (s.n - q.length, 2) by rw [HX.out, hx, HTL.out])
    have HRL := Lib.hid hr.rl
    obtain ⟨p, hp, hp4, c1, f1⟩ := hr.c1p
    have HP := Lib.hid hp
    have hn := hr.src.sm
    obtain ⟨N, hN⟩ : ∃ N, N = s.n := ⟨_, rfl⟩
    have HNN := Lib.hid hN
    rw [← hN] at hn ⊢
    clear h1 hx hr hk hl1 hp hN HCH
    by_cases hq : q = []
    · have HX2 := Lib.hid (show x = .ok l by rw [HX1.out, if_pos hq])
      have hlt : ¬ (p : Int) < (N : Int) := by rw [HNN.out, HP.out, hq]; simp
      have hlt2 : decide ((p : Int) < (N : Int)) = false := decide_eq_false hlt
      obtain ⟨A4, c4, hv, _⟩ := Rset.own_form H1.out.own
      have c3 : w1.cell? ⟨g, 3, none⟩ = some (.slice A4 st1.l.length c4) := by rw [← hv]; exact H1.out.blk.cell 3
      have HV := Lib.hid hv
      have hgg := HGG.out
      have hsz := HSZ.out
      have m2 := (HB1.out.block _ (by omega)).trans HK2.out
      have m3 := (HB1.out.block _ (by omega)).trans HK3.out
      have m4 := (HB1.out.block _ (by omega)).trans HK4.out
      have e2 : w1.cell? ⟨b, 0, none⟩ = some (.slice none 0 0) := by rw [cell_of_row w1 b 0 _ _ _ m2]; rfl
      have e3 : w1.cell? ⟨b + 1, 0, none⟩ = some (.int .i64 0) := by rw [cell_of_row w1 (b + 1) 0 _ _ _ m3]; rfl
      have e4 : w1.cell? ⟨b + 1 + 1, 0, none⟩ = some (.int .i64 0) := by rw [cell_of_row w1 (b + 1 + 1) 0 _ _ _ m4]; rfl
      have z2 : w1.frozen? ⟨b, 0, none⟩ = false := by simp [World.frozen?, m2]
      have z3 : w1.frozen? ⟨b + 1, 0, none⟩ = false := by simp [World.frozen?, m3]
      have z4 : w1.frozen? ⟨b + 1 + 1, 0, none⟩ = false := by simp [World.frozen?, m4]
      have HM2 := Lib.hid e2; have HM3 := Lib.hid e3; have HM4 := Lib.hid e4
      have HN2 := Lib.hid (show Blk w1 b 22 [.slice none 0 0] from m2); have HN3 := Lib.hid (show Blk w1 (b + 1) 3 [.int .i64 0] from m3); have HN4 := Lib.hid (show Blk w1 (b + 1 + 1) 27 [.int .i64 0] from m4)
      clear hq m2 m3 m4 hv hgg hsz
      go_wp2_with fail
      have hgg := HGG.out
      have hsz := HSZ.out
      refine leaves_cons (f := 52) (args := #[.pointer (some ⟨b, 0, none⟩), .pointer (some ⟨b + 1, 0, none⟩), .pointer (some ⟨b + 1 + 1, 0, none⟩)]) (by simp) (by simp [go_sem]) ?_
      refine (catch_none _ _ _ _).mono ?_
      rintro e u' w9 ⟨rfl, rfl, rfl⟩
      obtain ⟨w8, hw8⟩ : ∃ w8, w8 = ((w1.setCell ⟨b, 0, none⟩ (.slice A4 st1.l.length c4)).setCell ⟨b + 1, 0, none⟩ (.int .i64 0)).setCell ⟨b + 1 + 1, 0, none⟩ (.int .i64 0) := ⟨_, rfl⟩
      have q2 : w8.cell? ⟨b, 0, none⟩ = some (.slice A4 st1.l.length c4) := by
        rw [hw8, World.cell?_setCell_far _ _ _ _ (show b + 1 + 1 ≠ b by omega), World.cell?_setCell_far _ _ _ _ (show b + 1 ≠ b by omega)]
        exact World.cell?_setCell_same _ _ _ HM2.out
      have q3 : w8.cell? ⟨b + 1, 0, none⟩ = some (.int .i64 0) := by
        rw [hw8, World.cell?_setCell_far _ _ _ _ (show b + 1 + 1 ≠ b + 1 by omega)]
        exact World.cell?_setCell_same _ _ _ (by rw [World.cell?_setCell_far _ _ _ _ (show b ≠ b + 1 by omega)]; exact HM3.out)
      have q4 : w8.cell? ⟨b + 1 + 1, 0, none⟩ = some (.int .i64 0) := by
        rw [hw8]
        exact World.cell?_setCell_same _ _ _ (by rw [World.cell?_setCell_far _ _ _ _ (show b + 1 ≠ b + 1 + 1 by omega), World.cell?_setCell_far _ _ _ _ (show b ≠ b + 1 + 1 by omega)]; exact HM4.out)
      have hb8 : Below w.heap.size w w8 := by
        rw [hw8, ← HB.out]
        have hbW := HBW.out
        rw [← HB.out] at hbW
        have h0 := hbW.trans (HB1.out.mono (by omega))
        exact ((h0.setCell (p := ⟨b, 0, none⟩) (Nat.le_refl _) _).setCell (p := ⟨b + 1, 0, none⟩) (by show b ≤ b + 1; omega) _).setCell (p := ⟨b + 1 + 1, 0, none⟩) (by show b ≤ b + 1 + 1; omega) _
      have hll : st1.l = l := HL1.out
      have hok : AnsOk w l (.slice A4 st1.l.length c4) w8 := by
        refine ⟨st1.V, ?_, by rw [H1.out.vl, hll], fun i h1 h2 => ?_⟩
        · rw [← hll, ← HV.out, hw8]
          exact Norm.own_mono (own_three HN2.out HN3.out HN4.out (by decide) (by decide) (by decide) H1.out.own) (by rw [← HB.out]; omega)
        · have hh := H1.out.held i h1 (by rw [hll]; exact h2)
          rw [hw8, ← HB.out]
          have hl : st1.l[i]'(by rw [hll]; exact h2) = l[i] := by simp only [hll]
          rw [← hl]
          exact ⟨hh.k, hh.mn, hh.mx, hh.nm, hh.short, hh.sm, hh.l1, hh.l2, hh.l3, own_three HN2.out HN3.out HN4.out (by decide) (by decide) (by decide) hh.o1, own_three HN2.out HN3.out HN4.out (by decide) (by decide) (by decide) hh.o2, own_three HN2.out HN3.out HN4.out (by decide) (by decide) (by decide) hh.o3⟩
      rw [← hw8]
      simp [Leaves, settle, results, Tryz.results30, go_sem, q2, q3, q4]
      exact Ans.ok HX2.out hok hb8
    · have HX2 := Lib.hid (show x = .error (s.n - q.length, 2) by rw [HX1.out, if_neg hq])
      have HRB := Lib.hid (refuse_any (.pointer (some ⟨g, 0, none⟩)) g p s q.length w1 HP.out)
      have hlt : (p : Int) < (N : Int) := by have := List.length_pos_iff.2 hq; have := HNN.out; have := HP.out; have := HRL.out; omega
      have hlt2 : decide ((p : Int) < (N : Int)) = true := decide_eq_true hlt
      clear hq
      go_wp2_with fail
      refine HRB.out.mono ?_
      rintro e w2 ⟨rfl, hb2⟩
      have HB2 := Lib.hid (HB1.out.trans hb2)
      clear hb2
      go_wp2_with fail
      have hgg := HGG.out
      have hsz := HSZ.out
      refine leaves_cons (f := 52) (args := #[.pointer (some ⟨b, 0, none⟩), .pointer (some ⟨b + 1, 0, none⟩), .pointer (some ⟨b + 1 + 1, 0, none⟩)]) (by simp) (by simp [go_sem]) ?_
      refine (catch_refu b (b + 1) (b + 1 + 1) _ _ _ _ _ [] w2 ((HB2.out.block _ (by omega)).trans HK2.out) ((HB2.out.block _ (by omega)).trans HK3.out) ((HB2.out.block _ (by omega)).trans HK4.out) (by omega) (by omega) (by omega)).mono ?_
      rintro e u' w9 ⟨rfl, rfl, u, hu, rfl⟩
      obtain ⟨w8, hw8⟩ : ∃ w8, w8 = ((u.setCell ⟨b, 0, none⟩ (.slice none 0 0)).setCell ⟨b + 1, 0, none⟩ (.int .i64 ((s.n - q.length : Nat) : Int))).setCell ⟨b + 1 + 1, 0, none⟩ (.int .i64 2) := ⟨_, rfl⟩
      have hsb := HB2.out.size
      have p2 : u.cell? ⟨b, 0, none⟩ = some (.slice none 0 0) := by rw [cell_of_row u _ 0 _ _ _ ((hu.block _ (by omega)).trans ((HB2.out.block _ (by omega)).trans HK2.out))]; rfl
      have p3 : u.cell? ⟨b + 1, 0, none⟩ = some (.int .i64 0) := by rw [cell_of_row u _ 0 _ _ _ ((hu.block _ (by omega)).trans ((HB2.out.block _ (by omega)).trans HK3.out))]; rfl
      have p4 : u.cell? ⟨b + 1 + 1, 0, none⟩ = some (.int .i64 0) := by rw [cell_of_row u _ 0 _ _ _ ((hu.block _ (by omega)).trans ((HB2.out.block _ (by omega)).trans HK4.out))]; rfl
      have q2 : w8.cell? ⟨b, 0, none⟩ = some (.slice none 0 0) := by
        rw [hw8, World.cell?_setCell_far _ _ _ _ (show b + 1 + 1 ≠ b by omega), World.cell?_setCell_far _ _ _ _ (show b + 1 ≠ b by omega)]
        exact World.cell?_setCell_same _ _ _ p2
      have q3 : w8.cell? ⟨b + 1, 0, none⟩ = some (.int .i64 ((s.n - q.length : Nat) : Int)) := by
        rw [hw8, World.cell?_setCell_far _ _ _ _ (show b + 1 + 1 ≠ b + 1 by omega)]
        exact World.cell?_setCell_same _ _ _ (by rw [World.cell?_setCell_far _ _ _ _ (show b ≠ b + 1 by omega)]; exact p3)
      have q4 : w8.cell? ⟨b + 1 + 1, 0, none⟩ = some (.int .i64 2) := by
        rw [hw8]
        exact World.cell?_setCell_same _ _ _ (by rw [World.cell?_setCell_far _ _ _ _ (show b + 1 ≠ b + 1 + 1 by omega), World.cell?_setCell_far _ _ _ _ (show b ≠ b + 1 + 1 by omega)]; exact p4)
      have hb8 : Below w.heap.size w w8 := by
        rw [hw8, ← HB.out]
        have hbW := HBW.out
        rw [← HB.out] at hbW
        have h0 := (hbW.trans (HB2.out.mono (by omega))).trans (hu.mono (by omega))
        exact ((h0.setCell (p := ⟨b, 0, none⟩) (Nat.le_refl _) _).setCell (p := ⟨b + 1, 0, none⟩) (by show b ≤ b + 1; omega) _).setCell (p := ⟨b + 1 + 1, 0, none⟩) (by show b ≤ b + 1 + 1; omega) _
      rw [← hw8]
      simp [Leaves, settle, results, Tryz.results30, go_sem, q2, q3, q4]
      exact Ans.bad HX2.out rfl rfl hb8
  · have HX1 := Lib.hid (show x = .error (s.n - n, k) by rw [HX.out, hx, HTL.out])
    have HB1 := Lib.hid hb
    clear h1 hx hb HCH
    go_wp2_with fail
    have hgg := HGG.out
    have hsz := HSZ.out
    refine leaves_cons (f := 52) (args := #[.pointer (some ⟨b, 0, none⟩), .pointer (some ⟨b + 1, 0, none⟩), .pointer (some ⟨b + 1 + 1, 0, none⟩)]) (by simp) (by simp [go_sem]) ?_
    refine (catch_refu b (b + 1) (b + 1 + 1) _ _ _ _ _ [] w1 ((HB1.out.block _ (by omega)).trans HK2.out) ((HB1.out.block _ (by omega)).trans HK3.out) ((HB1.out.block _ (by omega)).trans HK4.out) (by omega) (by omega) (by omega)).mono ?_
    rintro e u' w9 ⟨rfl, rfl, u, hu, rfl⟩
    obtain ⟨w8, hw8⟩ : ∃ w8, w8 = ((u.setCell ⟨b, 0, none⟩ (.slice none 0 0)).setCell ⟨b + 1, 0, none⟩ (.int .i64 ((s.n - n : Nat) : Int))).setCell ⟨b + 1 + 1, 0, none⟩ (.int .i64 (k : Int)) := ⟨_, rfl⟩
    have hsb := HB1.out.size
    have p2 : u.cell? ⟨b, 0, none⟩ = some (.slice none 0 0) := by rw [cell_of_row u _ 0 _ _ _ ((hu.block _ (by omega)).trans ((HB1.out.block _ (by omega)).trans HK2.out))]; rfl
    have p3 : u.cell? ⟨b + 1, 0, none⟩ = some (.int .i64 0) := by rw [cell_of_row u _ 0 _ _ _ ((hu.block _ (by omega)).trans ((HB1.out.block _ (by omega)).trans HK3.out))]; rfl
    have p4 : u.cell? ⟨b + 1 + 1, 0, none⟩ = some (.int .i64 0) := by rw [cell_of_row u _ 0 _ _ _ ((hu.block _ (by omega)).trans ((HB1.out.block _ (by omega)).trans HK4.out))]; rfl
    have q2 : w8.cell? ⟨b, 0, none⟩ = some (.slice none 0 0) := by
      rw [hw8, World.cell?_setCell_far _ _ _ _ (show b + 1 + 1 ≠ b by omega), World.cell?_setCell_far _ _ _ _ (show b + 1 ≠ b by omega)]
      exact World.cell?_setCell_same _ _ _ p2
    have q3 : w8.cell? ⟨b + 1, 0, none⟩ = some (.int .i64 ((s.n - n : Nat) : Int)) := by
      rw [hw8, World.cell?_setCell_far _ _ _ _ (show b + 1 + 1 ≠ b + 1 by omega)]
      exact World.cell?_setCell_same _ _ _ (by rw [World.cell?_setCell_far _ _ _ _ (show b ≠ b + 1 by omega)]; exact p3)
    have q4 : w8.cell? ⟨b + 1 + 1, 0, none⟩ = some (.int .i64 (k : Int)) := by
      rw [hw8]
      exact World.cell?_setCell_same _ _ _ (by rw [World.cell?_setCell_far _ _ _ _ (show b + 1 ≠ b + 1 + 1 by omega), World.cell?_setCell_far _ _ _ _ (show b ≠ b + 1 + 1 by omega)]; exact p4)
    have hb8 : Below w.heap.size w w8 := by
      rw [hw8, ← HB.out]
      have hbW := HBW.out
      rw [← HB.out] at hbW
      have h0 := (hbW.trans (HB1.out.mono (by omega))).trans (hu.mono (by omega))
      exact ((h0.setCell (p := ⟨b, 0, none⟩) (Nat.le_refl _) _).setCell (p := ⟨b + 1, 0, none⟩) (by show b ≤ b + 1; omega) _).setCell (p := ⟨b + 1 + 1, 0, none⟩) (by show b ≤ b + 1 + 1; omega) _
    rw [← hw8]
    simp [Leaves, settle, results, Tryz.results30, go_sem, q2, q3, q4]
    exact Ans.bad HX1.out rfl rfl hb8
end Go.Proofs.YtheelnhhkpkjnaaGreatDoor.Syn
namespace Go.Proofs.YtheelnhhkpkjnaaGreatDoor.Syn
open Go.RowKit
open Utf (Rd Blk bys Pt enc encN fix dec)
open Norm (normal)
open Seg (Sg sgs sgOf says beg fin grp flen okS badS okG badG spS spE split_any runs)
open Ucd (Laid)
open Sset (St Tx)
set_option maxRecDepth 100000
theorem enc_one {l : List Int} {c : UInt8} (h : enc l = [c]) : c.toNat < 128 := by
  cases l with
  | nil => cases h
  | cons x l =>
    have h : encN (fix x) ++ enc l = [c] := h
    have h1 : 1 ≤ (encN (fix x)).length := by unfold encN; repeat' split
                                              all_goals simp
    have h2 : (encN (fix x)).length + (enc l).length = 1 := by rw [← List.length_append, h]; rfl
    have h3 : enc l = [] := List.eq_nil_of_length_eq_zero (by omega)
    rw [h3, List.append_nil] at h
    unfold encN at h
    split at h
    · rename_i hq
      injection h with h _
      rw [← h]
      have : (UInt8.ofNat (fix x)).toNat = fix x % 256 := UInt8.toNat_ofNat'
      omega
    · repeat' split at h
      all_goals simp at h
theorem grp_text (g : List Pt) : (sgOf g).t.toList = enc (normal (runs g)) := by
  show (says g).toList = _
  rw [ByteArray.toList_eq]; rfl
theorem okSg_of {g : List Pt} (h0 : g ≠ []) (h : flen g ≤ 64) : OkSg (sgOf g) := by
  have hl : (normal (runs g)).length = flen g := Seg.normal_len _
  have hp : 0 < flen g := by
    cases g with
    | nil => exact absurd rfl h0
    | cons p g => exact Seg.flen_pos (by simp)
  refine ⟨?_, fun c hc => ?_, ?_⟩
  · rw [grp_text]
    intro e
    have h1 := Seg.runes_enc_len (normal (runs g))
    rw [e] at h1
    have : (Norm.runesF ([] : List UInt8)).length = 0 := rfl
    omega
  · rw [grp_text] at hc; exact enc_one hc
  · rw [grp_text]; have := Utf.enc_le (normal (runs g)); omega
/-- the segments, where none is too long -/
theorem good_split {l : List UInt8} (h : badS 64 l = false) : okS 64 l = grp (dec false 0 l) ∧ (((okS 64 l).map sgOf).map fun x => x.t.toList) = tx l ∧ (∀ x ∈ (okS 64 l).map sgOf, OkSg x) := by
  have hall : ∀ g ∈ grp (dec false 0 l), flen g ≤ 64 := fun g hg => by
    have := List.any_eq_false.1 (show (grp (dec false 0 l)).any (fun g => decide (64 < flen g)) = false from h) g hg
    simpa using this
  have hok : okS 64 l = grp (dec false 0 l) := (Seg.okG_all flen 64 hall).1
  refine ⟨hok, ?_, fun x hx => ?_⟩
  · rw [hok, List.map_map, tx_grp]
    refine List.map_congr_left fun g _ => ?_
    show (says g).toList = (says g).data.toList
    rw [ByteArray.toList_eq]
  · obtain ⟨g, hg, rfl⟩ := List.mem_map.1 hx
    rw [hok] at hg
    exact okSg_of (by obtain ⟨q, t, e⟩ := Seg.cuts_group _ (show g ∈ Seg.cuts Seg.opP (dec false 0 l) from hg); rw [e]; simp) (hall g hg)
theorem Ans.lower {w w1 w' : World} {x : Except (Nat × Nat) (List Nd)} {e : Ending} (hb : Below w.heap.size w w1) (h : Ans w1 x e w') : Ans w x e w' := by
  cases x with
  | error p => exact ⟨h.1, hb.trans (h.2.mono hb.size)⟩
  | ok l =>
    obtain ⟨⟨v, he, V, h1, h2, h3⟩, h4⟩ := h
    exact ⟨⟨v, he, V, Norm.own_mono h1 hb.size, h2, fun i p q => (h3 i p q).mono hb.size⟩, hb.trans (h4.mono hb.size)⟩
theorem bad_split {l : List UInt8} (h : badS 64 l = true) : parseF theE l = .error ((okS 64 l).length, 6) := by
  unfold parseF parseT
  rw [← bad_tx 64 l, show badG flen 64 (grp (dec false 0 l)) = true from h, if_pos rfl, ← ok_tx 64 l, List.length_map]
  rfl
set_option maxHeartbeats 8000000 in
theorem parse_any (l : List UInt8) (A : Option Addr) (m c : Nat) (w : World) (hL : Laid w) (hr : Rd w w.heap.size A (bys l)) (hm : l.length = m) (hc : m ≤ c) (hcm : c ≤ 9223372036854775807) (hsm : m ≤ 134217728) :
    Calls Tryz.prog 13 #[.slice A m c] w (Ans w (parseF theE l)) := by
  have HS := Lib.hid (split_any 64 l A m c w hL hr hm hc hcm hsm)
  have HL := Lib.hid hL
  have hsp : spS 64 l = (okS 64 l).map sgOf := by unfold spS; rw [if_pos (by omega)]; rfl
  have hse : spE 64 l = if badS 64 l then 6 else 0 := by unfold spE; rw [if_pos (by omega)]; rfl
  have HSP := Lib.hid hsp; have HSE := Lib.hid hse
  clear hL hr hm hc hcm hsm hsp hse
  go_enter Tryz.func13, Tryz.ntmps13
  go_wp2_with fail
  refine HS.out.mono ?_
  rintro e w1 ⟨v, rfl, ho, hb1⟩
  rw [HSE.out]
  rw [HSP.out] at ho
  cases hbd : badS 64 l with
  | true =>
    have HP := Lib.hid (bad_split hbd)
    obtain ⟨A1, c1, rfl, _⟩ := Rset.own_form ho
    have HB := Lib.hid hb1
    have HLN := Lib.hid (show ((okS 64 l).map sgOf).length = (okS 64 l).length from List.length_map _)
    obtain ⟨n, hn⟩ : ∃ n, n = ((okS 64 l).map sgOf).length := ⟨_, rfl⟩
    rw [← hn]
    have HN := Lib.hid hn
    clear ho hb1 hbd hn HS
    go_wp2_with fail
    go_ret3
    exact Ans.bad HP.out (by rw [HN.out, HLN.out]) rfl HB.out
  | false =>
    obtain ⟨g1, g2, g3⟩ := good_split hbd
    have HP := Lib.hid (show parseF theE l = if 4096 < (tx l).length then .error (0, 3) else pattern theE (tx l) by
      unfold parseF parseT
      rw [← bad_tx 64 l, show badG flen 64 (grp (dec false 0 l)) = false from hbd, if_neg (by simp)])
    obtain ⟨S, hS⟩ : ∃ S, S = (okS 64 l).map sgOf := ⟨_, rfl⟩
    rw [← hS] at ho g2 g3
    obtain ⟨A1, c1, rfl, _, _, hr1⟩ := Rset.own_form ho
    have HR := Lib.hid hr1; have HB := Lib.hid hb1; have HTX := Lib.hid g2; have HOK := Lib.hid g3
    have HLX := Lib.hid (show (tx l).length = S.length by rw [← g2, List.length_map])
    obtain ⟨n, hn⟩ : ∃ n, n = S.length := ⟨_, rfl⟩
    rw [← hn]
    have HN := Lib.hid hn
    clear ho hb1 hbd hn hS g1 g2 g3 hr1 HS
    by_cases hlen : n ≤ 4096
    · have HP2 := Lib.hid (show parseF theE l = pattern theE (tx l) by rw [HP.out, if_neg (by rw [HLX.out, ← HN.out]; omega)])
      have h1 : ¬ (n : Int) > 4096 := by omega
      have h2 : decide ((n : Int) > 4096) = false := decide_eq_false h1
      have HRD := Lib.hid (read_any ⟨A1, n, c1, S⟩ w1 (HL.out.next HB.out) ⟨HN.out.symm, hlen, HOK.out⟩ HR.out)
      go_wp2_with fail
      refine HRD.out.mono ?_
      rintro e w2 h2
      have HA := Lib.hid (show Ans w (parseF theE l) e w2 by rw [HP2.out, ← HTX.out]; exact h2.lower HB.out)
      clear h2 HP HP2 HRD HTX HLX
      obtain ⟨x, hx⟩ : ∃ x, x = parseF theE l := ⟨_, rfl⟩
      rw [← hx] at HA
      have HX := Lib.hid hx.symm
      clear hx
      cases x with
      | error p =>
        obtain ⟨a, b⟩ := p
        obtain ⟨rfl, hb⟩ := HA.out
        have HB2 := Lib.hid hb
        clear hb HA
        go_wp2_with fail
        go_ret3
        exact Ans.bad HX.out rfl rfl HB2.out
      | ok k =>
        obtain ⟨⟨v, rfl, ha⟩, hb⟩ := HA.out
        have HB2 := Lib.hid hb; have HAA := Lib.hid ha
        clear hb ha HA
        go_wp2_with fail
        go_ret3
        exact Ans.ok HX.out HAA.out HB2.out
    · have HP2 := Lib.hid (show parseF theE l = .error (0, 3) by rw [HP.out, if_pos (by rw [HLX.out, ← HN.out]; omega)])
      have h1 : (n : Int) > 4096 := by omega
      have h2 : decide ((n : Int) > 4096) = true := decide_eq_true h1
      clear hlen
      go_wp2_with fail
      go_ret3
      exact Ans.bad HP2.out rfl rfl HB.out
end Go.Proofs.YtheelnhhkpkjnaaGreatDoor.Syn
