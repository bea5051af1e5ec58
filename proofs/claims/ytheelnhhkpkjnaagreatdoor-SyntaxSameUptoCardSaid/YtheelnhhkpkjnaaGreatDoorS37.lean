/-
  Texts of stage 7, part 37.
-/
import Derived.Test.YtheelnhhkpkjnaaGreatDoorS35
namespace Go.Proofs.YtheelnhhkpkjnaaGreatDoor.Syn
open Go.RowKit
open Utf (Rd Blk)
open Norm (Chg)
open Rset (Ret Rg rgs)
open Sset (St Tx none_ mk_toList BlkS NmS not2 not2_nm uni2_nm r_not2)
set_option maxRecDepth 100000
theorem items_fuel (E : Env) : ∀ (n : Nat) (r : List Tx), r.length ≤ n → ∀ (f : Nat), r.length < f → ∀ all, items E f all r = items E (r.length + 1) all r
  | _, r, _, 0, hf, _ => by omega
  | 0, r, hn, f + 1, _, all => by
    have : r = [] := List.eq_nil_of_length_eq_zero (by omega)
    subst this
    unfold items
    rfl
  | n + 1, r, hn, f + 1, hf, all => by
    unfold items
    by_cases h : isHd r [93] = true
    · rw [if_pos h, if_pos h]
    · rw [if_neg h, if_neg h]
      cases hx : item E r with
      | error p => rfl
      | ok p =>
        obtain ⟨x, s⟩ := p
        have hl := good_ok (good_item E r) hx
        show items E f (addG all x) s = items E r.length (addG all x) s
        rw [items_fuel E n s (by omega) f (by omega), items_fuel E n s (by omega) r.length (by omega)]
theorem Old.mono {st : Stp} {N M : Nat} (h : Old st N) (hm : N ≤ M) : Old st M :=
  ⟨fun k hk => Nat.lt_of_lt_of_le (h.v k hk) hm, fun i hi k hk => Nat.lt_of_lt_of_le (h.h1 i hi k hk) hm, fun i hi k hk => Nat.lt_of_lt_of_le (h.h2 i hi k hk) hm, fun i hi k hk => Nat.lt_of_lt_of_le (h.h3 i hi k hk) hm⟩
theorem Held.mono {w : World} {B B' : Nat} {v : NV} {n : Nd} (h : Held w B v n) (hb : B' ≤ B) : Held w B' v n :=
  ⟨h.k, h.mn, h.mx, h.nm, h.short, h.sm, h.l1, h.l2, h.l3, Norm.own_mono h.o1 hb, Norm.own_mono h.o2 hb, Norm.own_mono h.o3 hb⟩
/-- a class, so far -/
structure ClsI (w wr : World) (B g gr gg : Nat) (s : Src) (r : List Tx) (d : Nat) (st : Stp) (q : List Tx) (all : St) : Prop where
  rs : RS wr B g s q d st
  kpt : Kpt g w wr
  box : BlkS wr gr (.slice none 0 0) (.slice none 0 0) (.slice none 0 0)
  gth : ∃ v1 v2 v3, Gth wr gg gg v1 v2 v3 all
  gat : Gat all q.length
  eq : cls1 theE r = items theE (q.length + 1) all q
/-- the facts that never change -/
structure ClsC (w : World) (g gr gg : Nat) (st : Stp) : Prop where
  lt : g < w.heap.size
  at_ : gr = w.heap.size
  up : gr < gg
  old : Old st w.heap.size
/-- an item is added -/
theorem ClsI.more {w w1 w2 : World} {B g gr gg d : Nat} {s : Src} {r q2 : List Tx} {st : Stp} {all x : St} (C : ClsC w g gr gg st) (hr : RS w1 B g s q2 d st) (hk : Kpt g w w1) (hb : BlkS w1 gr (.slice none 0 0) (.slice none 0 0) (.slice none 0 0))
    (hc : Chg w1 w2 fun k => gg ≤ k) (hg : ∃ v1 v2 v3, Gth w2 gg gg v1 v2 v3 (addG all x)) (ga : Gat (addG all x) q2.length) (he : cls1 theE r = items theE (q2.length + 1) (addG all x) q2) : ClsI w w2 B g gr gg s r d st q2 (addG all x) := by
  have h1 := C.lt; have h2 := C.at_; have h3 := C.up
  exact ⟨hr.chg (C.old.mono (by omega)) (by omega) hc, hk.new (by omega) hc, Norm.blk_keep hb hc (by omega), hg, ga, he⟩
theorem skip_any {B g : Nat} {s : Src} {r : List Tx} {d : Nat} {st : Stp} {w : World} (h : RS w B g s r d st) (t : Tx) (h0 : t ≠ []) :
    Calls Tryz.prog 72 #[.pointer (some ⟨g, 0, none⟩), .string ⟨t.toArray⟩] w fun e w' => e = .returned (.bool (isHd r t)) ∧ RS w' B g s (if isHd r t then r.tail else r) d st ∧ Kpt g w w' := by
  cases ht : isHd r t with
  | true => exact skip_yes h t ht
  | false => exact (skip_no h t ht h0).mono fun e w' ⟨h1, h2, h3⟩ => ⟨h1, h2, Kpt.of_below h3⟩
set_option maxHeartbeats 16000000 in
theorem class_any {B g : Nat} {s : Src} {r : List Tx} {d : Nat} {st : Stp} {w : World} (h : RS w B g s r d st) :
    Calls Tryz.prog 144 #[.pointer (some ⟨g, 0, none⟩)] w (Says w B g s d st (cls theE r) (QH w.heap.size) no) := by
  have HG := Lib.hid h.lt
  have HOLD := Lib.hid h.old
  have HSH := Lib.hid h.shorts
  have HSN := Lib.hid h.src.sm
  obtain ⟨N, hN⟩ : ∃ N, N = s.n := ⟨_, rfl⟩
  have HNN := Lib.hid hN
  obtain ⟨x, hx⟩ : ∃ x, x = cls theE r := ⟨_, rfl⟩
  rw [← hx]
  obtain ⟨W, hW⟩ : ∃ W, W = w.alloc (.cells #[.slice none 0 0, .slice none 0 0, .slice none 0 0] 39) := ⟨_, rfl⟩
  obtain ⟨gr, hgr⟩ : ∃ gr, gr = w.heap.size := ⟨_, rfl⟩
  have hbW : Below w.heap.size w W := by rw [hW]; exact (Below.refl _ _).alloc (Nat.le_refl _) _
  have HB0 := Lib.hid (show BlkS W gr (.slice none 0 0) (.slice none 0 0) (.slice none 0 0) by rw [hW, hgr]; exact BlkS.new w _ _ _)
  have H0 := Lib.hid (h.next hbW); have HK0 := Lib.hid (Kpt.of_below (g := g) hbW)
  have HW := Lib.hid hW; have HGR := Lib.hid hgr
  have HNE := Lib.hid (show gr ≠ g by have := h.lt; omega)
  have HX := Lib.hid (hx.trans (show cls theE r = if isHd r [94] then thn (cls1 theE r.tail) fun x s => .ok (not2 (finG x), s) else thn (cls1 theE r) fun x s => .ok (finG x, s) from rfl))
  clear h hx hN hW hgr hbW
  go_enter Tryz.func144, Tryz.ntmps144
  go_wp2_with fail
  rw [← HW.out, ← HGR.out]
  refine (skip_any H0.out [94] (by decide)).mono ?_
  rintro e w1 ⟨rfl, hr, hk⟩
  obtain ⟨b, hb⟩ : ∃ b, b = isHd r [94] := ⟨_, rfl⟩
  obtain ⟨r1, hr1⟩ : ∃ r1, r1 = if isHd r [94] = true then r.tail else r := ⟨_, rfl⟩
  rw [← hr1] at hr
  rw [← hb]
  have HX1 := Lib.hid (show x = thn (cls1 theE r1) fun x s => .ok ((if b then not2 (finG x) else finG x), s) by
    rw [HX.out, hr1, hb]
    cases isHd r [94] <;> rfl)
  have HSH1 := Lib.hid (show Shorts r1 by rw [hr1]; split; exact HSH.out.suf (tail_suf r); exact HSH.out)
  have H1 := Lib.hid hr; have HK1 := Lib.hid (HK0.out.trans hk); have HB1 := Lib.hid (bls_kpt HB0.out hk HNE.out)
  clear hr hk hb hr1 HX
  go_wp2_with fail
  obtain ⟨W2, hW2⟩ : ∃ W2, W2 = w1.alloc (.cells #[.slice none 0 0, .slice none 0 0, .slice none 0 0, .slice none 0 0, .slice none 0 0, .slice none 0 0] 200) := ⟨_, rfl⟩
  obtain ⟨gg, hgg⟩ : ∃ gg, gg = w1.heap.size := ⟨_, rfl⟩
  have hbW2 : Below w1.heap.size w1 W2 := by rw [hW2]; exact (Below.refl _ _).alloc (Nat.le_refl _) _
  have HC := Lib.hid (show ClsC w g gr gg st from ⟨HG.out, HGR.out, by rw [hgg]; exact HB1.out.lt, HOLD.out⟩)
  have HG2 := Lib.hid (show Gth W2 gg gg (.slice none 0 0) (.slice none 0 0) (.slice none 0 0) none_ from ⟨Nat.le_refl _, by rw [hW2, hgg]; exact Blk.new w1 _ [.slice none 0 0, .slice none 0 0, .slice none 0 0, .slice none 0 0, .slice none 0 0, .slice none 0 0], World.ownsRow_nil _ _ _ _, World.ownsRow_nil _ _ _ _, World.ownsRow_nil _ _ _ _, fun k hk => by cases hk⟩)
  have H2 := Lib.hid (H1.out.next hbW2); have HK2 := Lib.hid (HK1.out.next hbW2); have HB2 := Lib.hid (HB1.out.next hbW2)
  rw [← hW2, ← hgg]
  clear hW2 hgg hbW2 H1 HK1 HB1 H0 HK0 HB0
  refine (item_any H2.out).mono ?_
  rintro e w3 h3
  rcases h3.split with ⟨y, q, v, hx, rfl, ⟨A1, n1, c1, A2, n2, c2, A3, n3, c3, rfl, hm⟩, hr, hk⟩ | ⟨n, k, hx, rfl, hb⟩
  · have H3 := Lib.hid hr.app0; have HK3 := Lib.hid (HK2.out.trans hk); have HB3 := Lib.hid (bls_kpt HB2.out hk HNE.out); have HM := Lib.hid hm
    have HG3 := Lib.hid (HG2.out.kpt hk H2.out.blk)
    have HFW := Lib.hid (few_item goodE HSH1.out hx)
    have hlen := good_ok (good_item theE r1) hx
    have HGT := Lib.hid (show Gat (addG none_ y) q.length from (gat_none (rest := r1.length) (by have := H2.out.rl; have := HSN.out; omega)).add HFW.out hlen)
    have HE := Lib.hid (show cls1 theE r1 = items theE (q.length + 1) (addG none_ y) q by unfold cls1; rw [hx]; rfl)
    have HSH2 := Lib.hid (HSH1.out.suf (good_suf (good_item theE r1) hx))
    have HFW1 := Lib.hid HFW.out.s; have HFW2 := Lib.hid HFW.out.m; have HFW3 := Lib.hid HFW.out.o
    have HAD := Lib.hid (add_any HG3.out (Nat.le_of_lt HG3.out.blk.lt) HM.out HG2.out.blk.lt (fun k hk => by cases hk) (fun k hk => by cases hk) (fun k hk => by cases hk) (by simp [none_]; have := HFW1.out; omega) (by simp [none_]; have := HFW2.out; omega) (by simp [none_]; have := HFW3.out; omega))
    clear h3 hx hr hk hm hlen
    go_wp2_with fail
    refine HAD.out.mono ?_
    rintro e w4 ⟨rfl, hg4, hc4⟩
    have HI := Lib.hid (ClsI.more HC.out H3.out HK3.out HB3.out hc4 hg4 HGT.out HE.out)
    have HQ4 := Lib.hid HSH2.out
    clear hg4 hc4 H2 HK2 HB2 HG2 H3 HK3 HB3 HM HG3 HFW HGT HE HFW1 HFW2 HFW3 HAD
    go_wp2_with fail
    go_loopw [] (fun wr => Hid (∃ q all, ClsI w wr B g gr gg s r1 d st q all ∧ Shorts q)) (fun wr => leftOf N g wr)
    case atStart => exact Lib.hid ⟨_, _, HI.out, HQ4.out⟩
    case round =>
      obtain ⟨q, all, hI, hsh⟩ := hrel.out
      have HI := Lib.hid hI; have HSQ := Lib.hid hsh
      have HL := Lib.hid (show leftOf N g wr = q.length by rw [HNN.out]; exact left_rs hI.rs)
      clear hrel hI hsh
      by_cases h93 : isHd q [93] = true
      · have HX5 := Lib.hid (show x = .ok ((if b then not2 (finG all) else finG all), q.tail) by rw [HX1.out, HI.out.eq]; unfold items; rw [if_pos h93]; rfl)
        obtain ⟨v1, v2, v3, hg⟩ := HI.out.gth
        have HGA := Lib.hid hg
        go_wp2_with fail
        refine (skip_yes HI.out.rs [93] h93).mono ?_
        rintro e w5 ⟨rfl, hr, hk⟩
        have H5 := Lib.hid hr; have HK5 := Lib.hid (HI.out.kpt.trans hk); have HB5 := Lib.hid (bls_kpt HI.out.box hk HNE.out); have HG5 := Lib.hid (hg.kpt hk HI.out.rs.blk)
        have HSA := Lib.hid (set_any HG5.out HI.out.gat)
        clear hr hk hg h93 HGA
        cases b with
        | true =>
          go_wp2_with fail
          refine HSA.out.mono ?_
          rintro e w6 ⟨v, rfl, ⟨D1, m1, k1, D2, m2, k2, D3, m3, k3, rfl, hm⟩, hb6⟩
          have HM := Lib.hid hm; have H6 := Lib.hid (H5.out.next hb6); have HK6 := Lib.hid (HK5.out.next hb6); have HB6 := Lib.hid (HB5.out.next hb6)
          clear hm hb6
          go_wp2_with fail
          refine (r_not2 k1 k2 k3 HM.out.has).mono ?_
          rintro e w7 ⟨P1, p1, q1, P2, p2, q2, P3, p3, q3, rfl, M⟩
          have HM7 := Lib.hid M; have HB7 := Lib.hid (HB6.out.next M.bel)
          clear M
          have d0 := HB7.out.c0; have d1 := HB7.out.c1; have d2 := HB7.out.c2; have f0 := HB7.out.fr 0; have f1 := HB7.out.fr 1; have f2 := HB7.out.fr 2
          go_wp2_with fail
          refine (HB7.out.put _ _ _).ret rfl rfl rfl ?_
          exact says_set (a := not2 (finG all)) HX5.out H6.out HOLD.out HG.out HK6.out HM7.out.bel (held_set HM7.out (not2_nm _) HK6.out.size) HB7.out HGR.out
        | false =>
          go_wp2_with fail
          refine HSA.out.mono ?_
          rintro e w6 ⟨v, rfl, ⟨D1, m1, k1, D2, m2, k2, D3, m3, k3, rfl, hm⟩, hb6⟩
          have HM := Lib.hid (hm.mono (B' := w.heap.size) HK5.out.size); have HBL := Lib.hid hb6; have HB6 := Lib.hid (HB5.out.next hb6)
          clear hm hb6
          have d0 := HB6.out.c0; have d1 := HB6.out.c1; have d2 := HB6.out.c2; have f0 := HB6.out.fr 0; have f1 := HB6.out.fr 1; have f2 := HB6.out.fr 2
          go_wp2_with fail
          refine (HB6.out.put _ _ _).ret rfl rfl rfl ?_
          exact says_set (a := finG all) HX5.out H5.out HOLD.out HG.out HK5.out HBL.out HM.out HB6.out HGR.out
      · rw [Bool.not_eq_true] at h93
        have HE5 := Lib.hid (show cls1 theE r1 = thn (item theE q) fun x s => items theE q.length (addG all x) s by rw [HI.out.eq]; conv => lhs; unfold items; rw [if_neg (by rw [h93]; simp)])
        go_wp2_with fail
        refine (skip_no HI.out.rs [93] h93 (by decide)).mono ?_
        rintro e w5 ⟨rfl, hr, hb⟩
        obtain ⟨v1, v2, v3, hg⟩ := HI.out.gth
        have H5 := Lib.hid hr; have HK5 := Lib.hid (HI.out.kpt.next hb); have HB5 := Lib.hid (HI.out.box.next hb); have HG5 := Lib.hid (hg.next hb)
        clear hr hb hg h93
        go_wp2_with fail
        refine (item_any H5.out).mono ?_
        rintro e w6 h6
        rcases h6.split with ⟨y2, q2, v, hx, rfl, ⟨D1, m1, k1, D2, m2, k2, D3, m3, k3, rfl, hm⟩, hr, hk⟩ | ⟨n, k, hx, rfl, hb⟩
        · have H6 := Lib.hid hr.app0; have HK6 := Lib.hid (HK5.out.trans hk); have HB6 := Lib.hid (bls_kpt HB5.out hk HNE.out); have HM := Lib.hid hm
          have HG6 := Lib.hid (HG5.out.kpt hk H5.out.blk)
          have HFW := Lib.hid (few_item goodE HSQ.out hx)
          have hlen := good_ok (good_item theE q) hx
          have HLN := Lib.hid hlen
          have HGT := Lib.hid (HI.out.gat.add HFW.out hlen)
          have HE6 := Lib.hid (show cls1 theE r1 = items theE (q2.length + 1) (addG all y2) q2 by rw [HE5.out, hx]; show items theE q.length (addG all y2) q2 = _; exact items_fuel theE q2.length q2 (Nat.le_refl _) _ (by omega) _)
          have HSQ2 := Lib.hid (HSQ.out.suf (good_suf (good_item theE q) hx))
          have hq : q.length ≤ 4096 := by have := HI.out.rs.rl; have := HSN.out; omega
          have HAD := Lib.hid (add_any HG6.out (Nat.le_of_lt HG6.out.blk.lt) HM.out HG5.out.blk.lt (fun k hk => (HG5.out.o1.lt k hk).2) (fun k hk => (HG5.out.o2.lt k hk).2) (fun k hk => (HG5.out.o3.lt k hk).2) (by have := HFW.out.s; have := HI.out.gat.s; omega) (by have := HFW.out.m; have := HI.out.gat.m; omega) (by have := HFW.out.o; have := HI.out.gat.o; omega))
          clear h6 hx hr hk hm hlen hq
          go_wp2_with fail
          refine HAD.out.mono ?_
          rintro e w7 ⟨rfl, hg7, hc7⟩
          have HI7 := Lib.hid (ClsI.more HC.out H6.out HK6.out HB6.out hc7 hg7 HGT.out HE6.out)
          have HMS := Lib.hid (show leftOf N g w7 < leftOf N g wr by rw [HL.out, HNN.out, left_rs HI7.out.rs]; have := HLN.out; omega)
          clear hg7 hc7
          go_wp2_with fail
          go_roundw
          case rel => exact Lib.hid ⟨_, _, HI7.out, HSQ2.out⟩
          case measure => exact HMS.out
        · have HX6 := Lib.hid (show x = .error (n, k) by rw [HX1.out, HE5.out, hx]; rfl)
          have HB6 := Lib.hid ((HK5.out.below (Nat.le_of_lt HG.out)).trans hb)
          clear h6 hx hb
          go_wp2_with fail
          exact ⟨rfl, Says.err HX6.out rfl rfl HB6.out⟩
  · have HX2 := Lib.hid (show x = .error (n, k) by rw [HX1.out]; unfold cls1; rw [hx]; rfl)
    have HB2 := Lib.hid ((HK2.out.below (Nat.le_of_lt HG.out)).trans hb)
    clear h3 hx hb
    go_wp2_with fail
    exact ⟨rfl, Says.err HX2.out rfl rfl HB2.out⟩
end Go.Proofs.YtheelnhhkpkjnaaGreatDoor.Syn
namespace Go.Proofs.YtheelnhhkpkjnaaGreatDoor.Syn
open Go.RowKit
open Utf (Rd Blk)
open Rset (Ret)
open Sset (St Tx mk_toList)
set_option maxRecDepth 100000
def countsF (r : List Tx) : R (Int × Int) := thn (number 0 r) fun m s =>
  if isHd s [44] then (if isHd s.tail [125] then .ok (((m : Int), -1), s.tail) else thn (number m s.tail) fun n q => .ok (((m : Int), (n : Int)), q)) else .ok (((m : Int), (m : Int)), s)
theorem counted_eq (r : List Tx) : counted r = thn (countsF r) fun p s => thn (want [125] s) fun _ q => .ok (ndR p.1 p.2, q) := by
  unfold counted countsF
  cases number 0 r with
  | error p => rfl
  | ok p =>
    obtain ⟨m, s⟩ := p
    show (if isHd s [44] then _ else _) = thn (if isHd s [44] then _ else _) _
    split
    · by_cases h : isHd s.tail [125] = true
      · rw [if_pos h, if_pos h]
        show _ = thn (want [125] s.tail) _
        unfold want
        rw [if_pos h]; rfl
      · rw [if_neg h, if_neg h]
        cases number m s.tail with
        | error p => rfl
        | ok p => rfl
    · rfl
theorem number_le {m n : Nat} {r q : List Tx} (h : number m r = .ok (n, q)) : n ≤ 64 := by
  unfold number at h
  split at h
  · cases h
  · rename_i hn
    injection h with h
    injection h with h1 _
    simp only [not_or] at hn
    omega
def QP (p : Int × Int) (v : Value) (_ : World) : Prop := v = .tuple #[.int .i64 p.1, .int .i64 p.2]
theorem counts_any {B g : Nat} {s : Src} {r : List Tx} {d : Nat} {st : Stp} {w : World} (h : RS w B g s r d st) :
    Calls Tryz.prog 151 #[.pointer (some ⟨g, 0, none⟩)] w (Says w B g s d st (countsF r) QP no) := by
  have HG := Lib.hid (Nat.le_of_lt h.lt)
  have HN := Lib.hid (number_any h 0 (by omega))
  obtain ⟨x, hx⟩ : ∃ x, x = countsF r := ⟨_, rfl⟩
  have HX := Lib.hid hx
  rw [← hx]
  clear h hx
  go_enter Tryz.func151, Tryz.ntmps151
  go_wp2_with fail
  refine HN.out.mono ?_
  rintro e w1 h1
  rcases h1.split with ⟨m, q, v, hx, rfl, rfl, hr, hk⟩ | ⟨n, k, hx, rfl, hb⟩
  · have HM := Lib.hid (number_le hx)
    have H1 := Lib.hid hr.app0; have HK := Lib.hid hk
    have HX1 := Lib.hid (show x = if isHd q [44] then (if isHd q.tail [125] then .ok (((m : Int), -1), q.tail) else thn (number m q.tail) fun n q => .ok (((m : Int), (n : Int)), q)) else .ok (((m : Int), (m : Int)), q) by rw [HX.out]; unfold countsF; rw [hx]; rfl)
    clear h1 hx hr hk HX HN
    by_cases h44 : isHd q [44] = true
    · go_wp2_with fail
      refine (skip_yes H1.out [44] h44).mono ?_
      rintro e w2 ⟨rfl, hr2, hk2⟩
      have H2 := Lib.hid hr2; have HK2 := Lib.hid (HK.out.trans hk2)
      clear hr2 hk2
      go_wp2_with fail
      refine (next_any H2.out).mono ?_
      rintro e w3 ⟨rfl, hb3⟩
      have H3 := Lib.hid (H2.out.next hb3); have HK3 := Lib.hid (HK2.out.next hb3)
      clear hb3
      have hY := mk_toList (nth q.tail 0)
      have hy : (nth q.tail 0 == [125]) = isHd q.tail [125] := hd_eq (by decide)
      generalize (⟨(nth q.tail 0).toArray⟩ : ByteArray) = Y at hY ⊢
      generalize nth q.tail 0 = y at hY hy
      by_cases h125 : isHd q.tail [125] = true
      · rw [h125] at hy
        go_wp2_with fail
        go_ret2
        exact Says.ok (a := ((m : Int), -1)) (by rw [HX1.out, if_pos h44, if_pos h125]) rfl H3.out.addno HK3.out
      · rw [Bool.not_eq_true] at h125
        rw [h125] at hy
        go_wp2_with fail
        refine (number_any H3.out m HM.out).mono ?_
        rintro e w4 h4
        rcases h4.split with ⟨n, q2, v, hx, rfl, rfl, hr, hk⟩ | ⟨n, k, hx, rfl, hb⟩
        · have H4 := Lib.hid hr.app0; have HK4 := Lib.hid (HK3.out.trans hk); have HX4 := Lib.hid hx
          clear h4 hx hr hk
          go_wp2_with fail
          go_ret2
          exact Says.ok (a := ((m : Int), (n : Int))) (by rw [HX1.out, if_pos h44, if_neg (by rw [h125]; simp), HX4.out]; rfl) rfl H4.out.addno HK4.out
        · have HX4 := Lib.hid hx; have HB4 := Lib.hid hb
          clear h4 hx hb
          go_wp2_with fail
          exact ⟨rfl, Says.err (by rw [HX1.out, if_pos h44, if_neg (by rw [h125]; simp), HX4.out]; rfl) rfl rfl ((HK3.out.below HG.out).trans HB4.out)⟩
    · rw [Bool.not_eq_true] at h44
      go_wp2_with fail
      refine (skip_no H1.out [44] h44 (by decide)).mono ?_
      rintro e w2 ⟨rfl, hr2, hb2⟩
      have H2 := Lib.hid hr2; have HK2 := Lib.hid (HK.out.next hb2)
      clear hr2 hb2
      go_wp2_with fail
      go_ret2
      exact Says.ok (a := ((m : Int), (m : Int))) (by rw [HX1.out, if_neg (by rw [h44]; simp)]) rfl H2.out.addno HK2.out
  · have HX1 := Lib.hid (show x = .error (n, k) by rw [HX.out]; unfold countsF; rw [hx]; rfl)
    have HB := Lib.hid hb
    clear h1 hx hb HN
    go_wp2_with fail
    exact ⟨rfl, Says.err HX1.out rfl rfl HB.out⟩
set_option maxHeartbeats 8000000 in
theorem times_any {B g : Nat} {s : Src} {r : List Tx} {d : Nat} {st : Stp} {w : World} (h : RS w B g s r d st) (hsm : st.l.length + 2 * r.length ≤ 1000000) :
    Calls Tryz.prog 120 #[.pointer (some ⟨g, 0, none⟩)] w (Says w B g s d st (times r) QU fun l => l) := by
  have HG := Lib.hid (Nat.le_of_lt h.lt)
  have hs1 : st.l.length ≤ 1073741824 := by omega
  have H0 := Lib.hid h; have HK0 := Lib.hid (Kpt.refl g w)
  obtain ⟨x, hx⟩ : ∃ x, x = times r := ⟨_, rfl⟩
  have HX := Lib.hid (hx.trans (show times r = if isHd r [42] then .ok ([ndR 0 (-1)], r.tail) else if isHd r [43] then .ok ([ndR 1 (-1)], r.tail) else if isHd r [63] then .ok ([ndR 0 1], r.tail)
    else if isHd r [123] then thn (counted r.tail) fun x s => .ok ([x], s) else .ok ([], r) from rfl))
  rw [← hx]
  clear h hx
  go_enter Tryz.func120, Tryz.ntmps120
  by_cases h42 : isHd r [42] = true
  · go_wp2_with fail
    refine (skip_yes H0.out [42] h42).mono ?_
    rintro e w1 ⟨rfl, hr, hk⟩
    have H1 := Lib.hid hr; have HK1 := Lib.hid (HK0.out.trans hk)
    clear hr hk
    go_wp2_with fail
    refine (layRepeat_any H1.out hs1 (0) (-1)).mono ?_
    rintro e w2 ⟨rfl, hr, hk⟩
    have H2 := Lib.hid (rsa_of hr); have HK2 := Lib.hid (HK1.out.trans hk)
    clear hr hk
    go_wp2_with fail
    go_end0
    exact Says.ok (a := [ndR (0) (-1)]) (by rw [HX.out, if_pos h42]) rfl H2.out HK2.out
  · rw [Bool.not_eq_true] at h42
    go_wp2_with fail
    refine (skip_no H0.out [42] h42 (by decide)).mono ?_
    rintro e v0 ⟨rfl, hr, hb⟩
    have H10 := Lib.hid hr; have HK10 := Lib.hid (HK0.out.next hb)
    clear hr hb
    by_cases h43 : isHd r [43] = true
    · go_wp2_with fail
      refine (skip_yes H10.out [43] h43).mono ?_
      rintro e w1 ⟨rfl, hr, hk⟩
      have H1 := Lib.hid hr; have HK1 := Lib.hid (HK10.out.trans hk)
      clear hr hk
      go_wp2_with fail
      refine (layRepeat_any H1.out hs1 (1) (-1)).mono ?_
      rintro e w2 ⟨rfl, hr, hk⟩
      have H2 := Lib.hid (rsa_of hr); have HK2 := Lib.hid (HK1.out.trans hk)
      clear hr hk
      go_wp2_with fail
      go_end0
      exact Says.ok (a := [ndR (1) (-1)]) (by rw [HX.out, if_neg (by rw [h42]; simp), if_pos h43]) rfl H2.out HK2.out
    · rw [Bool.not_eq_true] at h43
      go_wp2_with fail
      refine (skip_no H10.out [43] h43 (by decide)).mono ?_
      rintro e v10 ⟨rfl, hr, hb⟩
      have H20 := Lib.hid hr; have HK20 := Lib.hid (HK10.out.next hb)
      clear hr hb
      by_cases h63 : isHd r [63] = true
      · go_wp2_with fail
        refine (skip_yes H20.out [63] h63).mono ?_
        rintro e w1 ⟨rfl, hr, hk⟩
        have H1 := Lib.hid hr; have HK1 := Lib.hid (HK20.out.trans hk)
        clear hr hk
        go_wp2_with fail
        refine (layRepeat_any H1.out hs1 (0) (1)).mono ?_
        rintro e w2 ⟨rfl, hr, hk⟩
        have H2 := Lib.hid (rsa_of hr); have HK2 := Lib.hid (HK1.out.trans hk)
        clear hr hk
        go_wp2_with fail
        go_end0
        exact Says.ok (a := [ndR (0) (1)]) (by rw [HX.out, if_neg (by rw [h42]; simp), if_neg (by rw [h43]; simp), if_pos h63]) rfl H2.out HK2.out
      · rw [Bool.not_eq_true] at h63
        go_wp2_with fail
        refine (skip_no H20.out [63] h63 (by decide)).mono ?_
        rintro e v20 ⟨rfl, hr, hb⟩
        have H30 := Lib.hid hr; have HK30 := Lib.hid (HK20.out.next hb)
        clear hr hb
        by_cases h123 : isHd r [123] = true
        · go_wp2_with fail
          refine (skip_yes H30.out [123] h123).mono ?_
          rintro e w1 ⟨rfl, hr, hk⟩
          have H1 := Lib.hid hr; have HK1 := Lib.hid (HK30.out.trans hk)
          have HX1 := Lib.hid (show x = thn (thn (countsF r.tail) fun p s => thn (want [125] s) fun _ q => .ok (ndR p.1 p.2, q)) fun x s => .ok ([x], s) by rw [HX.out, if_neg (by rw [h42]; simp), if_neg (by rw [h43]; simp), if_neg (by rw [h63]; simp), if_pos h123, counted_eq])
          clear hr hk HX
          go_wp2_with fail
          refine (counts_any H1.out).mono ?_
          rintro e w2 h2
          rcases h2.split with ⟨p, q, v, hx, rfl, rfl, hr, hk⟩ | ⟨n, k, hx, rfl, hb⟩
          · have H2 := Lib.hid hr.app0; have HK2 := Lib.hid (HK1.out.trans hk)
            have HX2 := Lib.hid (show x = thn (thn (want [125] q) fun _ q => .ok (ndR p.1 p.2, q)) fun x s => .ok ([x], s) by rw [HX1.out, hx]; rfl)
            clear h2 hx hr hk HX1
            obtain ⟨p1, p2⟩ := p
            dsimp only at HX2
            go_wp2_with fail
            refine (layRepeat_any H2.out hs1 p1 p2).mono ?_
            rintro e w3 ⟨rfl, ⟨st3, hs3, hr⟩, hk⟩
            have HS3 := Lib.hid hs3
            have H3 := Lib.hid hr; have HK3 := Lib.hid (HK2.out.trans hk)
            clear hr hk hs3
            go_wp2_with fail
            refine (want_any H3.out [125] (by decide)).mono ?_
            rintro e w4 h4
            rcases h4.split with ⟨_, q2, v, hx, rfl, rfl, hr, hk⟩ | ⟨n, k, hx, rfl, hb⟩
            · have H4 := Lib.hid hr.app0; have HK4 := Lib.hid (HK3.out.trans hk)
              have HX4 := Lib.hid (show x = .ok ([ndR p1 p2], q2) by rw [HX2.out, hx]; rfl)
              clear h4 hx hr hk
              go_wp2_with fail
              go_end0
              exact Says.ok HX4.out rfl (H4.out.addl HS3.out (by simp)) HK4.out
            · have HX4 := Lib.hid (show x = .error (n, k) by rw [HX2.out, hx]; rfl)
              have HB4 := Lib.hid ((HK3.out.below HG.out).trans hb)
              clear h4 hx hb
              go_wp2_with fail
              exact ⟨rfl, Says.err HX4.out rfl rfl HB4.out⟩
          · have HX2 := Lib.hid (show x = .error (n, k) by rw [HX1.out, hx]; rfl)
            have HB2 := Lib.hid ((HK1.out.below HG.out).trans hb)
            clear h2 hx hb
            go_wp2_with fail
            exact ⟨rfl, Says.err HX2.out rfl rfl HB2.out⟩
        · rw [Bool.not_eq_true] at h123
          go_wp2_with fail
          refine (skip_no H30.out [123] h123 (by decide)).mono ?_
          rintro e v31 ⟨rfl, hr, hb⟩
          have H40 := Lib.hid hr; have HK40 := Lib.hid (HK30.out.next hb)
          clear hr hb
          go_wp2_with fail
          go_end0
          exact Says.ok (a := []) (by rw [HX.out, if_neg (by rw [h42]; simp), if_neg (by rw [h43]; simp), if_neg (by rw [h63]; simp), if_neg (by rw [h123]; simp)]) rfl H40.out.add0 HK40.out
end Go.Proofs.YtheelnhhkpkjnaaGreatDoor.Syn
namespace Go.Proofs.YtheelnhhkpkjnaaGreatDoor.Syn
open Go.RowKit
open Utf (Rd Blk)
open Rset (Ret)
open Sset (St Tx mk_toList allS allS_nm firstS firstS_nm ofS ofS_nm r_all r_first r_of)
set_option maxRecDepth 100000
theorem RSA.trans {w' : World} {B g d : Nat} {s : Src} {q : List Tx} {st st1 : Stp} {l m : List Nd} (h : st1.l = st.l ++ l) (h0 : l = [] → st1 = st) (k : RSA w' B g s q d st1 m) : RSA w' B g s q d st (l ++ m) := by
  obtain ⟨st2, k1, k2, k3⟩ := k
  refine ⟨st2, by rw [k1, h, List.append_assoc], fun e => ?_, k3⟩
  obtain ⟨e1, e2⟩ := List.append_eq_nil_iff.1 e
  rw [k2 e2, h0 e1]
/-- the brackets that may still open -/
structure SubOk (B g : Nat) (s : Src) (d : Nat) (sub : Sub) : Prop where
  good : GoodSub sub
  le : LeSub sub
  call : (d = 32 ∧ sub = none) ∨ (d < 32 ∧ ∃ f, sub = some f ∧ ∀ (w : World) (r : List Tx) (st : Stp), RS w B g s r (d + 1) st → st.l.length + 2 * r.length ≤ 1000000 →
    Calls Tryz.prog 53 #[.pointer (some ⟨g, 0, none⟩)] w (Says w B g s (d + 1) st (f r) QU fun l => l))
def groupF (sub : Sub) (r : List Tx) : R (List Nd) := match sub with
  | none => .error (r.length, 4)
  | some f => thn (f r.tail) fun l s => thn (want [41] s) fun _ q => .ok (l, q)
set_option maxHeartbeats 8000000 in
theorem group_any {B g : Nat} {s : Src} {r : List Tx} {d : Nat} {st : Stp} {w : World} {sub : Sub} (h : RS w B g s r d st) (hs : SubOk B g s d sub) (hr : r ≠ []) (hsm : st.l.length + 2 * r.length ≤ 1000000) :
    Calls Tryz.prog 141 #[.pointer (some ⟨g, 0, none⟩)] w (Says w B g s d st (groupF sub r) QU fun l => l) := by
  have HG := Lib.hid (Nat.le_of_lt h.lt)
  obtain ⟨p, hp, hp4, c1, f1⟩ := h.c1p
  have c2 := h.c2
  have f2 := h.fr 2
  have hd := h.deep
  rcases hs.call with ⟨rfl, rfl⟩ | ⟨hlt, f, rfl, hf⟩
  · have HX := Lib.hid (show groupF none r = .error (r.length, 4) from rfl)
    have HP := Lib.hid hp
    clear h hs hsm hp
    go_enter Tryz.func141, Tryz.ntmps141
    go_wp2_with fail
    exact ⟨rfl, Says.err HX.out (by rw [HP.out]) rfl (Below.refl _ _)⟩
  · have hne : ¬ (d : Int) = 32 := by omega
    have hne2 : ((d : Int) == 32) = false := by simpa using hne
    have HDD := Lib.hid hlt
    have HZ := Lib.hid (h.adv hr (p := (p : Int) + 1) (by rw [hp]))
    have HZ2 := Lib.hid (HZ.out.dep (e := d + 1) (by omega) (p := (d : Int) + 1) (by omega))
    have HKZ := Lib.hid ((Kpt.put w g 1 (.int .i64 ((p : Int) + 1))).trans (Kpt.put _ g 2 (.int .i64 ((d : Int) + 1))))
    have e2 : (w.setCell ⟨g, 1, none⟩ (.int .i64 ((p : Int) + 1))).cell? ⟨g, 2, none⟩ = some (.int .i64 d) := HZ.out.c2
    have g2 : (w.setCell ⟨g, 1, none⟩ (.int .i64 ((p : Int) + 1))).frozen? ⟨g, 2, none⟩ = false := HZ.out.fr 2
    have hl := List.length_pos_iff.2 hr
    have HC := Lib.hid (hf _ _ _ HZ2.out (by rw [List.length_tail]; omega))
    obtain ⟨x, hx⟩ : ∃ x, x = groupF (some f) r := ⟨_, rfl⟩
    have HX := Lib.hid (hx.trans (show groupF (some f) r = thn (f r.tail) fun l s => thn (want [41] s) fun _ q => .ok (l, q) from rfl))
    rw [← hx]
    clear h hs hsm hp hx hf hr hl
    go_enter Tryz.func141, Tryz.ntmps141
    go_wp2_with fail
    refine HC.out.mono ?_
    rintro e w1 h1
    rcases h1.split with ⟨l, q, v, hx, rfl, rfl, ⟨st1, hl1, h01, hr⟩, hk⟩ | ⟨n, k, hx, rfl, hb⟩
    · have H1 := Lib.hid hr; have HK1 := Lib.hid (HKZ.out.trans hk); have HL1 := Lib.hid hl1; have H01 := Lib.hid h01
      have HX1 := Lib.hid (show x = thn (want [41] q) fun _ q => .ok (l, q) by rw [HX.out, hx]; rfl)
      clear h1 hx hr hk hl1 h01 HX HC
      go_wp2_with fail
      refine (want_any H1.out [41] (by decide)).mono ?_
      rintro e w2 h2
      rcases h2.split with ⟨_, q2, v, hx, rfl, rfl, hr, hk⟩ | ⟨n, k, hx, rfl, hb⟩
      · have H2 := Lib.hid hr.app0; have HK2 := Lib.hid (HK1.out.trans hk)
        have HX2 := Lib.hid (show x = .ok (l, q2) by rw [HX1.out, hx]; rfl)
        clear h2 hx hr hk HX1
        have k2 : w2.cell? ⟨g, 2, none⟩ = some (.int .i64 ((d : Int) + 1)) := H2.out.c2
        have kf := H2.out.fr 2
        have hw : ((d : Int) + 1) - 1 = (d : Int) := by omega
        go_wp2_with fail
        go_end0
        exact Says.ok HX2.out rfl ⟨st1, HL1.out, H01.out, H2.out.dep (by have := HDD.out; omega) rfl⟩ (HK2.out.trans (Kpt.put _ _ _ _))
      · have HX2 := Lib.hid (show x = .error (n, k) by rw [HX1.out, hx]; rfl)
        have HB2 := Lib.hid ((HK1.out.below HG.out).trans hb)
        clear h2 hx hb
        go_wp2_with fail
        exact ⟨rfl, Says.err HX2.out rfl rfl HB2.out⟩
    · have HX1 := Lib.hid (show x = .error (n, k) by rw [HX.out, hx]; rfl)
      have HB1 := Lib.hid ((HKZ.out.below HG.out).trans hb)
      clear h1 hx hb
      go_wp2_with fail
      exact ⟨rfl, Says.err HX1.out rfl rfl HB1.out⟩
theorem atom_eq {sub : Sub} {r : List Tx} (hr : r ≠ []) : atom theE sub r = if isHd r [40] = true then groupF sub r else if isHd r [46] = true then .ok ([ndS allS], r.tail) else if isHd r [91] = true then thn (cls theE r.tail) fun x s => .ok ([ndS x], s)
    else if isCat r = true then thn (catP theE (isHd r.tail [80]) r.tail.tail) fun x s => .ok ([ndS (firstS x)], s) else if isHd r [92] = true then thn (letter theE r.tail) fun t s => .ok ([ndS (ofS t)], s)
    else if sgn (nth r 0) = true then bad r else .ok ([ndS (ofS (nth r 0))], r.tail) := by
  cases r with
  | nil => exact absurd rfl hr
  | cons c r =>
    have hh : ∀ t, (isHd (c :: r) t = true) ↔ c = t := fun t => by unfold isHd; simp
    simp only [atom, hh]
    by_cases h1 : c = [40]
    · rw [if_pos h1, if_pos h1]; cases sub <;> rfl
    · rw [if_neg h1, if_neg h1]
      by_cases h2 : c = [46]
      · rw [if_pos h2, if_pos h2]; rfl
      · rw [if_neg h2, if_neg h2]
        by_cases h3 : c = [91]
        · rw [if_pos h3, if_pos h3]; rfl
        · rw [if_neg h3, if_neg h3]
          by_cases h4 : c = [92]
          · rw [if_pos h4, if_pos h4]
            subst h4
            have e : isCat ([92] :: r) = (isHd r [112] || isHd r [80]) := rfl
            rw [e]
            rfl
          · have e : isCat (c :: r) = false := by unfold isCat; rw [show isHd (c :: r) [92] = false by rw [Bool.eq_false_iff]; exact fun h => h4 ((hh _).1 h)]; rfl
            rw [if_neg h4, if_neg h4, e, if_neg Bool.false_ne_true]
            rfl
set_option maxHeartbeats 16000000 in
theorem atom_any {B g : Nat} {s : Src} {r : List Tx} {d : Nat} {st : Stp} {w : World} {sub : Sub} (h : RS w B g s r d st) (hs : SubOk B g s d sub) (hr : r ≠ []) (hsm : st.l.length + 2 * r.length ≤ 1000000) :
    Calls Tryz.prog 119 #[.pointer (some ⟨g, 0, none⟩)] w (Says w B g s d st (atom theE sub r) QU fun l => l) := by
  have HG := Lib.hid (Nat.le_of_lt h.lt)
  have HBG := Lib.hid h.le
  have HSH := Lib.hid h.shorts
  have HRN := Lib.hid hr
  have hs1 : st.l.length ≤ 1073741824 := by omega
  have H0 := Lib.hid h
  obtain ⟨x, hx⟩ : ∃ x, x = atom theE sub r := ⟨_, rfl⟩
  have HX := Lib.hid (hx.trans (atom_eq hr))
  rw [← hx]
  have HGR := Lib.hid (fun (u : World) (hu : RS u B g s r d st) => group_any hu hs hr hsm)
  clear h hs hr hsm hx
  go_enter Tryz.func119, Tryz.ntmps119
  go_wp2_with fail
  refine (next_any H0.out).mono ?_
  rintro e w1 ⟨rfl, hb⟩
  have H1 := Lib.hid (H0.out.next hb); have HK1 := Lib.hid (Kpt.of_below (g := g) hb)
  clear hb
  have hY := mk_toList (nth r 0)
  have hy : (nth r 0 == [40]) = isHd r [40] := hd_eq (by decide)
  generalize (⟨(nth r 0).toArray⟩ : ByteArray) = Y at hY ⊢
  obtain ⟨y, hyy⟩ : ∃ y, y = nth r 0 := ⟨_, rfl⟩
  rw [← hyy] at hY hy
  clear hyy
  cases h40 : isHd r [40] with
  | true =>
    have HX1 := Lib.hid (show x = groupF sub r by rw [HX.out, if_pos h40])
    rw [h40] at hy
    clear h40
    go_wp2_with fail
    refine (HGR.out w1 H1.out).mono ?_
    rintro e w2 h2
    rcases h2.split with ⟨l, q, v, hx, rfl, rfl, hr, hk⟩ | ⟨n, k, hx, rfl, hb⟩
    · have H2 := Lib.hid hr; have HK2 := Lib.hid (HK1.out.trans hk)
      have HX2 := Lib.hid (show x = .ok (l, q) by rw [HX1.out, hx])
      clear h2 hx hr hk
      go_wp2_with fail
      go_end0
      exact Says.ok HX2.out rfl H2.out HK2.out
    · clear h2
      have HXE := Lib.hid (show x = .error (n, k) by rw [HX1.out, hx])
      have HBE := Lib.hid ((HK1.out.below HG.out).trans hb)
      clear hx hb
      go_wp2_with fail
      exact ⟨rfl, Says.err HXE.out rfl rfl HBE.out⟩
  | false =>
    have H40X := Lib.hid h40
    rw [h40] at hy
    clear h40
    by_cases h46 : isHd r [46] = true
    · have HX1 := Lib.hid (show x = .ok ([ndS allS], r.tail) by rw [HX.out, if_neg (by rw [H40X.out]; simp), if_pos h46])
      go_wp2_with fail
      refine (skip_yes H1.out [46] h46).mono ?_
      rintro e w5 ⟨rfl, hr, hk⟩
      have H5 := Lib.hid hr; have HK5 := Lib.hid (HK1.out.trans hk)
      clear hr hk
      go_wp2_with fail
      refine (r_all w5).mono ?_
      rintro e w8 ⟨P1, p1, q1, P2, p2, q2, P3, p3, q3, rfl, M⟩
      have HM := Lib.hid M
      clear M
      have H8 := Lib.hid (H5.out.next HM.out.bel); have HK8 := Lib.hid (HK5.out.next HM.out.bel)
      have HH8 := Lib.hid (held_set (B := B) HM.out (allS_nm) (Nat.le_trans HBG.out (Nat.le_of_lt H5.out.lt)))
      go_wp2_with fail
      refine (laySet_any H8.out hs1 HH8.out).mono ?_
      rintro e w9 ⟨rfl, hr, hk⟩
      have H9 := Lib.hid (rsa_of hr); have HK9 := Lib.hid (HK8.out.trans hk)
      clear hr hk
      go_wp2_with fail
      go_end0
      exact Says.ok (a := [ndS (allS)]) HX1.out rfl H9.out HK9.out
    · rw [Bool.not_eq_true] at h46
      go_wp2_with fail
      refine (skip_no H1.out [46] h46 (by decide)).mono ?_
      rintro e v2 ⟨rfl, hr, hb⟩
      have H2 := Lib.hid hr; have HK2 := Lib.hid (HK1.out.next hb)
      clear hr hb
      by_cases h91 : isHd r [91] = true
      · have HX1 := Lib.hid (show x = thn (cls theE r.tail) fun x s => .ok ([ndS x], s) by rw [HX.out, if_neg (by rw [H40X.out]; simp), if_neg (by rw [h46]; simp), if_pos h91])
        go_wp2_with fail
        refine (skip_yes H2.out [91] h91).mono ?_
        rintro e w5 ⟨rfl, hr, hk⟩
        have H5 := Lib.hid hr; have HK5 := Lib.hid (HK2.out.trans hk)
        clear hr hk
        go_wp2_with fail
        refine (class_any H5.out).mono ?_
        rintro e w6 h6
        rcases h6.split with ⟨t, q, v, hx, rfl, ⟨P1, p1, q1, P2, p2, q2, P3, p3, q3, rfl, hm⟩, hr, hk⟩ | ⟨n, k, hx, rfl, hb⟩
        · have H6 := Lib.hid hr.app0; have HK6 := Lib.hid (HK5.out.trans hk)
          have HX6 := Lib.hid (show x = .ok ([ndS t], q) by rw [HX1.out, hx]; rfl)
          have HH6 := Lib.hid (hm.mono (Nat.le_trans HBG.out (Nat.le_of_lt H5.out.lt)))
          clear h6 hx hr hk hm
          go_wp2_with fail
          refine (laySet_any H6.out hs1 HH6.out).mono ?_
          rintro e w9 ⟨rfl, hr, hk⟩
          have H9 := Lib.hid (rsa_of hr); have HK9 := Lib.hid (HK6.out.trans hk)
          clear hr hk
          go_wp2_with fail
          go_end0
          exact Says.ok (a := [ndS t]) HX6.out rfl H9.out HK9.out
        · clear h6
          have HXE := Lib.hid (show x = .error (n, k) by rw [HX1.out, hx]; rfl)
          have HBE := Lib.hid ((HK5.out.below HG.out).trans hb)
          clear hx hb
          go_wp2_with fail
          exact ⟨rfl, Says.err HXE.out rfl rfl HBE.out⟩
      · rw [Bool.not_eq_true] at h91
        go_wp2_with fail
        refine (skip_no H2.out [91] h91 (by decide)).mono ?_
        rintro e v3 ⟨rfl, hr, hb⟩
        have H3 := Lib.hid hr; have HK3 := Lib.hid (HK2.out.next hb)
        clear hr hb
        go_wp2_with fail
        refine (namesCategory_any H3.out).mono ?_
        rintro e v4 ⟨rfl, hb⟩
        have H4 := Lib.hid (H3.out.next hb); have HK4 := Lib.hid (HK3.out.next hb)
        clear hb
        cases hca : isCat r with
        | true =>
          have HX1 := Lib.hid (show x = thn (catP theE (isHd r.tail [80]) r.tail.tail) fun x s => .ok ([ndS (firstS x)], s) by rw [HX.out, if_neg (by rw [H40X.out]; simp), if_neg (by rw [h46]; simp), if_neg (by rw [h91]; simp), if_pos hca])
          have HCC := Lib.hid (category_any H4.out hca)
          clear hca
          go_wp2_with fail
          refine HCC.out.mono ?_
          rintro e w6 h6
          rcases h6.split with ⟨l, q, v, hx, rfl, ⟨A, n, c, rfl, ha⟩, hr, hk⟩ | ⟨n, k, hx, rfl, hb⟩
          · have H6 := Lib.hid hr.app0; have HK6 := Lib.hid (HK4.out.trans hk); have HA := Lib.hid ha
            have HX6 := Lib.hid (show x = .ok ([ndS (firstS l)], q) by rw [HX1.out, hx]; rfl)
            clear h6 hx hr hk ha
            go_wp2_with fail
            refine (r_first A l n c w6 HA.out).mono ?_
            rintro e w8 ⟨P1, p1, q1, P2, p2, q2, P3, p3, q3, rfl, M⟩
            have HM := Lib.hid M
            clear M
            have H8 := Lib.hid (H6.out.next HM.out.bel); have HK8 := Lib.hid (HK6.out.next HM.out.bel)
            have HH8 := Lib.hid (held_set (B := B) HM.out (firstS_nm l) (Nat.le_trans HBG.out (Nat.le_of_lt H6.out.lt)))
            go_wp2_with fail
            refine (laySet_any H8.out hs1 HH8.out).mono ?_
            rintro e w9 ⟨rfl, hr, hk⟩
            have H9 := Lib.hid (rsa_of hr); have HK9 := Lib.hid (HK8.out.trans hk)
            clear hr hk
            go_wp2_with fail
            go_end0
            exact Says.ok (a := [ndS (firstS l)]) HX6.out rfl H9.out HK9.out
          · clear h6
            have HXE := Lib.hid (show x = .error (n, k) by rw [HX1.out, hx]; rfl)
            have HBE := Lib.hid ((HK4.out.below HG.out).trans hb)
            clear hx hb
            go_wp2_with fail
            exact ⟨rfl, Says.err HXE.out rfl rfl HBE.out⟩
        | false =>
          by_cases h92 : isHd r [92] = true
          · have HX1 := Lib.hid (show x = thn (letter theE r.tail) fun t s => .ok ([ndS (ofS t)], s) by rw [HX.out, if_neg (by rw [H40X.out]; simp), if_neg (by rw [h46]; simp), if_neg (by rw [h91]; simp), if_neg (by rw [hca]; simp), if_pos h92])
            go_wp2_with fail
            refine (skip_yes H4.out [92] h92).mono ?_
            rintro e w5 ⟨rfl, hr, hk⟩
            have H5 := Lib.hid hr; have HK5 := Lib.hid (HK4.out.trans hk)
            clear hr hk
            go_wp2_with fail
            refine (letter_any H5.out).mono ?_
            rintro e w6 h6
            rcases h6.split with ⟨t, q, v, hx, rfl, rfl, hr, hk⟩ | ⟨n, k, hx, rfl, hb⟩
            · have H6 := Lib.hid hr.app0; have HK6 := Lib.hid (HK5.out.trans hk)
              have HX6 := Lib.hid (show x = .ok ([ndS (ofS t)], q) by rw [HX1.out, hx]; rfl)
              have HTL := Lib.hid (letter_short goodE (HSH.out.suf (tail_suf r)) hx)
              clear h6 hx hr hk
              go_wp2_with fail
              refine (r_of _ t (mk_toList t) HTL.out w6).mono ?_
              rintro e w8 ⟨P1, p1, q1, P2, p2, q2, P3, p3, q3, rfl, M⟩
              have HM := Lib.hid M
              clear M
              have H8 := Lib.hid (H6.out.next HM.out.bel); have HK8 := Lib.hid (HK6.out.next HM.out.bel)
              have HH8 := Lib.hid (held_set (B := B) HM.out (ofS_nm t) (Nat.le_trans HBG.out (Nat.le_of_lt H6.out.lt)))
              go_wp2_with fail
              refine (laySet_any H8.out hs1 HH8.out).mono ?_
              rintro e w9 ⟨rfl, hr, hk⟩
              have H9 := Lib.hid (rsa_of hr); have HK9 := Lib.hid (HK8.out.trans hk)
              clear hr hk
              go_wp2_with fail
              go_end0
              exact Says.ok (a := [ndS (ofS t)]) HX6.out rfl H9.out HK9.out
            · clear h6
              have HXE := Lib.hid (show x = .error (n, k) by rw [HX1.out, hx]; rfl)
              have HBE := Lib.hid ((HK5.out.below HG.out).trans hb)
              clear hx hb
              go_wp2_with fail
              exact ⟨rfl, Says.err HXE.out rfl rfl HBE.out⟩
          · rw [Bool.not_eq_true] at h92
            go_wp2_with fail
            refine (skip_no H4.out [92] h92 (by decide)).mono ?_
            rintro e v5 ⟨rfl, hr, hb⟩
            have H5 := Lib.hid hr; have HK5 := Lib.hid (HK4.out.next hb)
            clear hr hb
            go_wp2_with fail
            refine (next_any H5.out).mono ?_
            rintro e v6 ⟨rfl, hb⟩
            have H6 := Lib.hid (H5.out.next hb); have HK6 := Lib.hid (HK5.out.next hb)
            clear hb
            go_wp2_with fail
            refine (sign_any (nth r 0) v6).mono ?_
            rintro e w' ⟨rfl, rfl⟩
            cases hsg : sgn (nth r 0) with
            | true =>
              have HXB := Lib.hid (show x = .error (r.length, 2) by rw [HX.out, if_neg (by rw [H40X.out]; simp), if_neg (by rw [h46]; simp), if_neg (by rw [h91]; simp), if_neg (by rw [hca]; simp), if_neg (by rw [h92]; simp), if_pos hsg]; rfl)
              obtain ⟨p, hp, hp4, c1, _⟩ := H6.out.c1p
              have HRB := Lib.hid (refuse_any (.pointer (some ⟨g, 0, none⟩)) g p s r.length w' hp)
              clear hsg hp
              go_wp2_with fail
              refine HRB.out.mono ?_
              rintro e w9 ⟨rfl, hb9⟩
              go_wp2_with fail
              exact ⟨rfl, Says.err HXB.out rfl rfl ((HK6.out.below HG.out).trans hb9)⟩
            | false =>
              have HXG := Lib.hid (show x = .ok ([ndS (ofS (nth r 0))], r.tail) by rw [HX.out, if_neg (by rw [H40X.out]; simp), if_neg (by rw [h46]; simp), if_neg (by rw [h91]; simp), if_neg (by rw [hca]; simp), if_neg (by rw [h92]; simp), if_neg (by rw [hsg]; simp)])
              have HTL := Lib.hid (show (nth r 0).length ≤ 1073741824 from HSH.out _ (by rw [nth_lt (List.length_pos_iff.2 HRN.out)]; exact List.getElem_mem _))
              clear hsg
              go_wp2_with fail
              refine (next_any H6.out).mono ?_
              rintro e w7 ⟨rfl, hb⟩
              have H7 := Lib.hid (H6.out.next hb); have HK7 := Lib.hid (HK6.out.next hb)
              clear hb
              go_wp2_with fail
              refine (r_of _ (nth r 0) (mk_toList _) HTL.out w7).mono ?_
              rintro e w8 ⟨P1, p1, q1, P2, p2, q2, P3, p3, q3, rfl, M⟩
              have HM := Lib.hid M
              clear M
              have H8 := Lib.hid (H7.out.next HM.out.bel); have HK8 := Lib.hid (HK7.out.next HM.out.bel)
              have HH8 := Lib.hid (held_set (B := B) HM.out (ofS_nm _) (Nat.le_trans HBG.out (Nat.le_of_lt H7.out.lt)))
              go_wp2_with fail
              refine (laySet_any H8.out hs1 HH8.out).mono ?_
              rintro e w9 ⟨rfl, ⟨st9, hl9, hr⟩, hk⟩
              obtain ⟨p, hp, hp4, c1, f1⟩ := hr.c1p
              have H9 := Lib.hid (hr.adv HRN.out (p := (p : Int) + 1) (by rw [hp])); have HK9 := Lib.hid ((HK8.out.trans hk).trans (Kpt.put w9 g 1 (.int .i64 ((p : Int) + 1)))); have HL9 := Lib.hid hl9
              clear hr hk hl9 hp
              go_wp2_with fail
              go_end0
              exact Says.ok HXG.out rfl (H9.out.addl HL9.out (by simp)) HK9.out
end Go.Proofs.YtheelnhhkpkjnaaGreatDoor.Syn
namespace Go.Proofs.YtheelnhhkpkjnaaGreatDoor.Syn
open Go.RowKit
open Utf (Rd Blk)
open Rset (Ret)
open Sset (St Tx mk_toList)
set_option maxRecDepth 100000
set_option maxHeartbeats 8000000 in
theorem part_any {B g : Nat} {s : Src} {r : List Tx} {d : Nat} {st : Stp} {w : World} {sub : Sub} (h : RS w B g s r d st) (hs : SubOk B g s d sub) (hr : r ≠ []) (hsm : st.l.length + 2 * r.length ≤ 1000000) :
    Calls Tryz.prog 97 #[.pointer (some ⟨g, 0, none⟩)] w (Says w B g s d st (part theE sub r) QU fun l => l) := by
  have HG := Lib.hid (Nat.le_of_lt h.lt)
  have HRN := Lib.hid hr
  have hs1 : st.l.length ≤ 1073741824 := by omega
  have H0 := Lib.hid h
  obtain ⟨x, hx⟩ : ∃ x, x = part theE sub r := ⟨_, rfl⟩
  have HX := Lib.hid (hx.trans (show part theE sub r = if isHd r [94] then .ok ([nd 3], r.tail) else if isHd r [36] then .ok ([nd 4], r.tail) else thn (atom theE sub r) fun l s => thn (times s) fun m q => .ok (l ++ m, q) from rfl))
  rw [← hx]
  have HAT := Lib.hid (fun (u : World) (hu : RS u B g s r d st) => atom_any hu hs hr hsm)
  have HLE := Lib.hid (le_atom theE hs.le r)
  have HSM := Lib.hid hsm
  have HLR := Lib.hid (List.length_pos_iff.2 hr)
  clear h hs hr hsm hx
  go_enter Tryz.func97, Tryz.ntmps97
  by_cases h94 : isHd r [94] = true
  · have HX1 := Lib.hid (show x = .ok ([nd 3], r.tail) by rw [HX.out, if_pos h94])
    go_wp2_with fail
    refine (skip_yes H0.out [94] h94).mono ?_
    rintro e w1 ⟨rfl, hr, hk⟩
    have H1 := Lib.hid hr; have HK1 := Lib.hid hk
    clear hr hk
    go_wp2_with fail
    refine (lay_any H1.out hs1 3).mono ?_
    rintro e w2 ⟨rfl, hr, hk⟩
    have H2 := Lib.hid (rsa_of hr); have HK2 := Lib.hid (HK1.out.trans hk)
    clear hr hk
    go_wp2_with fail
    go_end0
    exact Says.ok (a := [nd 3]) HX1.out rfl H2.out HK2.out
  · rw [Bool.not_eq_true] at h94
    go_wp2_with fail
    refine (skip_no H0.out [94] h94 (by decide)).mono ?_
    rintro e v1 ⟨rfl, hr, hb⟩
    have H1 := Lib.hid hr; have HK1 := Lib.hid (Kpt.of_below (g := g) hb)
    clear hr hb
    by_cases h36 : isHd r [36] = true
    · have HX1 := Lib.hid (show x = .ok ([nd 4], r.tail) by rw [HX.out, if_neg (by rw [h94]; simp), if_pos h36])
      go_wp2_with fail
      refine (skip_yes H1.out [36] h36).mono ?_
      rintro e w1 ⟨rfl, hr, hk⟩
      have H2 := Lib.hid hr; have HK2 := Lib.hid (HK1.out.trans hk)
      clear hr hk
      go_wp2_with fail
      refine (lay_any H2.out hs1 4).mono ?_
      rintro e w2 ⟨rfl, hr, hk⟩
      have H3 := Lib.hid (rsa_of hr); have HK3 := Lib.hid (HK2.out.trans hk)
      clear hr hk
      go_wp2_with fail
      go_end0
      exact Says.ok (a := [nd 4]) HX1.out rfl H3.out HK3.out
    · rw [Bool.not_eq_true] at h36
      have HX1 := Lib.hid (show x = thn (atom theE sub r) fun l s => thn (times s) fun m q => .ok (l ++ m, q) by rw [HX.out, if_neg (by rw [h94]; simp), if_neg (by rw [h36]; simp)])
      go_wp2_with fail
      refine (skip_no H1.out [36] h36 (by decide)).mono ?_
      rintro e v2 ⟨rfl, hr, hb⟩
      have H2 := Lib.hid hr; have HK2 := Lib.hid (HK1.out.next hb)
      clear hr hb h36 h94
      go_wp2_with fail
      refine (HAT.out v2 H2.out).mono ?_
      rintro e w3 h3
      rcases h3.split with ⟨l, q, v, hx, rfl, rfl, ⟨st1, hl1, h01, hr⟩, hk⟩ | ⟨n, k, hx, rfl, hb⟩
      · have H3 := Lib.hid hr; have HK3 := Lib.hid (HK2.out.trans hk); have HL1 := Lib.hid hl1; have H01 := Lib.hid h01
        have HX3 := Lib.hid (show x = thn (times q) fun m q => .ok (l ++ m, q) by rw [HX1.out, hx]; rfl)
        have HTI := Lib.hid (times_any H3.out (by have := HLE.out l q hx; have := HSM.out; rw [HL1.out, List.length_append]; omega))
        clear h3 hx hr hk hl1 h01
        go_wp2_with fail
        refine HTI.out.mono ?_
        rintro e w4 h4
        rcases h4.split with ⟨m, q2, v, hx, rfl, rfl, hr, hk⟩ | ⟨n, k, hx, rfl, hb⟩
        · have H4 := Lib.hid (RSA.trans HL1.out H01.out hr); have HK4 := Lib.hid (HK3.out.trans hk)
          have HX4 := Lib.hid (show x = .ok (l ++ m, q2) by rw [HX3.out, hx]; rfl)
          clear h4 hx hr hk
          go_wp2_with fail
          go_end0
          exact Says.ok HX4.out rfl H4.out HK4.out
        · have HX4 := Lib.hid (show x = .error (n, k) by rw [HX3.out, hx]; rfl)
          have HB4 := Lib.hid ((HK3.out.below HG.out).trans hb)
          clear h4 hx hb
          go_wp2_with fail
          exact ⟨rfl, Says.err HX4.out rfl rfl HB4.out⟩
      · have HX3 := Lib.hid (show x = .error (n, k) by rw [HX1.out, hx]; rfl)
        have HB3 := Lib.hid ((HK2.out.below HG.out).trans hb)
        clear h3 hx hb
        go_wp2_with fail
        exact ⟨rfl, Says.err HX3.out rfl rfl HB3.out⟩
theorem parts_fuel (E : Env) {sub : Sub} (hs : GoodSub sub) : ∀ (n : Nat) (r : List Tx), r.length ≤ n → ∀ (f : Nat), r.length < f → ∀ l, parts E sub f l r = parts E sub (r.length + 1) l r
  | _, r, _, 0, hf, _ => by omega
  | 0, r, hn, f + 1, _, l => by
    have : r = [] := List.eq_nil_of_length_eq_zero (by omega)
    subst this
    unfold parts
    rfl
  | n + 1, r, hn, f + 1, hf, l => by
    unfold parts
    by_cases h : stops r = true
    · rw [if_pos h, if_pos h]
    · rw [if_neg h, if_neg h]
      cases hx : part E sub r with
      | error p => rfl
      | ok p =>
        obtain ⟨m, s⟩ := p
        have hl := good_ok (good_part E hs r) hx
        show parts E sub f (l ++ m ++ [nd 5]) s = parts E sub r.length (l ++ m ++ [nd 5]) s
        rw [parts_fuel E hs n s (by omega) f (by omega), parts_fuel E hs n s (by omega) r.length (by omega)]
theorem stops_ne {r : List Tx} (h : stops r = false) : r ≠ [] := by rintro rfl; cases h
/-- a row, so far -/
structure RowI (w wr : World) (B g : Nat) (s : Src) (r : List Tx) (d : Nat) (st : Stp) (sub : Sub) (q : List Tx) (l : List Nd) : Prop where
  rs : RSA wr B g s q d st l
  kpt : Kpt g w wr
  eq : row theE sub r = parts theE sub (q.length + 1) l q
  sm : st.l.length + l.length + 2 * q.length ≤ 1000000
set_option maxHeartbeats 8000000 in
theorem row_any {B g : Nat} {s : Src} {r : List Tx} {d : Nat} {st : Stp} {w : World} {sub : Sub} (h : RS w B g s r d st) (hs : SubOk B g s d sub) (hsm : st.l.length + 2 * r.length ≤ 1000000) :
    Calls Tryz.prog 71 #[.pointer (some ⟨g, 0, none⟩)] w (Says w B g s d st (row theE sub r) QU fun l => l) := by
  have HG := Lib.hid (Nat.le_of_lt h.lt)
  have hs1 : st.l.length ≤ 1073741824 := by omega
  have H0 := Lib.hid h
  have HSB := Lib.hid hs
  obtain ⟨N, hN⟩ : ∃ N, N = s.n := ⟨_, rfl⟩
  have HNN := Lib.hid hN
  obtain ⟨x, hx⟩ : ∃ x, x = row theE sub r := ⟨_, rfl⟩
  have HX0 := Lib.hid hx
  have HX := Lib.hid (hx.trans (show row theE sub r = if stops r then .ok ([nd 1], r) else thn (part theE sub r) fun l s => parts theE sub (s.length + 1) l s from rfl))
  rw [← hx]
  have HSM := Lib.hid hsm
  clear h hs hsm hx hN
  go_enter Tryz.func71, Tryz.ntmps71
  go_wp2_with fail
  refine (rowEnds_any H0.out).mono ?_
  rintro e w1 ⟨rfl, hb⟩
  have H1 := Lib.hid (H0.out.next hb); have HK1 := Lib.hid (Kpt.of_below (g := g) hb)
  clear hb
  cases hst : stops r with
  | true =>
    have HX1 := Lib.hid (show x = .ok ([nd 1], r) by rw [HX.out, if_pos hst])
    clear hst
    go_wp2_with fail
    refine (lay_any H1.out hs1 1).mono ?_
    rintro e w2 ⟨rfl, hr, hk⟩
    have H2 := Lib.hid (rsa_of hr); have HK2 := Lib.hid (HK1.out.trans hk)
    clear hr hk
    go_wp2_with fail
    go_end0
    exact Says.ok (a := [nd 1]) HX1.out rfl H2.out HK2.out
  | false =>
    have HX1 := Lib.hid (show x = thn (part theE sub r) fun l s => parts theE sub (s.length + 1) l s by rw [HX.out, if_neg (by rw [hst]; simp)])
    have HNE := Lib.hid (stops_ne hst)
    clear hst
    go_wp2_with fail
    refine (part_any H1.out HSB.out HNE.out HSM.out).mono ?_
    rintro e w2 h2
    rcases h2.split with ⟨l, q, v, hx, rfl, rfl, hr, hk⟩ | ⟨n, k, hx, rfl, hb⟩
    · have HI := Lib.hid (show RowI w w2 B g s r d st sub q l from ⟨hr, HK1.out.trans hk, by rw [← HX0.out, HX1.out, hx]; rfl, by have := le_part theE HSB.out.le r l q hx; have := HSM.out; have := List.length_pos_iff.2 HNE.out; omega⟩)
      clear h2 hx hr hk
      go_wp2_with fail
      go_loopw [] (fun wr => Hid (∃ q l, RowI w wr B g s r d st sub q l)) (fun wr => leftOf N g wr)
      case atStart => exact Lib.hid ⟨_, _, HI.out⟩
      case round =>
        obtain ⟨q, l, hI⟩ := hrel.out
        obtain ⟨st1, hl1, h01, hr⟩ := hI.rs
        have HI := Lib.hid hI; have H3 := Lib.hid hr; have HL1 := Lib.hid hl1; have H01 := Lib.hid h01
        have HL := Lib.hid (show leftOf N g wr = q.length by rw [HNN.out]; exact left_rs hr)
        have HSQ := Lib.hid (show st1.l.length + 2 * q.length ≤ 1000000 by rw [hl1, List.length_append]; exact hI.sm)
        clear hrel hI hr hl1 h01
        go_wp2_with fail
        refine (rowEnds_any H3.out).mono ?_
        rintro e w4 ⟨rfl, hb⟩
        have H4 := Lib.hid (H3.out.next hb); have HK4 := Lib.hid (HI.out.kpt.next hb)
        clear hb
        cases hst : stops q with
        | true =>
          have HX4 := Lib.hid (show x = .ok (l, q) by rw [HX0.out, HI.out.eq]; unfold parts; rw [if_pos hst])
          clear hst
          go_wp2_with fail
          go_end0
          exact Says.ok HX4.out rfl ⟨st1, HL1.out, H01.out, H4.out⟩ HK4.out
        | false =>
          have HE4 := Lib.hid (show row theE sub r = thn (part theE sub q) fun m s => parts theE sub q.length (l ++ m ++ [nd 5]) s by rw [HI.out.eq]; conv => lhs; unfold parts; rw [if_neg (by rw [hst]; simp)])
          have HNQ := Lib.hid (stops_ne hst)
          clear hst
          go_wp2_with fail
          refine (part_any H4.out HSB.out HNQ.out HSQ.out).mono ?_
          rintro e w5 h5
          rcases h5.split with ⟨m, q2, v, hx, rfl, rfl, ⟨st2, hl2, h02, hr⟩, hk⟩ | ⟨n, k, hx, rfl, hb⟩
          · have hlen := good_ok (good_part theE HSB.out.good q) hx
            have hle := le_part theE HSB.out.le q m q2 hx
            have hq := List.length_pos_iff.2 HNQ.out
            have H5 := Lib.hid hr; have HK5 := Lib.hid (HK4.out.trans hk); have HL2 := Lib.hid hl2; have H02 := Lib.hid h02; have HLN := Lib.hid hlen
            have hs2 : st2.l.length ≤ 1073741824 := by have := HSQ.out; rw [HL2.out, List.length_append]; omega
            have HS5 := Lib.hid (show st.l.length + (l ++ m ++ [nd 5]).length + 2 * q2.length ≤ 1000000 by have := HI.out.sm; simp only [List.length_append, List.length_singleton]; omega)
            have HE5 := Lib.hid (show row theE sub r = parts theE sub (q2.length + 1) (l ++ m ++ [nd 5]) q2 by rw [HE4.out, hx]; show parts theE sub q.length (l ++ m ++ [nd 5]) q2 = _; exact parts_fuel theE HSB.out.good q2.length q2 (Nat.le_refl _) _ (by omega) _)
            clear h5 hx hr hk hl2 h02 hlen hle hq
            go_wp2_with fail
            refine (lay_any H5.out hs2 5).mono ?_
            rintro e w6 ⟨rfl, ⟨st3, hl3, hr⟩, hk⟩
            have HL6 := Lib.hid (show leftOf N g w6 < leftOf N g wr by rw [HL.out, HNN.out, left_rs hr]; have := HLN.out; omega)
            have HI6 := Lib.hid (show RowI w w6 B g s r d st sub q2 (l ++ m ++ [nd 5]) from ⟨⟨st3, by rw [hl3, HL2.out, HL1.out]; simp, fun e => by simp at e, hr⟩, HK5.out.trans hk, HE5.out, HS5.out⟩)
            clear hl3 hr hk
            go_wp2_with fail
            go_roundw
            case rel => exact Lib.hid ⟨_, _, HI6.out⟩
            case measure => exact HL6.out
          · have HX5 := Lib.hid (show x = .error (n, k) by rw [HX0.out, HE4.out, hx]; rfl)
            have HB5 := Lib.hid ((HK4.out.below HG.out).trans hb)
            clear h5 hx hb
            go_wp2_with fail
            exact ⟨rfl, Says.err HX5.out rfl rfl HB5.out⟩
    · have HX2 := Lib.hid (show x = .error (n, k) by rw [HX1.out, hx]; rfl)
      have HB2 := Lib.hid ((HK1.out.below HG.out).trans hb)
      clear h2 hx hb
      go_wp2_with fail
      exact ⟨rfl, Says.err HX2.out rfl rfl HB2.out⟩
theorem rows_fuel (E : Env) {sub : Sub} (hs : GoodSub sub) : ∀ (n : Nat) (r : List Tx), r.length ≤ n → ∀ (f : Nat), r.length < f → ∀ l, rows E sub f l r = rows E sub (r.length + 1) l r
  | _, r, _, 0, hf, _ => by omega
  | 0, r, hn, f + 1, _, l => by
    have : r = [] := List.eq_nil_of_length_eq_zero (by omega)
    subst this
    unfold rows
    rfl
  | n + 1, r, hn, f + 1, hf, l => by
    unfold rows
    by_cases h : isHd r [124] = true
    · rw [if_pos h, if_pos h]
      have h0 := isHd_len h
      cases hx : row E sub r.tail with
      | error p => rfl
      | ok p =>
        obtain ⟨m, s⟩ := p
        have hl := good_ok (good_row E hs r.tail) hx
        show rows E sub f (l ++ m ++ [nd 6]) s = rows E sub r.length (l ++ m ++ [nd 6]) s
        rw [rows_fuel E hs n s (by omega) f (by omega), rows_fuel E hs n s (by omega) r.length (by omega)]
    · rw [if_neg h, if_neg h]
/-- a choice, so far -/
structure ChI (w wr : World) (B g : Nat) (s : Src) (r : List Tx) (d : Nat) (st : Stp) (sub : Sub) (q : List Tx) (l : List Nd) : Prop where
  rs : RSA wr B g s q d st l
  kpt : Kpt g w wr
  eq : choiceF theE sub r = rows theE sub (q.length + 1) l q
  sm : st.l.length + l.length + 2 * q.length ≤ 1000001
set_option maxHeartbeats 8000000 in
theorem choice_one {B g : Nat} {s : Src} {r : List Tx} {d : Nat} {st : Stp} {w : World} {sub : Sub} (h : RS w B g s r d st) (hs : SubOk B g s d sub) (hsm : st.l.length + 2 * r.length ≤ 1000000) :
    Calls Tryz.prog 53 #[.pointer (some ⟨g, 0, none⟩)] w (Says w B g s d st (choiceF theE sub r) QU fun l => l) := by
  have HG := Lib.hid (Nat.le_of_lt h.lt)
  have H0 := Lib.hid h
  have HSB := Lib.hid hs
  obtain ⟨N, hN⟩ : ∃ N, N = s.n := ⟨_, rfl⟩
  have HNN := Lib.hid hN
  obtain ⟨x, hx⟩ : ∃ x, x = choiceF theE sub r := ⟨_, rfl⟩
  have HX0 := Lib.hid hx
  have HX := Lib.hid (hx.trans (show choiceF theE sub r = thn (row theE sub r) fun l s => rows theE sub (s.length + 1) l s from rfl))
  rw [← hx]
  have HSM := Lib.hid hsm
  clear h hs hsm hx hN
  go_enter Tryz.func53, Tryz.ntmps53
  go_wp2_with fail
  refine (row_any H0.out HSB.out HSM.out).mono ?_
  rintro e w2 h2
  rcases h2.split with ⟨l, q, v, hx, rfl, rfl, hr, hk⟩ | ⟨n, k, hx, rfl, hb⟩
  · have HI := Lib.hid (show ChI w w2 B g s r d st sub q l from ⟨hr, hk, by rw [← HX0.out, HX.out, hx]; rfl, by have := le_row theE HSB.out.le HSB.out.good r l q hx; have := HSM.out; omega⟩)
    clear h2 hx hr hk
    go_wp2_with fail
    go_loopw [] (fun wr => Hid (∃ q l, ChI w wr B g s r d st sub q l)) (fun wr => leftOf N g wr)
    case atStart => exact Lib.hid ⟨_, _, HI.out⟩
    case round =>
      obtain ⟨q, l, hI⟩ := hrel.out
      obtain ⟨st1, hl1, h01, hr⟩ := hI.rs
      have HI := Lib.hid hI; have H3 := Lib.hid hr; have HL1 := Lib.hid hl1; have H01 := Lib.hid h01
      have HL := Lib.hid (show leftOf N g wr = q.length by rw [HNN.out]; exact left_rs hr)
      have HSQ := Lib.hid (show st1.l.length + 2 * q.length ≤ 1000001 by rw [hl1, List.length_append]; exact hI.sm)
      clear hrel hI hr hl1 h01
      by_cases h124 : isHd q [124] = true
      · have HE4 := Lib.hid (show choiceF theE sub r = thn (row theE sub q.tail) fun m s => rows theE sub q.length (l ++ m ++ [nd 6]) s by rw [HI.out.eq]; conv => lhs; unfold rows; rw [if_pos h124])
        have HQL := Lib.hid (isHd_len h124)
        go_wp2_with fail
        refine (skip_yes H3.out [124] h124).mono ?_
        rintro e w4 ⟨rfl, hr, hk⟩
        have H4 := Lib.hid hr; have HK4 := Lib.hid (HI.out.kpt.trans hk)
        clear hr hk h124
        have HS4 := Lib.hid (show st1.l.length + 2 * q.tail.length ≤ 1000000 by have := HSQ.out; have := HQL.out; omega)
        go_wp2_with fail
        refine (row_any H4.out HSB.out HS4.out).mono ?_
        rintro e w5 h5
        rcases h5.split with ⟨m, q2, v, hx, rfl, rfl, ⟨st2, hl2, h02, hr⟩, hk⟩ | ⟨n, k, hx, rfl, hb⟩
        · have hlen := good_ok (good_row theE HSB.out.good q.tail) hx
          have hle := le_row theE HSB.out.le HSB.out.good q.tail m q2 hx
          have H5 := Lib.hid hr; have HK5 := Lib.hid (HK4.out.trans hk); have HL2 := Lib.hid hl2; have H02 := Lib.hid h02; have HLN := Lib.hid hlen
          have hs2 : st2.l.length ≤ 1073741824 := by have := HS4.out; rw [HL2.out, List.length_append]; omega
          have HS5 := Lib.hid (show st.l.length + (l ++ m ++ [nd 6]).length + 2 * q2.length ≤ 1000001 by have := HI.out.sm; have := HQL.out; simp only [List.length_append, List.length_singleton]; omega)
          have HE5 := Lib.hid (show choiceF theE sub r = rows theE sub (q2.length + 1) (l ++ m ++ [nd 6]) q2 by rw [HE4.out, hx]; show rows theE sub q.length (l ++ m ++ [nd 6]) q2 = _; exact rows_fuel theE HSB.out.good q2.length q2 (Nat.le_refl _) _ (by have := HQL.out; omega) _)
          clear h5 hx hr hk hl2 h02 hlen hle
          go_wp2_with fail
          refine (lay_any H5.out hs2 6).mono ?_
          rintro e w6 ⟨rfl, ⟨st3, hl3, hr⟩, hk⟩
          have HL6 := Lib.hid (show leftOf N g w6 < leftOf N g wr by rw [HL.out, HNN.out, left_rs hr]; have := HLN.out; have := HQL.out; omega)
          have HI6 := Lib.hid (show ChI w w6 B g s r d st sub q2 (l ++ m ++ [nd 6]) from ⟨⟨st3, by rw [hl3, HL2.out, HL1.out]; simp, fun e => by simp at e, hr⟩, HK5.out.trans hk, HE5.out, HS5.out⟩)
          clear hl3 hr hk
          go_wp2_with fail
          go_roundw
          case rel => exact Lib.hid ⟨_, _, HI6.out⟩
          case measure => exact HL6.out
        · have HX5 := Lib.hid (show x = .error (n, k) by rw [HX0.out, HE4.out, hx]; rfl)
          have HB5 := Lib.hid ((HK4.out.below HG.out).trans hb)
          clear h5 hx hb
          go_wp2_with fail
          exact ⟨rfl, Says.err HX5.out rfl rfl HB5.out⟩
      · rw [Bool.not_eq_true] at h124
        have HX4 := Lib.hid (show x = .ok (l, q) by rw [HX0.out, HI.out.eq]; unfold rows; rw [if_neg (by rw [h124]; simp)])
        go_wp2_with fail
        refine (skip_no H3.out [124] h124 (by decide)).mono ?_
        rintro e w4 ⟨rfl, hr, hb⟩
        have H4 := Lib.hid hr; have HK4 := Lib.hid (HI.out.kpt.next hb)
        clear hr hb h124
        go_wp2_with fail
        go_end0
        exact Says.ok HX4.out rfl ⟨st1, HL1.out, H01.out, H4.out⟩ HK4.out
  · have HX2 := Lib.hid (show x = .error (n, k) by rw [HX.out, hx]; rfl)
    have HB2 := Lib.hid hb
    clear h2 hx hb
    go_wp2_with fail
    exact ⟨rfl, Says.err HX2.out rfl rfl HB2.out⟩
/-- with so many brackets that may still open -/
theorem choice_any {B g : Nat} {s : Src} : ∀ (k : Nat) (d : Nat), d + k = 32 → ∀ (w : World) (r : List Tx) (st : Stp), RS w B g s r d st → st.l.length + 2 * r.length ≤ 1000000 →
    Calls Tryz.prog 53 #[.pointer (some ⟨g, 0, none⟩)] w (Says w B g s d st (choice theE k r) QU fun l => l)
  | 0, d, hd, _, _, _, h, hsm => choice_one h (sub := none) ⟨fun f hf => (by cases hf), fun f hf => (by cases hf), .inl ⟨by omega, rfl⟩⟩ hsm
  | k + 1, d, hd, _, _, _, h, hsm => choice_one h (sub := some (choice theE k)) ⟨fun f hf => (by cases hf; exact good_choice theE k), fun f hf => (by cases hf; exact le_choice theE k), .inr ⟨by omega, choice theE k, rfl, fun w r st h hsm => choice_any k (d + 1) (by omega) w r st h hsm⟩⟩ hsm
end Go.Proofs.YtheelnhhkpkjnaaGreatDoor.Syn
