/-
  ONE TEXT MORE IN A RISING LIST, as mathematics.
-/
import Derived.Test.YtipcbiecdabihaaGreatSsetMath
import Derived.Test.YtipcbiecdabihaaGreatSsetLib
import Derived.Test.YtipcbiecdabihaaGreatSsetRes
import Derived.Test.YtipcbiecdabihaaGreatRsetRnorm
import Derived.Test.YtipcbiecdabihaaGreatSsetFloat
namespace Go.Proofs.YtipcbiecdabihaaGreat.Sset
open Go.RowKit
open Utf (Rd Blk)
open Rset
set_option maxRecDepth 100000

theorem up_ins {l : List Tx} (h : Up l) {x : Tx} {k : Nat} (h1 : ∀ y ∈ l.take k, y < x) (h2 : ∀ y ∈ l.drop k, x < y) : Up (l.take k ++ x :: l.drop k) := by
  unfold Up
  rw [List.pairwise_append, List.pairwise_cons]
  refine ⟨List.Pairwise.sublist (List.take_sublist k l) h, ⟨h2, List.Pairwise.sublist (List.drop_sublist k l) h⟩, fun a ha b hb => ?_⟩
  rcases List.mem_cons.1 hb with rfl | hb
  · exact h1 a ha
  · exact lt_tr (h1 a ha) (h2 b hb)
theorem drop_gt {l : List Tx} (h : Up l) {x : Tx} {k : Nat} (hk : k < l.length) (hx : x < l[k]) : ∀ y ∈ l.drop k, x < y := by
  have hd : Up (l.drop k) := List.Pairwise.sublist (List.drop_sublist k l) h
  rw [List.drop_eq_getElem_cons hk] at hd ⊢
  intro y hy
  rcases List.mem_cons.1 hy with rfl | hy
  · exact hx
  · exact lt_tr hx ((List.pairwise_cons.1 hd).1 y hy)
theorem gt_of {x y : Tx} (h : ¬ y < x) (hne : y ≠ x) : x < y := lt_of h (fun e => hne e.symm)
theorem ins_mem {l : List Tx} {x : Tx} {k : Nat} (y : Tx) : y ∈ l.take k ++ x :: l.drop k ↔ y ∈ l ++ [x] := by
  conv => rhs; rw [← List.take_append_drop k l]
  simp only [List.mem_append, List.mem_cons, List.not_mem_nil, or_false]
  constructor
  · rintro (h | h | h)
    · exact .inl (.inl h)
    · exact .inr h
    · exact .inl (.inr h)
  · rintro ((h | h) | h)
    · exact .inl h
    · exact .inr (.inr h)
    · exact .inr (.inl h)
theorem put_at {l : List Tx} (h : Up l) {x : Tx} {k : Nat} (h1 : ∀ y ∈ l.take k, y < x) (h2 : ∀ y ∈ l.drop k, x < y) : l.take k ++ x :: l.drop k = rise (l ++ [x]) :=
  rise_of (up_ins h h1 h2) fun y => ins_mem y
theorem put_there {l : List Tx} (h : Up l) {x : Tx} (hx : x ∈ l) : l = rise (l ++ [x]) := rise_of h fun y => by
  rw [List.mem_append, List.mem_singleton]
  constructor
  · exact .inl
  · rintro (h | rfl)
    · exact h
    · exact hx
theorem ins_end (l : List Tx) (x : Tx) : l.take l.length ++ x :: l.drop l.length = l ++ [x] := by rw [List.take_length, List.drop_length]
theorem ins_down {l : List Tx} {k : Nat} (hk : k < l.length) (x : Tx) : ((l.take (k + 1) ++ x :: l.drop (k + 1)).set (k + 1) l[k]).set k x = l.take k ++ x :: l.drop k := by
  have hl : (l.take k).length = k := by rw [List.length_take]; omega
  rw [List.take_succ_eq_append_getElem hk, List.append_assoc, List.set_append_right _ _ (by omega), hl, show k + 1 - k = 1 by omega, List.set_append_right _ _ (by omega), hl, Nat.sub_self]
  conv => rhs; rw [List.drop_eq_getElem_cons hk]
  rfl
theorem ins_len (l : List Tx) (x : Tx) (k : Nat) : (l.take k ++ x :: l.drop k).length = l.length + 1 := by
  have := congrArg List.length (List.take_append_drop k l)
  rw [List.length_append] at this
  rw [List.length_append, List.length_cons]; omega
theorem ins_get {l : List Tx} {k : Nat} (hk : k < l.length) (x : Tx) : (l.take (k + 1) ++ x :: l.drop (k + 1))[k]? = some l[k] := by
  rw [List.getElem?_append_left (by rw [List.length_take]; omega), List.getElem?_take, if_pos (by omega), List.getElem?_eq_getElem hk]
/-- those that may be odd, rising -/
def odds (l : List Tx) : List Tx := (rise l).filter okT
theorem odds_nil : odds [] = [] := by
  have : rise [] = [] := rise_id Up.nil
  unfold odds; rw [this]; rfl
theorem odds_up (l : List Tx) : Up (odds l) := (rise_up l).filter _
theorem odds_mem (l : List Tx) (y : Tx) : y ∈ odds l ↔ y ∈ l ∧ okT y = true := by unfold odds; rw [List.mem_filter, rise_mem]
theorem odds_step (l : List Tx) (x : Tx) : odds (l ++ [x]) = if okT x then rise (odds l ++ [x]) else odds l := by
  by_cases h : okT x = true
  · rw [if_pos h]
    refine up_uniq _ _ (odds_up _) (rise_up _) fun y => ?_
    rw [odds_mem, rise_mem, List.mem_append, List.mem_append, odds_mem, List.mem_singleton]
    constructor
    · rintro ⟨h1 | h1, h2⟩
      · exact .inl ⟨h1, h2⟩
      · exact .inr h1
    · rintro (⟨h1, h2⟩ | rfl)
      · exact ⟨.inl h1, h2⟩
      · exact ⟨.inr rfl, h⟩
  · rw [if_neg h]
    refine up_uniq _ _ (odds_up _) (odds_up _) fun y => ?_
    rw [odds_mem, odds_mem, List.mem_append, List.mem_singleton]
    constructor
    · rintro ⟨h1 | rfl, h2⟩
      · exact ⟨h1, h2⟩
      · exact absurd h2 h
    · rintro ⟨h1, h2⟩
      exact ⟨.inl h1, h2⟩
theorem odds_take {l : List Tx} {k : Nat} (h : k < l.length) : odds (l.take (k + 1)) = if okT l[k] then rise (odds (l.take k) ++ [l[k]]) else odds (l.take k) := by
  rw [List.take_succ_eq_append_getElem h, odds_step]
theorem odds_len (l : List Tx) : (odds l).length ≤ l.length := Nat.le_trans (List.length_filter_le _ _) (rise_len _)
end Go.Proofs.YtipcbiecdabihaaGreat.Sset

/-
  CONTRACT OF THE DOCUMENT's Put: a text more in a rising list.
-/
namespace Go.Proofs.YtipcbiecdabihaaGreat.Sset
open Go.RowKit
open Utf (Rd Blk bys bys_len nums nums_len wpList_append_rd own_ne)
open Rset
set_option maxRecDepth 100000

theorem txs_get' {l : List Tx} {k : Nat} {y : Tx} (h : l[k]? = some y) : (txs l)[k]? = some (encStr y) := by
  unfold txs; rw [List.getElem?_map, h]; rfl
theorem txs_getD {l : List Tx} {k : Nat} (h : k < l.length) : (txs l)[k]? = some (encStr l[k]) := txs_get h
set_option maxHeartbeats 8000000 in
theorem rput_any (B n : Nat) (v : Value) (l : List Tx) (X : ByteArray) (x : Tx) (hX : X.toList = x) (w : World) (h : w.ownsRow B 9 1 v n (txs l)) (hB : B ≤ w.heap.size) (hU : Up l) (hn : n ≤ 1073741824) :
    Calls Tryz.prog 65 #[v, .string X] w (OwnT B w (rise (l ++ [x]))) := by
  obtain ⟨i0, hi, hz0, hz1, hz2⟩ := info_parts infoStr
  have hl : l.length = n := by have := h.1; rw [txs_len, Nat.mul_one] at this; exact this
  obtain ⟨A, c, rfl, hc1, hc2, hr⟩ := own_form h
  have HO := Lib.hid h; have HL := Lib.hid hl; have HU := Lib.hid hU; have HB := Lib.hid hB; have HX := Lib.hid hX
  have HR0 := Lib.hid hr
  clear h hl hU hB hX hr
  go_enter Tryz.func65, Tryz.ntmps65
  go_wp2_with fail
  go_loopw [5] (fun i wr => ∃ k : Nat, k ≤ n ∧ i = .int .i64 k ∧ Hid (∀ y ∈ l.take k, y < x) ∧ w = wr) (fun i _ => n - (intOf i).toNat)
  case atStart => exact ⟨0, Nat.zero_le _, rfl, Lib.hid (fun y hy => by simp at hy), rfl⟩
  case round =>
    obtain ⟨k, hk, rfl, H1, rfl⟩ := hrel
    by_cases hlt : k < n
    · have hkl : k < l.length := by rw [HL.out]; exact hlt
      obtain ⟨b, o, rfl, _⟩ := rd_form_tx HR0.out (by omega)
      have c0 := rd_tx HR0.out hkl
      obtain ⟨Y, hY⟩ : ∃ Y : ByteArray, Y = ⟨l[k].toArray⟩ := ⟨_, rfl⟩
      have cY : w.cell? ⟨b, o + k, none⟩ = some (.string Y) := by rw [c0, hY]
      have hYl : Y.toList = l[k] := by rw [hY, mk_toList]
      by_cases hlx : l[k] < x
      · have he1 : Op.bytesLess Y.toList X.toList = true := by rw [bytesLess_eq, hYl, HX.out]; exact decide_eq_true hlx
        have HN := Lib.hid (show ∀ y ∈ l.take (k + 1), y < x from by
          rw [List.take_succ_eq_append_getElem hkl]
          intro y hy
          rcases List.mem_append.1 hy with hy | hy
          · exact H1.out y hy
          · rw [List.mem_singleton.1 hy]; exact hlx)
        clear c0 hY hYl hlx hkl
        go_wp2_with fail
        go_roundw
        case rel => exact ⟨k + 1, by omega, by go_num, HN, by trivial⟩
        case measure => simp [intOf]; omega
      · have he1 : Op.bytesLess Y.toList X.toList = false := by rw [bytesLess_eq, hYl, HX.out]; exact decide_eq_false hlx
        by_cases hex : l[k] = x
        · have he2 : (Y.toList == X.toList) = true := by rw [hYl, HX.out, hex]; simp
          have HRES := Lib.hid (put_there HU.out (show x ∈ l from hex ▸ List.getElem_mem hkl))
          clear c0 hY hYl hlx hex hkl
          go_wp2_with fail
          go_ret
          refine ⟨_, rfl, ?_, Below.refl _ _⟩
          rw [← HRES.out, HL.out]
          exact HO.out
        · have he2 : (Y.toList == X.toList) = false := by rw [hYl, HX.out, beq_eq_false_iff_ne]; exact hex
          have H2 := Lib.hid (drop_gt HU.out hkl (gt_of hlx hex))
          clear c0 hY hYl hlx hex hkl
          have HRES := Lib.hid (put_at HU.out H1.out H2.out)
          go_wp2_with (at_builtin; refine wpList_append_rd _ rfl (.tmp 34) (.tmp 36) _ rfl B 9 i0 _ 1 16 Tryz.underlying23 hi hz0 hz1 hz2 rfl (by decide) _ n (txs l) rfl (HO.out.alloc _) _ (some ⟨w.heap.size, 0, none⟩) 1 1 [.string X] rfl rfl (rd_new _ _ [.string X] _ (by simp)) (by simp [Value.oneCell']) (by unfold maxLen; omega) (by omega) (by have := HB.out; simp; omega) ?_; intro v1 w1 hown1 hgr1 _; have HB1 := Lib.hid (show Below B w w1 from ((Below.refl _ _).alloc HB.out _).grown hgr1 (by have := HB.out; simp; omega) (fun j hj => (HO.out.lt j hj).1)); have HO1 := Lib.hid hown1; obtain ⟨g, c1, hv, hgb⟩ : ∃ g cap, v1 = .slice (some ⟨g, 0, none⟩) (n + 1) cap ∧ B ≤ g := (by
            rcases hown1.2 with ⟨h1, h2⟩ | ⟨g, cap, cur, hv, h1, _⟩
            · omega
            · exact ⟨g, cap, hv, h1⟩); subst hv; clear hown1 hgr1)
          have HGB := Lib.hid hgb
          have HST := Lib.hid (show w1.ownsRow B 9 1 (.slice (some ⟨g, 0, none⟩) (n + 1) c1) (n + 1) (txs (l.take n ++ x :: l.drop n)) from by
            have e : l.take n ++ x :: l.drop n = l ++ [x] := by rw [← HL.out]; exact ins_end l x
            rw [e, txs_append]
            have e2 : txs [x] = [.string X] := by rw [toList_mk HX.out]; rfl
            rw [e2]; exact HO1.out)
          clear hgb HO1
          go_wp2_with fail
          go_loopw [6] (fun i wr => ∃ q : Nat, k ≤ q ∧ q ≤ n ∧ i = .int .i64 q ∧ Hid (wr.ownsRow B 9 1 (.slice (some ⟨g, 0, none⟩) (n + 1) c1) (n + 1) (txs (l.take q ++ x :: l.drop q))) ∧ Hid (Below B w wr)) (fun i _ => (intOf i).toNat)
          case atStart => exact ⟨n, by omega, Nat.le_refl _, by go_num, HST, HB1⟩
          case round =>
            obtain ⟨q, hq1, hq2, rfl, HR, HBR⟩ := hrel
            by_cases hqk : k < q
            · obtain ⟨p, rfl⟩ : ∃ p, q = p + 1 := ⟨q - 1, by omega⟩
              have hpl : p < l.length := by rw [HL.out]; omega
              have hc0 : wr.cell? ⟨g, p, none⟩ = some (encStr l[p]) := by
                rw [HR.out.cellAt p (by omega), txs_get' (ins_get hpl x)]
              obtain ⟨u1, hc1⟩ : ∃ u, wr.cell? ⟨g, p + 1, none⟩ = some u := ⟨_, by rw [HR.out.cellAt (p + 1) (by omega), txs_getD (show p + 1 < (l.take (p + 1) ++ x :: l.drop (p + 1)).length by rw [ins_len]; omega)]⟩
              have hf1 := HR.out.frozenAt (p + 1)
              obtain ⟨o1, g1⟩ := HR.out.stored (p + 1) (encStr l[p])
              obtain ⟨o2, g2⟩ := o1.stored p (encStr x)
              rw [txs_set, txs_set, ins_down hpl x] at o2
              obtain ⟨Z, hZ⟩ : ∃ Z : ByteArray, Z = ⟨l[p].toArray⟩ := ⟨_, rfl⟩
              have eZ : encStr l[p] = .string Z := by rw [hZ]
              have eX : encStr x = .string X := by rw [toList_mk HX.out]
              rw [eZ] at hc0 o1 o2 g1 g2
              rw [eX] at o2 g2
              have hc2 : (wr.setCell ⟨g, p + 1, none⟩ (.string Z)).cell? ⟨g, p, none⟩ = some (.string Z) := by
                rw [World.cell?_setCell_other _ _ _ _ (by intro e; injection e with _ e; omega)]; exact hc0
              have hf2 : (wr.setCell ⟨g, p + 1, none⟩ (.string Z)).frozen? ⟨g, p, none⟩ = false := o1.frozenAt p
              have HR2 := Lib.hid o2
              have hsb := HBR.out.size
              have hbb := HB.out
              have HB2 := Lib.hid (show Below B w ((wr.setCell ⟨g, p + 1, none⟩ (.string Z)).setCell ⟨g, p, none⟩ (.string X)) from HBR.out.grown (g1.trans g2) (by omega) (fun j hj => by have : g = j := Option.some.inj hj; have := HGB.out; omega))
              clear o1 o2 g1 g2 hZ eZ eX hpl hsb hbb
              go_wp2_with fail
              go_roundw
              case rel => exact ⟨p, by omega, by omega, by go_num, HR2, HB2⟩
              case measure => simp [intOf] <;> omega
            · obtain rfl : q = k := by omega
              go_wp2_with fail
              go_ret
              refine ⟨_, rfl, ?_, HBR.out⟩
              have h := HR.out
              have hlen := ins_len l x q
              rw [HRES.out] at h hlen
              rw [hlen, HL.out]
              exact h
    · obtain rfl : k = n := by omega
      have H2 := Lib.hid (show ∀ y ∈ l.drop k, x < y from fun y hy => by rw [List.drop_eq_nil_of_le (by rw [HL.out]; exact Nat.le_refl _)] at hy; simp at hy)
      have HRES := Lib.hid (put_at HU.out H1.out H2.out)
      go_wp2_with (at_builtin; refine wpList_append_rd _ rfl (.tmp 34) (.tmp 36) _ rfl B 9 i0 _ 1 16 Tryz.underlying23 hi hz0 hz1 hz2 rfl (by decide) _ k (txs l) rfl (HO.out.alloc _) _ (some ⟨w.heap.size, 0, none⟩) 1 1 [.string X] rfl rfl (rd_new _ _ [.string X] _ (by simp)) (by simp [Value.oneCell']) (by unfold maxLen; omega) (by omega) (by have := HB.out; simp; omega) ?_; intro v1 w1 hown1 hgr1 _; have HB1 := Lib.hid (show Below B w w1 from ((Below.refl _ _).alloc HB.out _).grown hgr1 (by have := HB.out; simp; omega) (fun j hj => (HO.out.lt j hj).1)); have HO1 := Lib.hid hown1; obtain ⟨g, c1, hv, hgb⟩ : ∃ g cap, v1 = .slice (some ⟨g, 0, none⟩) (k + 1) cap ∧ B ≤ g := (by
        rcases hown1.2 with ⟨h1, h2⟩ | ⟨g, cap, cur, hv, h1, _⟩
        · omega
        · exact ⟨g, cap, hv, h1⟩); subst hv; clear hown1 hgr1)
      have HGB := Lib.hid hgb
      have HST := Lib.hid (show w1.ownsRow B 9 1 (.slice (some ⟨g, 0, none⟩) (k + 1) c1) (k + 1) (txs (l.take k ++ x :: l.drop k)) from by
        have e : l.take k ++ x :: l.drop k = l ++ [x] := by rw [← HL.out]; exact ins_end l x
        rw [e, txs_append]
        have e2 : txs [x] = [.string X] := by rw [toList_mk HX.out]; rfl
        rw [e2]; exact HO1.out)
      clear hgb HO1
      go_wp2_with fail
      go_loopw [6] (fun i wr => ∃ q : Nat, k ≤ q ∧ q ≤ k ∧ i = .int .i64 q ∧ Hid (wr.ownsRow B 9 1 (.slice (some ⟨g, 0, none⟩) (k + 1) c1) (k + 1) (txs (l.take q ++ x :: l.drop q))) ∧ Hid (Below B w wr)) (fun i _ => (intOf i).toNat)
      case atStart => exact ⟨k, by omega, Nat.le_refl _, by go_num, HST, HB1⟩
      case round =>
        obtain ⟨q, hq1, hq2, rfl, HR, HBR⟩ := hrel
        by_cases hqk : k < q
        · omega
        · obtain rfl : q = k := by omega
          go_wp2_with fail
          go_ret
          refine ⟨_, rfl, ?_, HBR.out⟩
          have h := HR.out
          have hlen := ins_len l x q
          rw [HRES.out] at h hlen
          rw [hlen, HL.out]
          exact h
end Go.Proofs.YtipcbiecdabihaaGreat.Sset

/-
  CONTRACT OF THE DOCUMENT's odd: the texts that may be odd, rising.
-/
namespace Go.Proofs.YtipcbiecdabihaaGreat.Sset
open Go.RowKit
open Utf (Rd Blk bys bys_len nums nums_len wpList_append_rd own_ne)
open Rset
set_option maxRecDepth 100000

theorem own_lenT {w : World} {B n : Nat} {v : Value} {l : List Tx} (h : w.ownsRow B 9 1 v n (txs l)) : l.length = n := by have := h.1; rwa [txs_len, Nat.mul_one] at this
theorem okT_q (x : Tx) (hg : good x = true) : okT x = decide (1 < (rns x).length) := by
  unfold okT rns; rw [hg, List.length_map, Bool.true_and]; rfl
theorem okT_bad (x : Tx) (hg : good x = false) : okT x = false := by unfold okT; rw [hg]; rfl
set_option maxHeartbeats 8000000 in
theorem rodd_any (A : Option Addr) (l : List Tx) (n c : Nat) (w : World) (h : ArgT w A n l) :
    Calls Tryz.prog 46 #[.slice A n c] w (OwnT w.heap.size w (odds l)) := by
  have H := Lib.hid h
  have hn := h.sm
  clear h
  go_enter Tryz.func46, Tryz.ntmps46
  go_wp2_with fail
  go_loopw [3, 4] (fun r i wr => ∃ (k m : Nat), k ≤ n ∧ i = .int .i64 k ∧ m ≤ k ∧ Hid (wr.ownsRow w.heap.size 9 1 r m (txs (odds (l.take k)))) ∧ Hid (Below w.heap.size w wr)) (fun _ i _ => n - (intOf i).toNat)
  case atStart => exact ⟨0, 0, Nat.zero_le _, rfl, Nat.le_refl _, Lib.hid (by rw [List.take_zero, odds_nil]; exact World.ownsRow_nil _ _ _ _), Lib.hid (Below.refl _ _)⟩
  case round =>
    obtain ⟨k, m, hk, rfl, hmk, HR, HB⟩ := hrel
    by_cases hlt : k < n
    · have hkl : k < l.length := by rw [H.out.len]; exact hlt
      have hT2 := H.out.next HB.out
      obtain ⟨bt, ot, rfl, _⟩ := rd_form_tx hT2.rd (by omega)
      have c0 := rd_tx hT2.rd hkl
      have hxl := H.out.short _ (List.getElem_mem hkl)
      have HS := Lib.hid (odds_take hkl)
      obtain ⟨x, hx⟩ : ∃ x, x = l[k] := ⟨_, rfl⟩
      rw [← hx] at c0 hxl HS
      obtain ⟨X, hX⟩ : ∃ X : ByteArray, X = ⟨x.toArray⟩ := ⟨_, rfl⟩
      have HC := Lib.hid (show ∀ u, Below wr.heap.size wr u → u.cell? ⟨bt, ot + k, none⟩ = some (.string X) from fun u hu => by
        have := rd_tx (hT2.next hu).rd hkl
        rw [this, ← hx, hX])
      have cX := HC.out wr (Below.refl _ _)
      have HX := Lib.hid (show X.toList = x by rw [hX, mk_toList])
      have HXL := Lib.hid hxl
      clear c0 hX hx hkl hT2 hxl
      go_wp2_with fail
      clear cX
      refine (good_any X x HX.out HXL.out _).mono ?_
      rintro e w2 ⟨rfl, hb2⟩
      have HB2 := Lib.hid hb2
      clear hb2
      cases hg : good x with
      | false =>
        have HS2 := Lib.hid (show odds (l.take (k + 1)) = odds (l.take k) by rw [HS.out, okT_bad x hg]; rfl)
        have HR2 := Lib.hid (own_below HR.out HB2.out)
        have HB3 := Lib.hid (HB.out.trans (HB2.out.mono HB.out.size))
        clear HS hg HC
        go_wp2_with fail
        go_roundw
        case rel => exact ⟨k + 1, m, by omega, by go_num, by omega, by rw [HS2.out]; exact HR2, HB3⟩
        case measure => simp [intOf]; omega
      | true =>
        have HQ := Lib.hid (okT_q x hg)
        obtain ⟨nx, hnx⟩ : ∃ nx, x.length = nx := ⟨_, rfl⟩
        have hnx2 : nx ≤ 1073741824 := by rw [← hnx]; exact HXL.out
        obtain ⟨gx, Cx, W4, hcv, hr4, hb4, _, _⟩ := conv_str w2 X x HX.out nx hnx (by omega)
        have HRN := Lib.hid (rrunes_any (some ⟨gx, 0, none⟩) x nx Cx W4 hr4 hnx (by omega))
        have HB4 := Lib.hid hb4
        have cX := HC.out w2 HB2.out
        clear hr4 hb4 hnx hg
        go_wp2_with fail
        refine HRN.out.mono ?_
        rintro e w5 ⟨v5, rfl, o5, hb5⟩
        obtain ⟨A5, c5, rfl, _, _, _⟩ := own_form o5
        have HB5 := Lib.hid (HB2.out.trans ((HB4.out.trans (hb5.mono HB4.out.size)).mono HB2.out.size))
        have HR5 := Lib.hid (own_below HR.out HB5.out)
        have HB6 := Lib.hid (HB.out.trans (HB5.out.mono HB.out.size))
        have cX5 := HC.out w5 HB5.out
        clear o5 hb5 hcv cX HRN HB4 HR HC
        generalize (rns x).length = q at HQ ⊢
        by_cases hq : 1 < q
        · have hq2 : (1 : Int) < (q : Int) := by omega
          have HS2 := Lib.hid (show odds (l.take (k + 1)) = rise (odds (l.take k) ++ [x]) by rw [HS.out, HQ.out, decide_eq_true hq, if_pos rfl])
          have HP := Lib.hid (rput_any w.heap.size m _ (odds (l.take k)) X x HX.out w5 HR5.out HB6.out.size (odds_up _) (by omega))
          clear HQ hq HS
          go_wp2_with fail
          refine HP.out.mono ?_
          rintro e w7 ⟨v7, rfl, o7, hb7⟩
          have HR7 := Lib.hid o7
          have HB7 := Lib.hid (HB6.out.trans hb7)
          have hm2 : (rise (odds (l.take k) ++ [x])).length ≤ k + 1 := Nat.le_trans (rise_len _) (by rw [List.length_append, own_lenT HR5.out]; simp; omega)
          clear o7 hb7 HP cX5 HR5
          go_wp2_with fail
          go_roundw
          case rel => exact ⟨k + 1, _, by omega, by go_num, hm2, by rw [HS2.out]; exact HR7, HB7⟩
          case measure => simp [intOf]; omega
        · have hq2 : ¬ (1 : Int) < (q : Int) := by omega
          have HS2 := Lib.hid (show odds (l.take (k + 1)) = odds (l.take k) by rw [HS.out, HQ.out, decide_eq_false hq]; rfl)
          clear HQ hq HS cX5
          go_wp2_with fail
          go_roundw
          case rel => exact ⟨k + 1, m, by omega, by go_num, by omega, by rw [HS2.out]; exact HR5, HB6⟩
          case measure => simp [intOf]; omega
    · obtain rfl : k = n := by omega
      have HT := Lib.hid (show l.take k = l from List.take_of_length_le (by rw [H.out.len]; exact Nat.le_refl _))
      rw [HT.out] at HR
      go_wp2_with fail
      go_ret
      refine ⟨_, rfl, ?_, HB.out⟩
      rw [own_lenT HR.out]
      exact HR.out
end Go.Proofs.YtipcbiecdabihaaGreat.Sset

/-
  CONTRACT OF THE DOCUMENT's Norm.
-/
namespace Go.Proofs.YtipcbiecdabihaaGreat.Sset
open Go.RowKit
open Utf (Rd Blk bys bys_len nums nums_len wpList_append_rd own_ne)
open Rset
set_option maxRecDepth 100000

set_option maxHeartbeats 8000000 in
theorem rsnorm_any (A1 A2 A3 : Option Addr) (n1 c1 n2 c2 n3 c3 : Nat) (a : St) (w : World) (h : Has3 w A1 n1 A2 n2 A3 n3 a) :
    Calls Tryz.prog 26 #[.agg #[.slice A1 n1 c1, .slice A2 n2 c2, .slice A3 n3 c3]] w (OwnS w (normS a)) := by
  obtain ⟨g0, hg0⟩ : ∃ g0, g0 = w.heap.size := ⟨_, rfl⟩
  obtain ⟨g1, hg1⟩ : ∃ g1, g1 = w.heap.size + 1 := ⟨_, rfl⟩
  obtain ⟨W1, hW1⟩ : ∃ W1, W1 = (w.alloc (.cells #[.slice A1 n1 c1, .slice A2 n2 c2, .slice A3 n3 c3] 25)).alloc (.cells #[.slice none 0 0, .slice none 0 0, .slice none 0 0] 25) := ⟨_, rfl⟩
  have b0 : BlkS W1 g0 (.slice A1 n1 c1) (.slice A2 n2 c2) (.slice A3 n3 c3) := by rw [hW1, hg0]; exact (BlkS.new w _ _ _).alloc _
  have b1 : BlkS W1 g1 (.slice none 0 0) (.slice none 0 0) (.slice none 0 0) := by
    have := BlkS.new (w.alloc (.cells #[.slice A1 n1 c1, .slice A2 n2 c2, .slice A3 n3 c3] 25)) (.slice none 0 0) (.slice none 0 0) (.slice none 0 0)
    rw [hW1, hg1]; simpa using this
  have hbw : Below w.heap.size w W1 := by rw [hW1]; exact ((Below.refl _ _).alloc (Nat.le_refl _) _).alloc (by simp) _
  have H := Lib.hid (h.next hbw); have HB0 := Lib.hid b0; have HB1 := Lib.hid b1; have HBW := Lib.hid hbw; have HW1 := Lib.hid hW1; have HG0 := Lib.hid hg0; have HG1 := Lib.hid hg1
  have HGL := Lib.hid (show w.heap.size ≤ g1 from by omega)
  have HSW := Lib.hid (show ∀ u, Below W1.heap.size W1 u → u.cell? ⟨g0, 0, none⟩ = some (.slice A1 n1 c1) ∧ u.cell? ⟨g0, 1, none⟩ = some (.slice A2 n2 c2) ∧ u.cell? ⟨g0, 2, none⟩ = some (.slice A3 n3 c3) from fun u hu => ⟨(HB0.out.next hu).c0, (HB0.out.next hu).c1, (HB0.out.next hu).c2⟩)
  have HN1 := Lib.hid (show ∀ u, Below W1.heap.size W1 u → Calls Tryz.prog 25 #[.slice A1 n1 c1] u (Own u (norm a.s)) from fun u hu => by
    have k := (H.out.next hu).s; exact Rset.rnorm_any A1 a.s n1 c1 u k.rd k.len (by have := k.sm; omega))
  have HN2 := Lib.hid (show ∀ u, Below W1.heap.size W1 u → Calls Tryz.prog 25 #[.slice A2 n2 c2] u (Own u (norm a.m)) from fun u hu => by
    have k := (H.out.next hu).m; exact Rset.rnorm_any A2 a.m n2 c2 u k.rd k.len (by have := k.sm; omega))
  have HN3 := Lib.hid (show ∀ u, Below W1.heap.size W1 u → _ from fun u hu => rodd_any A3 a.o n3 c3 u (H.out.next hu).o)
  have HQ0 := Lib.hid (show Below W1.heap.size W1 W1.drew from (Below.refl _ _).drew)
  clear h hW1 b0 b1 hbw hg0 hg1
  go_enter Tryz.func26, Tryz.ntmps26
  go_wp2_with fail
  rw [← HW1.out, ← HG1.out, ← HG0.out]
  refine wp_region_held_drew (S := fun u => u.cell? ⟨g0, 0, none⟩ = some (.slice A1 n1 c1) ∧ u.cell? ⟨g0, 1, none⟩ = some (.slice A2 n2 c2) ∧ u.cell? ⟨g0, 2, none⟩ = some (.slice A3 n3 c3)) (by kernel_rfl) (HSW.out _ HQ0.out) (fun hHeld => ?_)
  refine wpAnyH_take (i := 0) (oi := _) (v := ?_) rfl (by kernel_rfl) (by kernel_rfl) (by kernel_rfl) (fun _ _ _ h => h) (Or.inl ⟨by rfl, ?_⟩) (by assumption) ?_
  rotate_left
  · (intro w hSw; (try dsimp only at hSw); (try obtain ⟨s1_, s2_, s3_⟩ := hSw); go_simp <;> with_reducible rfl)
  simp only [List.getElem_toArray, List.getElem_cons_zero, Act.put, List.setIfInBounds_toArray, List.set_cons_zero, List.set_cons_succ]
  refine wpAnyH_take (i := 1) (oi := _) (v := ?_) rfl (by kernel_rfl) (by kernel_rfl) (by kernel_rfl) (fun _ _ _ h => h) (Or.inl ⟨by rfl, ?_⟩) (by assumption) ?_
  rotate_left
  · (intro w hSw; (try dsimp only at hSw); (try obtain ⟨s1_, s2_, s3_⟩ := hSw); go_simp <;> with_reducible rfl)
  simp only [List.getElem_toArray, List.getElem_cons_succ, List.getElem_cons_zero, Act.put, List.setIfInBounds_toArray, List.set_cons_zero, List.set_cons_succ]
  refine wpAnyH_take (i := 3) (oi := _) (v := ?_) rfl (by kernel_rfl) (by kernel_rfl) (by kernel_rfl) (fun _ _ _ h => h) (Or.inl ⟨by rfl, ?_⟩) (by assumption) ?_
  rotate_left
  · (intro w hSw; (try dsimp only at hSw); (try obtain ⟨s1_, s2_, s3_⟩ := hSw); go_simp <;> with_reducible rfl)
  simp only [List.getElem_toArray, List.getElem_cons_succ, List.getElem_cons_zero, Act.put, List.setIfInBounds_toArray, List.set_cons_zero, List.set_cons_succ]
  refine wpAnyH_take (i := 4) (oi := _) (v := ?_) rfl (by kernel_rfl) (by kernel_rfl) (by kernel_rfl) (fun _ _ _ h => h) (Or.inl ⟨by rfl, ?_⟩) (by assumption) ?_
  rotate_left
  · (intro w hSw; (try dsimp only at hSw); (try obtain ⟨s1_, s2_, s3_⟩ := hSw); go_simp <;> with_reducible rfl)
  simp only [List.getElem_toArray, List.getElem_cons_succ, List.getElem_cons_zero, Act.put, List.setIfInBounds_toArray, List.set_cons_zero, List.set_cons_succ]
  refine wpAnyH_take (i := 6) (oi := _) (v := ?_) rfl (by kernel_rfl) (by kernel_rfl) (by kernel_rfl) (fun _ _ _ h => h) (Or.inl ⟨by rfl, ?_⟩) (by assumption) ?_
  rotate_left
  · (intro w hSw; (try dsimp only at hSw); (try obtain ⟨s1_, s2_, s3_⟩ := hSw); go_simp <;> with_reducible rfl)
  simp only [List.getElem_toArray, List.getElem_cons_succ, List.getElem_cons_zero, Act.put, List.setIfInBounds_toArray, List.set_cons_zero, List.set_cons_succ]
  refine wpAnyH_take (i := 7) (oi := _) (v := ?_) rfl (by kernel_rfl) (by kernel_rfl) (by kernel_rfl) (fun _ _ _ h => h) (Or.inl ⟨by rfl, ?_⟩) (by assumption) ?_
  rotate_left
  · (intro w hSw; (try dsimp only at hSw); (try obtain ⟨s1_, s2_, s3_⟩ := hSw); go_simp <;> with_reducible rfl)
  simp only [List.getElem_toArray, List.getElem_cons_succ, List.getElem_cons_zero, Act.put, List.setIfInBounds_toArray, List.set_cons_zero, List.set_cons_succ]
  refine wpAnyH_ready (rs := [2]) (by kernel_rfl) (by simp) (AllReadyH.cons rfl (fun K hK => ?_) AllReadyH.nil)
  go_simp
  refine (HN1.out _ HQ0.out).mono ?_
  rintro e u1 ⟨v1, rfl, o1, hb⟩
  obtain ⟨P1, k1, rfl, _, _, _⟩ := own_form o1
  have HO1 := Lib.hid o1
  have HD1 := Lib.hid hb
  have HQ1 := Lib.hid (show Below W1.heap.size W1 u1 from HQ0.out.trans (hb.mono HQ0.out.size))
  clear hb o1
  refine hK.out _ _ (HSW.out _ HQ1.out) (fun hHeld2 => ?_)
  clear hK K hHeld
  have hHeld := hHeld2
  clear hHeld2
  refine wpAnyH_ready (rs := [5]) (by kernel_rfl) (by simp) (AllReadyH.cons rfl (fun K hK => ?_) AllReadyH.nil)
  go_simp
  refine (HN2.out _ HQ1.out).mono ?_
  rintro e u2 ⟨v2, rfl, o2, hb⟩
  obtain ⟨P2, k2, rfl, _, _, _⟩ := own_form o2
  have HO2 := Lib.hid o2
  have HD2 := Lib.hid hb
  have HQ2 := Lib.hid (show Below W1.heap.size W1 u2 from HQ1.out.trans (hb.mono HQ1.out.size))
  clear hb o2
  refine hK.out _ _ (HSW.out _ HQ2.out) (fun hHeld2 => ?_)
  clear hK K hHeld
  have hHeld := hHeld2
  clear hHeld2
  refine wpAnyH_ready (rs := [8]) (by kernel_rfl) (by simp) (AllReadyH.cons rfl (fun K hK => ?_) AllReadyH.nil)
  go_simp
  refine (HN3.out _ HQ2.out).mono ?_
  rintro e u3 ⟨v3, rfl, o3, hb⟩
  obtain ⟨P3, k3, rfl, _, _, _⟩ := own_form o3
  have HO3 := Lib.hid o3
  have HD3 := Lib.hid hb
  have HQ3 := Lib.hid (show Below W1.heap.size W1 u3 from HQ2.out.trans (hb.mono HQ2.out.size))
  clear hb o3
  refine hK.out _ _ (HSW.out _ HQ3.out) (fun hHeld2 => ?_)
  clear hK K hHeld
  have hHeld := hHeld2
  clear hHeld2
  refine wpAnyH_take (i := 9) (oi := _) (v := ?_) rfl (by kernel_rfl) (by kernel_rfl) (by kernel_rfl) (fun _ _ _ h => h) (Or.inl ⟨by rfl, ?_⟩) (by assumption) ?_
  rotate_left
  · (intro w hSw; (try dsimp only at hSw); (try obtain ⟨s1_, s2_, s3_⟩ := hSw); go_simp <;> with_reducible rfl)
  simp only [List.getElem_toArray, List.getElem_cons_succ, List.getElem_cons_zero, Act.put, List.setIfInBounds_toArray, List.set_cons_zero, List.set_cons_succ]
  have HZ := Lib.hid (HB1.out.next HQ3.out)
  have d0 := HZ.out.c0; have d1 := HZ.out.c1; have d2 := HZ.out.c2; have f0 := HZ.out.fr 0; have f1 := HZ.out.fr 1; have f2 := HZ.out.fr 2
  have HS4 := Lib.hid (show ∀ a b c : Value, Below W1.heap.size W1 u3 → (((u3.setCell ⟨g1, 0, none⟩ a).setCell ⟨g1, 1, none⟩ b).setCell ⟨g1, 2, none⟩ c).cell? ⟨g0, 0, none⟩ = some (.slice A1 n1 c1) ∧ (((u3.setCell ⟨g1, 0, none⟩ a).setCell ⟨g1, 1, none⟩ b).setCell ⟨g1, 2, none⟩ c).cell? ⟨g0, 1, none⟩ = some (.slice A2 n2 c2) ∧ (((u3.setCell ⟨g1, 0, none⟩ a).setCell ⟨g1, 1, none⟩ b).setCell ⟨g1, 2, none⟩ c).cell? ⟨g0, 2, none⟩ = some (.slice A3 n3 c3) from fun a b c hu => by
    have k := Blk.grown (HB0.out.next hu) (grown_put u3 g1 a b c) (fun e => by have := Option.some.inj e; have := HG0.out; have := HG1.out; omega)
    exact ⟨Blk.cell k 0, Blk.cell k 1, Blk.cell k 2⟩)
  refine wpAnyH_ready (rs := [10]) (by kernel_rfl) (by simp) (AllReadyH.cons rfl (fun K hK => ?_) AllReadyH.nil)
  go_simp
  refine hK.out _ _ (HS4.out _ _ _ HQ3.out) (fun hHeld2 => ?_)
  clear hK K hHeld
  have hHeld := hHeld2
  clear hHeld2
  clear d0 d1 d2 f0 f1 f2
  refine wpAnyH_done (by kernel_rfl) ?_ _
  go_wp2_with fail
  refine (HZ.out.put _ _ _).ret rfl rfl rfl ?_
  have hs := HBW.out.size
  have hs0 := HQ0.out.size; have hs1 := HQ1.out.size; have hs2 := HQ2.out.size
  exact OwnS.of (a := normS a) HZ.out (own_below (own_below HO1.out HD2.out) HD3.out) (own_below HO2.out HD3.out) HO3.out (HBW.out.trans (HQ3.out.mono HBW.out.size)) HGL.out (Nat.le_trans hs hs0) (Nat.le_trans hs hs1) (Nat.le_trans hs hs2)
theorem r_rsnorm {w : World} {A1 A2 A3 : Option Addr} {n1 n2 n3 : Nat} {a : St} (c1 c2 c3 : Nat) (h : Has3 w A1 n1 A2 n2 A3 n3 a) : Calls Tryz.prog 26 #[.agg #[.slice A1 n1 c1, .slice A2 n2 c2, .slice A3 n3 c3]] w (ResO w (normS a)) :=
  (rsnorm_any A1 A2 A3 n1 c1 n2 c2 n3 c3 a w h).mono fun _ _ q => q.made (normS_nm a) (short_norm h.o.short) (Nat.le_trans (normS_len a) (by have := h.o.len; have := h.o.sm; omega))
end Go.Proofs.YtipcbiecdabihaaGreat.Sset

/-
  ROWS THAT MAY BE WIPED: cells in blocks of one's own, whatever they hold; First's two lists lie apart.
-/
namespace Go.Proofs.YtipcbiecdabihaaGreat.Sset
open Go.ChangeShapes Go.WideShapes Go.ChangeAt Go.RowKit
open Utf (Rd Blk bys bys_len nums nums_len wpList_append_rd own_ne)
open Rset
set_option maxRecDepth 100000

/-- the cells of a row, in a block between B and E -/
def Row (B E : Nat) (w : World) (A : Option Addr) (m : Nat) : Prop := m = 0 ∨ ∃ g, A = some ⟨g, 0, none⟩ ∧ B ≤ g ∧ g < E ∧ ∀ j, j < m → (∃ v, w.cell? ⟨g, j, none⟩ = some v) ∧ w.frozen? ⟨g, j, none⟩ = false
section
variable {B E m : Nat} {u u' : World} {A : Option Addr}
theorem Row.of_own {sz n k c : Nat} {e : TypeId} {xs : List Value} (h : u.ownsRow B e sz (.slice A k c) n xs) (hE : ∀ g, (Value.slice A k c).ownBlock = some g → g < E) : Row B E u A (k * sz) := by
  rcases h.2 with ⟨h1, _⟩ | ⟨g, cap, cur, hv, h1, _⟩
  · left
    injection h1 with _ h2 _
    rw [h2, Nat.zero_mul]
  · right
    injection hv with hA hn hc
    subst hA hn hc
    refine ⟨g, rfl, h1, hE g rfl, fun j hj => ⟨⟨xs[j]'(by rw [h.1]; exact hj), ?_⟩, h.frozenAt j⟩⟩
    rw [h.cellAt j hj, List.getElem?_eq_getElem]
theorem Row.below {D : Nat} (h : Row B E u A m) (hb : Below D u u') (hE : E ≤ D) : Row B E u' A m := by
  rcases h with h | ⟨g, h1, h2, h3, h4⟩
  · exact .inl h
  · refine .inr ⟨g, h1, h2, h3, fun j hj => ?_⟩
    rw [hb.cell (p := ⟨g, j, none⟩) (Nat.lt_of_lt_of_le h3 hE), hb.frozen (p := ⟨g, j, none⟩) (Nat.lt_of_lt_of_le h3 hE)]
    exact h4 j hj
theorem Row.mono {B' E' : Nat} (h : Row B E u A m) (hB : B' ≤ B) (hE : E ≤ E') : Row B' E' u A m := by
  rcases h with h | ⟨g, h1, h2, h3, h4⟩
  · exact .inl h
  · exact .inr ⟨g, h1, Nat.le_trans hB h2, Nat.lt_of_lt_of_le h3 hE, h4⟩
theorem Row.set (h : Row B E u A m) (p : Addr) (v : Value) : Row B E (u.setCell p v) A m := by
  rcases h with h | ⟨g, h1, h2, h3, h4⟩
  · exact .inl h
  · refine .inr ⟨g, h1, h2, h3, fun j hj => ?_⟩
    obtain ⟨⟨x, hx⟩, hf⟩ := h4 j hj
    exact ⟨cell?_setCell_some hx, by rw [World.frozen?_setCell]; exact hf⟩
end
/-- a set that can be read, and wiped -/
structure HasW (B : Nat) (w : World) (A1 : Option Addr) (n1 : Nat) (A2 : Option Addr) (n2 : Nat) (A3 : Option Addr) (n3 : Nat) (a : St) : Prop where
  has : Has3 w A1 n1 A2 n2 A3 n3 a
  r1 : Row B w.heap.size w A1 (n1 * 2)
  r2 : Row B w.heap.size w A2 (n2 * 2)
  r3 : Row B w.heap.size w A3 (n3 * 1)
theorem HasW.next {B : Nat} {w w' : World} {A1 A2 A3 : Option Addr} {n1 n2 n3 : Nat} {a : St} (h : HasW B w A1 n1 A2 n2 A3 n3 a) (hb : Below w.heap.size w w') : HasW B w' A1 n1 A2 n2 A3 n3 a :=
  ⟨h.has.next hb, (h.r1.below hb (Nat.le_refl _)).mono (Nat.le_refl _) hb.size, (h.r2.below hb (Nat.le_refl _)).mono (Nat.le_refl _) hb.size, (h.r3.below hb (Nat.le_refl _)).mono (Nat.le_refl _) hb.size⟩
theorem Made.wide {B : Nat} {w w' : World} {A1 A2 A3 : Option Addr} {n1 c1 n2 c2 n3 c3 : Nat} {a : St} (h : Made w w' A1 n1 c1 A2 n2 c2 A3 n3 c3 a) (hB : B ≤ w.heap.size) : HasW B w' A1 n1 A2 n2 A3 n3 a :=
  ⟨h.has, (Row.of_own h.o1 fun g hg => (h.o1.lt g hg).2).mono hB (Nat.le_refl _), (Row.of_own h.o2 fun g hg => (h.o2.lt g hg).2).mono hB (Nat.le_refl _), (Row.of_own h.o3 fun g hg => (h.o3.lt g hg).2).mono hB (Nat.le_refl _)⟩
def ArgW (B : Nat) (w : World) (v : Value) (a : St) : Prop := ∃ A1 n1 c1 A2 n2 c2 A3 n3 c3, v = .agg #[.slice A1 n1 c1, .slice A2 n2 c2, .slice A3 n3 c3] ∧ HasW B w A1 n1 A2 n2 A3 n3 a
theorem ArgW.next {B : Nat} {w w' : World} {v : Value} {a : St} (h : ArgW B w v a) (hb : Below w.heap.size w w') : ArgW B w' v a := by
  obtain ⟨A1, n1, c1, A2, n2, c2, A3, n3, c3, rfl, h⟩ := h
  exact ⟨A1, n1, c1, A2, n2, c2, A3, n3, c3, rfl, h.next hb⟩
structure BxW (B : Nat) (w : World) (g : Nat) (A1 : Option Addr) (n1 c1 : Nat) (A2 : Option Addr) (n2 c2 : Nat) (A3 : Option Addr) (n3 c3 : Nat) (a : St) : Prop where
  blk : BlkS w g (.slice A1 n1 c1) (.slice A2 n2 c2) (.slice A3 n3 c3)
  has : HasW B w A1 n1 A2 n2 A3 n3 a
theorem row_put {B E g m : Nat} {w : World} {A : Option Addr} (h : Row B E w A m) (a b c : Value) : Row B E (((w.setCell ⟨g, 0, none⟩ a).setCell ⟨g, 1, none⟩ b).setCell ⟨g, 2, none⟩ c) A m := ((h.set _ _).set _ _).set _ _
theorem hasW_put {B : Nat} {w : World} {g : Nat} {B1 B2 B3 A1 A2 A3 : Option Addr} {m1 m2 m3 n1 c1 n2 c2 n3 c3 : Nat} {s : St} (h : HasW B w B1 m1 B2 m2 B3 m3 s)
    (hz : BlkS w g (.slice A1 n1 c1) (.slice A2 n2 c2) (.slice A3 n3 c3)) (a b c : Value) : HasW B (((w.setCell ⟨g, 0, none⟩ a).setCell ⟨g, 1, none⟩ b).setCell ⟨g, 2, none⟩ c) B1 m1 B2 m2 B3 m3 s := by
  have hs : (((w.setCell ⟨g, 0, none⟩ a).setCell ⟨g, 1, none⟩ b).setCell ⟨g, 2, none⟩ c).heap.size = w.heap.size := by simp
  exact ⟨has3_put h.has hz _ _ _, by rw [hs]; exact row_put h.r1 _ _ _, by rw [hs]; exact row_put h.r2 _ _ _, by rw [hs]; exact row_put h.r3 _ _ _⟩
theorem bxW_far {B : Nat} {w : World} {g g' : Nat} {A1 A2 A3 B1 B2 B3 : Option Addr} {n1 c1 n2 c2 n3 c3 m1 d1 m2 d2 m3 d3 : Nat} {s : St} (h : BxW B w g A1 n1 c1 A2 n2 c2 A3 n3 c3 s) (hne : g' ≠ g)
    (hz : BlkS w g' (.slice B1 m1 d1) (.slice B2 m2 d2) (.slice B3 m3 d3)) (a b c : Value) : BxW B (((w.setCell ⟨g', 0, none⟩ a).setCell ⟨g', 1, none⟩ b).setCell ⟨g', 2, none⟩ c) g A1 n1 c1 A2 n2 c2 A3 n3 c3 s :=
  ⟨blkS_far h.blk hne _ _ _, hasW_put h.has hz _ _ _⟩
/-- three slices at a place, that may be wiped -/
def Trio (B E : Nat) (u : World) (gA k : Nat) : Prop := ∃ A1 n1 c1 A2 n2 c2 A3 n3 c3, u.cell? ⟨gA, k, none⟩ = some (.slice A1 n1 c1) ∧ u.cell? ⟨gA, k + 1, none⟩ = some (.slice A2 n2 c2) ∧ u.cell? ⟨gA, k + 2, none⟩ = some (.slice A3 n3 c3) ∧
  Row B E u A1 (n1 * 2) ∧ Row B E u A2 (n2 * 2) ∧ Row B E u A3 (n3 * 1) ∧ n1 ≤ 8388608 ∧ n2 ≤ 8388608 ∧ n3 ≤ 1073741824
section
variable {B E gA k : Nat} {w0 u u' : World}
theorem Trio.set (h : Trio B E u gA k) {g j : Nat} (hg : g ≠ gA) (v : Value) : Trio B E (u.setCell ⟨g, j, none⟩ v) gA k := by
  obtain ⟨A1, n1, c1, A2, n2, c2, A3, n3, c3, q1, q2, q3, r1, r2, r3, l⟩ := h
  refine ⟨A1, n1, c1, A2, n2, c2, A3, n3, c3, ?_, ?_, ?_, r1.set _ _, r2.set _ _, r3.set _ _, l⟩
  · rw [World.cell?_setCell_far _ _ _ _ hg]; exact q1
  · rw [World.cell?_setCell_far _ _ _ _ hg]; exact q2
  · rw [World.cell?_setCell_far _ _ _ _ hg]; exact q3
theorem Trio.below {D : Nat} (h : Trio B E u gA k) (hb : Below D u u') (hA : gA < D) (hE : E ≤ D) : Trio B E u' gA k := by
  obtain ⟨A1, n1, c1, A2, n2, c2, A3, n3, c3, q1, q2, q3, r1, r2, r3, l⟩ := h
  refine ⟨A1, n1, c1, A2, n2, c2, A3, n3, c3, ?_, ?_, ?_, r1.below hb hE, r2.below hb hE, r3.below hb hE, l⟩
  · rw [hb.cell hA]; exact q1
  · rw [hb.cell hA]; exact q2
  · rw [hb.cell hA]; exact q3
theorem HasW.trio {A1 A2 A3 : Option Addr} {n1 c1 n2 c2 n3 c3 : Nat} {a : St} (h : HasW B u A1 n1 A2 n2 A3 n3 a) (hb : Below u.heap.size u u') (q1 : u'.cell? ⟨gA, k, none⟩ = some (.slice A1 n1 c1)) (q2 : u'.cell? ⟨gA, k + 1, none⟩ = some (.slice A2 n2 c2)) (q3 : u'.cell? ⟨gA, k + 2, none⟩ = some (.slice A3 n3 c3)) : Trio B u.heap.size u' gA k :=
  ⟨A1, n1, c1, A2, n2, c2, A3, n3, c3, q1, q2, q3, h.r1.below hb (Nat.le_refl _), h.r2.below hb (Nat.le_refl _), h.r3.below hb (Nat.le_refl _), h.has.s.sm, h.has.m.sm, h.has.o.sm⟩
/-- what stands in the outer loop -/
structure KW (B E : Nat) (w0 u : World) (gA : Nat) : Prop where
  bel : Below B w0 u
  bE : B ≤ E
  eA : E ≤ gA
  lt : gA < u.heap.size
  t0 : Trio B E u gA 0
  t1 : Trio B E u gA 3
  t2 : Trio B E u gA 6
theorem KW.trio (h : KW B E w0 u gA) {i : Nat} (hi : i < 3) : Trio B E u gA (i * 3) := by
  have : i = 0 ∨ i = 1 ∨ i = 2 := by omega
  rcases this with rfl | rfl | rfl
  · exact h.t0
  · exact h.t1
  · exact h.t2
theorem KW.set (h : KW B E w0 u gA) {g j : Nat} (hB : B ≤ g) (hE : g < E) (v : Value) : KW B E w0 (u.setCell ⟨g, j, none⟩ v) gA :=
  have hg : g ≠ gA := by have := h.eA; omega
  ⟨h.bel.setCell (p := ⟨g, j, none⟩) hB v, h.bE, h.eA, by have := h.lt; simp; exact this, h.t0.set hg v, h.t1.set hg v, h.t2.set hg v⟩
theorem KW.next (h : KW B E w0 u gA) (hb : Below u.heap.size u u') : KW B E w0 u' gA :=
  have hE : E ≤ u.heap.size := Nat.le_trans h.eA (Nat.le_of_lt h.lt)
  ⟨h.bel.trans (hb.mono (Nat.le_trans h.bE hE)), h.bE, h.eA, Nat.lt_of_lt_of_le h.lt hb.size, h.t0.below hb h.lt hE, h.t1.below hb h.lt hE, h.t2.below hb h.lt hE⟩
/-- what stands in the inner loops -/
structure KB (B E : Nat) (w0 u : World) (gA gs : Nat) (A1 : Option Addr) (n1 c1 : Nat) (A2 : Option Addr) (n2 c2 : Nat) (A3 : Option Addr) (n3 c3 : Nat) : Prop where
  kw : KW B E w0 u gA
  blk : BlkS u gs (.slice A1 n1 c1) (.slice A2 n2 c2) (.slice A3 n3 c3)
  big : E ≤ gs
  r1 : Row B E u A1 (n1 * 2)
  r2 : Row B E u A2 (n2 * 2)
  r3 : Row B E u A3 (n3 * 1)
variable {gs n1 c1 n2 c2 n3 c3 : Nat} {A1 A2 A3 : Option Addr}
theorem blkS_set {w : World} {g g' : Nat} {v1 v2 v3 : Value} (h : BlkS w g v1 v2 v3) (hne : g' ≠ g) (j : Nat) (v : Value) : BlkS (w.setCell ⟨g', j, none⟩ v) g v1 v2 v3 :=
  Blk.grown h (Utf.grown_set (World.grownBy.refl w (some g')) j v) (fun e => hne (Option.some.inj e.symm))
theorem KB.set (h : KB B E w0 u gA gs A1 n1 c1 A2 n2 c2 A3 n3 c3) {g j : Nat} (hB : B ≤ g) (hE : g < E) (v : Value) : KB B E w0 (u.setCell ⟨g, j, none⟩ v) gA gs A1 n1 c1 A2 n2 c2 A3 n3 c3 :=
  ⟨h.kw.set hB hE v, blkS_set h.blk (by have := h.big; omega) j v, h.big, h.r1.set _ _, h.r2.set _ _, h.r3.set _ _⟩
theorem KW.box (h : KW B E w0 u gA) (r1 : Row B E u A1 (n1 * 2)) (r2 : Row B E u A2 (n2 * 2)) (r3 : Row B E u A3 (n3 * 1)) : KB B E w0 (u.alloc (.cells #[.slice A1 n1 c1, .slice A2 n2 c2, .slice A3 n3 c3] 25)) gA u.heap.size A1 n1 c1 A2 n2 c2 A3 n3 c3 :=
  have hE : E ≤ u.heap.size := Nat.le_trans h.eA (Nat.le_of_lt h.lt)
  ⟨h.next (below_new _ _), BlkS.new u _ _ _, hE, r1.below (below_new _ _) hE, r2.below (below_new _ _) hE, r3.below (below_new _ _) hE⟩
/-- what stands in the last loop: the first list is wiped, the second stays -/
structure KF (B E : Nat) (w0 u : World) (gf : Nat) (A1 : Option Addr) (n1 c1 : Nat) (A2 : Option Addr) (n2 c2 : Nat) (A3 : Option Addr) (n3 c3 : Nat) (L : List Rg) : Prop where
  bel : Below B w0 u
  bE : B ≤ E
  big : E ≤ gf
  blk : BlkS u gf (.slice A1 n1 c1) (.slice A2 n2 c2) (.slice A3 n3 c3)
  r1 : Row B E u A1 (n1 * 2)
  o2 : u.ownsRow E 38 2 (.slice A2 n2 c2) L.length (rgs L)
theorem KF.set {gf : Nat} {L : List Rg} (h : KF B E w0 u gf A1 n1 c1 A2 n2 c2 A3 n3 c3 L) {g j : Nat} (hB : B ≤ g) (hE : g < E) (v : Value) : KF B E w0 (u.setCell ⟨g, j, none⟩ v) gf A1 n1 c1 A2 n2 c2 A3 n3 c3 L :=
  ⟨h.bel.setCell (p := ⟨g, j, none⟩) hB v, h.bE, h.big, blkS_set h.blk (by have := h.big; omega) j v, h.r1.set _ _, h.o2.kept (Utf.grown_set (World.grownBy.refl u (some g)) j v) (.inr fun e => by have := (h.o2.lt g e).1; omega)⟩
end

/-- two lists that lie apart -/
def Two (w : World) (L : List Rg) (e : Ending) (w' : World) : Prop := ∃ E A1 n1 c1 A2 n2 c2, e = .returned (.agg #[.slice A1 n1 c1, .slice A2 n2 c2, .slice none 0 0]) ∧ Row w.heap.size E w' A1 (n1 * 2) ∧ w'.ownsRow E 38 2 (.slice A2 n2 c2) L.length (rgs L) ∧ n1 = L.length ∧ w.heap.size ≤ E ∧ E ≤ w'.heap.size ∧ Below w.heap.size w w'
set_option maxHeartbeats 4000000 in
/-- First, once more: its two lists lie apart -/
theorem sfirst_two (A : Option Addr) (l : List Rg) (n c : Nat) (w : World) (h : ArgR w A n l) :
    Calls Tryz.prog 23 #[.slice A n c] w (Two w (norm l)) := by
  obtain ⟨W0, hW0⟩ : ∃ W0, W0 = w.alloc (.cells #[.slice none 0 0, .slice none 0 0, .slice none 0 0] 25) := ⟨_, rfl⟩
  obtain ⟨g, hg⟩ : ∃ g, g = w.heap.size := ⟨_, rfl⟩
  have hb0 : Below w.heap.size w W0 := by rw [hW0]; exact (Below.refl _ _).alloc (Nat.le_refl _) _
  have k0 : BlkS W0 g (.slice none 0 0) (.slice none 0 0) (.slice none 0 0) := by rw [hW0, hg]; exact BlkS.new w _ _ _
  have HK := Lib.hid k0; have HW := Lib.hid hW0; have HG := Lib.hid hg; have HB0 := Lib.hid hb0
  have HN := Lib.hid (show ∀ u, Below W0.heap.size W0 u → Calls Tryz.prog 31 #[.slice A n c] u (Own u (norm l)) from fun u hu => by
    have k := (h.next hb0).next hu; exact Rset.norm_any A l n c u k.rd k.len k.fit (by have := k.sm; omega))
  generalize norm l = L at HN ⊢
  clear h hW0 hg hb0 k0
  go_enter Tryz.func23, Tryz.ntmps23
  go_wp2_with fail
  rw [← HW.out]
  refine (HN.out _ (Below.refl _ _)).mono ?_
  rintro e w1 ⟨v1, rfl, o1, b1⟩
  obtain ⟨P1, p1, rfl, _, _, _⟩ := own_form o1
  have HO1 := Lib.hid o1; have HB1 := Lib.hid b1
  clear o1 b1
  go_wp2_with fail
  refine (HN.out _ HB1.out).mono ?_
  rintro e w2 ⟨v2, rfl, o2, b2⟩
  obtain ⟨P2, p2, rfl, _, _, _⟩ := own_form o2
  have HO2 := Lib.hid o2; have HB2 := Lib.hid b2
  have HZ := Lib.hid (HK.out.next (HB1.out.trans (b2.mono HB1.out.size)))
  have d0 := HZ.out.c0; have d1 := HZ.out.c1; have d2 := HZ.out.c2; have f0 := HZ.out.fr 0; have f1 := HZ.out.fr 1; have f2 := HZ.out.fr 2
  rw [HG.out] at d0 d1 d2 f0 f1 f2
  clear o2 b2
  go_wp2_with fail
  rw [← HG.out]
  refine (HZ.out.put _ _ _).ret rfl (by rw [HG.out]; rfl) rfl ?_
  refine ⟨w1.heap.size, _, _, _, _, _, _, rfl, ?_, own_putS HO2.out HZ.out (by decide) _ _ _, rfl, Nat.le_trans HB0.out.size HB1.out.size, by simp; exact HB2.out.size, below_put3 (HB0.out.trans ((HB1.out.trans (HB2.out.mono HB1.out.size)).mono HB0.out.size)) (g := g) (by rw [HG.out]; exact Nat.le_refl _) _ _ _⟩
  exact (Row.of_own (own_putS (own_below HO1.out HB2.out) HZ.out (by decide) _ _ _) fun k hk => (HO1.out.lt k hk).2).mono HB0.out.size (Nat.le_refl _)
end Go.Proofs.YtipcbiecdabihaaGreat.Sset

/-
  CONTRACT OF THE DOCUMENT's Copy.
-/
namespace Go.Proofs.YtipcbiecdabihaaGreat.Sset
open Go.ChangeShapes Go.WideShapes Go.ChangeAt Go.RowKit
open Utf (Rd Blk bys bys_len nums nums_len wpList_append_rd own_ne)
open Rset
set_option maxRecDepth 100000

/-- what stands in Copy's loops -/
structure CI (w wr : World) (g B2 : Nat) (v1 v2 v3 : Value) (l1 l2 : List Rg) (l3 : List Tx) : Prop where
  blk : BlkS wr g v1 v2 v3
  big : w.heap.size ≤ g
  o1 : wr.ownsRow w.heap.size 38 2 v1 l1.length (rgs l1)
  o2 : wr.ownsRow B2 38 2 v2 l2.length (rgs l2)
  o3 : wr.ownsRow w.heap.size 9 1 v3 l3.length (txs l3)
  lt : v2.ownBlock = none ∨ ∀ k, v1.ownBlock = some k → k < B2
  bel : Below w.heap.size w wr
  b2 : w.heap.size ≤ B2
  bs : B2 ≤ wr.heap.size
section
variable {w u w' : World} {g B2 : Nat} {v1 v2 v3 v7 : Value} {l1 l2 : List Rg} {l3 : List Tx}
theorem own_rd {w : World} {B m n c sz : Nat} {A : Option Addr} {e : TypeId} {xs : List Value} (h : w.ownsRow B e sz (.slice A n c) m xs) : Rd w w.heap.size A xs := by
  obtain ⟨A', c', e', _, _, hr⟩ := own_form h
  injection e' with e1
  subst e1
  exact hr
theorem CI.next (h : CI w u g B2 v1 v2 v3 l1 l2 l3) (hb : Below u.heap.size u w') : CI w w' g B2 v1 v2 v3 l1 l2 l3 :=
  ⟨h.blk.next hb, h.big, own_below h.o1 hb, own_below h.o2 hb, own_below h.o3 hb, h.lt, h.bel.trans (hb.mono (Nat.le_trans h.b2 h.bs)), h.b2, Nat.le_trans h.bs hb.size⟩
theorem own_apart2 {w : World} {b2 s2 n2 : Nat} {e2 : TypeId} {v1 v2 : Value} {xs2 : List Value} (h2 : w.ownsRow b2 e2 s2 v2 n2 xs2) (hl : v2.ownBlock = none ∨ ∀ k, v1.ownBlock = some k → k < b2) : v1.ownBlock = none ∨ v1.ownBlock ≠ v2.ownBlock := by
  cases hv : v1.ownBlock with
  | none => exact .inl rfl
  | some k =>
    right
    intro e
    rcases hl with hl | hl
    · rw [hl] at e; cases e
    · have := hl k hv
      have := (h2.lt k e.symm).1
      omega
theorem apart_symm {a b : Option Nat} (h : a = none ∨ a ≠ b) : b = none ∨ b ≠ a := by
  cases b with
  | none => exact .inl rfl
  | some k => right; intro e; subst e; rcases h with h | h; cases h; exact h rfl
theorem CI.app1 (h : CI w u g B2 v1 v2 v3 l1 [] l3) (h2 : v2 = .slice none 0 0) (x y : Int) (hg : u.grownBy w' v1.ownBlock) (ho : w'.ownsRow w.heap.size 38 2 v7 (l1.length + 1) (rgs l1 ++ [.int .i32 x, .int .i32 y])) :
    BlkS w' g v1 v2 v3 ∧ CI w (w'.setCell ⟨g, 0, none⟩ v7) g B2 v7 v2 v3 (l1 ++ [(x, y)]) [] l3 := by
  subst h2
  have hk : BlkS w' g v1 (.slice none 0 0) v3 := Blk.grown h.blk hg fun e => own_ne h.o1 h.blk (by decide) e.symm
  have k3 := h.o3.kept hg (own_apart h.o3 h.o1 (by decide))
  refine ⟨hk, Blk.set_ hk 0 v7, h.big, ?_, World.ownsRow_nil _ _ _ _, own_one k3 hk (by decide) 0 v7, .inl rfl, (h.bel.grown hg (Nat.le_trans h.b2 h.bs) (fun k hk => (h.o1.lt k hk).1)).setCell (p := ⟨g, 0, none⟩) h.big v7, h.b2, by have := hg.size; have := h.bs; simp; omega⟩
  have e : rgs (l1 ++ [(x, y)]) = rgs l1 ++ [.int .i32 x, .int .i32 y] := rgs_append l1 [(x, y)]
  rw [e, List.length_append]
  exact own_one ho hk (by decide) 0 v7
theorem CI.app2 (h : CI w u g B2 v1 v2 v3 l1 l2 l3) (hl : ∀ k, v1.ownBlock = some k → k < B2) (x y : Int) (hg : u.grownBy w' v2.ownBlock) (ho : w'.ownsRow B2 38 2 v7 (l2.length + 1) (rgs l2 ++ [.int .i32 x, .int .i32 y])) :
    BlkS w' g v1 v2 v3 ∧ CI w (w'.setCell ⟨g, 1, none⟩ v7) g B2 v1 v7 v3 l1 (l2 ++ [(x, y)]) l3 := by
  have hk : BlkS w' g v1 v2 v3 := Blk.grown h.blk hg fun e => own_ne h.o2 h.blk (by decide) e.symm
  have k1 := h.o1.kept hg (own_apart2 h.o2 (.inr hl))
  have k3 := h.o3.kept hg (own_apart h.o3 h.o2 (by decide))
  refine ⟨hk, Blk.set_ hk 1 v7, h.big, own_one k1 hk (by decide) 1 v7, ?_, own_one k3 hk (by decide) 1 v7, .inr hl, (h.bel.grown hg (Nat.le_trans h.b2 h.bs) (fun k hk => Nat.le_trans h.b2 (h.o2.lt k hk).1)).setCell (p := ⟨g, 1, none⟩) h.big v7, h.b2, by have := hg.size; have := h.bs; simp; omega⟩
  have e : rgs (l2 ++ [(x, y)]) = rgs l2 ++ [.int .i32 x, .int .i32 y] := rgs_append l2 [(x, y)]
  rw [e, List.length_append]
  exact own_one ho hk (by decide) 1 v7
theorem CI.app3 (h : CI w u g B2 v1 v2 v3 l1 l2 l3) (x : Tx) (hg : u.grownBy w' v3.ownBlock) (ho : w'.ownsRow w.heap.size 9 1 v7 (l3.length + 1) (txs l3 ++ [encStr x])) :
    BlkS w' g v1 v2 v3 ∧ CI w (w'.setCell ⟨g, 2, none⟩ v7) g B2 v1 v2 v7 l1 l2 (l3 ++ [x]) := by
  have hk : BlkS w' g v1 v2 v3 := Blk.grown h.blk hg fun e => own_ne h.o3 h.blk (by decide) e.symm
  have k1 := h.o1.kept hg (own_apart h.o1 h.o3 (by decide))
  have k2 := h.o2.kept hg (own_apart h.o2 h.o3 (by decide))
  refine ⟨hk, Blk.set_ hk 2 v7, h.big, own_one k1 hk (by decide) 2 v7, own_one k2 hk (by decide) 2 v7, ?_, h.lt, (h.bel.grown hg (Nat.le_trans h.b2 h.bs) (fun k hk => (h.o3.lt k hk).1)).setCell (p := ⟨g, 2, none⟩) h.big v7, h.b2, by have := hg.size; have := h.bs; simp; omega⟩
  have e : txs (l3 ++ [x]) = txs l3 ++ [encStr x] := txs_append l3 [x]
  rw [e, List.length_append]
  exact own_one ho hk (by decide) 2 v7
/-- the second list begins -/
theorem CI.turn (h : CI w u g B2 v1 v2 v3 l1 [] l3) (h2 : v2 = .slice none 0 0) : CI w u g u.heap.size v1 v2 v3 l1 [] l3 ∧ ∀ k, v1.ownBlock = some k → k < u.heap.size := by
  subst h2
  exact ⟨⟨h.blk, h.big, h.o1, World.ownsRow_nil _ _ _ _, h.o3, .inl rfl, h.bel, Nat.le_trans h.b2 h.bs, Nat.le_refl _⟩, fun k hk => (h.o1.lt k hk).2⟩
end
set_option maxHeartbeats 16000000 in
theorem rcopy_any (A1 A2 A3 : Option Addr) (n1 c1 n2 c2 n3 c3 : Nat) (a : St) (w : World) (h : Has3 w A1 n1 A2 n2 A3 n3 a) :
    Calls Tryz.prog 22 #[.agg #[.slice A1 n1 c1, .slice A2 n2 c2, .slice A3 n3 c3]] w (ResS w a) := by
  obtain ⟨ir, hi, hr0, hr1, hr2⟩ := info_parts infoRg
  obtain ⟨it, ti, ht0, ht1, ht2⟩ := info_parts infoStr
  obtain ⟨g0, hg0⟩ : ∃ g0, g0 = w.heap.size := ⟨_, rfl⟩
  obtain ⟨g1, hg1⟩ : ∃ g1, g1 = w.heap.size + 1 := ⟨_, rfl⟩
  obtain ⟨g2, hg2⟩ : ∃ g2, g2 = w.heap.size + 1 + 1 := ⟨_, rfl⟩
  obtain ⟨W0, hW0⟩ : ∃ W0, W0 = (w.alloc (.cells #[.slice A1 n1 c1, .slice A2 n2 c2, .slice A3 n3 c3] 25)).alloc (.cells #[.slice none 0 0, .slice none 0 0, .slice none 0 0] 25) := ⟨_, rfl⟩
  obtain ⟨W1, hW1⟩ : ∃ W1, W1 = W0.alloc (.cells #[.slice none 0 0, .slice none 0 0, .slice none 0 0] 25) := ⟨_, rfl⟩
  have hs0 : W0.heap.size = g2 := by rw [hW0, hg2]; simp
  have b0 : BlkS W0 g0 (.slice A1 n1 c1) (.slice A2 n2 c2) (.slice A3 n3 c3) := by rw [hW0, hg0]; exact (BlkS.new w _ _ _).alloc _
  have b1 : BlkS W0 g1 (.slice none 0 0) (.slice none 0 0) (.slice none 0 0) := by
    have := BlkS.new (w.alloc (.cells #[.slice A1 n1 c1, .slice A2 n2 c2, .slice A3 n3 c3] 25)) (.slice none 0 0) (.slice none 0 0) (.slice none 0 0)
    rw [hW0, hg1]; simpa using this
  have hbw : Below w.heap.size w W0 := by rw [hW0]; exact ((Below.refl _ _).alloc (Nat.le_refl _) _).alloc (by simp) _
  have HST := Lib.hid (show CI W0 W1 g2 W0.heap.size (.slice none 0 0) (.slice none 0 0) (.slice none 0 0) (a.s.take 0) [] [] from by
    rw [hW1, ← hs0]
    exact ⟨BlkS.new W0 _ _ _, Nat.le_refl _, World.ownsRow_nil _ _ _ _, World.ownsRow_nil _ _ _ _, World.ownsRow_nil _ _ _ _, .inl rfl, below_new _ _, Nat.le_refl _, by simp⟩)
  have H := Lib.hid (h.next hbw); have HB0 := Lib.hid b0; have HB1 := Lib.hid b1; have HBW := Lib.hid hbw; have HW0 := Lib.hid hW0; have HW1 := Lib.hid hW1; have HG0 := Lib.hid hg0; have HG1 := Lib.hid hg1; have HG2 := Lib.hid hg2
  have HGL := Lib.hid (show w.heap.size ≤ g1 from by omega)
  have hn1 := h.s.sm; have hn2 := h.m.sm; have hn3 := h.o.sm
  clear h hW0 hW1 b0 b1 hbw hg0 hg1 hg2 hs0
  go_enter Tryz.func22, Tryz.ntmps22
  go_wp2_with fail
  rw [← HW0.out, ← HW1.out, ← HG2.out, ← HG1.out, ← HG0.out]
  clear HW0 HW1 HG0 HG1 HG2
  go_loopw [4] (fun i wr => ∃ (k p1 : Nat) (P : Option Addr) (p2 : Nat), k ≤ n1 ∧ i = .int .i64 k ∧ p1 = k ∧ Hid (CI W0 wr g2 W0.heap.size (.slice P p1 p2) (.slice none 0 0) (.slice none 0 0) (a.s.take k) [] [])) (fun i _ => n1 - (intOf i).toNat)
  case atStart => exact ⟨0, 0, none, 0, Nat.zero_le _, rfl, rfl, HST⟩
  case round =>
    clear HST
    obtain ⟨k, p1, P, p2, hk, rfl, rfl, HC⟩ := hrel
    have k0 := (HB0.out.next HC.out.bel).c0
    by_cases hlt : p1 < n1
    · have hkl : p1 < a.s.length := by rw [H.out.s.len]; exact hlt
      have hA := H.out.s
      obtain ⟨b, o, rfl, _⟩ := rd_form_rg hA.rd (by omega)
      have HDT := Lib.hid (show ∀ u, Below W0.heap.size W0 u → u.cell? ⟨b, o + p1 * 2, none⟩ = some (.int .i32 (a.s[p1]).1) ∧ u.cell? ⟨b, o + p1 * 2 + 1, none⟩ = some (.int .i32 (a.s[p1]).2) from fun u hu => rd_rg (hA.next hu).rd hkl)
      have HTK := Lib.hid (show a.s.take (p1 + 1) = a.s.take p1 ++ [((a.s[p1]).1, (a.s[p1]).2)] from List.take_succ_eq_append_getElem hkl)
      generalize (a.s[p1]).1 = x at HDT HTK
      generalize (a.s[p1]).2 = y at HDT HTK
      clear hA hkl
      have HSW := Lib.hid (show ∀ u, Below W0.heap.size W0 u → u.cell? ⟨g0, 0, none⟩ = some (.slice (some ⟨b, o, none⟩) n1 c1) ∧ u.cell? ⟨b, o + p1 * 2, none⟩ = some (.int .i32 x) ∧ u.cell? ⟨b, o + p1 * 2 + 1, none⟩ = some (.int .i32 y) from fun u hu => ⟨(HB0.out.next hu).c0, (HDT.out u hu).1, (HDT.out u hu).2⟩)
      have HQ0 := Lib.hid (show Below wr.heap.size wr wr.drew from (Below.refl _ _).drew)
      have HCD := Lib.hid (HC.out.next HQ0.out)
      go_wp2_with fail
      clear k0
      refine wp_region_held_drew (S := fun u => u.cell? ⟨g0, 0, none⟩ = some (.slice (some ⟨b, o, none⟩) n1 c1) ∧ u.cell? ⟨b, o + p1 * 2, none⟩ = some (.int .i32 x) ∧ u.cell? ⟨b, o + p1 * 2 + 1, none⟩ = some (.int .i32 y)) (by kernel_rfl) (HSW.out _ HCD.out.bel) (fun hHeld => ?_)
      obtain ⟨wd, hwd⟩ : ∃ wd, wd = wr.drew := ⟨_, rfl⟩
      rw [← hwd] at HQ0 HCD hHeld ⊢
      clear hwd
      refine wpAnyH_take (i := 0) (oi := _) (v := ?_) rfl (by kernel_rfl) (by kernel_rfl) (by kernel_rfl) (fun _ _ _ h => h) (Or.inl ⟨by rfl, ?_⟩) (by assumption) ?_
      rotate_left
      · (intro w hSw; (try dsimp only at hSw); (try obtain ⟨s1_, s2_, s3_⟩ := hSw); go_simp <;> with_reducible rfl)
      simp only [List.getElem_toArray, List.getElem_cons_zero, Act.put, List.setIfInBounds_toArray, List.set_cons_zero, List.set_cons_succ]
      refine wpAnyH_take (i := 2) (oi := _) (v := ?_) rfl (by kernel_rfl) (by kernel_rfl) (by kernel_rfl) (fun _ _ _ h => h) (Or.inl ⟨by rfl, ?_⟩) (by assumption) ?_
      rotate_left
      · (intro w hSw; (try dsimp only at hSw); (try obtain ⟨s1_, s2_, s3_⟩ := hSw); go_simp <;> with_reducible rfl)
      simp only [List.getElem_toArray, List.getElem_cons_succ, List.getElem_cons_zero, Act.put, List.setIfInBounds_toArray, List.set_cons_zero, List.set_cons_succ]
      refine wpAnyH_take (i := 3) (oi := _) (v := ?_) rfl (by kernel_rfl) (by kernel_rfl) (by kernel_rfl) (fun _ _ _ h => h) (Or.inl ⟨by rfl, ?_⟩) (by assumption) ?_
      rotate_left
      · (intro w hSw; (try dsimp only at hSw); (try obtain ⟨s1_, s2_, s3_⟩ := hSw); go_simp <;> with_reducible rfl)
      simp only [List.getElem_toArray, List.getElem_cons_succ, List.getElem_cons_zero, Act.put, List.setIfInBounds_toArray, List.set_cons_zero, List.set_cons_succ]
      refine wpAnyH_take (i := 4) (oi := _) (v := ?_) rfl (by kernel_rfl) (by kernel_rfl) (by kernel_rfl) (fun _ _ _ h => h) (Or.inl ⟨by rfl, ?_⟩) (by assumption) ?_
      rotate_left
      · (intro w hSw; (try dsimp only at hSw); (try obtain ⟨s1_, s2_, s3_⟩ := hSw); go_simp <;> with_reducible rfl)
      simp only [List.getElem_toArray, List.getElem_cons_succ, List.getElem_cons_zero, Act.put, List.setIfInBounds_toArray, List.set_cons_zero, List.set_cons_succ]
      refine wpAnyH_take (i := 5) (oi := _) (v := ?_) rfl (by kernel_rfl) (by kernel_rfl) (by kernel_rfl) (fun _ _ _ h => h) (Or.inl ⟨by rfl, ?_⟩) (by assumption) ?_
      rotate_left
      · (intro w hSw; (try dsimp only at hSw); (try obtain ⟨s1_, s2_, s3_⟩ := hSw); go_simp <;> with_reducible rfl)
      simp only [List.getElem_toArray, List.getElem_cons_succ, List.getElem_cons_zero, Act.put, List.setIfInBounds_toArray, List.set_cons_zero, List.set_cons_succ]
      refine wpAnyH_take (i := 6) (oi := _) (v := ?_) rfl (by kernel_rfl) (by kernel_rfl) (by kernel_rfl) (fun _ _ _ h => h) (Or.inl ⟨by rfl, ?_⟩) (by assumption) ?_
      rotate_left
      · (intro w hSw; (try dsimp only at hSw); (try obtain ⟨s1_, s2_, s3_⟩ := hSw); go_simp <;> with_reducible rfl)
      simp only [List.getElem_toArray, List.getElem_cons_succ, List.getElem_cons_zero, Act.put, List.setIfInBounds_toArray, List.set_cons_zero, List.set_cons_succ]
      refine wpAnyH_ready (rs := [1, 7]) (by kernel_rfl) (by simp) (AllReadyH.cons rfl (fun K hK => ?_) (AllReadyH.cons rfl (fun K hK => ?_) AllReadyH.nil))
      · have e0 := HCD.out.blk.c0
        go_simp
        clear e0
        refine hK.out _ _ (HSW.out _ HCD.out.bel) (fun hHeld2 => ?_)
        clear hK K hHeld
        have hHeld := hHeld2
        clear hHeld2
        refine wpAnyH_ready (rs := [7]) (by kernel_rfl) (by simp) (AllReadyH.cons rfl (fun K hK => ?_) AllReadyH.nil)
        go_simp
        have HQ1 := Lib.hid (HQ0.out.alloc HQ0.out.size (.cells #[.int .i32 x, .int .i32 y] 38))
        have HN := Lib.hid (show Rd (wd.alloc (.cells #[.int .i32 x, .int .i32 y] 38)) (wd.heap.size + 1) (some ⟨wd.heap.size, 0, none⟩) [.int .i32 x, .int .i32 y] from rd_new wd _ [.int .i32 x, .int .i32 y] _ rfl)
        have HC1 := Lib.hid (HC.out.next HQ1.out)
        obtain ⟨wa, hwa⟩ : ∃ wa, wa = wd.alloc (.cells #[.int .i32 x, .int .i32 y] 38) := ⟨_, rfl⟩
        rw [← hwa] at HQ1 HN HC1 ⊢
        clear hwa
        refine hK.out _ _ (HSW.out _ HC1.out.bel) (fun hHeld2 => ?_)
        clear hK K hHeld
        have hHeld := hHeld2
        clear hHeld2
        have hln : (a.s.take p1).length = p1 := by rw [List.length_take, H.out.s.len]; omega
        have hown := HC1.out.o1
        rw [hln] at hown
        have HOW := Lib.hid hown; have HLN := Lib.hid hln
        clear hown hln
        refine wpAnyH_ready (rs := [8]) (by kernel_rfl) (by simp) (AllReadyH.cons rfl (fun K hK => ?_) AllReadyH.nil)
        simp only [List.getElem_toArray, List.getElem_cons_succ, List.getElem_cons_zero, Act.put, List.setIfInBounds_toArray, List.set_cons_zero, List.set_cons_succ]
        rw [if_pos (by rfl)]
        refine Utf.wp_append_rd _ (.tmp 15) (.tmp 21) _ rfl W0.heap.size 38 ir _ 2 8 Tryz.underlying22 hi hr0 hr1 hr2 rfl (by decide) (.slice P p1 p2) p1 (rgs (a.s.take p1)) rfl HOW.out _ _ 1 1 [.int .i32 x, .int .i32 y] rfl rfl HN.out (by simp [Value.oneCell']) (by unfold maxLen; omega) (by omega) (Nat.le_trans (Nat.le_trans HC.out.b2 HC.out.bs) HQ1.out.size) ?_
        intro v7 w7 hown hg _
        obtain ⟨A7, c7, rfl, _, _, _⟩ := own_form hown
        obtain ⟨hk7, hc7⟩ := HC1.out.app1 rfl x y hg (by rw [HLN.out]; exact hown)
        have HB7 := Lib.hid (show Below W0.heap.size W0 w7 from HC1.out.bel.grown hg (Nat.le_trans HC1.out.b2 HC1.out.bs) (fun i hi => (HOW.out.lt i hi).1))
        have HK7 := Lib.hid hk7; have HC7 := Lib.hid hc7
        simp only [Act.put, List.setIfInBounds_toArray, List.set_cons_zero, List.set_cons_succ]
        clear hown hg hk7 hc7
        refine hK.out _ _ (HSW.out _ HB7.out) (fun hHeld2 => ?_)
        clear hK K hHeld
        have hHeld := hHeld2
        clear hHeld2
        refine wpAnyH_take (i := 9) (oi := _) (v := ?_) rfl (by kernel_rfl) (by kernel_rfl) (by kernel_rfl) (fun _ _ _ h => h) (Or.inl ⟨by rfl, ?_⟩) (by assumption) ?_
        rotate_left
        · (intro w hSw; (try dsimp only at hSw); (try obtain ⟨s1_, s2_, s3_⟩ := hSw); go_simp <;> with_reducible rfl)
        simp only [List.getElem_toArray, List.getElem_cons_succ, List.getElem_cons_zero, Act.put, List.setIfInBounds_toArray, List.set_cons_zero, List.set_cons_succ]
        have e0 := HK7.out.c0; have f0 := HK7.out.fr 0
        refine wpAnyH_ready (rs := [10]) (by kernel_rfl) (by simp) (AllReadyH.cons rfl (fun K hK => ?_) AllReadyH.nil)
        go_simp
        refine hK.out _ _ (HSW.out _ HC7.out.bel) (fun hHeld2 => ?_)
        clear hK K hHeld
        have hHeld := hHeld2
        clear hHeld2
        clear e0 f0
        refine wpAnyH_done (by kernel_rfl) ?_ _
        go_wp2_with fail
        go_roundw
        case rel => exact ⟨p1 + 1, p1 + 1, A7, c7, by omega, by go_num, rfl, by rw [HTK.out]; exact HC7⟩
        case measure => simp [intOf]; omega
      · go_simp
        have HQ1 := Lib.hid (HQ0.out.alloc HQ0.out.size (.cells #[.int .i32 x, .int .i32 y] 38))
        have HN := Lib.hid (show Rd (wd.alloc (.cells #[.int .i32 x, .int .i32 y] 38)) (wd.heap.size + 1) (some ⟨wd.heap.size, 0, none⟩) [.int .i32 x, .int .i32 y] from rd_new wd _ [.int .i32 x, .int .i32 y] _ rfl)
        have HC1 := Lib.hid (HC.out.next HQ1.out)
        obtain ⟨wa, hwa⟩ : ∃ wa, wa = wd.alloc (.cells #[.int .i32 x, .int .i32 y] 38) := ⟨_, rfl⟩
        rw [← hwa] at HQ1 HN HC1 ⊢
        clear hwa
        refine hK.out _ _ (HSW.out _ HC1.out.bel) (fun hHeld2 => ?_)
        clear hK K hHeld
        have hHeld := hHeld2
        clear hHeld2
        have e0 := HC1.out.blk.c0
        refine wpAnyH_ready (rs := [1]) (by kernel_rfl) (by simp) (AllReadyH.cons rfl (fun K hK => ?_) AllReadyH.nil)
        go_simp
        refine hK.out _ _ (HSW.out _ HC1.out.bel) (fun hHeld2 => ?_)
        clear hK K hHeld
        have hHeld := hHeld2
        clear hHeld2
        clear e0
        have hln : (a.s.take p1).length = p1 := by rw [List.length_take, H.out.s.len]; omega
        have hown := HC1.out.o1
        rw [hln] at hown
        have HOW := Lib.hid hown; have HLN := Lib.hid hln
        clear hown hln
        refine wpAnyH_ready (rs := [8]) (by kernel_rfl) (by simp) (AllReadyH.cons rfl (fun K hK => ?_) AllReadyH.nil)
        simp only [List.getElem_toArray, List.getElem_cons_succ, List.getElem_cons_zero, Act.put, List.setIfInBounds_toArray, List.set_cons_zero, List.set_cons_succ]
        rw [if_pos (by rfl)]
        refine Utf.wp_append_rd _ (.tmp 15) (.tmp 21) _ rfl W0.heap.size 38 ir _ 2 8 Tryz.underlying22 hi hr0 hr1 hr2 rfl (by decide) (.slice P p1 p2) p1 (rgs (a.s.take p1)) rfl HOW.out _ _ 1 1 [.int .i32 x, .int .i32 y] rfl rfl HN.out (by simp [Value.oneCell']) (by unfold maxLen; omega) (by omega) (Nat.le_trans (Nat.le_trans HC.out.b2 HC.out.bs) HQ1.out.size) ?_
        intro v7 w7 hown hg _
        obtain ⟨A7, c7, rfl, _, _, _⟩ := own_form hown
        obtain ⟨hk7, hc7⟩ := HC1.out.app1 rfl x y hg (by rw [HLN.out]; exact hown)
        have HB7 := Lib.hid (show Below W0.heap.size W0 w7 from HC1.out.bel.grown hg (Nat.le_trans HC1.out.b2 HC1.out.bs) (fun i hi => (HOW.out.lt i hi).1))
        have HK7 := Lib.hid hk7; have HC7 := Lib.hid hc7
        simp only [Act.put, List.setIfInBounds_toArray, List.set_cons_zero, List.set_cons_succ]
        clear hown hg hk7 hc7
        refine hK.out _ _ (HSW.out _ HB7.out) (fun hHeld2 => ?_)
        clear hK K hHeld
        have hHeld := hHeld2
        clear hHeld2
        refine wpAnyH_take (i := 9) (oi := _) (v := ?_) rfl (by kernel_rfl) (by kernel_rfl) (by kernel_rfl) (fun _ _ _ h => h) (Or.inl ⟨by rfl, ?_⟩) (by assumption) ?_
        rotate_left
        · (intro w hSw; (try dsimp only at hSw); (try obtain ⟨s1_, s2_, s3_⟩ := hSw); go_simp <;> with_reducible rfl)
        simp only [List.getElem_toArray, List.getElem_cons_succ, List.getElem_cons_zero, Act.put, List.setIfInBounds_toArray, List.set_cons_zero, List.set_cons_succ]
        have e0 := HK7.out.c0; have f0 := HK7.out.fr 0
        refine wpAnyH_ready (rs := [10]) (by kernel_rfl) (by simp) (AllReadyH.cons rfl (fun K hK => ?_) AllReadyH.nil)
        go_simp
        refine hK.out _ _ (HSW.out _ HC7.out.bel) (fun hHeld2 => ?_)
        clear hK K hHeld
        have hHeld := hHeld2
        clear hHeld2
        clear e0 f0
        refine wpAnyH_done (by kernel_rfl) ?_ _
        go_wp2_with fail
        go_roundw
        case rel => exact ⟨p1 + 1, p1 + 1, A7, c7, by omega, by go_num, rfl, by rw [HTK.out]; exact HC7⟩
        case measure => simp [intOf]; omega
    · obtain rfl : p1 = n1 := by omega
      have hT : a.s.take p1 = a.s := List.take_of_length_le (by rw [H.out.s.len]; exact Nat.le_refl _)
      rw [hT] at HC
      clear hT hlt hk
      have ht := HC.out.turn rfl
      obtain ⟨B2, hB2⟩ : ∃ B2, B2 = wr.heap.size := ⟨_, rfl⟩
      rw [← hB2] at ht
      have HST := Lib.hid (show CI W0 wr g2 B2 (.slice P p1 p2) (.slice none 0 0) (.slice none 0 0) a.s (a.m.take 0) [] from ht.1)
      have HLT := Lib.hid ht.2
      clear ht hB2 HC
      go_wp2_with fail
      go_loopw [5] (fun i wr => ∃ (k q1 : Nat) (Q : Option Addr) (q2 : Nat), k ≤ n2 ∧ i = .int .i64 k ∧ q1 = k ∧ Hid (CI W0 wr g2 B2 (.slice P p1 p2) (.slice Q q1 q2) (.slice none 0 0) a.s (a.m.take k) [])) (fun i _ => n2 - (intOf i).toNat)
      case atStart => exact ⟨0, 0, none, 0, Nat.zero_le _, rfl, rfl, HST⟩
      case round =>
        clear HST
        obtain ⟨k, q1, Q, q2, hk, rfl, rfl, HC⟩ := hrel
        have k1 := (HB0.out.next HC.out.bel).c1
        by_cases hlt : q1 < n2
        · have hkl : q1 < a.m.length := by rw [H.out.m.len]; exact hlt
          have hA := H.out.m
          obtain ⟨b, o, rfl, _⟩ := rd_form_rg hA.rd (by omega)
          have HDT := Lib.hid (show ∀ u, Below W0.heap.size W0 u → u.cell? ⟨b, o + q1 * 2, none⟩ = some (.int .i32 (a.m[q1]).1) ∧ u.cell? ⟨b, o + q1 * 2 + 1, none⟩ = some (.int .i32 (a.m[q1]).2) from fun u hu => rd_rg (hA.next hu).rd hkl)
          have HTK := Lib.hid (show a.m.take (q1 + 1) = a.m.take q1 ++ [((a.m[q1]).1, (a.m[q1]).2)] from List.take_succ_eq_append_getElem hkl)
          generalize (a.m[q1]).1 = x at HDT HTK
          generalize (a.m[q1]).2 = y at HDT HTK
          clear hA hkl
          have HSW := Lib.hid (show ∀ u, Below W0.heap.size W0 u → u.cell? ⟨g0, 1, none⟩ = some (.slice (some ⟨b, o, none⟩) n2 c2) ∧ u.cell? ⟨b, o + q1 * 2, none⟩ = some (.int .i32 x) ∧ u.cell? ⟨b, o + q1 * 2 + 1, none⟩ = some (.int .i32 y) from fun u hu => ⟨(HB0.out.next hu).c1, (HDT.out u hu).1, (HDT.out u hu).2⟩)
          have HQ0 := Lib.hid (show Below wr.heap.size wr wr.drew from (Below.refl _ _).drew)
          have HCD := Lib.hid (HC.out.next HQ0.out)
          go_wp2_with fail
          clear k1
          refine wp_region_held_drew (S := fun u => u.cell? ⟨g0, 1, none⟩ = some (.slice (some ⟨b, o, none⟩) n2 c2) ∧ u.cell? ⟨b, o + q1 * 2, none⟩ = some (.int .i32 x) ∧ u.cell? ⟨b, o + q1 * 2 + 1, none⟩ = some (.int .i32 y)) (by kernel_rfl) (HSW.out _ HCD.out.bel) (fun hHeld => ?_)
          obtain ⟨wd, hwd⟩ : ∃ wd, wd = wr.drew := ⟨_, rfl⟩
          rw [← hwd] at HQ0 HCD hHeld ⊢
          clear hwd
          refine wpAnyH_take (i := 0) (oi := _) (v := ?_) rfl (by kernel_rfl) (by kernel_rfl) (by kernel_rfl) (fun _ _ _ h => h) (Or.inl ⟨by rfl, ?_⟩) (by assumption) ?_
          rotate_left
          · (intro w hSw; (try dsimp only at hSw); (try obtain ⟨s1_, s2_, s3_⟩ := hSw); go_simp <;> with_reducible rfl)
          simp only [List.getElem_toArray, List.getElem_cons_zero, Act.put, List.setIfInBounds_toArray, List.set_cons_zero, List.set_cons_succ]
          refine wpAnyH_take (i := 2) (oi := _) (v := ?_) rfl (by kernel_rfl) (by kernel_rfl) (by kernel_rfl) (fun _ _ _ h => h) (Or.inl ⟨by rfl, ?_⟩) (by assumption) ?_
          rotate_left
          · (intro w hSw; (try dsimp only at hSw); (try obtain ⟨s1_, s2_, s3_⟩ := hSw); go_simp <;> with_reducible rfl)
          simp only [List.getElem_toArray, List.getElem_cons_succ, List.getElem_cons_zero, Act.put, List.setIfInBounds_toArray, List.set_cons_zero, List.set_cons_succ]
          refine wpAnyH_take (i := 3) (oi := _) (v := ?_) rfl (by kernel_rfl) (by kernel_rfl) (by kernel_rfl) (fun _ _ _ h => h) (Or.inl ⟨by rfl, ?_⟩) (by assumption) ?_
          rotate_left
          · (intro w hSw; (try dsimp only at hSw); (try obtain ⟨s1_, s2_, s3_⟩ := hSw); go_simp <;> with_reducible rfl)
          simp only [List.getElem_toArray, List.getElem_cons_succ, List.getElem_cons_zero, Act.put, List.setIfInBounds_toArray, List.set_cons_zero, List.set_cons_succ]
          refine wpAnyH_take (i := 4) (oi := _) (v := ?_) rfl (by kernel_rfl) (by kernel_rfl) (by kernel_rfl) (fun _ _ _ h => h) (Or.inl ⟨by rfl, ?_⟩) (by assumption) ?_
          rotate_left
          · (intro w hSw; (try dsimp only at hSw); (try obtain ⟨s1_, s2_, s3_⟩ := hSw); go_simp <;> with_reducible rfl)
          simp only [List.getElem_toArray, List.getElem_cons_succ, List.getElem_cons_zero, Act.put, List.setIfInBounds_toArray, List.set_cons_zero, List.set_cons_succ]
          refine wpAnyH_take (i := 5) (oi := _) (v := ?_) rfl (by kernel_rfl) (by kernel_rfl) (by kernel_rfl) (fun _ _ _ h => h) (Or.inl ⟨by rfl, ?_⟩) (by assumption) ?_
          rotate_left
          · (intro w hSw; (try dsimp only at hSw); (try obtain ⟨s1_, s2_, s3_⟩ := hSw); go_simp <;> with_reducible rfl)
          simp only [List.getElem_toArray, List.getElem_cons_succ, List.getElem_cons_zero, Act.put, List.setIfInBounds_toArray, List.set_cons_zero, List.set_cons_succ]
          refine wpAnyH_take (i := 6) (oi := _) (v := ?_) rfl (by kernel_rfl) (by kernel_rfl) (by kernel_rfl) (fun _ _ _ h => h) (Or.inl ⟨by rfl, ?_⟩) (by assumption) ?_
          rotate_left
          · (intro w hSw; (try dsimp only at hSw); (try obtain ⟨s1_, s2_, s3_⟩ := hSw); go_simp <;> with_reducible rfl)
          simp only [List.getElem_toArray, List.getElem_cons_succ, List.getElem_cons_zero, Act.put, List.setIfInBounds_toArray, List.set_cons_zero, List.set_cons_succ]
          refine wpAnyH_ready (rs := [1, 7]) (by kernel_rfl) (by simp) (AllReadyH.cons rfl (fun K hK => ?_) (AllReadyH.cons rfl (fun K hK => ?_) AllReadyH.nil))
          · have e0 := HCD.out.blk.c1
            go_simp
            clear e0
            refine hK.out _ _ (HSW.out _ HCD.out.bel) (fun hHeld2 => ?_)
            clear hK K hHeld
            have hHeld := hHeld2
            clear hHeld2
            refine wpAnyH_ready (rs := [7]) (by kernel_rfl) (by simp) (AllReadyH.cons rfl (fun K hK => ?_) AllReadyH.nil)
            go_simp
            have HQ1 := Lib.hid (HQ0.out.alloc HQ0.out.size (.cells #[.int .i32 x, .int .i32 y] 38))
            have HN := Lib.hid (show Rd (wd.alloc (.cells #[.int .i32 x, .int .i32 y] 38)) (wd.heap.size + 1) (some ⟨wd.heap.size, 0, none⟩) [.int .i32 x, .int .i32 y] from rd_new wd _ [.int .i32 x, .int .i32 y] _ rfl)
            have HC1 := Lib.hid (HC.out.next HQ1.out)
            obtain ⟨wa, hwa⟩ : ∃ wa, wa = wd.alloc (.cells #[.int .i32 x, .int .i32 y] 38) := ⟨_, rfl⟩
            rw [← hwa] at HQ1 HN HC1 ⊢
            clear hwa
            refine hK.out _ _ (HSW.out _ HC1.out.bel) (fun hHeld2 => ?_)
            clear hK K hHeld
            have hHeld := hHeld2
            clear hHeld2
            have hln : (a.m.take q1).length = q1 := by rw [List.length_take, H.out.m.len]; omega
            have hown := HC1.out.o2
            rw [hln] at hown
            have HOW := Lib.hid hown; have HLN := Lib.hid hln
            clear hown hln
            refine wpAnyH_ready (rs := [8]) (by kernel_rfl) (by simp) (AllReadyH.cons rfl (fun K hK => ?_) AllReadyH.nil)
            simp only [List.getElem_toArray, List.getElem_cons_succ, List.getElem_cons_zero, Act.put, List.setIfInBounds_toArray, List.set_cons_zero, List.set_cons_succ]
            rw [if_pos (by rfl)]
            refine Utf.wp_append_rd _ (.tmp 32) (.tmp 38) _ rfl B2 38 ir _ 2 8 Tryz.underlying22 hi hr0 hr1 hr2 rfl (by decide) (.slice Q q1 q2) q1 (rgs (a.m.take q1)) rfl HOW.out _ _ 1 1 [.int .i32 x, .int .i32 y] rfl rfl HN.out (by simp [Value.oneCell']) (by unfold maxLen; omega) (by omega) (Nat.le_trans HC.out.bs HQ1.out.size) ?_
            intro v7 w7 hown hg _
            obtain ⟨A7, c7, rfl, _, _, _⟩ := own_form hown
            obtain ⟨hk7, hc7⟩ := HC1.out.app2 HLT.out x y hg (by rw [HLN.out]; exact hown)
            have HB7 := Lib.hid (show Below W0.heap.size W0 w7 from HC1.out.bel.grown hg (Nat.le_trans HC1.out.b2 HC1.out.bs) (fun i hi => Nat.le_trans HC1.out.b2 (HOW.out.lt i hi).1))
            have HK7 := Lib.hid hk7; have HC7 := Lib.hid hc7
            simp only [Act.put, List.setIfInBounds_toArray, List.set_cons_zero, List.set_cons_succ]
            clear hown hg hk7 hc7
            refine hK.out _ _ (HSW.out _ HB7.out) (fun hHeld2 => ?_)
            clear hK K hHeld
            have hHeld := hHeld2
            clear hHeld2
            refine wpAnyH_take (i := 9) (oi := _) (v := ?_) rfl (by kernel_rfl) (by kernel_rfl) (by kernel_rfl) (fun _ _ _ h => h) (Or.inl ⟨by rfl, ?_⟩) (by assumption) ?_
            rotate_left
            · (intro w hSw; (try dsimp only at hSw); (try obtain ⟨s1_, s2_, s3_⟩ := hSw); go_simp <;> with_reducible rfl)
            simp only [List.getElem_toArray, List.getElem_cons_succ, List.getElem_cons_zero, Act.put, List.setIfInBounds_toArray, List.set_cons_zero, List.set_cons_succ]
            have e0 := HK7.out.c1; have f0 := HK7.out.fr 1
            refine wpAnyH_ready (rs := [10]) (by kernel_rfl) (by simp) (AllReadyH.cons rfl (fun K hK => ?_) AllReadyH.nil)
            go_simp
            refine hK.out _ _ (HSW.out _ HC7.out.bel) (fun hHeld2 => ?_)
            clear hK K hHeld
            have hHeld := hHeld2
            clear hHeld2
            clear e0 f0
            refine wpAnyH_done (by kernel_rfl) ?_ _
            go_wp2_with fail
            go_roundw
            case rel => exact ⟨q1 + 1, q1 + 1, A7, c7, by omega, by go_num, rfl, by rw [HTK.out]; exact HC7⟩
            case measure => simp [intOf]; omega
          · go_simp
            have HQ1 := Lib.hid (HQ0.out.alloc HQ0.out.size (.cells #[.int .i32 x, .int .i32 y] 38))
            have HN := Lib.hid (show Rd (wd.alloc (.cells #[.int .i32 x, .int .i32 y] 38)) (wd.heap.size + 1) (some ⟨wd.heap.size, 0, none⟩) [.int .i32 x, .int .i32 y] from rd_new wd _ [.int .i32 x, .int .i32 y] _ rfl)
            have HC1 := Lib.hid (HC.out.next HQ1.out)
            obtain ⟨wa, hwa⟩ : ∃ wa, wa = wd.alloc (.cells #[.int .i32 x, .int .i32 y] 38) := ⟨_, rfl⟩
            rw [← hwa] at HQ1 HN HC1 ⊢
            clear hwa
            refine hK.out _ _ (HSW.out _ HC1.out.bel) (fun hHeld2 => ?_)
            clear hK K hHeld
            have hHeld := hHeld2
            clear hHeld2
            have e0 := HC1.out.blk.c1
            refine wpAnyH_ready (rs := [1]) (by kernel_rfl) (by simp) (AllReadyH.cons rfl (fun K hK => ?_) AllReadyH.nil)
            go_simp
            refine hK.out _ _ (HSW.out _ HC1.out.bel) (fun hHeld2 => ?_)
            clear hK K hHeld
            have hHeld := hHeld2
            clear hHeld2
            clear e0
            have hln : (a.m.take q1).length = q1 := by rw [List.length_take, H.out.m.len]; omega
            have hown := HC1.out.o2
            rw [hln] at hown
            have HOW := Lib.hid hown; have HLN := Lib.hid hln
            clear hown hln
            refine wpAnyH_ready (rs := [8]) (by kernel_rfl) (by simp) (AllReadyH.cons rfl (fun K hK => ?_) AllReadyH.nil)
            simp only [List.getElem_toArray, List.getElem_cons_succ, List.getElem_cons_zero, Act.put, List.setIfInBounds_toArray, List.set_cons_zero, List.set_cons_succ]
            rw [if_pos (by rfl)]
            refine Utf.wp_append_rd _ (.tmp 32) (.tmp 38) _ rfl B2 38 ir _ 2 8 Tryz.underlying22 hi hr0 hr1 hr2 rfl (by decide) (.slice Q q1 q2) q1 (rgs (a.m.take q1)) rfl HOW.out _ _ 1 1 [.int .i32 x, .int .i32 y] rfl rfl HN.out (by simp [Value.oneCell']) (by unfold maxLen; omega) (by omega) (Nat.le_trans HC.out.bs HQ1.out.size) ?_
            intro v7 w7 hown hg _
            obtain ⟨A7, c7, rfl, _, _, _⟩ := own_form hown
            obtain ⟨hk7, hc7⟩ := HC1.out.app2 HLT.out x y hg (by rw [HLN.out]; exact hown)
            have HB7 := Lib.hid (show Below W0.heap.size W0 w7 from HC1.out.bel.grown hg (Nat.le_trans HC1.out.b2 HC1.out.bs) (fun i hi => Nat.le_trans HC1.out.b2 (HOW.out.lt i hi).1))
            have HK7 := Lib.hid hk7; have HC7 := Lib.hid hc7
            simp only [Act.put, List.setIfInBounds_toArray, List.set_cons_zero, List.set_cons_succ]
            clear hown hg hk7 hc7
            refine hK.out _ _ (HSW.out _ HB7.out) (fun hHeld2 => ?_)
            clear hK K hHeld
            have hHeld := hHeld2
            clear hHeld2
            refine wpAnyH_take (i := 9) (oi := _) (v := ?_) rfl (by kernel_rfl) (by kernel_rfl) (by kernel_rfl) (fun _ _ _ h => h) (Or.inl ⟨by rfl, ?_⟩) (by assumption) ?_
            rotate_left
            · (intro w hSw; (try dsimp only at hSw); (try obtain ⟨s1_, s2_, s3_⟩ := hSw); go_simp <;> with_reducible rfl)
            simp only [List.getElem_toArray, List.getElem_cons_succ, List.getElem_cons_zero, Act.put, List.setIfInBounds_toArray, List.set_cons_zero, List.set_cons_succ]
            have e0 := HK7.out.c1; have f0 := HK7.out.fr 1
            refine wpAnyH_ready (rs := [10]) (by kernel_rfl) (by simp) (AllReadyH.cons rfl (fun K hK => ?_) AllReadyH.nil)
            go_simp
            refine hK.out _ _ (HSW.out _ HC7.out.bel) (fun hHeld2 => ?_)
            clear hK K hHeld
            have hHeld := hHeld2
            clear hHeld2
            clear e0 f0
            refine wpAnyH_done (by kernel_rfl) ?_ _
            go_wp2_with fail
            go_roundw
            case rel => exact ⟨q1 + 1, q1 + 1, A7, c7, by omega, by go_num, rfl, by rw [HTK.out]; exact HC7⟩
            case measure => simp [intOf]; omega
        · obtain rfl : q1 = n2 := by omega
          have hT : a.m.take q1 = a.m := List.take_of_length_le (by rw [H.out.m.len]; exact Nat.le_refl _)
          rw [hT] at HC
          clear hT hlt hk
          have HST : Hid (CI W0 wr g2 B2 (.slice P p1 p2) (.slice Q q1 q2) (.slice none 0 0) a.s a.m (a.o.take 0)) := HC
          clear HC
          go_wp2_with fail
          go_loopw [6] (fun i wr => ∃ (k r1 : Nat) (R : Option Addr) (r2 : Nat), k ≤ n3 ∧ i = .int .i64 k ∧ r1 = k ∧ Hid (CI W0 wr g2 B2 (.slice P p1 p2) (.slice Q q1 q2) (.slice R r1 r2) a.s a.m (a.o.take k))) (fun i _ => n3 - (intOf i).toNat)
          case atStart => exact ⟨0, 0, none, 0, Nat.zero_le _, rfl, rfl, HST⟩
          case round =>
            clear HST
            obtain ⟨k, r1, R, r2, hk, rfl, rfl, HC⟩ := hrel
            have k2 := (HB0.out.next HC.out.bel).c2
            by_cases hlt : r1 < n3
            · have hkl : r1 < a.o.length := by rw [H.out.o.len]; exact hlt
              have hA := H.out.o
              obtain ⟨b, o, rfl, _⟩ := rd_form_tx hA.rd (by omega)
              obtain ⟨x, hx⟩ : ∃ x, x = a.o[r1] := ⟨_, rfl⟩
              obtain ⟨X, hX⟩ : ∃ X : ByteArray, X = ⟨x.toArray⟩ := ⟨_, rfl⟩
              have HXE := Lib.hid (show encStr x = .string X by rw [hX])
              have HDT := Lib.hid (show ∀ u, Below W0.heap.size W0 u → u.cell? ⟨b, o + r1, none⟩ = some (.string X) from fun u hu => by have := rd_tx (hA.next hu).rd hkl; rw [this, ← hx, HXE.out])
              have HTK := Lib.hid (show a.o.take (r1 + 1) = a.o.take r1 ++ [x] from by rw [hx]; exact List.take_succ_eq_append_getElem hkl)
              clear hx hX
              clear hA hkl
              have HSW := Lib.hid (show ∀ u, Below W0.heap.size W0 u → u.cell? ⟨g0, 2, none⟩ = some (.slice (some ⟨b, o, none⟩) n3 c3) ∧ u.cell? ⟨b, o + r1, none⟩ = some (.string X) from fun u hu => ⟨(HB0.out.next hu).c2, HDT.out u hu⟩)
              have HQ0 := Lib.hid (show Below wr.heap.size wr wr.drew from (Below.refl _ _).drew)
              have HCD := Lib.hid (HC.out.next HQ0.out)
              go_wp2_with fail
              clear k2
              refine wp_region_held_drew (S := fun u => u.cell? ⟨g0, 2, none⟩ = some (.slice (some ⟨b, o, none⟩) n3 c3) ∧ u.cell? ⟨b, o + r1, none⟩ = some (.string X)) (by kernel_rfl) (HSW.out _ HCD.out.bel) (fun hHeld => ?_)
              obtain ⟨wd, hwd⟩ : ∃ wd, wd = wr.drew := ⟨_, rfl⟩
              rw [← hwd] at HQ0 HCD hHeld ⊢
              clear hwd
              refine wpAnyH_take (i := 0) (oi := _) (v := ?_) rfl (by kernel_rfl) (by kernel_rfl) (by kernel_rfl) (fun _ _ _ h => h) (Or.inl ⟨by rfl, ?_⟩) (by assumption) ?_
              rotate_left
              · (intro w hSw; (try dsimp only at hSw); (try obtain ⟨s1_, s2_⟩ := hSw); go_simp <;> with_reducible rfl)
              simp only [List.getElem_toArray, List.getElem_cons_zero, Act.put, List.setIfInBounds_toArray, List.set_cons_zero, List.set_cons_succ]
              refine wpAnyH_take (i := 2) (oi := _) (v := ?_) rfl (by kernel_rfl) (by kernel_rfl) (by kernel_rfl) (fun _ _ _ h => h) (Or.inl ⟨by rfl, ?_⟩) (by assumption) ?_
              rotate_left
              · (intro w hSw; (try dsimp only at hSw); (try obtain ⟨s1_, s2_⟩ := hSw); go_simp <;> with_reducible rfl)
              simp only [List.getElem_toArray, List.getElem_cons_succ, List.getElem_cons_zero, Act.put, List.setIfInBounds_toArray, List.set_cons_zero, List.set_cons_succ]
              refine wpAnyH_take (i := 3) (oi := _) (v := ?_) rfl (by kernel_rfl) (by kernel_rfl) (by kernel_rfl) (fun _ _ _ h => h) (Or.inl ⟨by rfl, ?_⟩) (by assumption) ?_
              rotate_left
              · (intro w hSw; (try dsimp only at hSw); (try obtain ⟨s1_, s2_⟩ := hSw); go_simp <;> with_reducible rfl)
              simp only [List.getElem_toArray, List.getElem_cons_succ, List.getElem_cons_zero, Act.put, List.setIfInBounds_toArray, List.set_cons_zero, List.set_cons_succ]
              refine wpAnyH_take (i := 4) (oi := _) (v := ?_) rfl (by kernel_rfl) (by kernel_rfl) (by kernel_rfl) (fun _ _ _ h => h) (Or.inl ⟨by rfl, ?_⟩) (by assumption) ?_
              rotate_left
              · (intro w hSw; (try dsimp only at hSw); (try obtain ⟨s1_, s2_⟩ := hSw); go_simp <;> with_reducible rfl)
              simp only [List.getElem_toArray, List.getElem_cons_succ, List.getElem_cons_zero, Act.put, List.setIfInBounds_toArray, List.set_cons_zero, List.set_cons_succ]
              refine wpAnyH_take (i := 5) (oi := _) (v := ?_) rfl (by kernel_rfl) (by kernel_rfl) (by kernel_rfl) (fun _ _ _ h => h) (Or.inl ⟨by rfl, ?_⟩) (by assumption) ?_
              rotate_left
              · (intro w hSw; (try dsimp only at hSw); (try obtain ⟨s1_, s2_⟩ := hSw); go_simp <;> with_reducible rfl)
              simp only [List.getElem_toArray, List.getElem_cons_succ, List.getElem_cons_zero, Act.put, List.setIfInBounds_toArray, List.set_cons_zero, List.set_cons_succ]
              refine wpAnyH_take (i := 6) (oi := _) (v := ?_) rfl (by kernel_rfl) (by kernel_rfl) (by kernel_rfl) (fun _ _ _ h => h) (Or.inl ⟨by rfl, ?_⟩) (by assumption) ?_
              rotate_left
              · (intro w hSw; (try dsimp only at hSw); (try obtain ⟨s1_, s2_⟩ := hSw); go_simp <;> with_reducible rfl)
              simp only [List.getElem_toArray, List.getElem_cons_succ, List.getElem_cons_zero, Act.put, List.setIfInBounds_toArray, List.set_cons_zero, List.set_cons_succ]
              refine wpAnyH_ready (rs := [1, 7]) (by kernel_rfl) (by simp) (AllReadyH.cons rfl (fun K hK => ?_) (AllReadyH.cons rfl (fun K hK => ?_) AllReadyH.nil))
              · have e0 := HCD.out.blk.c2
                go_simp
                clear e0
                refine hK.out _ _ (HSW.out _ HCD.out.bel) (fun hHeld2 => ?_)
                clear hK K hHeld
                have hHeld := hHeld2
                clear hHeld2
                refine wpAnyH_ready (rs := [7]) (by kernel_rfl) (by simp) (AllReadyH.cons rfl (fun K hK => ?_) AllReadyH.nil)
                go_simp
                have HQ1 := Lib.hid (HQ0.out.alloc HQ0.out.size (.cells #[.string X] 9))
                have HN := Lib.hid (show Rd (wd.alloc (.cells #[.string X] 9)) (wd.heap.size + 1) (some ⟨wd.heap.size, 0, none⟩) [.string X] from rd_new wd _ [.string X] _ rfl)
                have HC1 := Lib.hid (HC.out.next HQ1.out)
                obtain ⟨wa, hwa⟩ : ∃ wa, wa = wd.alloc (.cells #[.string X] 9) := ⟨_, rfl⟩
                rw [← hwa] at HQ1 HN HC1 ⊢
                clear hwa
                refine hK.out _ _ (HSW.out _ HC1.out.bel) (fun hHeld2 => ?_)
                clear hK K hHeld
                have hHeld := hHeld2
                clear hHeld2
                have hln : (a.o.take r1).length = r1 := by rw [List.length_take, H.out.o.len]; omega
                have hown := HC1.out.o3
                rw [hln] at hown
                have HOW := Lib.hid hown; have HLN := Lib.hid hln
                clear hown hln
                refine wpAnyH_ready (rs := [8]) (by kernel_rfl) (by simp) (AllReadyH.cons rfl (fun K hK => ?_) AllReadyH.nil)
                simp only [List.getElem_toArray, List.getElem_cons_succ, List.getElem_cons_zero, Act.put, List.setIfInBounds_toArray, List.set_cons_zero, List.set_cons_succ]
                rw [if_pos (by rfl)]
                refine Utf.wp_append_rd _ (.tmp 49) (.tmp 55) _ rfl W0.heap.size 9 it _ 1 16 Tryz.underlying23 ti ht0 ht1 ht2 rfl (by decide) (.slice R r1 r2) r1 (txs (a.o.take r1)) rfl HOW.out _ _ 1 1 [.string X] rfl rfl HN.out (by simp [Value.oneCell']) (by unfold maxLen; omega) (by omega) (Nat.le_trans (Nat.le_trans HC.out.b2 HC.out.bs) HQ1.out.size) ?_
                intro v7 w7 hown hg _
                obtain ⟨A7, c7, rfl, _, _, _⟩ := own_form hown
                obtain ⟨hk7, hc7⟩ := HC1.out.app3 x hg (by rw [HLN.out, HXE.out]; exact hown)
                have HB7 := Lib.hid (show Below W0.heap.size W0 w7 from HC1.out.bel.grown hg (Nat.le_trans HC1.out.b2 HC1.out.bs) (fun i hi => (HOW.out.lt i hi).1))
                have HK7 := Lib.hid hk7; have HC7 := Lib.hid hc7
                simp only [Act.put, List.setIfInBounds_toArray, List.set_cons_zero, List.set_cons_succ]
                clear hown hg hk7 hc7
                refine hK.out _ _ (HSW.out _ HB7.out) (fun hHeld2 => ?_)
                clear hK K hHeld
                have hHeld := hHeld2
                clear hHeld2
                refine wpAnyH_take (i := 9) (oi := _) (v := ?_) rfl (by kernel_rfl) (by kernel_rfl) (by kernel_rfl) (fun _ _ _ h => h) (Or.inl ⟨by rfl, ?_⟩) (by assumption) ?_
                rotate_left
                · (intro w hSw; (try dsimp only at hSw); (try obtain ⟨s1_, s2_⟩ := hSw); go_simp <;> with_reducible rfl)
                simp only [List.getElem_toArray, List.getElem_cons_succ, List.getElem_cons_zero, Act.put, List.setIfInBounds_toArray, List.set_cons_zero, List.set_cons_succ]
                have e0 := HK7.out.c2; have f0 := HK7.out.fr 2
                refine wpAnyH_ready (rs := [10]) (by kernel_rfl) (by simp) (AllReadyH.cons rfl (fun K hK => ?_) AllReadyH.nil)
                go_simp
                refine hK.out _ _ (HSW.out _ HC7.out.bel) (fun hHeld2 => ?_)
                clear hK K hHeld
                have hHeld := hHeld2
                clear hHeld2
                clear e0 f0
                refine wpAnyH_done (by kernel_rfl) ?_ _
                go_wp2_with fail
                go_roundw
                case rel => exact ⟨r1 + 1, r1 + 1, A7, c7, by omega, by go_num, rfl, by rw [HTK.out]; exact HC7⟩
                case measure => simp [intOf]; omega
              · go_simp
                have HQ1 := Lib.hid (HQ0.out.alloc HQ0.out.size (.cells #[.string X] 9))
                have HN := Lib.hid (show Rd (wd.alloc (.cells #[.string X] 9)) (wd.heap.size + 1) (some ⟨wd.heap.size, 0, none⟩) [.string X] from rd_new wd _ [.string X] _ rfl)
                have HC1 := Lib.hid (HC.out.next HQ1.out)
                obtain ⟨wa, hwa⟩ : ∃ wa, wa = wd.alloc (.cells #[.string X] 9) := ⟨_, rfl⟩
                rw [← hwa] at HQ1 HN HC1 ⊢
                clear hwa
                refine hK.out _ _ (HSW.out _ HC1.out.bel) (fun hHeld2 => ?_)
                clear hK K hHeld
                have hHeld := hHeld2
                clear hHeld2
                have e0 := HC1.out.blk.c2
                refine wpAnyH_ready (rs := [1]) (by kernel_rfl) (by simp) (AllReadyH.cons rfl (fun K hK => ?_) AllReadyH.nil)
                go_simp
                refine hK.out _ _ (HSW.out _ HC1.out.bel) (fun hHeld2 => ?_)
                clear hK K hHeld
                have hHeld := hHeld2
                clear hHeld2
                clear e0
                have hln : (a.o.take r1).length = r1 := by rw [List.length_take, H.out.o.len]; omega
                have hown := HC1.out.o3
                rw [hln] at hown
                have HOW := Lib.hid hown; have HLN := Lib.hid hln
                clear hown hln
                refine wpAnyH_ready (rs := [8]) (by kernel_rfl) (by simp) (AllReadyH.cons rfl (fun K hK => ?_) AllReadyH.nil)
                simp only [List.getElem_toArray, List.getElem_cons_succ, List.getElem_cons_zero, Act.put, List.setIfInBounds_toArray, List.set_cons_zero, List.set_cons_succ]
                rw [if_pos (by rfl)]
                refine Utf.wp_append_rd _ (.tmp 49) (.tmp 55) _ rfl W0.heap.size 9 it _ 1 16 Tryz.underlying23 ti ht0 ht1 ht2 rfl (by decide) (.slice R r1 r2) r1 (txs (a.o.take r1)) rfl HOW.out _ _ 1 1 [.string X] rfl rfl HN.out (by simp [Value.oneCell']) (by unfold maxLen; omega) (by omega) (Nat.le_trans (Nat.le_trans HC.out.b2 HC.out.bs) HQ1.out.size) ?_
                intro v7 w7 hown hg _
                obtain ⟨A7, c7, rfl, _, _, _⟩ := own_form hown
                obtain ⟨hk7, hc7⟩ := HC1.out.app3 x hg (by rw [HLN.out, HXE.out]; exact hown)
                have HB7 := Lib.hid (show Below W0.heap.size W0 w7 from HC1.out.bel.grown hg (Nat.le_trans HC1.out.b2 HC1.out.bs) (fun i hi => (HOW.out.lt i hi).1))
                have HK7 := Lib.hid hk7; have HC7 := Lib.hid hc7
                simp only [Act.put, List.setIfInBounds_toArray, List.set_cons_zero, List.set_cons_succ]
                clear hown hg hk7 hc7
                refine hK.out _ _ (HSW.out _ HB7.out) (fun hHeld2 => ?_)
                clear hK K hHeld
                have hHeld := hHeld2
                clear hHeld2
                refine wpAnyH_take (i := 9) (oi := _) (v := ?_) rfl (by kernel_rfl) (by kernel_rfl) (by kernel_rfl) (fun _ _ _ h => h) (Or.inl ⟨by rfl, ?_⟩) (by assumption) ?_
                rotate_left
                · (intro w hSw; (try dsimp only at hSw); (try obtain ⟨s1_, s2_⟩ := hSw); go_simp <;> with_reducible rfl)
                simp only [List.getElem_toArray, List.getElem_cons_succ, List.getElem_cons_zero, Act.put, List.setIfInBounds_toArray, List.set_cons_zero, List.set_cons_succ]
                have e0 := HK7.out.c2; have f0 := HK7.out.fr 2
                refine wpAnyH_ready (rs := [10]) (by kernel_rfl) (by simp) (AllReadyH.cons rfl (fun K hK => ?_) AllReadyH.nil)
                go_simp
                refine hK.out _ _ (HSW.out _ HC7.out.bel) (fun hHeld2 => ?_)
                clear hK K hHeld
                have hHeld := hHeld2
                clear hHeld2
                clear e0 f0
                refine wpAnyH_done (by kernel_rfl) ?_ _
                go_wp2_with fail
                go_roundw
                case rel => exact ⟨r1 + 1, r1 + 1, A7, c7, by omega, by go_num, rfl, by rw [HTK.out]; exact HC7⟩
                case measure => simp [intOf]; omega
            · obtain rfl : r1 = n3 := by omega
              have hT : a.o.take r1 = a.o := List.take_of_length_le (by rw [H.out.o.len]; exact Nat.le_refl _)
              rw [hT] at HC
              clear hT hlt hk
              have e0 := HC.out.blk.c0; have e1 := HC.out.blk.c1; have e2 := HC.out.blk.c2
              have HZ := Lib.hid (HB1.out.next HC.out.bel)
              have d0 := HZ.out.c0; have d1 := HZ.out.c1; have d2 := HZ.out.c2; have f0 := HZ.out.fr 0; have f1 := HZ.out.fr 1; have f2 := HZ.out.fr 2
              go_wp2_with fail
              refine (HZ.out.put _ _ _).ret rfl rfl rfl ?_
              obtain ⟨_, _, e7, _, _, _⟩ := own_form HC.out.o1
              have hb := HBW.out.trans (HC.out.bel.mono HBW.out.size)
              exact ⟨_, _, _, _, _, _, _, _, _, rfl, has3_put ⟨⟨own_rd HC.out.o1, H.out.s.len, H.out.s.fit, H.out.s.sm⟩, ⟨own_rd HC.out.o2, H.out.m.len, H.out.m.fit, H.out.m.sm⟩, ⟨own_rd HC.out.o3, H.out.o.len, H.out.o.short, H.out.o.sm⟩⟩ HZ.out _ _ _, below_put3 hb HGL.out _ _ _⟩
end Go.Proofs.YtipcbiecdabihaaGreat.Sset
