/-
  Texts of stage 7, part 18.
-/
import Derived.Deep.DeepCutAuto
import Derived.Deep.RegionHeld3
import Derived.Deep.RegionLaw
import Derived.Test.YtheelnhhkpkjnaaGreatDoorG3
import Derived.Test.YtheelnhhkpkjnaaGreatDoorG10
import Derived.Test.YtheelnhhkpkjnaaGreatDoorG12
import Derived.Test.YtheelnhhkpkjnaaGreatDoorG14
import Derived.Test.YtheelnhhkpkjnaaGreatDoorG17
namespace Go.Proofs.YtheelnhhkpkjnaaGreatDoor.Sset
open Go.RowKit
open Utf (Rd Blk bys bys_len pts pts_len nums nums_len nums_append nums_one dec enc wpList_append_rd own_ne Pts)
open Rset
set_option maxRecDepth 100000
theorem bne_ba {x y : Tx} (h : x ≠ y) : ((ba x).toList == (ba y).toList) = false := by rw [ba_list, ba_list, beq_eq_false_iff_ne]; exact h
theorem take_succ_tx {a b : List Tx} {k : Nat} (ha : k < a.length) (hb : k < b.length) (h : a.take k = b.take k) (e : a[k] = b[k]) : a.take (k + 1) = b.take (k + 1) := by
 rw [List.take_succ_eq_append_getElem ha, List.take_succ_eq_append_getElem hb, h, e]
set_option maxHeartbeats 2000000 in
theorem rsameT_any (A B : Option Addr) (a b : List Tx) (n m c d : Nat) (w : World) (ha : Rd w w.heap.size A (txs a)) (hb : Rd w w.heap.size B (txs b)) (hn : a.length = n) (hm : b.length = m) (hn1 : n ≤ 1099511627776) (hm1 : m ≤ 1099511627776) :
  Calls Tryz.prog 39 #[.slice A n c, .slice B m d] w fun e w' => e = .returned (.bool (decide (a = b))) ∧ ∃ k, w' = w.drewN k := by
 suffices H : Calls Tryz.prog 39 #[.slice A n c, .slice B m d] w (fun e w' => Hid (e = .returned (.bool (decide (a = b))) ∧ ∃ k, w' = w.drewN k)) from H.mono fun e w' h => h.out
 obtain ⟨S, hS⟩ : ∃ S, S = decide (a = b) := ⟨_, rfl⟩
 rw [← hS]
 have HSD := Lib.hid hS
 clear hS
 by_cases hnm : n = m
 ·subst hnm
  have HN := Lib.hid hn; have HM := Lib.hid hm
  clear hn hm
  go_enter Tryz.func39, Tryz.ntmps39
  go_wp2_with fail
  go_loopw [5] (fun i wr => ∃ k j : Nat, k ≤ n ∧ i = .int .i64 k ∧ Hid (a.take k = b.take k) ∧ Hid (wr = w.drewN j)) (fun i _ => n - (intOf i).toNat)
  case atStart => exact ⟨0, 0, Nat.zero_le _, rfl, Lib.hid rfl, Lib.hid rfl⟩
  case round =>
   obtain ⟨k, j, hk, rfl, HT, HJ⟩ := hrel
   by_cases hlt : k < n
   ·have hka : k < a.length := by rw [HN.out]; exact hlt
    have hkb : k < b.length := by rw [HM.out]; exact hlt
    obtain ⟨b1, o1, rfl, _⟩ := rd_form_tx ha (by omega)
    obtain ⟨b2, o2, rfl, _⟩ := rd_form_tx hb (by omega)
    have hwr : ∀ p : Addr, wr.cell? p = w.cell? p := fun p => by rw [HJ.out]; rfl
    have a1 : _ = some (Value.string (ba a[k])) := rd_tx ha hka
    have b1' : _ = some (Value.string (ba b[k])) := rd_tx hb hkb
    rw [← hwr] at a1 b1'
    have HTS := Lib.hid (take_succ_tx hka hkb HT.out)
    have HNE := Lib.hid (show a[k] ≠ b[k] → S = false from fun h => by rw [HSD.out, decide_eq_false_iff_not]; rintro rfl; exact h rfl)
    clear hwr HT
    by_cases hxy : a[k] = b[k]
    ·have HR := Lib.hid (HTS.out hxy)
     rw [hxy] at a1
     generalize ba b[k] = X at a1 b1'
     clear hxy HTS HNE hka hkb
     have he1 : (X.toList == X.toList) = true := by simp
     have he2 : (X.toList != X.toList) = false := by simp
     go_wp2_with fail
     go_quiet (fail)
     go_wp2
     go_roundw
     case rel => exact ⟨k + 1, _, by omega, by go_num, HR, Lib.hid (by rw [HJ.out, World.drewN_drewN])⟩
     case measure => simp [intOf]; omega
    ·have he1 := bne_ba hxy
     have HF := Lib.hid (HNE.out hxy)
     generalize ba a[k] = X at a1 he1
     generalize ba b[k] = Y at b1' he1
     have he2 : (X.toList != Y.toList) = true := by rw [bne, he1]; rfl
     clear hxy HTS HNE hka hkb
     go_wp2_with fail
     go_quiet (fail)
     go_wp2
     go_ret
     exact Lib.hid ⟨by rw [HF.out]; rfl, _, by rw [HJ.out, World.drewN_drewN]⟩
   ·have HF := Lib.hid (show S = true by
     have := HT.out
     rw [List.take_of_length_le (by have := HN.out; omega), List.take_of_length_le (by have := HM.out; omega)] at this
     rw [HSD.out]; exact decide_eq_true this)
    go_wp2_with fail
    go_ret
    exact Lib.hid ⟨by rw [HF.out]; rfl, _, HJ.out⟩
 ·have hs : S = false := by rw [HSD.out, decide_eq_false_iff_not]; rintro rfl; exact hnm (hn.symm.trans hm)
  have HS := Lib.hid hs
  have hne : ((n : Int) == (m : Int)) = false := by simp; omega
  have hne2 : ((n : Int) != (m : Int)) = true := by simp; omega
  clear hs hn hm hnm
  go_enter Tryz.func39, Tryz.ntmps39
  go_wp2
  go_ret
  exact Lib.hid ⟨by rw [HS.out]; rfl, 0, rfl⟩
set_option maxHeartbeats 2000000 in
theorem rssame_any (A1 A2 A3 B1 B2 B3 : Option Addr) (n1 c1 n2 c2 n3 c3 m1 d1 m2 d2 m3 d3 : Nat) (a b : St) (w : World) (h : Has3 w A1 n1 A2 n2 A3 n3 a) (k : Has3 w B1 m1 B2 m2 B3 m3 b) :
  Calls Tryz.prog 20 #[.agg #[.slice A1 n1 c1, .slice A2 n2 c2, .slice A3 n3 c3], .agg #[.slice B1 m1 d1, .slice B2 m2 d2, .slice B3 m3 d3]] w (Ret w (.bool (decide (a = b)))) := by
 obtain ⟨W0, hW0⟩ : ∃ W0, W0 = (w.alloc (.cells #[.slice A1 n1 c1, .slice A2 n2 c2, .slice A3 n3 c3] 39)).alloc (.cells #[.slice B1 m1 d1, .slice B2 m2 d2, .slice B3 m3 d3] 39) := ⟨_, rfl⟩
 obtain ⟨g, hg⟩ : ∃ g, g = w.heap.size := ⟨_, rfl⟩
 have hb0 : Below w.heap.size w W0 := by rw [hW0]; exact ((Below.refl _ _).alloc (Nat.le_refl _) _).alloc (by simp) _
 have k0 : BlkS W0 g (.slice A1 n1 c1) (.slice A2 n2 c2) (.slice A3 n3 c3) := by rw [hW0, hg]; exact (BlkS.new w _ _ _).alloc _
 have k1 : BlkS W0 (g + 1) (.slice B1 m1 d1) (.slice B2 m2 d2) (.slice B3 m3 d3) := by
  have := BlkS.new (w.alloc (.cells #[.slice A1 n1 c1, .slice A2 n2 c2, .slice A3 n3 c3] 39)) (.slice B1 m1 d1) (.slice B2 m2 d2) (.slice B3 m3 d3)
  rw [hW0, hg]; simpa using this
 have h0 := h.next hb0
 have h1 := k.next hb0
 have dw : ∀ q, Below W0.heap.size W0 (W0.drewN q) := fun q => below_drewN (Below.refl _ _) q
 have HS := Lib.hid (show ∀ q, Calls Tryz.prog 38 #[.slice A1 n1 c1, .slice B1 m1 d1] (W0.drewN q) (fun e w' => e = .returned (.bool (eqL a.s b.s)) ∧ ∃ k, w' = (W0.drewN q).drewN k) from fun q => same_any A1 B1 a.s b.s n1 m1 c1 d1 _ (h0.s.next (dw q)).rd (h1.s.next (dw q)).rd h0.s.len h1.s.len (by have := h0.s.sm; omega) (by have := h1.s.sm; omega))
 have HM := Lib.hid (show ∀ q, Calls Tryz.prog 38 #[.slice A2 n2 c2, .slice B2 m2 d2] (W0.drewN q) (fun e w' => e = .returned (.bool (eqL a.m b.m)) ∧ ∃ k, w' = (W0.drewN q).drewN k) from fun q => same_any A2 B2 a.m b.m n2 m2 c2 d2 _ (h0.m.next (dw q)).rd (h1.m.next (dw q)).rd h0.m.len h1.m.len (by have := h0.m.sm; omega) (by have := h1.m.sm; omega))
 have HO := Lib.hid (show ∀ q, Calls Tryz.prog 39 #[.slice A3 n3 c3, .slice B3 m3 d3] (W0.drewN q) (fun e w' => e = .returned (.bool (decide (a.o = b.o))) ∧ ∃ k, w' = (W0.drewN q).drewN k) from fun q => rsameT_any A3 B3 a.o b.o n3 m3 c3 d3 _ (h0.o.next (dw q)).rd (h1.o.next (dw q)).rd h0.o.len h1.o.len (by have := h0.o.sm; omega) (by have := h1.o.sm; omega))
 have HE := Lib.hid (st_eq a b)
 have HK0 := Lib.hid k0; have HK1 := Lib.hid k1
 have HW := Lib.hid hW0; have HG := Lib.hid hg; have HB0 := Lib.hid hb0
 have HDQ := Lib.hid (show ∀ q, Below w.heap.size w (W0.drewN q) from fun q => below_drewN hb0 q)
 clear h k hW0 hg hb0 k0 k1 h0 h1 dw
 rw [HE.out]
 generalize eqL a.s b.s = p1 at HS ⊢
 generalize eqL a.m b.m = p2 at HM ⊢
 generalize decide (a.o = b.o) = p3 at HO ⊢
 have x0 := HK0.out.c0; have y0 := HK1.out.c0
 go_enter Tryz.func20, Tryz.ntmps20
 go_wp2_with fail
 rw [← HW.out, ← HG.out]
 go_wp2_with fail
 refine (HS.out 0).mono ?_
 rintro e w1 ⟨rfl, q1, rfl⟩
 rw [World.drewN_drewN, Nat.zero_add]
 have x1 : (W0.drewN q1).cell? ⟨g, 1, none⟩ = some (.slice A2 n2 c2) := HK0.out.c1
 have y1 : (W0.drewN q1).cell? ⟨g + 1, 1, none⟩ = some (.slice B2 m2 d2) := HK1.out.c1
 clear x0 y0
 cases p1 with
 | false =>
  go_wp2_with fail
  go_ret
  exact ⟨rfl, HDQ.out _⟩
 | true =>
  go_wp2_with fail
  refine (HM.out _).mono ?_
  rintro e w2 ⟨rfl, q2, rfl⟩
  rw [World.drewN_drewN]
  clear x1 y1
  have x2 : (W0.drewN (q1 + q2)).cell? ⟨g, 2, none⟩ = some (.slice A3 n3 c3) := HK0.out.c2
  have y2 : (W0.drewN (q1 + q2)).cell? ⟨g + 1, 2, none⟩ = some (.slice B3 m3 d3) := HK1.out.c2
  cases p2 with
  | false =>
   go_wp2_with fail
   go_ret
   exact ⟨rfl, HDQ.out _⟩
  | true =>
   go_wp2_with fail
   refine (HO.out _).mono ?_
   rintro e w3 ⟨rfl, q3, rfl⟩
   rw [World.drewN_drewN]
   clear x2 y2
   go_wp2_with fail
   go_ret
   exact ⟨rfl, HDQ.out _⟩
end Go.Proofs.YtheelnhhkpkjnaaGreatDoor.Sset
namespace Go.Proofs.YtheelnhhkpkjnaaGreatDoor.Sset
open Go.RowKit
open Utf (Rd Blk)
open Rset
set_option maxRecDepth 100000
theorem ofS_o (x : Tx) : (∀ t ∈ (ofS x).o, t = x) ∧ (ofS x).o.length ≤ 1 := by
 unfold ofS
 split
 ·exact ⟨fun t h => by simp [onesS] at h, Nat.zero_le _⟩
 ·exact ⟨fun t h => List.mem_singleton.1 ((rise_mem [x] t).1 (List.mem_filter.1 h).1), normS_len ⟨[], [], [x]⟩⟩
theorem short_uni2 {a b : St} (h : Short a.o) (k : Short b.o) : Short (uni2 a b).o := short_meet (a := notS (normS a)) (b := notS (normS b)) (short_norm h) (short_norm k)
section
variable {w : World} {A1 A2 A3 B1 B2 B3 : Option Addr} {n1 n2 n3 m1 m2 m3 : Nat} {a b : St}
theorem r_union (c1 c2 c3 d1 d2 d3 : Nat) (h : Has3 w A1 n1 A2 n2 A3 n3 a) (k : Has3 w B1 m1 B2 m2 B3 m3 b) (hsm : n3 + m3 ≤ 1073741824) : Calls Tryz.prog 201 #[.agg #[.slice A1 n1 c1, .slice A2 n2 c2, .slice A3 n3 c3], .agg #[.slice B1 m1 d1, .slice B2 m2 d2, .slice B3 m3 d3]] w (ResO w (uni2 a b)) :=
 (sunion_any A1 A2 A3 B1 B2 B3 n1 c1 n2 c2 n3 c3 m1 d1 m2 d2 m3 d3 a b w h k hsm).mono fun _ _ q => q.made (uni2_nm a b) (short_uni2 h.o.short k.o.short) (Nat.le_trans (uni2_len a b) (by have := h.o.len; have := k.o.len; omega))
theorem r_rsame (c1 c2 c3 d1 d2 d3 : Nat) (h : Has3 w A1 n1 A2 n2 A3 n3 a) (k : Has3 w B1 m1 B2 m2 B3 m3 b) {q : Bool} (e : decide (a = b) = q) : Calls Tryz.prog 20 #[.agg #[.slice A1 n1 c1, .slice A2 n2 c2, .slice A3 n3 c3], .agg #[.slice B1 m1 d1, .slice B2 m2 d2, .slice B3 m3 d3]] w (Ret w (.bool q)) :=
 e ▸ rssame_any A1 A2 A3 B1 B2 B3 n1 c1 n2 c2 n3 c3 m1 d1 m2 d2 m3 d3 a b w h k
theorem r_not2 (c1 c2 c3 : Nat) (h : Has3 w A1 n1 A2 n2 A3 n3 a) : Calls Tryz.prog 178 #[.agg #[.slice A1 n1 c1, .slice A2 n2 c2, .slice A3 n3 c3]] w (ResO w (not2 a)) :=
 (snot2_any A1 A2 A3 n1 c1 n2 c2 n3 c3 a w h).mono fun _ _ q => q.made (not2_nm a) (short_norm h.o.short) (Nat.le_trans (not2_len a) (by have := h.o.len; have := h.o.sm; omega))
theorem r_may (c1 c2 c3 : Nat) (h : Has3 w A1 n1 A2 n2 A3 n3 a) {q : Bool} (e : decide (normS a = a) = q) : Calls Tryz.prog 41 #[.agg #[.slice A1 n1 c1, .slice A2 n2 c2, .slice A3 n3 c3]] w (Ret w (.bool q)) := e ▸ smay_any A1 A2 A3 n1 c1 n2 c2 n3 c3 a w h
end
theorem short_nil : Short [] := fun t h => by simp at h
theorem r_of (X : ByteArray) (x : Tx) (hX : X.toList = x) (hl : x.length ≤ 1073741824) (w : World) : Calls Tryz.prog 148 #[.string X] w (ResO w (ofS x)) :=
 (sof_any X x hX hl w).mono fun _ _ q => q.made (ofS_nm x) (fun t ht => by rw [(ofS_o x).1 t ht]; exact hl) (Nat.le_trans (ofS_o x).2 (by omega))
theorem r_first (A : Option Addr) (l : List Rg) (n c : Nat) (w : World) (h : ArgR w A n l) : Calls Tryz.prog 146 #[.slice A n c] w (ResO w (firstS l)) :=
 (sfirst_any A l n c w h).mono fun _ _ q => q.made (firstS_nm l) short_nil (Nat.zero_le _)
theorem r_ones (A : Option Addr) (l : List Rg) (n c : Nat) (w : World) (h : ArgR w A n l) : Calls Tryz.prog 183 #[.slice A n c] w (ResO w (onesS l)) :=
 (sones_any A l n c w h).mono fun _ _ q => q.made (onesS_nm l) short_nil (Nat.zero_le _)
theorem r_all (w : World) : Calls Tryz.prog 143 #[] w (ResO w allS) :=
 (sall_any w).mono fun _ _ q => q.made allS_nm short_nil (Nat.zero_le _)
def eT : Tx := [101, 204, 129]
def xT : Tx := [101, 204, 130]
def eS : St := ⟨[], [], [eT]⟩
def az : List Rg := [(97, 122)]
theorem good_e : good eT = true := by decide +kernel
theorem good_x : good xT = true := by decide +kernel
theorem first_has (l : List Rg) (t : Tx) : hasS (firstS l) t = hasS ⟨l, l, []⟩ t := by
 unfold hasS memS firstS
 simp only [norm_has]
theorem m1 : hasS (firstS az) [101, 120] = true := by rw [first_has]; decide +kernel
theorem m2 : hasS (firstS az) [69] = false := by rw [first_has]; decide +kernel
theorem m3 : hasS (not2 eS) xT = true := by rw [not2_mem _ good_x]; decide +kernel
theorem m4 : hasS (not2 eS) eT = false := by rw [not2_mem _ good_e]; decide +kernel
theorem m5 : hasS (minus2 (firstS az) eS) [101] = true := by rw [minus2_mem _ _ (by decide +kernel), first_has]; decide +kernel
theorem notnot {a : St} : not2 (not2 a) = normS a := by
 refine st_ext (not2_nm _) (normS_nm a) (fun x => ?_) (fun x => ?_) (fun t => ?_)
 ·rw [not2_s, not2_s, normS_s]
  cases hx : inR x with
  | true => cases has a.s x <;> rfl
  | false => rw [has_out hx]; rfl
 ·rw [not2_m, not2_m, normS_m]
  cases hx : inR x with
  | true => cases has a.m x <;> rfl
  | false => rw [has_out hx]; rfl
 ·rw [not2_o, not2_o, normS_o, Bool.and_assoc, Bool.and_self]
theorem m9 : eqS (not2 (not2 eS)) eS = true := by
 unfold eqS
 rw [notnot, normS_id (normS_nm _), decide_eq_true_eq]
end Go.Proofs.YtheelnhhkpkjnaaGreatDoor.Sset
namespace Go.Proofs.YtheelnhhkpkjnaaGreatDoor.Syn
open Go.RowKit
open Utf (Rd Blk)
open Rset (Ret Rg own_form ret_bool)
open Sset (St Tx normS none_ Has3 ArgT ArgR r_rsame has3_none mk_toList)
set_option maxRecDepth 100000
structure NV where
 k : Int
 A1 : Option Addr
 n1 : Nat
 c1 : Nat
 A2 : Option Addr
 n2 : Nat
 c2 : Nat
 A3 : Option Addr
 n3 : Nat
 c3 : Nat
 mn : Int
 mx : Int
def NV.row (v : NV) : List Value := [.int .i64 v.k, .slice v.A1 v.n1 v.c1, .slice v.A2 v.n2 v.c2, .slice v.A3 v.n3 v.c3, .int .i64 v.mn, .int .i64 v.mx]
def nvs (V : List NV) : List Value := V.flatMap NV.row
theorem nvs_len : ∀ V : List NV, (nvs V).length = V.length * 6
 | [] => rfl
 | v :: V => by
  show (v.row ++ nvs V).length = _
  rw [List.length_append, nvs_len V, List.length_cons]; show 6 + _ = _; omega
theorem nvs_get : ∀ (V : List NV) {k : Nat} (h : k < V.length) (j : Nat) (_ : j < 6), (nvs V)[k * 6 + j]? = V[k].row[j]?
 | v :: V, 0, _, j, hj => by
  show (v.row ++ nvs V)[0 * 6 + j]? = v.row[j]?
  rw [Nat.zero_mul, Nat.zero_add, List.getElem?_append_left (by show j < 6; exact hj)]
 | v :: V, k + 1, h, j, hj => by
  show (v.row ++ nvs V)[(k + 1) * 6 + j]? = (V[k]'(by simpa using h)).row[j]?
  rw [List.getElem?_append_right (by show 6 ≤ _; omega)]
  show (nvs V)[(k + 1) * 6 + j - 6]? = _
  rw [show (k + 1) * 6 + j - 6 = k * 6 + j by omega]
  exact nvs_get V (by simpa using h) j hj
structure Means (w : World) (v : NV) (n : Nd) : Prop where
 k : v.k = n.kind
 mn : v.mn = n.mn
 mx : v.mx = n.mx
 set : Has3 w v.A1 v.n1 v.A2 v.n2 v.A3 v.n3 n.set
theorem Means.next {w w' : World} {v : NV} {n : Nd} (h : Means w v n) (hb : Below w.heap.size w w') : Means w' v n := ⟨h.k, h.mn, h.mx, h.set.next hb⟩
structure ArgN (w : World) (A : Option Addr) (n : Nat) (V : List NV) (l : List Nd) : Prop where
 rd : Rd w w.heap.size A (nvs V)
 len : V.length = n
 len2 : l.length = n
 means : ∀ (i : Nat) (h : i < V.length) (h2 : i < l.length), Means w V[i] l[i]
 sm : n ≤ 1099511627776
theorem ArgN.next {w w' : World} {A : Option Addr} {n : Nat} {V : List NV} {l : List Nd} (h : ArgN w A n V l) (hb : Below w.heap.size w w') : ArgN w' A n V l :=
 ⟨(h.rd.below hb).more hb.size, h.len, h.len2, fun i h1 h2 => (h.means i h1 h2).next hb, h.sm⟩
theorem rd_nv {w : World} {B b o : Nat} {V : List NV} (h : Rd w B (some ⟨b, o, none⟩) (nvs V)) {k : Nat} (hk : k < V.length) :
  w.cell? ⟨b, o + k * 6, none⟩ = some (.int .i64 V[k].k) ∧ w.cell? ⟨b, o + k * 6 + 1, none⟩ = some (.slice V[k].A1 V[k].n1 V[k].c1) ∧ w.cell? ⟨b, o + k * 6 + 2, none⟩ = some (.slice V[k].A2 V[k].n2 V[k].c2) ∧
  w.cell? ⟨b, o + k * 6 + 3, none⟩ = some (.slice V[k].A3 V[k].n3 V[k].c3) ∧ w.cell? ⟨b, o + k * 6 + 4, none⟩ = some (.int .i64 V[k].mn) ∧ w.cell? ⟨b, o + k * 6 + 5, none⟩ = some (.int .i64 V[k].mx) := by
 obtain ⟨b', o', e, _, hc⟩ := h (by intro e; have := congrArg List.length e; rw [nvs_len] at this; simp at this; omega)
 simp only [Option.some.injEq, Addr.mk.injEq, and_true] at e
 obtain ⟨rfl, rfl⟩ := e
 have g := fun j hj v hv => hc (k * 6 + j) v (by rw [nvs_get V hk j hj]; exact hv)
 refine ⟨by have := g 0 (by omega) _ rfl; rwa [Nat.add_zero] at this, ?_, ?_, ?_, ?_, ?_⟩
 ·have := g 1 (by omega) _ rfl; rwa [← Nat.add_assoc] at this
 ·have := g 2 (by omega) _ rfl; rwa [← Nat.add_assoc] at this
 ·have := g 3 (by omega) _ rfl; rwa [← Nat.add_assoc] at this
 ·have := g 4 (by omega) _ rfl; rwa [← Nat.add_assoc] at this
 ·have := g 5 (by omega) _ rfl; rwa [← Nat.add_assoc] at this
theorem nv_form {w : World} {B : Nat} {A : Option Addr} {V : List NV} (h : Rd w B A (nvs V)) (hn : 0 < V.length) : ∃ b o, A = some ⟨b, o, none⟩ ∧ b < B := h.form (by rw [nvs_len]; omega)
theorem take_one {a b : List Nd} {k : Nat} (ha : k < a.length) (hb : k < b.length) (h : a.take k = b.take k) (e : a[k] = b[k]) : a.take (k + 1) = b.take (k + 1) := by
 rw [List.take_succ_eq_append_getElem ha, List.take_succ_eq_append_getElem hb, h, e]
set_option maxHeartbeats 16000000 in
theorem rnsame_any (A B : Option Addr) (V U : List NV) (a b : List Nd) (n m c d : Nat) (w : World) (h : ArgN w A n V a) (k : ArgN w B m U b) :
  Calls Tryz.prog 14 #[.slice A n c, .slice B m d] w (Ret w (.bool (decide (a = b)))) := by
 have H := Lib.hid h; have K := Lib.hid k
 have hn := h.sm; have hm := k.sm
 clear h k
 by_cases hnm : n = m
 ·subst hnm
  go_enter Tryz.func14, Tryz.ntmps14
  go_wp2_with fail
  go_loopw [5] (fun i wr => ∃ k : Nat, k ≤ n ∧ i = .int .i64 k ∧ Hid (a.take k = b.take k) ∧ Hid (Below w.heap.size w wr)) (fun i _ => n - (intOf i).toNat)
  case atStart => exact ⟨0, Nat.zero_le _, rfl, Lib.hid rfl, Lib.hid (Below.refl _ _)⟩
  case round =>
   obtain ⟨k, hk, rfl, HT, HB⟩ := hrel
   by_cases hlt : k < n
   ·have ha : k < a.length := by rw [H.out.len2]; exact hlt
    have hb : k < b.length := by rw [K.out.len2]; exact hlt
    have hv : k < V.length := by rw [H.out.len]; exact hlt
    have hu : k < U.length := by rw [K.out.len]; exact hlt
    have H1 := H.out.next HB.out; have K1 := K.out.next HB.out
    obtain ⟨p, o, rfl, _⟩ := nv_form H1.rd (by omega)
    obtain ⟨q, r, rfl, _⟩ := nv_form K1.rd (by omega)
    have HM := Lib.hid (H1.means k hv ha); have KM := Lib.hid (K1.means k hu hb)
    have HSW := Lib.hid (show ∀ u, Below wr.heap.size wr u → (u.cell? ⟨p, o + k * 6, none⟩ = some (.int .i64 V[k].k) ∧ u.cell? ⟨p, o + k * 6 + 1, none⟩ = some (.slice V[k].A1 V[k].n1 V[k].c1) ∧ u.cell? ⟨p, o + k * 6 + 2, none⟩ = some (.slice V[k].A2 V[k].n2 V[k].c2) ∧ u.cell? ⟨p, o + k * 6 + 3, none⟩ = some (.slice V[k].A3 V[k].n3 V[k].c3) ∧ u.cell? ⟨p, o + k * 6 + 4, none⟩ = some (.int .i64 V[k].mn) ∧ u.cell? ⟨p, o + k * 6 + 5, none⟩ = some (.int .i64 V[k].mx)) ∧ (u.cell? ⟨q, r + k * 6, none⟩ = some (.int .i64 U[k].k) ∧ u.cell? ⟨q, r + k * 6 + 1, none⟩ = some (.slice U[k].A1 U[k].n1 U[k].c1) ∧ u.cell? ⟨q, r + k * 6 + 2, none⟩ = some (.slice U[k].A2 U[k].n2 U[k].c2) ∧ u.cell? ⟨q, r + k * 6 + 3, none⟩ = some (.slice U[k].A3 U[k].n3 U[k].c3) ∧ u.cell? ⟨q, r + k * 6 + 4, none⟩ = some (.int .i64 U[k].mn) ∧ u.cell? ⟨q, r + k * 6 + 5, none⟩ = some (.int .i64 U[k].mx)) from fun u hu' => ⟨rd_nv (H1.next hu').rd hv, rd_nv (K1.next hu').rd hu⟩)
    have HTK := Lib.hid (show a[k] = b[k] → a.take (k + 1) = b.take (k + 1) from take_one ha hb HT.out)
    have HNE := Lib.hid (show a[k] ≠ b[k] → decide (a = b) = false from fun hne => decide_eq_false fun e => hne (by subst e; rfl))
    generalize V[k] = v at HM HSW
    generalize U[k] = x at KM HSW
    generalize a[k] = s at HM HTK HNE
    generalize b[k] = t at KM HTK HNE
    have HQ0 := Lib.hid (show Below wr.heap.size wr wr.drew from (Below.refl _ _).drew)
    clear ha hb hv hu H1 K1
    have e1 := HM.out.k; have e2 := KM.out.k; have e3 := HM.out.mn; have e4 := KM.out.mn; have e5 := HM.out.mx; have e6 := KM.out.mx
    obtain ⟨vk, X1, x1, y1, X2, x2, y2, X3, x3, y3, vm, vx⟩ := v
    obtain ⟨uk, Z1, z1, r1, Z2, z2, r2, Z3, z3, r3, um, ux⟩ := x
    dsimp only at e1 e2 e3 e4 e5 e6 HSW
    have HE := Lib.hid (And.intro (And.intro e1 e2) (And.intro (And.intro e3 e4) (And.intro e5 e6)))
    clear e1 e2 e3 e4 e5 e6
    by_cases hk1 : vk = uk
    ·subst hk1
     by_cases hk2 : vm = um
     ·subst hk2
      by_cases hk3 : vx = ux
      ·subst hk3
       have HST := Lib.hid (show decide (s.set = t.set) = true → s = t from fun hs => by
        have hs := of_decide_eq_true hs
        obtain ⟨⟨f1, f2⟩, ⟨f3, f4⟩, f5, f6⟩ := HE.out
        obtain ⟨k1, s1, m1, x1⟩ := s
        obtain ⟨k2, s2, m2, x2⟩ := t
        simp only at *
        rw [← f1, ← f3, ← f5, f2, f4, f6, hs])
       go_wp2_with fail
       refine wp_region_held_drew (S := fun u => (u.cell? ⟨p, o + k * 6, none⟩ = some (.int .i64 vk) ∧ u.cell? ⟨p, o + k * 6 + 1, none⟩ = some (.slice X1 x1 y1) ∧ u.cell? ⟨p, o + k * 6 + 2, none⟩ = some (.slice X2 x2 y2) ∧ u.cell? ⟨p, o + k * 6 + 3, none⟩ = some (.slice X3 x3 y3) ∧ u.cell? ⟨p, o + k * 6 + 4, none⟩ = some (.int .i64 vm) ∧ u.cell? ⟨p, o + k * 6 + 5, none⟩ = some (.int .i64 vx)) ∧ (u.cell? ⟨q, r + k * 6, none⟩ = some (.int .i64 vk) ∧ u.cell? ⟨q, r + k * 6 + 1, none⟩ = some (.slice Z1 z1 r1) ∧ u.cell? ⟨q, r + k * 6 + 2, none⟩ = some (.slice Z2 z2 r2) ∧ u.cell? ⟨q, r + k * 6 + 3, none⟩ = some (.slice Z3 z3 r3) ∧ u.cell? ⟨q, r + k * 6 + 4, none⟩ = some (.int .i64 vm) ∧ u.cell? ⟨q, r + k * 6 + 5, none⟩ = some (.int .i64 vx))) (by kernel_rfl) (HSW.out _ HQ0.out) (fun hHeld => ?_)
       refine wpAnyH_take (i := 0) (oi := _) (v := ?_) rfl (by kernel_rfl) (by kernel_rfl) (by kernel_rfl) (fun _ _ _ h => h) (Or.inl ⟨by rfl, ?_⟩) (by assumption) ?_
       rotate_left
       ·(intro w hSw; (try dsimp only at hSw); (try obtain ⟨⟨s1_, s2_, s3_, s4_, s5_, s6_⟩, t1_, t2_, t3_, t4_, t5_, t6_⟩ := hSw); go_simp <;> with_reducible rfl)
       simp only [List.getElem_toArray, List.getElem_cons_zero, Act.put, List.setIfInBounds_toArray, List.set_cons_zero, List.set_cons_succ]
       refine wpAnyH_take (i := 1) (oi := _) (v := ?_) rfl (by kernel_rfl) (by kernel_rfl) (by kernel_rfl) (fun _ _ _ h => h) (Or.inl ⟨by rfl, ?_⟩) (by assumption) ?_
       rotate_left
       ·(intro w hSw; (try dsimp only at hSw); (try obtain ⟨⟨s1_, s2_, s3_, s4_, s5_, s6_⟩, t1_, t2_, t3_, t4_, t5_, t6_⟩ := hSw); go_simp <;> with_reducible rfl)
       simp only [List.getElem_toArray, List.getElem_cons_succ, List.getElem_cons_zero, Act.put, List.setIfInBounds_toArray, List.set_cons_zero, List.set_cons_succ]
       refine wpAnyH_take (i := 2) (oi := _) (v := ?_) rfl (by kernel_rfl) (by kernel_rfl) (by kernel_rfl) (fun _ _ _ h => h) (Or.inl ⟨by rfl, ?_⟩) (by assumption) ?_
       rotate_left
       ·(intro w hSw; (try dsimp only at hSw); (try obtain ⟨⟨s1_, s2_, s3_, s4_, s5_, s6_⟩, t1_, t2_, t3_, t4_, t5_, t6_⟩ := hSw); go_simp <;> with_reducible rfl)
       simp only [List.getElem_toArray, List.getElem_cons_succ, List.getElem_cons_zero, Act.put, List.setIfInBounds_toArray, List.set_cons_zero, List.set_cons_succ]
       refine wpAnyH_take (i := 3) (oi := _) (v := ?_) rfl (by kernel_rfl) (by kernel_rfl) (by kernel_rfl) (fun _ _ _ h => h) (Or.inl ⟨by rfl, ?_⟩) (by assumption) ?_
       rotate_left
       ·(intro w hSw; (try dsimp only at hSw); (try obtain ⟨⟨s1_, s2_, s3_, s4_, s5_, s6_⟩, t1_, t2_, t3_, t4_, t5_, t6_⟩ := hSw); go_simp <;> with_reducible rfl)
       simp only [List.getElem_toArray, List.getElem_cons_succ, List.getElem_cons_zero, Act.put, List.setIfInBounds_toArray, List.set_cons_zero, List.set_cons_succ]
       refine wpAnyH_take (i := 4) (oi := _) (v := ?_) rfl (by kernel_rfl) (by kernel_rfl) (by kernel_rfl) (fun _ _ _ h => h) (Or.inl ⟨by rfl, ?_⟩) (by assumption) ?_
       rotate_left
       ·(intro w hSw; (try dsimp only at hSw); (try obtain ⟨⟨s1_, s2_, s3_, s4_, s5_, s6_⟩, t1_, t2_, t3_, t4_, t5_, t6_⟩ := hSw); go_simp <;> with_reducible rfl)
       simp only [List.getElem_toArray, List.getElem_cons_succ, List.getElem_cons_zero, Act.put, List.setIfInBounds_toArray, List.set_cons_zero, List.set_cons_succ]
       refine wpAnyH_take (i := 5) (oi := _) (v := ?_) rfl (by kernel_rfl) (by kernel_rfl) (by kernel_rfl) (fun _ _ _ h => h) (Or.inl ⟨by rfl, ?_⟩) (by assumption) ?_
       rotate_left
       ·(intro w hSw; (try dsimp only at hSw); (try obtain ⟨⟨s1_, s2_, s3_, s4_, s5_, s6_⟩, t1_, t2_, t3_, t4_, t5_, t6_⟩ := hSw); go_simp <;> with_reducible rfl)
       simp only [List.getElem_toArray, List.getElem_cons_succ, List.getElem_cons_zero, Act.put, List.setIfInBounds_toArray, List.set_cons_zero, List.set_cons_succ]
       refine wpAnyH_take (i := 6) (oi := _) (v := ?_) rfl (by kernel_rfl) (by kernel_rfl) (by kernel_rfl) (fun _ _ _ h => h) (Or.inl ⟨by rfl, ?_⟩) (by assumption) ?_
       rotate_left
       ·(intro w hSw; (try dsimp only at hSw); (try obtain ⟨⟨s1_, s2_, s3_, s4_, s5_, s6_⟩, t1_, t2_, t3_, t4_, t5_, t6_⟩ := hSw); go_simp <;> with_reducible rfl)
       simp only [List.getElem_toArray, List.getElem_cons_succ, List.getElem_cons_zero, Act.put, List.setIfInBounds_toArray, List.set_cons_zero, List.set_cons_succ]
       refine wpAnyH_take (i := 7) (oi := _) (v := ?_) rfl (by kernel_rfl) (by kernel_rfl) (by kernel_rfl) (fun _ _ _ h => h) (Or.inl ⟨by rfl, ?_⟩) (by assumption) ?_
       rotate_left
       ·(intro w hSw; (try dsimp only at hSw); (try obtain ⟨⟨s1_, s2_, s3_, s4_, s5_, s6_⟩, t1_, t2_, t3_, t4_, t5_, t6_⟩ := hSw); go_simp <;> with_reducible rfl)
       simp only [List.getElem_toArray, List.getElem_cons_succ, List.getElem_cons_zero, Act.put, List.setIfInBounds_toArray, List.set_cons_zero, List.set_cons_succ]
       refine wpAnyH_take (i := 8) (oi := _) (v := ?_) rfl (by kernel_rfl) (by kernel_rfl) (by kernel_rfl) (fun _ _ _ h => h) (Or.inl ⟨by rfl, ?_⟩) (by assumption) ?_
       rotate_left
       ·(intro w hSw; (try dsimp only at hSw); (try obtain ⟨⟨s1_, s2_, s3_, s4_, s5_, s6_⟩, t1_, t2_, t3_, t4_, t5_, t6_⟩ := hSw); go_simp <;> with_reducible rfl)
       simp only [List.getElem_toArray, List.getElem_cons_succ, List.getElem_cons_zero, Act.put, List.setIfInBounds_toArray, List.set_cons_zero, List.set_cons_succ]
       refine wpAnyH_take (i := 9) (oi := _) (v := ?_) rfl (by kernel_rfl) (by kernel_rfl) (by kernel_rfl) (fun _ _ _ h => h) (Or.inl ⟨by rfl, ?_⟩) (by assumption) ?_
       rotate_left
       ·(intro w hSw; (try dsimp only at hSw); (try obtain ⟨⟨s1_, s2_, s3_, s4_, s5_, s6_⟩, t1_, t2_, t3_, t4_, t5_, t6_⟩ := hSw); go_simp <;> with_reducible rfl)
       simp only [List.getElem_toArray, List.getElem_cons_succ, List.getElem_cons_zero, Act.put, List.setIfInBounds_toArray, List.set_cons_zero, List.set_cons_succ]
       refine wpAnyH_take (i := 10) (oi := _) (v := ?_) rfl (by kernel_rfl) (by kernel_rfl) (by kernel_rfl) (fun _ _ _ h => h) (Or.inl ⟨by rfl, ?_⟩) (by assumption) ?_
       rotate_left
       ·(intro w hSw; (try dsimp only at hSw); (try obtain ⟨⟨s1_, s2_, s3_, s4_, s5_, s6_⟩, t1_, t2_, t3_, t4_, t5_, t6_⟩ := hSw); go_simp <;> with_reducible rfl)
       simp only [List.getElem_toArray, List.getElem_cons_succ, List.getElem_cons_zero, Act.put, List.setIfInBounds_toArray, List.set_cons_zero, List.set_cons_succ]
       refine wpAnyH_take (i := 11) (oi := _) (v := ?_) rfl (by kernel_rfl) (by kernel_rfl) (by kernel_rfl) (fun _ _ _ h => h) (Or.inl ⟨by rfl, ?_⟩) (by assumption) ?_
       rotate_left
       ·(intro w hSw; (try dsimp only at hSw); (try obtain ⟨⟨s1_, s2_, s3_, s4_, s5_, s6_⟩, t1_, t2_, t3_, t4_, t5_, t6_⟩ := hSw); go_simp <;> with_reducible rfl)
       simp only [List.getElem_toArray, List.getElem_cons_succ, List.getElem_cons_zero, Act.put, List.setIfInBounds_toArray, List.set_cons_zero, List.set_cons_succ]
       refine wpAnyH_take (i := 12) (oi := _) (v := ?_) rfl (by kernel_rfl) (by kernel_rfl) (by kernel_rfl) (fun _ _ _ h => h) (Or.inl ⟨by rfl, ?_⟩) (by assumption) ?_
       rotate_left
       ·(intro w hSw; (try dsimp only at hSw); (try obtain ⟨⟨s1_, s2_, s3_, s4_, s5_, s6_⟩, t1_, t2_, t3_, t4_, t5_, t6_⟩ := hSw); go_simp <;> with_reducible rfl)
       simp only [List.getElem_toArray, List.getElem_cons_succ, List.getElem_cons_zero, Act.put, List.setIfInBounds_toArray, List.set_cons_zero, List.set_cons_succ]
       refine wpAnyH_take (i := 13) (oi := _) (v := ?_) rfl (by kernel_rfl) (by kernel_rfl) (by kernel_rfl) (fun _ _ _ h => h) (Or.inl ⟨by rfl, ?_⟩) (by assumption) ?_
       rotate_left
       ·(intro w hSw; (try dsimp only at hSw); (try obtain ⟨⟨s1_, s2_, s3_, s4_, s5_, s6_⟩, t1_, t2_, t3_, t4_, t5_, t6_⟩ := hSw); go_simp <;> with_reducible rfl)
       simp only [List.getElem_toArray, List.getElem_cons_succ, List.getElem_cons_zero, Act.put, List.setIfInBounds_toArray, List.set_cons_zero, List.set_cons_succ]
       refine wpAnyH_take (i := 14) (oi := _) (v := ?_) rfl (by kernel_rfl) (by kernel_rfl) (by kernel_rfl) (fun _ _ _ h => h) (Or.inl ⟨by rfl, ?_⟩) (by assumption) ?_
       rotate_left
       ·(intro w hSw; (try dsimp only at hSw); (try obtain ⟨⟨s1_, s2_, s3_, s4_, s5_, s6_⟩, t1_, t2_, t3_, t4_, t5_, t6_⟩ := hSw); go_simp <;> with_reducible rfl)
       simp only [List.getElem_toArray, List.getElem_cons_succ, List.getElem_cons_zero, Act.put, List.setIfInBounds_toArray, List.set_cons_zero, List.set_cons_succ]
       refine wpAnyH_take (i := 15) (oi := _) (v := ?_) rfl (by kernel_rfl) (by kernel_rfl) (by kernel_rfl) (fun _ _ _ h => h) (Or.inl ⟨by rfl, ?_⟩) (by assumption) ?_
       rotate_left
       ·(intro w hSw; (try dsimp only at hSw); (try obtain ⟨⟨s1_, s2_, s3_, s4_, s5_, s6_⟩, t1_, t2_, t3_, t4_, t5_, t6_⟩ := hSw); go_simp <;> with_reducible rfl)
       simp only [List.getElem_toArray, List.getElem_cons_succ, List.getElem_cons_zero, Act.put, List.setIfInBounds_toArray, List.set_cons_zero, List.set_cons_succ]
       refine wpAnyH_take (i := 16) (oi := _) (v := ?_) rfl (by kernel_rfl) (by kernel_rfl) (by kernel_rfl) (fun _ _ _ h => h) (Or.inl ⟨by rfl, ?_⟩) (by assumption) ?_
       rotate_left
       ·(intro w hSw; (try dsimp only at hSw); (try obtain ⟨⟨s1_, s2_, s3_, s4_, s5_, s6_⟩, t1_, t2_, t3_, t4_, t5_, t6_⟩ := hSw); go_simp <;> with_reducible rfl)
       simp only [List.getElem_toArray, List.getElem_cons_succ, List.getElem_cons_zero, Act.put, List.setIfInBounds_toArray, List.set_cons_zero, List.set_cons_succ]
       refine wpAnyH_take (i := 17) (oi := _) (v := ?_) rfl (by kernel_rfl) (by kernel_rfl) (by kernel_rfl) (fun _ _ _ h => h) (Or.inl ⟨by rfl, ?_⟩) (by assumption) ?_
       rotate_left
       ·(intro w hSw; (try dsimp only at hSw); (try obtain ⟨⟨s1_, s2_, s3_, s4_, s5_, s6_⟩, t1_, t2_, t3_, t4_, t5_, t6_⟩ := hSw); go_simp <;> with_reducible rfl)
       simp only [List.getElem_toArray, List.getElem_cons_succ, List.getElem_cons_zero, Act.put, List.setIfInBounds_toArray, List.set_cons_zero, List.set_cons_succ]
       refine wpAnyH_take (i := 18) (oi := _) (v := ?_) rfl (by kernel_rfl) (by kernel_rfl) (by kernel_rfl) (fun _ _ _ h => h) (Or.inl ⟨by rfl, ?_⟩) (by assumption) ?_
       rotate_left
       ·(intro w hSw; (try dsimp only at hSw); (try obtain ⟨⟨s1_, s2_, s3_, s4_, s5_, s6_⟩, t1_, t2_, t3_, t4_, t5_, t6_⟩ := hSw); go_simp <;> with_reducible rfl)
       simp only [List.getElem_toArray, List.getElem_cons_succ, List.getElem_cons_zero, Act.put, List.setIfInBounds_toArray, List.set_cons_zero, List.set_cons_succ]
       refine wpAnyH_take (i := 19) (oi := _) (v := ?_) rfl (by kernel_rfl) (by kernel_rfl) (by kernel_rfl) (fun _ _ _ h => h) (Or.inl ⟨by rfl, ?_⟩) (by assumption) ?_
       rotate_left
       ·(intro w hSw; (try dsimp only at hSw); (try obtain ⟨⟨s1_, s2_, s3_, s4_, s5_, s6_⟩, t1_, t2_, t3_, t4_, t5_, t6_⟩ := hSw); go_simp <;> with_reducible rfl)
       simp only [List.getElem_toArray, List.getElem_cons_succ, List.getElem_cons_zero, Act.put, List.setIfInBounds_toArray, List.set_cons_zero, List.set_cons_succ]
       refine wpAnyH_take (i := 20) (oi := _) (v := ?_) rfl (by kernel_rfl) (by kernel_rfl) (by kernel_rfl) (fun _ _ _ h => h) (Or.inl ⟨by rfl, ?_⟩) (by assumption) ?_
       rotate_left
       ·(intro w hSw; (try dsimp only at hSw); (try obtain ⟨⟨s1_, s2_, s3_, s4_, s5_, s6_⟩, t1_, t2_, t3_, t4_, t5_, t6_⟩ := hSw); go_simp <;> with_reducible rfl)
       simp only [List.getElem_toArray, List.getElem_cons_succ, List.getElem_cons_zero, Act.put, List.setIfInBounds_toArray, List.set_cons_zero, List.set_cons_succ]
       refine wpAnyH_take (i := 21) (oi := _) (v := ?_) rfl (by kernel_rfl) (by kernel_rfl) (by kernel_rfl) (fun _ _ _ h => h) (Or.inl ⟨by rfl, ?_⟩) (by assumption) ?_
       rotate_left
       ·(intro w hSw; (try dsimp only at hSw); (try obtain ⟨⟨s1_, s2_, s3_, s4_, s5_, s6_⟩, t1_, t2_, t3_, t4_, t5_, t6_⟩ := hSw); go_simp <;> with_reducible rfl)
       simp only [List.getElem_toArray, List.getElem_cons_succ, List.getElem_cons_zero, Act.put, List.setIfInBounds_toArray, List.set_cons_zero, List.set_cons_succ]
       refine wpAnyH_take (i := 22) (oi := _) (v := ?_) rfl (by kernel_rfl) (by kernel_rfl) (by kernel_rfl) (fun _ _ _ h => h) (Or.inl ⟨by rfl, ?_⟩) (by assumption) ?_
       rotate_left
       ·(intro w hSw; (try dsimp only at hSw); (try obtain ⟨⟨s1_, s2_, s3_, s4_, s5_, s6_⟩, t1_, t2_, t3_, t4_, t5_, t6_⟩ := hSw); go_simp <;> with_reducible rfl)
       simp only [List.getElem_toArray, List.getElem_cons_succ, List.getElem_cons_zero, Act.put, List.setIfInBounds_toArray, List.set_cons_zero, List.set_cons_succ]
       refine wpAnyH_take (i := 23) (oi := _) (v := ?_) rfl (by kernel_rfl) (by kernel_rfl) (by kernel_rfl) (fun _ _ _ h => h) (Or.inl ⟨by rfl, ?_⟩) (by assumption) ?_
       rotate_left
       ·(intro w hSw; (try dsimp only at hSw); (try obtain ⟨⟨s1_, s2_, s3_, s4_, s5_, s6_⟩, t1_, t2_, t3_, t4_, t5_, t6_⟩ := hSw); go_simp <;> with_reducible rfl)
       simp only [List.getElem_toArray, List.getElem_cons_succ, List.getElem_cons_zero, Act.put, List.setIfInBounds_toArray, List.set_cons_zero, List.set_cons_succ]
       refine wpAnyH_take (i := 24) (oi := _) (v := ?_) rfl (by kernel_rfl) (by kernel_rfl) (by kernel_rfl) (fun _ _ _ h => h) (Or.inl ⟨by rfl, ?_⟩) (by assumption) ?_
       rotate_left
       ·(intro w hSw; (try dsimp only at hSw); (try obtain ⟨⟨s1_, s2_, s3_, s4_, s5_, s6_⟩, t1_, t2_, t3_, t4_, t5_, t6_⟩ := hSw); go_simp <;> with_reducible rfl)
       simp only [List.getElem_toArray, List.getElem_cons_succ, List.getElem_cons_zero, Act.put, List.setIfInBounds_toArray, List.set_cons_zero, List.set_cons_succ]
       refine wpAnyH_take (i := 25) (oi := _) (v := ?_) rfl (by kernel_rfl) (by kernel_rfl) (by kernel_rfl) (fun _ _ _ h => h) (Or.inl ⟨by rfl, ?_⟩) (by assumption) ?_
       rotate_left
       ·(intro w hSw; (try dsimp only at hSw); (try obtain ⟨⟨s1_, s2_, s3_, s4_, s5_, s6_⟩, t1_, t2_, t3_, t4_, t5_, t6_⟩ := hSw); go_simp <;> with_reducible rfl)
       simp only [List.getElem_toArray, List.getElem_cons_succ, List.getElem_cons_zero, Act.put, List.setIfInBounds_toArray, List.set_cons_zero, List.set_cons_succ]
       refine wpAnyH_take (i := 26) (oi := _) (v := ?_) rfl (by kernel_rfl) (by kernel_rfl) (by kernel_rfl) (fun _ _ _ h => h) (Or.inl ⟨by rfl, ?_⟩) (by assumption) ?_
       rotate_left
       ·(intro w hSw; (try dsimp only at hSw); (try obtain ⟨⟨s1_, s2_, s3_, s4_, s5_, s6_⟩, t1_, t2_, t3_, t4_, t5_, t6_⟩ := hSw); go_simp <;> with_reducible rfl)
       simp only [List.getElem_toArray, List.getElem_cons_succ, List.getElem_cons_zero, Act.put, List.setIfInBounds_toArray, List.set_cons_zero, List.set_cons_succ]
       refine wpAnyH_take (i := 27) (oi := _) (v := ?_) rfl (by kernel_rfl) (by kernel_rfl) (by kernel_rfl) (fun _ _ _ h => h) (Or.inl ⟨by rfl, ?_⟩) (by assumption) ?_
       rotate_left
       ·(intro w hSw; (try dsimp only at hSw); (try obtain ⟨⟨s1_, s2_, s3_, s4_, s5_, s6_⟩, t1_, t2_, t3_, t4_, t5_, t6_⟩ := hSw); go_simp <;> with_reducible rfl)
       simp only [List.getElem_toArray, List.getElem_cons_succ, List.getElem_cons_zero, Act.put, List.setIfInBounds_toArray, List.set_cons_zero, List.set_cons_succ]
       refine wpAnyH_take (i := 28) (oi := _) (v := ?_) rfl (by kernel_rfl) (by kernel_rfl) (by kernel_rfl) (fun _ _ _ h => h) (Or.inl ⟨by rfl, ?_⟩) (by assumption) ?_
       rotate_left
       ·(intro w hSw; (try dsimp only at hSw); (try obtain ⟨⟨s1_, s2_, s3_, s4_, s5_, s6_⟩, t1_, t2_, t3_, t4_, t5_, t6_⟩ := hSw); go_simp <;> with_reducible rfl)
       simp only [List.getElem_toArray, List.getElem_cons_succ, List.getElem_cons_zero, Act.put, List.setIfInBounds_toArray, List.set_cons_zero, List.set_cons_succ]
       refine wpAnyH_take (i := 29) (oi := _) (v := ?_) rfl (by kernel_rfl) (by kernel_rfl) (by kernel_rfl) (fun _ _ _ h => h) (Or.inl ⟨by rfl, ?_⟩) (by assumption) ?_
       rotate_left
       ·(intro w hSw; (try dsimp only at hSw); (try obtain ⟨⟨s1_, s2_, s3_, s4_, s5_, s6_⟩, t1_, t2_, t3_, t4_, t5_, t6_⟩ := hSw); go_simp <;> with_reducible rfl)
       simp only [List.getElem_toArray, List.getElem_cons_succ, List.getElem_cons_zero, Act.put, List.setIfInBounds_toArray, List.set_cons_zero, List.set_cons_succ]
       refine wpAnyH_take (i := 30) (oi := _) (v := ?_) rfl (by kernel_rfl) (by kernel_rfl) (by kernel_rfl) (fun _ _ _ h => h) (Or.inl ⟨by rfl, ?_⟩) (by assumption) ?_
       rotate_left
       ·(intro w hSw; (try dsimp only at hSw); (try obtain ⟨⟨s1_, s2_, s3_, s4_, s5_, s6_⟩, t1_, t2_, t3_, t4_, t5_, t6_⟩ := hSw); go_simp <;> with_reducible rfl)
       simp only [List.getElem_toArray, List.getElem_cons_succ, List.getElem_cons_zero, Act.put, List.setIfInBounds_toArray, List.set_cons_zero, List.set_cons_succ]
       refine wpAnyH_take (i := 31) (oi := _) (v := ?_) rfl (by kernel_rfl) (by kernel_rfl) (by kernel_rfl) (fun _ _ _ h => h) (Or.inl ⟨by rfl, ?_⟩) (by assumption) ?_
       rotate_left
       ·(intro w hSw; (try dsimp only at hSw); (try obtain ⟨⟨s1_, s2_, s3_, s4_, s5_, s6_⟩, t1_, t2_, t3_, t4_, t5_, t6_⟩ := hSw); go_simp <;> with_reducible rfl)
       simp only [List.getElem_toArray, List.getElem_cons_succ, List.getElem_cons_zero, Act.put, List.setIfInBounds_toArray, List.set_cons_zero, List.set_cons_succ]
       refine wpAnyH_take (i := 32) (oi := _) (v := ?_) rfl (by kernel_rfl) (by kernel_rfl) (by kernel_rfl) (fun _ _ _ h => h) (Or.inl ⟨by rfl, ?_⟩) (by assumption) ?_
       rotate_left
       ·(intro w hSw; (try dsimp only at hSw); (try obtain ⟨⟨s1_, s2_, s3_, s4_, s5_, s6_⟩, t1_, t2_, t3_, t4_, t5_, t6_⟩ := hSw); go_simp <;> with_reducible rfl)
       simp only [List.getElem_toArray, List.getElem_cons_succ, List.getElem_cons_zero, Act.put, List.setIfInBounds_toArray, List.set_cons_zero, List.set_cons_succ]
       refine wpAnyH_take (i := 33) (oi := _) (v := ?_) rfl (by kernel_rfl) (by kernel_rfl) (by kernel_rfl) (fun _ _ _ h => h) (Or.inl ⟨by rfl, ?_⟩) (by assumption) ?_
       rotate_left
       ·(intro w hSw; (try dsimp only at hSw); (try obtain ⟨⟨s1_, s2_, s3_, s4_, s5_, s6_⟩, t1_, t2_, t3_, t4_, t5_, t6_⟩ := hSw); go_simp <;> with_reducible rfl)
       simp only [List.getElem_toArray, List.getElem_cons_succ, List.getElem_cons_zero, Act.put, List.setIfInBounds_toArray, List.set_cons_zero, List.set_cons_succ]
       refine wpAnyH_take (i := 34) (oi := _) (v := ?_) rfl (by kernel_rfl) (by kernel_rfl) (by kernel_rfl) (fun _ _ _ h => h) (Or.inl ⟨by rfl, ?_⟩) (by assumption) ?_
       rotate_left
       ·(intro w hSw; (try dsimp only at hSw); (try obtain ⟨⟨s1_, s2_, s3_, s4_, s5_, s6_⟩, t1_, t2_, t3_, t4_, t5_, t6_⟩ := hSw); go_simp <;> with_reducible rfl)
       simp only [List.getElem_toArray, List.getElem_cons_succ, List.getElem_cons_zero, Act.put, List.setIfInBounds_toArray, List.set_cons_zero, List.set_cons_succ]
       refine wpAnyH_take (i := 35) (oi := _) (v := ?_) rfl (by kernel_rfl) (by kernel_rfl) (by kernel_rfl) (fun _ _ _ h => h) (Or.inl ⟨by rfl, ?_⟩) (by assumption) ?_
       rotate_left
       ·(intro w hSw; (try dsimp only at hSw); (try obtain ⟨⟨s1_, s2_, s3_, s4_, s5_, s6_⟩, t1_, t2_, t3_, t4_, t5_, t6_⟩ := hSw); go_simp <;> with_reducible rfl)
       simp only [List.getElem_toArray, List.getElem_cons_succ, List.getElem_cons_zero, Act.put, List.setIfInBounds_toArray, List.set_cons_zero, List.set_cons_succ]
       refine wpAnyH_take (i := 36) (oi := _) (v := ?_) rfl (by kernel_rfl) (by kernel_rfl) (by kernel_rfl) (fun _ _ _ h => h) (Or.inl ⟨by rfl, ?_⟩) (by assumption) ?_
       rotate_left
       ·(intro w hSw; (try dsimp only at hSw); (try obtain ⟨⟨s1_, s2_, s3_, s4_, s5_, s6_⟩, t1_, t2_, t3_, t4_, t5_, t6_⟩ := hSw); go_simp <;> with_reducible rfl)
       simp only [List.getElem_toArray, List.getElem_cons_succ, List.getElem_cons_zero, Act.put, List.setIfInBounds_toArray, List.set_cons_zero, List.set_cons_succ]
       refine wpAnyH_take (i := 37) (oi := _) (v := ?_) rfl (by kernel_rfl) (by kernel_rfl) (by kernel_rfl) (fun _ _ _ h => h) (Or.inl ⟨by rfl, ?_⟩) (by assumption) ?_
       rotate_left
       ·(intro w hSw; (try dsimp only at hSw); (try obtain ⟨⟨s1_, s2_, s3_, s4_, s5_, s6_⟩, t1_, t2_, t3_, t4_, t5_, t6_⟩ := hSw); go_simp <;> with_reducible rfl)
       simp only [List.getElem_toArray, List.getElem_cons_succ, List.getElem_cons_zero, Act.put, List.setIfInBounds_toArray, List.set_cons_zero, List.set_cons_succ]
       refine wpAnyH_take (i := 38) (oi := _) (v := ?_) rfl (by kernel_rfl) (by kernel_rfl) (by kernel_rfl) (fun _ _ _ h => h) (Or.inl ⟨by rfl, ?_⟩) (by assumption) ?_
       rotate_left
       ·(intro w hSw; (try dsimp only at hSw); (try obtain ⟨⟨s1_, s2_, s3_, s4_, s5_, s6_⟩, t1_, t2_, t3_, t4_, t5_, t6_⟩ := hSw); go_simp <;> with_reducible rfl)
       simp only [List.getElem_toArray, List.getElem_cons_succ, List.getElem_cons_zero, Act.put, List.setIfInBounds_toArray, List.set_cons_zero, List.set_cons_succ]
       refine wpAnyH_take (i := 39) (oi := _) (v := ?_) rfl (by kernel_rfl) (by kernel_rfl) (by kernel_rfl) (fun _ _ _ h => h) (Or.inl ⟨by rfl, ?_⟩) (by assumption) ?_
       rotate_left
       ·(intro w hSw; (try dsimp only at hSw); (try obtain ⟨⟨s1_, s2_, s3_, s4_, s5_, s6_⟩, t1_, t2_, t3_, t4_, t5_, t6_⟩ := hSw); go_simp <;> with_reducible rfl)
       simp only [List.getElem_toArray, List.getElem_cons_succ, List.getElem_cons_zero, Act.put, List.setIfInBounds_toArray, List.set_cons_zero, List.set_cons_succ]
       refine wpAnyH_take (i := 40) (oi := _) (v := ?_) rfl (by kernel_rfl) (by kernel_rfl) (by kernel_rfl) (fun _ _ _ h => h) (Or.inl ⟨by rfl, ?_⟩) (by assumption) ?_
       rotate_left
       ·(intro w hSw; (try dsimp only at hSw); (try obtain ⟨⟨s1_, s2_, s3_, s4_, s5_, s6_⟩, t1_, t2_, t3_, t4_, t5_, t6_⟩ := hSw); go_simp <;> with_reducible rfl)
       simp only [List.getElem_toArray, List.getElem_cons_succ, List.getElem_cons_zero, Act.put, List.setIfInBounds_toArray, List.set_cons_zero, List.set_cons_succ]
       refine wpAnyH_take (i := 41) (oi := _) (v := ?_) rfl (by kernel_rfl) (by kernel_rfl) (by kernel_rfl) (fun _ _ _ h => h) (Or.inl ⟨by rfl, ?_⟩) (by assumption) ?_
       rotate_left
       ·(intro w hSw; (try dsimp only at hSw); (try obtain ⟨⟨s1_, s2_, s3_, s4_, s5_, s6_⟩, t1_, t2_, t3_, t4_, t5_, t6_⟩ := hSw); go_simp <;> with_reducible rfl)
       simp only [List.getElem_toArray, List.getElem_cons_succ, List.getElem_cons_zero, Act.put, List.setIfInBounds_toArray, List.set_cons_zero, List.set_cons_succ]
       refine wpAnyH_take (i := 42) (oi := _) (v := ?_) rfl (by kernel_rfl) (by kernel_rfl) (by kernel_rfl) (fun _ _ _ h => h) (Or.inl ⟨by rfl, ?_⟩) (by assumption) ?_
       rotate_left
       ·(intro w hSw; (try dsimp only at hSw); (try obtain ⟨⟨s1_, s2_, s3_, s4_, s5_, s6_⟩, t1_, t2_, t3_, t4_, t5_, t6_⟩ := hSw); go_simp <;> with_reducible rfl)
       simp only [List.getElem_toArray, List.getElem_cons_succ, List.getElem_cons_zero, Act.put, List.setIfInBounds_toArray, List.set_cons_zero, List.set_cons_succ]
       refine wpAnyH_take (i := 43) (oi := _) (v := ?_) rfl (by kernel_rfl) (by kernel_rfl) (by kernel_rfl) (fun _ _ _ h => h) (Or.inl ⟨by rfl, ?_⟩) (by assumption) ?_
       rotate_left
       ·(intro w hSw; (try dsimp only at hSw); (try obtain ⟨⟨s1_, s2_, s3_, s4_, s5_, s6_⟩, t1_, t2_, t3_, t4_, t5_, t6_⟩ := hSw); go_simp <;> with_reducible rfl)
       simp only [List.getElem_toArray, List.getElem_cons_succ, List.getElem_cons_zero, Act.put, List.setIfInBounds_toArray, List.set_cons_zero, List.set_cons_succ]
       refine wpAnyH_take (i := 44) (oi := _) (v := ?_) rfl (by kernel_rfl) (by kernel_rfl) (by kernel_rfl) (fun _ _ _ h => h) (Or.inl ⟨by rfl, ?_⟩) (by assumption) ?_
       rotate_left
       ·(intro w hSw; (try dsimp only at hSw); (try obtain ⟨⟨s1_, s2_, s3_, s4_, s5_, s6_⟩, t1_, t2_, t3_, t4_, t5_, t6_⟩ := hSw); go_simp <;> with_reducible rfl)
       simp only [List.getElem_toArray, List.getElem_cons_succ, List.getElem_cons_zero, Act.put, List.setIfInBounds_toArray, List.set_cons_zero, List.set_cons_succ]
       refine wpAnyH_take (i := 45) (oi := _) (v := ?_) rfl (by kernel_rfl) (by kernel_rfl) (by kernel_rfl) (fun _ _ _ h => h) (Or.inl ⟨by rfl, ?_⟩) (by assumption) ?_
       rotate_left
       ·(intro w hSw; (try dsimp only at hSw); (try obtain ⟨⟨s1_, s2_, s3_, s4_, s5_, s6_⟩, t1_, t2_, t3_, t4_, t5_, t6_⟩ := hSw); go_simp <;> with_reducible rfl)
       simp only [List.getElem_toArray, List.getElem_cons_succ, List.getElem_cons_zero, Act.put, List.setIfInBounds_toArray, List.set_cons_zero, List.set_cons_succ]
       refine wpAnyH_take (i := 46) (oi := _) (v := ?_) rfl (by kernel_rfl) (by kernel_rfl) (by kernel_rfl) (fun _ _ _ h => h) (Or.inl ⟨by rfl, ?_⟩) (by assumption) ?_
       rotate_left
       ·(intro w hSw; (try dsimp only at hSw); (try obtain ⟨⟨s1_, s2_, s3_, s4_, s5_, s6_⟩, t1_, t2_, t3_, t4_, t5_, t6_⟩ := hSw); go_simp <;> with_reducible rfl)
       simp only [List.getElem_toArray, List.getElem_cons_succ, List.getElem_cons_zero, Act.put, List.setIfInBounds_toArray, List.set_cons_zero, List.set_cons_succ]
       refine wpAnyH_take (i := 47) (oi := _) (v := ?_) rfl (by kernel_rfl) (by kernel_rfl) (by kernel_rfl) (fun _ _ _ h => h) (Or.inl ⟨by rfl, ?_⟩) (by assumption) ?_
       rotate_left
       ·(intro w hSw; (try dsimp only at hSw); (try obtain ⟨⟨s1_, s2_, s3_, s4_, s5_, s6_⟩, t1_, t2_, t3_, t4_, t5_, t6_⟩ := hSw); go_simp <;> with_reducible rfl)
       simp only [List.getElem_toArray, List.getElem_cons_succ, List.getElem_cons_zero, Act.put, List.setIfInBounds_toArray, List.set_cons_zero, List.set_cons_succ]
       refine wpAnyH_ready (rs := [48]) (by kernel_rfl) (by simp) (AllReadyH.cons rfl (fun K hK => ?_) AllReadyH.nil)
       go_simp
       refine (r_rsame _ _ _ _ _ _ (HM.out.set.next HQ0.out) (KM.out.set.next HQ0.out) rfl).mono ?_
       rintro e w1 ⟨rfl, hb⟩
       have HQ1 := Lib.hid (show Below wr.heap.size wr w1 from HQ0.out.trans (hb.mono HQ0.out.size))
       clear hb
       refine hK.out _ _ (HSW.out _ HQ1.out) (fun hHeld2 => ?_)
       clear hK K hHeld
       have hHeld := hHeld2
       clear hHeld2
       obtain ⟨z, hz⟩ : ∃ z, decide (s.set = t.set) = z := ⟨_, rfl⟩
       rw [hz] at HST ⊢
       have HZ := Lib.hid hz
       clear hz
       cases z with
       | true =>
        refine wpAnyH_take (i := 49) (oi := _) (v := ?_) rfl (by kernel_rfl) (by kernel_rfl) (by kernel_rfl) (fun _ _ _ h => h) (Or.inl ⟨by rfl, ?_⟩) (by assumption) ?_
        rotate_left
        ·(intro w hSw; (try dsimp only at hSw); (try obtain ⟨⟨s1_, s2_, s3_, s4_, s5_, s6_⟩, t1_, t2_, t3_, t4_, t5_, t6_⟩ := hSw); go_simp <;> with_reducible rfl)
        simp only [List.getElem_toArray, List.getElem_cons_succ, List.getElem_cons_zero, Act.put, List.setIfInBounds_toArray, List.set_cons_zero, List.set_cons_succ]
        refine wpAnyH_take (i := 50) (oi := _) (v := ?_) rfl (by kernel_rfl) (by kernel_rfl) (by kernel_rfl) (fun _ _ _ h => h) (Or.inl ⟨by rfl, ?_⟩) (by assumption) ?_
        rotate_left
        ·(intro w hSw; (try dsimp only at hSw); (try obtain ⟨⟨s1_, s2_, s3_, s4_, s5_, s6_⟩, t1_, t2_, t3_, t4_, t5_, t6_⟩ := hSw); go_simp <;> with_reducible rfl)
        simp only [List.getElem_toArray, List.getElem_cons_succ, List.getElem_cons_zero, Act.put, List.setIfInBounds_toArray, List.set_cons_zero, List.set_cons_succ]
        refine wpAnyH_done (by kernel_rfl) ?_ _
        have HN := Lib.hid (HTK.out (HST.out rfl))
        go_wp2_with fail
        go_roundw
        case rel => exact ⟨k + 1, by omega, by go_num, HN, Lib.hid (HB.out.trans (HQ1.out.mono HB.out.size))⟩
        case measure => simp [intOf]; omega
       | false =>
        refine wpAnyH_take (i := 49) (oi := _) (v := ?_) rfl (by kernel_rfl) (by kernel_rfl) (by kernel_rfl) (fun _ _ _ h => h) (Or.inl ⟨by rfl, ?_⟩) (by assumption) ?_
        rotate_left
        ·(intro w hSw; (try dsimp only at hSw); (try obtain ⟨⟨s1_, s2_, s3_, s4_, s5_, s6_⟩, t1_, t2_, t3_, t4_, t5_, t6_⟩ := hSw); go_simp <;> with_reducible rfl)
        simp only [List.getElem_toArray, List.getElem_cons_succ, List.getElem_cons_zero, Act.put, List.setIfInBounds_toArray, List.set_cons_zero, List.set_cons_succ]
        refine wpAnyH_take (i := 50) (oi := _) (v := ?_) rfl (by kernel_rfl) (by kernel_rfl) (by kernel_rfl) (fun _ _ _ h => h) (Or.inl ⟨by rfl, ?_⟩) (by assumption) ?_
        rotate_left
        ·(intro w hSw; (try dsimp only at hSw); (try obtain ⟨⟨s1_, s2_, s3_, s4_, s5_, s6_⟩, t1_, t2_, t3_, t4_, t5_, t6_⟩ := hSw); go_simp <;> with_reducible rfl)
        simp only [List.getElem_toArray, List.getElem_cons_succ, List.getElem_cons_zero, Act.put, List.setIfInBounds_toArray, List.set_cons_zero, List.set_cons_succ]
        refine wpAnyH_done (by kernel_rfl) ?_ _
        have HF := Lib.hid (HNE.out (fun e => by have := of_decide_eq_false HZ.out; exact this (by rw [e])))
        go_wp2_with fail
        go_ret
        rw [HF.out]
        exact ⟨rfl, HB.out.trans (HQ1.out.mono HB.out.size)⟩
      ·have HF := Lib.hid (HNE.out (fun e => hk3 (by have f := HE.out.2.2; rw [f.1, f.2, e])))
       have hb3 : (vx != ux) = true := by rw [bne_iff_ne]; exact hk3
       go_wp2_with fail
       obtain ⟨⟨s1_, s2_, s3_, s4_, s5_, s6_⟩, t1_, t2_, t3_, t4_, t5_, t6_⟩ := HSW.out _ (Below.refl _ _)
       go_region
       go_wp2_with fail
       go_ret
       rw [HF.out]
       exact ⟨rfl, HB.out.trans (HQ0.out.mono HB.out.size)⟩
     ·have HF := Lib.hid (HNE.out (fun e => hk2 (by have f := HE.out.2.1; rw [f.1, f.2, e])))
      have hb2 : (vm != um) = true := by rw [bne_iff_ne]; exact hk2
      go_wp2_with fail
      obtain ⟨⟨s1_, s2_, s3_, s4_, s5_, s6_⟩, t1_, t2_, t3_, t4_, t5_, t6_⟩ := HSW.out _ (Below.refl _ _)
      go_region
      go_wp2_with fail
      go_ret
      rw [HF.out]
      exact ⟨rfl, HB.out.trans (HQ0.out.mono HB.out.size)⟩
    ·have HF := Lib.hid (HNE.out (fun e => hk1 (by have f := HE.out.1; rw [f.1, f.2, e])))
     have hb1 : (vk != uk) = true := by rw [bne_iff_ne]; exact hk1
     go_wp2_with fail
     obtain ⟨⟨s1_, s2_, s3_, s4_, s5_, s6_⟩, t1_, t2_, t3_, t4_, t5_, t6_⟩ := HSW.out _ (Below.refl _ _)
     go_region
     go_wp2_with fail
     go_ret
     rw [HF.out]
     exact ⟨rfl, HB.out.trans (HQ0.out.mono HB.out.size)⟩
   ·obtain rfl : k = n := by omega
    have HF := Lib.hid (show decide (a = b) = true from decide_eq_true (by
     have h := HT.out
     rwa [List.take_of_length_le (by rw [H.out.len2]; exact Nat.le_refl _), List.take_of_length_le (by rw [K.out.len2]; exact Nat.le_refl _)] at h))
    go_wp2_with fail
    go_ret
    rw [HF.out]
    exact ⟨rfl, HB.out⟩
 ·have hd : ((n : Int) == (m : Int)) = false := by rw [beq_eq_false_iff_ne]; omega
  have HF := Lib.hid (show decide (a = b) = false from decide_eq_false fun e => hnm (by rw [← H.out.len2, ← K.out.len2, e]))
  go_enter Tryz.func14, Tryz.ntmps14
  go_wp2_with fail
  go_ret
  rw [HF.out]
  exact ⟨rfl, Below.refl _ _⟩
end Go.Proofs.YtheelnhhkpkjnaaGreatDoor.Syn
namespace Go.Proofs.YtheelnhhkpkjnaaGreatDoor.Syn
open Go.RowKit
open Utf (Rd Blk)
open Rset (Ret Rg own_form ret_bool)
open Sset (St Tx normS none_ Has3 ArgT ArgR r_rsame has3_none mk_toList)
set_option maxRecDepth 100000
noncomputable def mayStep (h : Int) (n : Nd) : Option Int :=
 if n.kind = 7 then (if n.set = none_ ∧ 1 ≤ h ∧ 0 ≤ n.mn ∧ n.mn ≤ 64 ∧ n.mx ≤ 64 ∧ (n.mn ≤ n.mx ∨ n.mx = -1) then some h else none)
 else if n.mn ≠ 0 ∨ n.mx ≠ 0 then none
 else if n.kind = 2 then (if normS n.set = n.set then some (h + 1) else none)
 else if n.set ≠ none_ then none
 else if n.kind = 1 ∨ n.kind = 3 ∨ n.kind = 4 then some (h + 1)
 else if n.kind = 5 ∨ n.kind = 6 then (if 2 ≤ h then some (h - 1) else none)
 else none
noncomputable def mayL : Option Int → List Nd → Option Int
 | h, [] => h
 | none, _ => none
 | some h, n :: l => mayL (mayStep h n) l
noncomputable def mayF (l : List Nd) : Bool := decide (mayL (some 0) l = some 1)
theorem mayL_none : ∀ l : List Nd, mayL none l = none
 | [] => rfl
 | _ :: _ => rfl
theorem mayL_append : ∀ (l : List Nd) (h : Option Int) (n : Nd), mayL h (l ++ [n]) = match mayL h l with
  | some x => mayStep x n
  | none => none
 | [], some h, n => by show mayL (mayStep h n) [] = mayStep h n; cases mayStep h n <;> rfl
 | [], none, n => rfl
 | m :: l, none, n => by show mayL none (m :: (l ++ [n])) = _; rw [mayL_none, mayL_none]
 | m :: l, some h, n => by show mayL (mayStep h m) (l ++ [n]) = _; rw [mayL_append l (mayStep h m) n]; rfl
theorem mayL_split (l m : List Nd) : ∀ h, mayL h l = none → mayL h (l ++ m) = none := by
 induction l with
 | nil => intro h e; rw [show h = none from e]; exact mayL_none _
 | cons x l ih =>
  intro h e
  cases h with
  | none => exact mayL_none _
  | some h => exact ih _ e
theorem mayL_take {l : List Nd} {k : Nat} (hk : k < l.length) {h : Int} (e : mayL (some 0) (l.take k) = some h) : mayL (some 0) (l.take (k + 1)) = mayStep h l[k] := by
 rw [List.take_succ_eq_append_getElem hk, mayL_append, e]
theorem may_stop {l : List Nd} {k : Nat} (hk : k < l.length) {h : Int} (e : mayL (some 0) (l.take k) = some h) (hs : mayStep h l[k] = none) : mayF l = false := by
 have h1 := mayL_take hk e
 rw [hs] at h1
 have := mayL_split (l.take (k + 1)) (l.drop (k + 1)) _ h1
 rw [List.take_append_drop] at this
 unfold mayF
 rw [this]; rfl
end Go.Proofs.YtheelnhhkpkjnaaGreatDoor.Syn
