/-
  SyntaxQuotes answers true, and leaves its arguments as they were, for all bytes and texts that hold together at most 1048576 values, from every memory in which the variables that the row lists hold what it says: a quoted text is read as its segments' sets, one behind the other; what is a sign.
-/
import Derived.Test.YtheelnhhkpkjnaaGreatDoorQ19
import Derived.Test.YtheelnhhkpkjnaaGreatDoorQ41
import Derived.Test.YtheelnhhkpkjnaaGreatDoorQ42
namespace Go.Proofs.YtheelnhhkpkjnaaGreatDoor.LawSyntaxQuotes
open Go.ChangeShapes Go.WideShapes Go.ChangeAt Go.RowKit
open Utf (Rd bys bys_len open_bytes laidOut own bulk_bound)
open Ucd (Laid)
open Rset (Ret own_form)
open Sset (St Tx txs ArgT ArgR normS none_ open_texts)
open Syn
theorem split_facts (l : List UInt8) :
  (((tx l).any fun t => decide (64 < rlen t)) = true → Seg.spE 64 l = 6 ∧ (Seg.spS 64 l).length = ((tx l).takeWhile fun t => decide (rlen t ≤ 64)).length) ∧
  (((tx l).any fun t => decide (64 < rlen t)) = false → Seg.spE 64 l = 0 ∧ (Seg.spS 64 l).map (fun x => x.t.data.toList) = tx l) := by
 have hsp : Seg.spS 64 l = (Seg.okS 64 l).map Seg.sgOf := by unfold Seg.spS; rw [if_pos (by omega)]; rfl
 have hse : Seg.spE 64 l = if Seg.badS 64 l then 6 else 0 := by unfold Seg.spE; rw [if_pos (by omega)]; rfl
 have hb : Seg.badS 64 l = (tx l).any fun t => decide (64 < rlen t) := bad_tx 64 l
 have ho := ok_tx 64 l
 rw [← hb]
 refine ⟨fun h => ⟨by rw [hse, h]; rfl, ?_⟩, fun h => ⟨by rw [hse, h]; rfl, ?_⟩⟩
 ·rw [hsp, List.length_map, ← ho, List.length_map]; rfl
 ·obtain ⟨h1, h2, _⟩ := good_split h
  rw [hsp, ← h2, List.map_map, List.map_map]
  exact List.map_congr_left fun x _ => by show (Seg.sgOf x).t.data.toList = (Seg.sgOf x).t.toList; rw [ByteArray.toList_eq]
theorem flat_get : ∀ (M : List Tx) (k : Nat) (h : k < M.length), (M.flatMap fun t => [ndS (Sset.ofS t), nd 5])[2 * k]? = some (ndS (Sset.ofS M[k])) ∧ (M.flatMap fun t => [ndS (Sset.ofS t), nd 5])[2 * k + 1]? = some (nd 5)
 | x :: M, 0, _ => ⟨rfl, rfl⟩
 | x :: M, k + 1, h => by
  obtain ⟨h1, h2⟩ := flat_get M k (Nat.lt_of_succ_lt_succ h)
  rw [List.flatMap_cons, show 2 * (k + 1) = 2 * k + 2 from by omega]
  exact ⟨by simpa using h1, by simpa using h2⟩
theorem flat_len : ∀ M : List Tx, (M.flatMap fun t => [ndS (Sset.ofS t), nd 5]).length = 2 * M.length
 | [] => rfl
 | x :: M => by rw [List.flatMap_cons, List.length_append, flat_len M, List.length_cons]; show 2 + 2 * M.length = 2 * (M.length + 1); omega
theorem row_facts {T : List Tx} (hT : T ≠ []) : (setRow T).length + 1 = 2 * T.length ∧ ∀ k (h : k < T.length), (setRow T)[2 * k - 1]? = some (ndS (Sset.ofS T[k])) ∧ (0 < k → (setRow T)[2 * k]? = some (nd 5)) := by
 cases T with
 | nil => exact absurd rfl hT
 | cons t L =>
  refine ⟨?_, fun k h => ?_⟩
  ·show (_ :: _).length + 1 = _
   rw [List.length_cons, flat_len, List.length_cons]; omega
  ·cases k with
   | zero => exact ⟨rfl, fun h => absurd h (Nat.lt_irrefl 0)⟩
   | succ k =>
    obtain ⟨h1, h2⟩ := flat_get L k (Nat.lt_of_succ_lt_succ h)
    refine ⟨?_, fun _ => ?_⟩
    ·show (_ :: _)[_]? = _
     rw [show 2 * (k + 1) - 1 = 2 * k + 1 from by omega, List.getElem?_cons_succ, h1]; rfl
    ·show (_ :: _)[_]? = _
     rw [show 2 * (k + 1) = 2 * k + 1 + 1 from by omega, List.getElem?_cons_succ, h2]
theorem tx_one_len {b : List UInt8} {x : Tx} (h : x ∈ tx b) : x.length ≤ 12 * b.length := by
 have h1 := tx_flat_le b
 have h2 : x.length ≤ (tx b).flatten.length := (List.sublist_flatten_of_mem h).length_le
 omega
theorem getS {V : List NV} {l : List Nd} {w : World} {B n c b o : Nat} (h : Got w B (some ⟨b, o, none⟩) n c V l) {k : Nat} (hk : k < n) {s : St} (e : l[k]? = some (ndS s)) : ∃ A1 n1 c1 A2 n2 c2 A3 n3 c3, Sset.Has3 w A1 n1 A2 n2 A3 n3 s ∧
  w.cell? ⟨b, o + k * 6, none⟩ = some (.int .i64 2) ∧ w.cell? ⟨b, o + k * 6 + 1, none⟩ = some (.slice A1 n1 c1) ∧ w.cell? ⟨b, o + k * 6 + 2, none⟩ = some (.slice A2 n2 c2) ∧ w.cell? ⟨b, o + k * 6 + 3, none⟩ = some (.slice A3 n3 c3) := by
 have hv : k < V.length := by rw [h.len]; exact hk
 have hl : k < l.length := by rw [h.len2]; exact hk
 have hm := (h.held k hv hl).means
 have el : l[k] = ndS s := by rw [List.getElem?_eq_getElem hl] at e; exact Option.some.inj e
 rw [el] at hm
 obtain ⟨d0, d1, d2, d3, _, _⟩ := rd_nv h.rd hv
 rw [hm.k] at d0
 exact ⟨_, _, _, _, _, _, _, _, _, hm.set, d0, d1, d2, d3⟩
theorem getC {V : List NV} {l : List Nd} {w : World} {B n c b o : Nat} (h : Got w B (some ⟨b, o, none⟩) n c V l) {k : Nat} (hk : k < n) {j : Int} (e : l[k]? = some (nd j)) : w.cell? ⟨b, o + k * 6, none⟩ = some (.int .i64 j) := by
 have hv : k < V.length := by rw [h.len]; exact hk
 have hl : k < l.length := by rw [h.len2]; exact hk
 have hm := (h.held k hv hl).means
 have el : l[k] = nd j := by rw [List.getElem?_eq_getElem hl] at e; exact Option.some.inj e
 rw [el] at hm
 obtain ⟨d0, _⟩ := rd_nv h.rd hv
 rw [hm.k] at d0
 exact d0
set_option maxHeartbeats 32000000 in
set_option maxRecDepth 100000 in
theorem walk (A : Option Addr) (a : List UInt8) (n c : Nat) (B : Option Addr) (t : List Tx) (m d : Nat) (w : World) (hL : Laid w) (hr : Rd w w.heap.size A (bys a)) (hn : a.length = n) (hc : n ≤ c) (hcm : c ≤ 9223372036854775807)
  (hs : Rd w w.heap.size B (txs t)) (hm : t.length = m) (hsn : n ≤ 1048576) (hsm : m ≤ 1048576) :
  Calls Tryz.prog 5 #[.slice A n c, .slice B m d] w (Ret w (.bool true)) := by
 have HF := Lib.hid (fixed_any w hL)
 have HL := Lib.hid hL
 have HR := Lib.hid hr
 have HS := Lib.hid hs
 have HM := Lib.hid hm
 have HQ := Lib.hid (fun (u : World) (hu : Laid u) (h : Rd u u.heap.size A (bys a)) => quote_any a A n c u hu h hn hc hcm (by omega))
 have HQR := Lib.hid (fun (u : World) (h : Rd u u.heap.size A (bys a)) => rquote_any a A n c u h hn (by omega))
 have HSP := Lib.hid (fun (u : World) (h : Rd u u.heap.size A (bys a)) => Seg.rsplit_any 64 a A n c u h hn (by omega))
 have HQL := Lib.hid (show (quoteB (tx a)).length ≤ 13 * n from by have := quote_len a; omega)
 have HXL := Lib.hid (show ∀ x ∈ tx a, x.length ≤ 12 * n from fun x hx => by have := tx_one_len hx; omega)
 have HSF := Lib.hid (split_facts a)
 clear hL hr hs hn hm hc hcm
 go_enter Tryz.func5, Tryz.ntmps5
 go_wp2_with fail
 refine HF.out.mono ?_
 rintro e w1 ⟨rfl, hb1⟩
 have HB1 := Lib.hid hb1
 clear hb1 HF
 go_wp2_with fail
 go_loopw [20] (fun i wr => ∃ k : Nat, k ≤ m ∧ i = .int .i64 k ∧ Hid (Below w.heap.size w wr)) (fun i _ => m - (intOf i).toNat)
 case atStart => exact ⟨0, Nat.zero_le _, rfl, HB1⟩
 case round =>
  obtain ⟨k, hk, rfl, HB⟩ := hrel
  by_cases hlt : k < m
  ·have hkt : k < t.length := by rw [HM.out]; exact hlt
   have hS2 := (HS.out.below HB.out).more HB.out.size
   obtain ⟨b, o, rfl, hbl⟩ := Sset.rd_form_tx hS2 (by omega)
   have p1 := Sset.rd_tx hS2 hkt
   generalize t[k] = x at p1
   change _ = some (Value.string ⟨x.toArray⟩) at p1
   have HRS := Lib.hid (rsign_any ⟨x.toArray⟩ x (Sset.mk_toList x) wr)
   have HPS := Lib.hid (sign_any x wr)
   clear hS2 hkt
   generalize sgn x = z at HRS HPS
   generalize (⟨x.toArray⟩ : ByteArray) = X at *
   have hz : (z != z) = false := bne_self_eq_false _
   have hz2 : (z == z) = true := beq_self_eq_true _
   go_wp2_with fail
   refine HPS.out.mono ?_
   rintro e w2 ⟨rfl, rfl⟩
   go_wp2_with fail
   refine HRS.out.mono ?_
   rintro e w3 ⟨rfl, rfl⟩
   go_wp2_with fail
   go_roundw
   case rel => exact ⟨k + 1, by omega, by go_num, HB⟩
   case measure => simp [intOf]; omega
  ·obtain rfl : k = m := by omega
   have HQ1 := Lib.hid (HQ.out wr (HL.out.next HB.out) ((HR.out.below HB.out).more HB.out.size))
   obtain ⟨Q, hQ⟩ : ∃ Q : ByteArray, Q = ⟨(quoteB (tx a)).toArray⟩ := ⟨_, rfl⟩
   have HQT := Lib.hid (show Q.toList = quoteB (tx a) by rw [hQ]; exact Sset.mk_toList _)
   rw [← hQ] at HQ1 HQR
   have hq : (Q.toList != Q.toList) = false := bne_self_eq_false _
   have hq2 : (Q.toList == Q.toList) = true := beq_self_eq_true _
   clear HQ hQ HM HS
   go_wp2_with fail
   refine HQ1.out.mono ?_
   rintro e w2 ⟨rfl, hb2⟩
   have HB2 := Lib.hid (HB.out.trans (hb2.mono HB.out.size))
   have HQ2 := Lib.hid (HQR.out w2 ((HR.out.below HB2.out).more HB2.out.size))
   clear hb2 HQR HQ1
   go_wp2_with fail
   refine HQ2.out.mono ?_
   rintro e w3 ⟨rfl, hb3⟩
   have HB3 := Lib.hid (HB2.out.trans (hb3.mono HB2.out.size))
   have HS3 := Lib.hid (HSP.out w3 ((HR.out.below HB3.out).more HB3.out.size))
   clear hb3 HQ2 HSP
   go_wp2_with fail
   refine HS3.out.mono ?_
   rintro e w4 ⟨A2, N, c2, rfl, hn2, hr2, hb4⟩
   have HB4 := Lib.hid (HB3.out.trans (hb4.mono HB3.out.size))
   have HR4 := Lib.hid hr2
   have HN2 := Lib.hid hn2
   obtain ⟨ql, hql⟩ : ∃ ql, (quoteB (tx a)).length = ql := ⟨_, rfl⟩
   have hqs : ql ≤ 13631488 := by have := HQL.out; omega
   obtain ⟨g, C, u, hcv, hru, hbu, hC, hCm⟩ := Sset.conv_str w4 Q (quoteB (tx a)) HQT.out ql hql (by omega)
   have HBU := Lib.hid (HB4.out.trans (hbu.mono HB4.out.size))
   have HRU := Lib.hid (show Rd u u.heap.size A2 (Seg.sgs (Seg.spS 64 a)) from (HR4.out.below hbu).more hbu.size)
   have HRP := Lib.hid hru
   have HQN := Lib.hid hql
   have HCC := Lib.hid (And.intro hC hCm)
   clear hb4 hr2 hn2 HS3 HR4 hru hbu hql hC hCm
   by_cases hbad : ((tx a).any fun t => decide (64 < rlen t)) = true
   ·obtain ⟨f1, _⟩ := HSF.out.1 hbad
    rw [f1]
    obtain ⟨nn, hpq⟩ := parse_quote_bad theE a hbad
    have HP := Lib.hid (parse_no (quoteB (tx a)) (some ⟨g, 0, none⟩) ql C u (HL.out.next HBU.out) HRP.out HQN.out HCC.out.1 HCC.out.2 (by omega) hpq)
    clear f1 hbad hpq HSF HRU HN2 HQL HXL
    go_wp2_with fail
    refine HP.out.mono ?_
    rintro e w5 ⟨rfl, hb5⟩
    have HB5 := Lib.hid (HBU.out.trans (hb5.mono HBU.out.size))
    clear hb5 HP
    go_wp2_with fail
    go_ret
    exact ⟨rfl, HB5.out⟩
   ·have hbad' : ((tx a).any fun t => decide (64 < rlen t)) = false := by simpa using hbad
    obtain ⟨f1, f2⟩ := HSF.out.2 hbad'
    rw [f1]
    have hTN : (tx a).length = N := by rw [← f2, List.length_map, HN2.out]
    by_cases hlong : 2000 < N
    ·have HP := Lib.hid (parse_uni (quoteB (tx a)) (some ⟨g, 0, none⟩) ql C u (HL.out.next HBU.out) HRP.out HQN.out HCC.out.1 HCC.out.2 (by omega))
     have d1 : decide ((2000 : Int) < (N : Int)) = true := decide_eq_true (by omega)
     have d2 : ¬ ((N : Int) ≤ 2000) := by omega
     clear f1 f2 hbad hbad' HSF HRU HN2 HQL HXL hTN
     go_wp2_with fail
     refine HP.out.mono ?_
     rintro e w5 ⟨A5, n5, c5, k5, E5, rfl, _, hb5⟩
     have HB5 := Lib.hid (HBU.out.trans (hb5.mono HBU.out.size))
     clear hb5 HP
     go_wp2_with fail
     go_ret
     exact ⟨rfl, HB5.out⟩
    ·have hpq := parse_quote theE a hbad' (by omega)
     have HP := Lib.hid (parse_good (quoteB (tx a)) (some ⟨g, 0, none⟩) ql C u (HL.out.next HBU.out) HRP.out HQN.out HCC.out.1 HCC.out.2 (by omega) hpq)
     have HTN := Lib.hid hTN; have HF2 := Lib.hid f2
     have d1 : decide ((2000 : Int) < (N : Int)) = false := decide_eq_false (by omega)
     have d2 : (N : Int) ≤ 2000 := by omega
     clear f1 f2 hbad hbad' HSF HQL hpq hTN
     go_wp2_with fail
     refine HP.out.mono ?_
     rintro e w5 ⟨A5, n5, c5, V5, rfl, hl5, hg5, hb5⟩
     have HB5 := Lib.hid (HBU.out.trans (hb5.mono HBU.out.size))
     have HR5 := Lib.hid (show Rd w5 w5.heap.size A2 (Seg.sgs (Seg.spS 64 a)) from (HRU.out.below hb5).more hb5.size)
     have HG5 := Lib.hid hg5
     clear hb5 HP hg5 HRU HRP HQN HCC
     by_cases h0 : N = 0
     ·subst h0
      have ht : tx a = [] := List.eq_nil_of_length_eq_zero HTN.out
      rw [ht] at hl5 HG5
      obtain rfl : n5 = 1 := hl5.symm
      obtain ⟨b, o, rfl, hbl, hv, hl, hd, d0, d4, d5⟩ := getN HG5.out (k := 0) (by omega)
      change _ = some (Value.int .i64 1) at d0
      rw [Nat.zero_mul, Nat.add_zero] at d0
      clear d4 d5 hd hl hv ht hl5
      go_wp2_with fail
      go_ret
      exact ⟨rfl, HB5.out⟩
     ·have hne : tx a ≠ [] := fun e => h0 (by rw [← HTN.out, e]; rfl)
      obtain ⟨r1, r2⟩ := row_facts hne
      have hn5 : n5 + 1 = 2 * N := by rw [← hl5, ← HTN.out]; exact r1
      have HRW := Lib.hid (show ∀ k (h : k < (Seg.spS 64 a).length), (setRow (tx a))[2 * k - 1]? = some (ndS (Sset.ofS (Seg.spS 64 a)[k].t.data.toList)) ∧ (0 < k → (setRow (tx a))[2 * k]? = some (nd 5)) ∧ (Seg.spS 64 a)[k].t.data.toList.length ≤ 12 * n from fun k h => by
       have hk : k < (tx a).length := by rw [HTN.out, HN2.out]; exact h
       have he : (tx a)[k] = (Seg.spS 64 a)[k].t.data.toList := by simp only [← HF2.out, List.getElem_map]
       rw [← he]
       exact ⟨(r2 k hk).1, (r2 k hk).2, HXL.out _ (List.getElem_mem hk)⟩)
      obtain ⟨b5, o5, rfl, hb5⟩ := nv_form HG5.out.rd (by rw [HG5.out.len]; omega)
      have HE5 := Lib.hid hl5
      have HN5 := Lib.hid hn5
      clear r1 r2 hne hl5 HXL
      go_wp2_with fail
      go_loopw [13, 84] (fun at_ i wr => ∃ k p : Nat, k ≤ N ∧ at_ = .int .i64 p ∧ i = .int .i64 k ∧ Hid (p = 2 * k - 1) ∧ Hid (Below w5.heap.size w5 wr)) (fun _ i _ => N - (intOf i).toNat)
      case atStart => exact ⟨0, 0, Nat.zero_le _, rfl, rfl, Lib.hid rfl, Lib.hid (Below.refl _ _)⟩
      case round =>
       obtain ⟨k, p, hk, rfl, rfl, HP, HB⟩ := hrel
       by_cases hlt : k < N
       ·have hks : k < (Seg.spS 64 a).length := by rw [← HN2.out]; exact hlt
        obtain ⟨e1, e2, e3⟩ := HRW.out k hks
        have hp : p = 2 * k - 1 := HP.out
        have hpn : p < n5 := by have := HN5.out; omega
        have hg := HG5.out.next HB.out
        rw [← hp] at e1
        obtain ⟨B1, m1, y1, B2, m2, y2, B3, m3, y3, hs3, c0, c1, c2, c3⟩ := getS hg hpn e1
        have HKC := Lib.hid (show 0 < k → p + 1 < n5 ∧ wr.cell? ⟨b5, o5 + (p + 1) * 6, none⟩ = some (.int .i64 5) from fun h => by
         have h6 : p + 1 < n5 := by have := HN5.out; omega
         exact ⟨h6, getC hg h6 (by rw [hp, show 2 * k - 1 + 1 = 2 * k from by omega]; exact e2 h)⟩)
        have HCK := Lib.hid (show 0 < k → ∀ u, Below wr.heap.size wr u → u.cell? ⟨b5, o5 + (p + 1) * 6, none⟩ = some (.int .i64 5) from fun h u hu => (hu.cell (p := ⟨b5, _, none⟩) (Nat.lt_of_lt_of_le hb5 HB.out.size)).trans (HKC.out h).2)
        have hr6 := (HR5.out.below HB.out).more HB.out.size
        obtain ⟨b6, o6, rfl, hb6⟩ := hr6.form (by rw [Seg.sgs_len]; omega)
        obtain ⟨q1, q2, q3⟩ := Seg.Rd_sg hr6 hks
        generalize (Seg.spS 64 a)[k] = s at e1 e3 q1 q2 q3 hs3
        obtain ⟨X, sa, se⟩ := s
        dsimp only at e1 e3 q1 q2 q3 hs3
        obtain ⟨x, hx⟩ : ∃ x, X.data.toList = x := ⟨_, rfl⟩
        rw [hx] at e1 e3 hs3
        have hXL : X.toList = x := by rw [ByteArray.toList_eq]; exact hx
        have hxl : x.length ≤ 1073741824 := by omega
        have HOF := Lib.hid (fun u => (Sset.rof_any X x hXL hxl u).mono fun _ _ q => q.res (Sset.ofS_nm x) (fun t ht => by rw [(Sset.ofS_o x).1 t ht]; exact hxl) (Nat.le_trans (Sset.ofS_o x).2 (by omega)))
        have H3 := Lib.hid hs3
        have HCL := Lib.hid (show ∀ u, Below wr.heap.size wr u → u.cell? ⟨b5, o5 + p * 6, none⟩ = some (.int .i64 2) ∧ u.cell? ⟨b5, o5 + p * 6 + 1, none⟩ = some (.slice B1 m1 y1) ∧ u.cell? ⟨b5, o5 + p * 6 + 2, none⟩ = some (.slice B2 m2 y2) ∧ u.cell? ⟨b5, o5 + p * 6 + 3, none⟩ = some (.slice B3 m3 y3) from fun u hu => by
         have hbw : b5 < wr.heap.size := Nat.lt_of_lt_of_le hb5 HB.out.size
         exact ⟨(hu.cell (p := ⟨b5, _, none⟩) hbw).trans c0, (hu.cell (p := ⟨b5, _, none⟩) hbw).trans c1, (hu.cell (p := ⟨b5, _, none⟩) hbw).trans c2, (hu.cell (p := ⟨b5, _, none⟩) hbw).trans c3⟩)
        clear e1 e2 e3 hp hg hs3 c0 c1 c2 c3 hr6 hks hx hXL hxl
        have hp1 : (p : Int) < (n5 : Int) := by omega
        have hp2 : decide ((n5 : Int) ≤ (p : Int)) = false := decide_eq_false (by omega)
        have hp3 : ¬ ((n5 : Int) ≤ (p : Int)) := by omega
        have hp4 : decide (n5 ≤ p) = false := decide_eq_false (by omega)
        have hp5 : ¬ n5 ≤ p := by omega
        obtain ⟨W2, hW2⟩ : ∃ W2, W2 = wr.alloc (.cells #[.string X, .int .i64 (sa : Int), .int .i64 (se : Int)] 43) := ⟨_, rfl⟩
        obtain ⟨g6, hg6⟩ : ∃ g6, g6 = wr.heap.size := ⟨_, rfl⟩
        have hb7 : Below wr.heap.size wr W2 := by rw [hW2]; exact (Below.refl _ _).alloc (Nat.le_refl _) _
        have hq7 : W2.cell? ⟨g6, 0, none⟩ = some (.string X) := by rw [hW2, hg6, Lib.cell_of_heap (heap_alloc_new wr _)]; rfl
        have hg7 : g6 < W2.heap.size := by rw [hg6, hW2]; exact (Array.getElem?_eq_some_iff.1 (heap_alloc_new wr _)).1
        have HSW := Lib.hid (show ∀ u, Below W2.heap.size W2 u → u.cell? ⟨b5, o5 + p * 6, none⟩ = some (.int .i64 2) ∧ u.cell? ⟨b5, o5 + p * 6 + 1, none⟩ = some (.slice B1 m1 y1) ∧ u.cell? ⟨b5, o5 + p * 6 + 2, none⟩ = some (.slice B2 m2 y2) ∧ u.cell? ⟨b5, o5 + p * 6 + 3, none⟩ = some (.slice B3 m3 y3) ∧ u.cell? ⟨g6, 0, none⟩ = some (.string X) from fun u hu => by
         obtain ⟨k0, k1, k2, k3⟩ := HCL.out u (hb7.trans (hu.mono hb7.size))
         exact ⟨k0, k1, k2, k3, (hu.cell (p := ⟨g6, 0, none⟩) hg7).trans hq7⟩)
        have HB7 := Lib.hid hb7
        have HQ0 := Lib.hid (show Below W2.heap.size W2 W2.drew from (Below.refl _ _).drew)
        have HWW := Lib.hid (And.intro hW2 hg6)
        clear hb7 hq7 hg7 hW2 hg6 HCL
        go_wp2_with fail
        rw [← HWW.out.1, ← HWW.out.2]
        refine wp_region_held_drew (S := (fun u => u.cell? ⟨b5, o5 + p * 6, none⟩ = some (.int .i64 2) ∧ u.cell? ⟨b5, o5 + p * 6 + 1, none⟩ = some (.slice B1 m1 y1) ∧ u.cell? ⟨b5, o5 + p * 6 + 2, none⟩ = some (.slice B2 m2 y2) ∧ u.cell? ⟨b5, o5 + p * 6 + 3, none⟩ = some (.slice B3 m3 y3) ∧ u.cell? ⟨g6, 0, none⟩ = some (.string X))) (by kernel_rfl) (HSW.out _ HQ0.out) (fun hHeld => ?_)
        refine wpAnyH_take (i := 0) (oi := _) (v := ?_) rfl (by kernel_rfl) (by kernel_rfl) (by kernel_rfl) (fun _ _ _ h => h) (Or.inl ⟨by rfl, ?_⟩) (by assumption) ?_
        rotate_left
        ·(intro w hSw; (try dsimp only at hSw); (try obtain ⟨s1_, s2_, s3_, s4_, s5_⟩ := hSw); go_simp <;> with_reducible rfl)
        simp only [List.getElem_toArray, List.getElem_cons_zero, Act.put, List.setIfInBounds_toArray, List.set_cons_zero, List.set_cons_succ]
        refine wpAnyH_take (i := 1) (oi := _) (v := ?_) rfl (by kernel_rfl) (by kernel_rfl) (by kernel_rfl) (fun _ _ _ h => h) (Or.inl ⟨by rfl, ?_⟩) (by assumption) ?_
        rotate_left
        ·(intro w hSw; (try dsimp only at hSw); (try obtain ⟨s1_, s2_, s3_, s4_, s5_⟩ := hSw); go_simp <;> with_reducible rfl)
        simp only [List.getElem_toArray, List.getElem_cons_succ, List.getElem_cons_zero, Act.put, List.setIfInBounds_toArray, List.set_cons_zero, List.set_cons_succ]
        refine wpAnyH_take (i := 2) (oi := _) (v := ?_) rfl (by kernel_rfl) (by kernel_rfl) (by kernel_rfl) (fun _ _ _ h => h) (Or.inl ⟨by rfl, ?_⟩) (by assumption) ?_
        rotate_left
        ·(intro w hSw; (try dsimp only at hSw); (try obtain ⟨s1_, s2_, s3_, s4_, s5_⟩ := hSw); go_simp <;> with_reducible rfl)
        simp only [List.getElem_toArray, List.getElem_cons_succ, List.getElem_cons_zero, Act.put, List.setIfInBounds_toArray, List.set_cons_zero, List.set_cons_succ]
        refine wpAnyH_take (i := 3) (oi := _) (v := ?_) rfl (by kernel_rfl) (by kernel_rfl) (by kernel_rfl) (fun _ _ _ h => h) (Or.inl ⟨by rfl, ?_⟩) (by assumption) ?_
        rotate_left
        ·(intro w hSw; (try dsimp only at hSw); (try obtain ⟨s1_, s2_, s3_, s4_, s5_⟩ := hSw); go_simp <;> with_reducible rfl)
        simp only [List.getElem_toArray, List.getElem_cons_succ, List.getElem_cons_zero, Act.put, List.setIfInBounds_toArray, List.set_cons_zero, List.set_cons_succ]
        refine wpAnyH_take (i := 4) (oi := _) (v := ?_) rfl (by kernel_rfl) (by kernel_rfl) (by kernel_rfl) (fun _ _ _ h => h) (Or.inl ⟨by rfl, ?_⟩) (by assumption) ?_
        rotate_left
        ·(intro w hSw; (try dsimp only at hSw); (try obtain ⟨s1_, s2_, s3_, s4_, s5_⟩ := hSw); go_simp <;> with_reducible rfl)
        simp only [List.getElem_toArray, List.getElem_cons_succ, List.getElem_cons_zero, Act.put, List.setIfInBounds_toArray, List.set_cons_zero, List.set_cons_succ]
        refine wpAnyH_take (i := 5) (oi := _) (v := ?_) rfl (by kernel_rfl) (by kernel_rfl) (by kernel_rfl) (fun _ _ _ h => h) (Or.inl ⟨by rfl, ?_⟩) (by assumption) ?_
        rotate_left
        ·(intro w hSw; (try dsimp only at hSw); (try obtain ⟨s1_, s2_, s3_, s4_, s5_⟩ := hSw); go_simp <;> with_reducible rfl)
        simp only [List.getElem_toArray, List.getElem_cons_succ, List.getElem_cons_zero, Act.put, List.setIfInBounds_toArray, List.set_cons_zero, List.set_cons_succ]
        refine wpAnyH_take (i := 6) (oi := _) (v := ?_) rfl (by kernel_rfl) (by kernel_rfl) (by kernel_rfl) (fun _ _ _ h => h) (Or.inl ⟨by rfl, ?_⟩) (by assumption) ?_
        rotate_left
        ·(intro w hSw; (try dsimp only at hSw); (try obtain ⟨s1_, s2_, s3_, s4_, s5_⟩ := hSw); go_simp <;> with_reducible rfl)
        simp only [List.getElem_toArray, List.getElem_cons_succ, List.getElem_cons_zero, Act.put, List.setIfInBounds_toArray, List.set_cons_zero, List.set_cons_succ]
        refine wpAnyH_take (i := 7) (oi := _) (v := ?_) rfl (by kernel_rfl) (by kernel_rfl) (by kernel_rfl) (fun _ _ _ h => h) (Or.inl ⟨by rfl, ?_⟩) (by assumption) ?_
        rotate_left
        ·(intro w hSw; (try dsimp only at hSw); (try obtain ⟨s1_, s2_, s3_, s4_, s5_⟩ := hSw); go_simp <;> with_reducible rfl)
        simp only [List.getElem_toArray, List.getElem_cons_succ, List.getElem_cons_zero, Act.put, List.setIfInBounds_toArray, List.set_cons_zero, List.set_cons_succ]
        refine wpAnyH_take (i := 8) (oi := _) (v := ?_) rfl (by kernel_rfl) (by kernel_rfl) (by kernel_rfl) (fun _ _ _ h => h) (Or.inl ⟨by rfl, ?_⟩) (by assumption) ?_
        rotate_left
        ·(intro w hSw; (try dsimp only at hSw); (try obtain ⟨s1_, s2_, s3_, s4_, s5_⟩ := hSw); go_simp <;> with_reducible rfl)
        simp only [List.getElem_toArray, List.getElem_cons_succ, List.getElem_cons_zero, Act.put, List.setIfInBounds_toArray, List.set_cons_zero, List.set_cons_succ]
        refine wpAnyH_take (i := 9) (oi := _) (v := ?_) rfl (by kernel_rfl) (by kernel_rfl) (by kernel_rfl) (fun _ _ _ h => h) (Or.inl ⟨by rfl, ?_⟩) (by assumption) ?_
        rotate_left
        ·(intro w hSw; (try dsimp only at hSw); (try obtain ⟨s1_, s2_, s3_, s4_, s5_⟩ := hSw); go_simp <;> with_reducible rfl)
        simp only [List.getElem_toArray, List.getElem_cons_succ, List.getElem_cons_zero, Act.put, List.setIfInBounds_toArray, List.set_cons_zero, List.set_cons_succ]
        refine wpAnyH_take (i := 10) (oi := _) (v := ?_) rfl (by kernel_rfl) (by kernel_rfl) (by kernel_rfl) (fun _ _ _ h => h) (Or.inl ⟨by rfl, ?_⟩) (by assumption) ?_
        rotate_left
        ·(intro w hSw; (try dsimp only at hSw); (try obtain ⟨s1_, s2_, s3_, s4_, s5_⟩ := hSw); go_simp <;> with_reducible rfl)
        simp only [List.getElem_toArray, List.getElem_cons_succ, List.getElem_cons_zero, Act.put, List.setIfInBounds_toArray, List.set_cons_zero, List.set_cons_succ]
        refine wpAnyH_take (i := 11) (oi := _) (v := ?_) rfl (by kernel_rfl) (by kernel_rfl) (by kernel_rfl) (fun _ _ _ h => h) (Or.inl ⟨by rfl, ?_⟩) (by assumption) ?_
        rotate_left
        ·(intro w hSw; (try dsimp only at hSw); (try obtain ⟨s1_, s2_, s3_, s4_, s5_⟩ := hSw); go_simp <;> with_reducible rfl)
        simp only [List.getElem_toArray, List.getElem_cons_succ, List.getElem_cons_zero, Act.put, List.setIfInBounds_toArray, List.set_cons_zero, List.set_cons_succ]
        refine wpAnyH_take (i := 12) (oi := _) (v := ?_) rfl (by kernel_rfl) (by kernel_rfl) (by kernel_rfl) (fun _ _ _ h => h) (Or.inl ⟨by rfl, ?_⟩) (by assumption) ?_
        rotate_left
        ·(intro w hSw; (try dsimp only at hSw); (try obtain ⟨s1_, s2_, s3_, s4_, s5_⟩ := hSw); go_simp <;> with_reducible rfl)
        simp only [List.getElem_toArray, List.getElem_cons_succ, List.getElem_cons_zero, Act.put, List.setIfInBounds_toArray, List.set_cons_zero, List.set_cons_succ]
        refine wpAnyH_take (i := 13) (oi := _) (v := ?_) rfl (by kernel_rfl) (by kernel_rfl) (by kernel_rfl) (fun _ _ _ h => h) (Or.inl ⟨by rfl, ?_⟩) (by assumption) ?_
        rotate_left
        ·(intro w hSw; (try dsimp only at hSw); (try obtain ⟨s1_, s2_, s3_, s4_, s5_⟩ := hSw); go_simp <;> with_reducible rfl)
        simp only [List.getElem_toArray, List.getElem_cons_succ, List.getElem_cons_zero, Act.put, List.setIfInBounds_toArray, List.set_cons_zero, List.set_cons_succ]
        refine wpAnyH_take (i := 14) (oi := _) (v := ?_) rfl (by kernel_rfl) (by kernel_rfl) (by kernel_rfl) (fun _ _ _ h => h) (Or.inl ⟨by rfl, ?_⟩) (by assumption) ?_
        rotate_left
        ·(intro w hSw; (try dsimp only at hSw); (try obtain ⟨s1_, s2_, s3_, s4_, s5_⟩ := hSw); go_simp <;> with_reducible rfl)
        simp only [List.getElem_toArray, List.getElem_cons_succ, List.getElem_cons_zero, Act.put, List.setIfInBounds_toArray, List.set_cons_zero, List.set_cons_succ]
        refine wpAnyH_take (i := 15) (oi := _) (v := ?_) rfl (by kernel_rfl) (by kernel_rfl) (by kernel_rfl) (fun _ _ _ h => h) (Or.inl ⟨by rfl, ?_⟩) (by assumption) ?_
        rotate_left
        ·(intro w hSw; (try dsimp only at hSw); (try obtain ⟨s1_, s2_, s3_, s4_, s5_⟩ := hSw); go_simp <;> with_reducible rfl)
        simp only [List.getElem_toArray, List.getElem_cons_succ, List.getElem_cons_zero, Act.put, List.setIfInBounds_toArray, List.set_cons_zero, List.set_cons_succ]
        refine wpAnyH_take (i := 16) (oi := _) (v := ?_) rfl (by kernel_rfl) (by kernel_rfl) (by kernel_rfl) (fun _ _ _ h => h) (Or.inl ⟨by rfl, ?_⟩) (by assumption) ?_
        rotate_left
        ·(intro w hSw; (try dsimp only at hSw); (try obtain ⟨s1_, s2_, s3_, s4_, s5_⟩ := hSw); go_simp <;> with_reducible rfl)
        simp only [List.getElem_toArray, List.getElem_cons_succ, List.getElem_cons_zero, Act.put, List.setIfInBounds_toArray, List.set_cons_zero, List.set_cons_succ]
        refine wpAnyH_take (i := 17) (oi := _) (v := ?_) rfl (by kernel_rfl) (by kernel_rfl) (by kernel_rfl) (fun _ _ _ h => h) (Or.inl ⟨by rfl, ?_⟩) (by assumption) ?_
        rotate_left
        ·(intro w hSw; (try dsimp only at hSw); (try obtain ⟨s1_, s2_, s3_, s4_, s5_⟩ := hSw); go_simp <;> with_reducible rfl)
        simp only [List.getElem_toArray, List.getElem_cons_succ, List.getElem_cons_zero, Act.put, List.setIfInBounds_toArray, List.set_cons_zero, List.set_cons_succ]
        refine wpAnyH_take (i := 18) (oi := _) (v := ?_) rfl (by kernel_rfl) (by kernel_rfl) (by kernel_rfl) (fun _ _ _ h => h) (Or.inl ⟨by rfl, ?_⟩) (by assumption) ?_
        rotate_left
        ·(intro w hSw; (try dsimp only at hSw); (try obtain ⟨s1_, s2_, s3_, s4_, s5_⟩ := hSw); go_simp <;> with_reducible rfl)
        simp only [List.getElem_toArray, List.getElem_cons_succ, List.getElem_cons_zero, Act.put, List.setIfInBounds_toArray, List.set_cons_zero, List.set_cons_succ]
        refine wpAnyH_take (i := 19) (oi := _) (v := ?_) rfl (by kernel_rfl) (by kernel_rfl) (by kernel_rfl) (fun _ _ _ h => h) (Or.inl ⟨by rfl, ?_⟩) (by assumption) ?_
        rotate_left
        ·(intro w hSw; (try dsimp only at hSw); (try obtain ⟨s1_, s2_, s3_, s4_, s5_⟩ := hSw); go_simp <;> with_reducible rfl)
        simp only [List.getElem_toArray, List.getElem_cons_succ, List.getElem_cons_zero, Act.put, List.setIfInBounds_toArray, List.set_cons_zero, List.set_cons_succ]
        refine wpAnyH_ready (rs := [20]) (by kernel_rfl) (by simp) (AllReadyH.cons rfl (fun K hK => ?_) AllReadyH.nil)
        go_simp
        refine (HOF.out _).mono ?_
        rintro e w6 ⟨D1, f1, z1, D2, f2, z2, D3, f3, z3, rfl, hd3, hb⟩
        have HQ1 := Lib.hid (show Below W2.heap.size W2 w6 from HQ0.out.trans (hb.mono HQ0.out.size))
        have HD3 := Lib.hid hd3
        clear hb hd3
        refine hK.out _ _ (HSW.out _ HQ1.out) (fun hHeld2 => ?_)
        clear hK K hHeld
        have hHeld := hHeld2
        clear hHeld2
        refine wpAnyH_ready (rs := [21]) (by kernel_rfl) (by simp) (AllReadyH.cons rfl (fun K hK => ?_) AllReadyH.nil)
        go_simp
        refine (Sset.r_rsame _ _ _ _ _ _ (H3.out.next (HB7.out.trans (HQ1.out.mono HB7.out.size))) HD3.out (decide_eq_true rfl)).mono ?_
        rintro e w7 ⟨rfl, hb⟩
        have HQ2 := Lib.hid (show Below W2.heap.size W2 w7 from HQ1.out.trans (hb.mono HQ1.out.size))
        have HBX := Lib.hid (show Below wr.heap.size wr w7 from HB7.out.trans (HQ2.out.mono HB7.out.size))
        clear hb
        refine hK.out _ _ (HSW.out _ HQ2.out) (fun hHeld2 => ?_)
        clear hK K hHeld
        have hHeld := hHeld2
        clear hHeld2
        refine wpAnyH_take (i := 22) (oi := _) (v := ?_) rfl (by kernel_rfl) (by kernel_rfl) (by kernel_rfl) (fun _ _ _ h => h) (Or.inl ⟨by rfl, ?_⟩) (by assumption) ?_
        rotate_left
        ·(intro w hSw; (try dsimp only at hSw); (try obtain ⟨s1_, s2_, s3_, s4_, s5_⟩ := hSw); go_simp <;> with_reducible rfl)
        simp only [List.getElem_toArray, List.getElem_cons_succ, List.getElem_cons_zero, Act.put, List.setIfInBounds_toArray, List.set_cons_zero, List.set_cons_succ]
        refine wpAnyH_take (i := 23) (oi := _) (v := ?_) rfl (by kernel_rfl) (by kernel_rfl) (by kernel_rfl) (fun _ _ _ h => h) (Or.inl ⟨by rfl, ?_⟩) (by assumption) ?_
        rotate_left
        ·(intro w hSw; (try dsimp only at hSw); (try obtain ⟨s1_, s2_, s3_, s4_, s5_⟩ := hSw); go_simp <;> with_reducible rfl)
        simp only [List.getElem_toArray, List.getElem_cons_succ, List.getElem_cons_zero, Act.put, List.setIfInBounds_toArray, List.set_cons_zero, List.set_cons_succ]
        refine wpAnyH_done (by kernel_rfl) ?_ _
        have HBW := Lib.hid (HB.out.trans (HBX.out.mono HB.out.size))
        have HP1 := Lib.hid HP.out
        by_cases hk0 : k = 0
        ·subst hk0
         obtain rfl : p = 0 := HP1.out
         clear HKC HSW HCK
         go_wp2_with fail
         refine ⟨⟨_, _, _, _, _, ⟨1, by omega, 1, ?_, ?_, Lib.hid rfl⟩, rfl, rfl, rfl, rfl, rfl⟩, ?_⟩
         ·rfl
         ·rfl
         ·simp [intOf]; omega
        ·have hk1 : (0 : Int) < (k : Int) := by omega
         have hk2 : decide ((0 : Int) < (k : Int)) = true := decide_eq_true hk1
         have h6 := (HKC.out (by omega)).1
         have h7 : (p : Int) + 1 < (n5 : Int) := by omega
         have h8 : decide ((n5 : Int) ≤ (p : Int) + 1) = false := decide_eq_false (by omega)
         have h9 : ¬ ((n5 : Int) ≤ (p : Int) + 1) := by omega
         have h10 : decide (n5 ≤ p + 1) = false := decide_eq_false (by omega)
         have h11 : ¬ n5 ≤ p + 1 := by omega
         have c6 := HCK.out (by omega) _ HBX.out
         clear HKC HSW HCK
         go_wp2_with fail
         refine ⟨⟨_, _, _, _, _, ⟨k + 1, by omega, p + 2, ?_, ?_, Lib.hid (by have := HP1.out; omega)⟩, rfl, rfl, rfl, rfl, rfl⟩, ?_⟩
         ·exact congrArg (Value.int .i64) (by omega)
         ·exact congrArg (Value.int .i64) (by omega)
         ·simp [intOf]; omega
       ·obtain rfl : k = N := by omega
        have hpe : p = n5 := by have h1 := HP.out; have h2 := HN5.out; omega
        subst hpe
        have hpp : ((p : Int) == (p : Int)) = true := beq_self_eq_true _
        have HBE := Lib.hid (HB5.out.trans (HB.out.mono HB5.out.size))
        go_wp2_with fail
        go_ret
        exact ⟨rfl, HBE.out⟩
set_option maxRecDepth 100000 in
theorem contract (H : Type) (enc : TypeId × Value → H) (W : World) (base : Nat) (args : Array Value) (ds gs : List (DataW H)) (before : List MemPlace)
  (hval : ∀ (j : Nat) t v, Tryz.f5.params[j]? = some t → args[j]? = some v → Value.okWide Tryz.prog W .any base t v)
  (hW : DataW.Whole enc Tryz.prog Tryz.f5.params.toList Rows.syntaxQuotesSpec.vars false W args.toList ds gs before) (hLL : laidMetH Tryz.prog Rows.syntaxQuotesUptoRow.laid W) (hk : Rows.uptoSmall H (ds ++ gs) = true) :
  Calls Tryz.prog 5 args W fun e W' => ∃ v, e = .returned v ∧ Rows.syntaxQuotesSpec.post enc Tryz.prog Tryz.f5 false true false false W args v W' := by
 have hL : Laid W := laid_of hLL
 have hW' := hW
 obtain ⟨p, q, hA0, hV, rfl, hfz, hnd⟩ := hW
 have hA : DataW.TrodAll enc Tryz.prog W 0 (fun _ => true) true Tryz.f5.params.toList args.toList ds p := hA0
 rw [Tryz.params5] at hA hval
 obtain ⟨v0, vs0, d0, ds0, p0, q0, hargs, rfl, rfl, h0, r0⟩ := trodAll_cons hA
 obtain ⟨v1, vs1, d1, ds1, p1, q1, rfl, rfl, rfl, h1, r1⟩ := trodAll_cons r0
 obtain ⟨rfl, rfl, rfl⟩ := trodAll_nil r1
 obtain rfl : args = #[v0, v1] := by cases args; simp_all
 obtain ⟨rfl, rfl⟩ := trodVars_none hV
 obtain ⟨a0, len0, cap0, rfl⟩ := okWide_slice Tryz.underlying25 (hval 0 25 v0 rfl rfl)
 have k0 := h0
 have lt0 : ∀ x ∈ p0, x.block < W.heap.size := by obtain ⟨m, hm⟩ := k0; exact DataW.trod_lt m _ _ _ hm
 obtain ⟨l0, hl0, hc0, hm0, hr0, hb0⟩ := open_bytes h0
 obtain ⟨a1, len1, cap1, rfl⟩ := okWide_slice Tryz.underlying32 (hval 1 32 v1 rfl rfl)
 have k1 := h1
 have lt1 : ∀ x ∈ p1, x.block < W.heap.size := by obtain ⟨m, hm⟩ := k1; exact DataW.trod_lt m _ _ _ hm
 obtain ⟨l1, hl1, hc1, hm1, hr1, ht1, hb1⟩ := open_texts h1
 have hbd := bulk_bound hk
 simp only [List.append_nil, Rows.uptoBulkAll] at hbd
 clear hA0
 refine (walk a0 l0 len0 cap0 a1 l1 len1 cap1 W hL hr0 hl0 hc0 hm0 hr1 hl1 (by omega) (by omega)).mono fun e W' ⟨he, bel⟩ => ?_
 subst he
 exact ⟨_, rfl, _, _, _, [], _, [], hW', trodAll_mk1 (shut_bool Tryz.underlying4 _), (trodAll_cons_mk (Below.trod laidOut (by kernel_rfl) (of_decide_eq_true (by kernel_rfl)) k0 bel lt0) (trodAll_cons_mk (Below.trod laidOut (by kernel_rfl) (of_decide_eq_true (by kernel_rfl)) k1 bel lt1) trodAll_mk0)), rfl, bel.frame _, fun h => by cases h⟩
set_option maxRecDepth 100000 in
theorem laid_met (os : Os) : laidMet Tryz.prog Rows.syntaxQuotesUptoRow.laid ((laidWorld os).forCall (fun _ _ => 0) ⟨#[], #[.slice none 0 0, .slice none 0 0], []⟩).memory :=
 Syn.laid_met os _
set_option maxRecDepth 100000 in
theorem reads (os : Os) {H : Type} (enc : TypeId × Value → H) : ∃ places, DataW.whole enc Tryz.prog ((laidWorld os).forCall (fun _ _ => 0) ⟨#[], #[.slice none 0 0, .slice none 0 0], []⟩).memory Tryz.f5.params.toList Rows.syntaxQuotesSpec.vars false (#[.slice none 0 0, .slice none 0 0] : Array Value).toList 8 = some ([.nil, .nil], [], places) :=
 ⟨[], by kernel_rfl⟩
set_option maxRecDepth 100000 in
theorem lifted (os : Os) (started : os.Started) (H : Type) (enc : TypeId × Value → H) (F : Stop.Interp) :
  ReturnsInHanded {} Tryz.checked os 5 .any ((Rows.OpenSpec.upto Rows.syntaxQuotesSpec).preRow enc Tryz.prog Tryz.f5 Rows.syntaxQuotesUptoRow.domain false Rows.syntaxQuotesUptoRow.laid) (((Rows.OpenSpec.upto Rows.syntaxQuotesSpec).at F).post enc Tryz.prog Tryz.f5 false true false false) := by
 obtain ⟨places, hx⟩ := reads os enc
 refine returnsInHanded_of_row (C := Tryz.checked) (s := Rows.OpenSpec.upto Rows.syntaxQuotesSpec) own started (by kernel_rfl) Tryz.func5
  (witness_row_shaped (enc := enc) (C := Tryz.checked) false (laidWorld os) #[.slice none 0 0, .slice none 0 0] (World.laidAll_os _ _ _) (World.shaped_of_ZipB (by kernel_rfl) (by kernel_rfl)) (by kernel_rfl)
   (OpenSpec.preRow_of_cond 8 hx (by kernel_rfl) (fun k hk => by cases hk; kernel_rfl) (by kernel_rfl) (laid_met os))) ?_
 intro W base args ds gs before hval hW _ hcond _ hL _ _
 exact contract H enc W base args ds gs before hval hW hL (hcond _ rfl)
set_option maxRecDepth 100000 in
theorem said : Rows.SyntaxQuotesUptoSaid :=
 OpenClaim.holds_of_cond 5 Tryz.f5 rfl rfl rfl rfl rfl rfl rfl ⟨rfl, rfl, rfl, rfl, rfl⟩ rfl rfl rfl rfl rfl (by kernel_rfl) Tryz.func5 (by kernel_rfl)
  (of_decide_eq_true (by kernel_rfl)) (by unfold Func.isWrapper; first | (rw [if_pos (by decide +kernel)]; kernel_rfl) | (rw [if_neg (by decide +kernel)]; exact ⟨rfl, rfl⟩))
  (fun os started H enc _ F => by rw [OpenClaim.pre_eq_preRow]; exact lifted os started H enc F)
set_option maxRecDepth 100000 in
theorem plain (f : FuncId) (fn : Func) (hf : Tryz.pinned.checked.prog.funcNamed Rows.syntaxQuotesUptoRow.func = some f) (hfn : Tryz.pinned.checked.prog.funcs[f]? = some fn) :
  true = Tryz.pinned.checked.prog.looks [] ∧ ∀ (j : Nat) t, fn.params[j]? = some t → Tryz.pinned.checked.prog.wantsStandIn t = false := by
 obtain rfl : f = 5 := Option.some.inj ((show Tryz.prog.funcNamed Rows.syntaxQuotesUptoRow.func = some 5 by kernel_rfl).symm.trans hf) |>.symm
 obtain rfl : fn = Tryz.f5 := (Option.some.inj (Tryz.func5.symm.trans hfn)).symm
 refine ⟨by kernel_rfl, fun j t ht => ?_⟩
 rw [Tryz.params5] at ht
 have hm := Array.mem_of_getElem? ht
 simp only [List.mem_toArray, List.mem_cons, List.not_mem_nil, or_false] at hm
 rcases hm with rfl | rfl
 all_goals first | exact (show Tryz.prog.wantsStandIn 25 = false by kernel_rfl) | exact (show Tryz.prog.wantsStandIn 32 = false by kernel_rfl)
set_option maxRecDepth 100000 in
theorem proved : Rows.SyntaxQuotesUptoCardSaid :=
 Claim7.holds_tied_plain_at .later [] _ _ _ _ said (fun _ h => by cases h) (by kernel_rfl) (fun _ h => by cases h) syntaxQuotesUpto_row_tie rfl ⟨rfl, rfl⟩ (by kernel_rfl) rfl plain (by kernel_rfl)
end Go.Proofs.YtheelnhhkpkjnaaGreatDoor.LawSyntaxQuotes
