/-
  Whatever size and whatever numbers there are: behind a Clear a set is as a new one, what it told stays what it was, and a nil set answers nothing. Conditions: none.
-/
import Derived.Test.YtckdjbonplpknaaSparseOpen
namespace Go.Proofs.Ytckdjbonplpknaa.LawSparseClears
open Go.ChangeShapes Go.WideShapes Go.ChangeAt Go.RowKit Mem Sparse
set_option maxRecDepth 100000


def puts (N : Nat) (l : List Int) : List Int := l.foldl (put N) []
theorem puts_snoc (N : Nat) (l : List Int) (x : Int) : puts N (l ++ [x]) = put N (puts N l) x := by unfold puts; rw [List.foldl_append]; rfl
/-- two sets that share nothing -/
structure Duo (B : Nat) (w wr : World) (N g p : Nat) (u : Value) (cur : List Int) (g' p' : Nat) (u' : Value) (cur' : List Int) : Prop where
  one : SI wr B g p u N cur
  two : SI wr B g' p' u' N cur'
  dj : Dj g p u g' p' u'
  below : Below B w wr
section
variable {B : Nat} {w wr w1 : World} {N g p : Nat} {u v : Value} {cur nxt : List Int} {g' p' : Nat} {u' v' : Value} {cur' : List Int}
theorem Duo.next (h : Duo B w wr N g p u cur g' p' u' cur') (hb : Below wr.heap.size wr w1) (hB : B ≤ wr.heap.size) : Duo B w w1 N g p u cur g' p' u' cur' := ⟨h.one.next hb, h.two.next hb, h.dj, h.below.trans (hb.mono hB)⟩
theorem Duo.fst (h : Duo B w wr N g p u cur g' p' u' cur') (h1 : SI w1 B g p v N nxt) (hc : Chg wr w1 (Ft g p u)) (hg : Grew wr u v) (hB : B ≤ wr.heap.size) : Duo B w w1 N g p v nxt g' p' u' cur' :=
  ⟨h1, h.two.keep hc fun i hi hf => h.dj i hf hi, h.dj.grew h.two hg, h.below.trans (hc.below hB fun _ hi => h.one.low hi)⟩
theorem Duo.snd (h : Duo B w wr N g p u cur g' p' u' cur') (h1 : SI w1 B g' p' v' N nxt) (hc : Chg wr w1 (Ft g' p' u')) (hg : Grew wr u' v') (hB : B ≤ wr.heap.size) : Duo B w w1 N g p u cur g' p' v' nxt :=
  ⟨h.one.keep hc fun i hi hf => h.dj i hi hf, h1, (h.dj.symm.grew h.one hg).symm, h.below.trans (hc.below hB fun _ hi => h.two.low hi)⟩
theorem Duo.keep {S : Nat → Prop} (h : Duo B w wr N g p u cur g' p' u' cur') (hc : Chg wr w1 S) (h1 : ∀ i, S i → wr.heap.size ≤ i ∨ (¬ Ft g p u i ∧ ¬ Ft g' p' u' i ∧ B ≤ i)) (hB : B ≤ wr.heap.size) : Duo B w w1 N g p u cur g' p' u' cur' :=
  ⟨h.one.keep hc fun i hf hi => by
      rcases h1 i hi with h2 | h2
      · have := (h.one.hers hf).2; omega
      · exact h2.1 hf, h.two.keep hc fun i hf hi => by
      rcases h1 i hi with h2 | h2
      · have := (h.two.hers hf).2; omega
      · exact h2.2.1 hf, h.dj, h.below.trans (hc.below hB fun i hi hs => by
      rcases h1 i hs with h2 | h2
      · omega
      · omega)⟩
end
set_option maxHeartbeats 8000000 in
theorem walk (size : Int) (A1 A2 : Option Addr) (l1 l2 : List Int) (m1 m2 c1 c2 : Nat) (w : World) (h1 : -9223372036854775808 ≤ size) (h2 : size ≤ 9223372036854775807) (hr1 : Rd w w.heap.size A1 (ks .i64 l1)) (hr2 : Rd w w.heap.size A2 (ks .i64 l2)) (hm1 : l1.length = m1) (hm2 : l2.length = m2)
    (hx1 : ∀ x ∈ l1, -9223372036854775808 ≤ x ∧ x ≤ 9223372036854775807) (hx2 : ∀ x ∈ l2, -9223372036854775808 ≤ x ∧ x ≤ 9223372036854775807) (hsm1 : m1 ≤ 17592186044415) (hsm2 : m2 ≤ 17592186044415) :
    Calls Try.prog 5 #[.int .i64 size, .slice A1 m1 c1, .slice A2 m2 c2] w (Law w) := by
  have HF := Lib.hid (fixed_any w)
  have HM1 := Lib.hid hm1; have HX1 := Lib.hid hx1; have HR1 := Lib.hid hr1
  have HM2 := Lib.hid hm2; have HX2 := Lib.hid hx2; have HR2 := Lib.hid hr2
  clear hm1 hx1 hr1 hm2 hx2 hr2
  go_enter Try.func5, Try.ntmps5
  go_wp2_with fail
  refine HF.out.mono ?_
  rintro e w1 ⟨rfl, hb1⟩
  have HB1 := Lib.hid hb1
  have HNEW := Lib.hid (new_int size w1 h1 h2)
  clear hb1 HF
  go_wp2_with fail
  refine HNEW.out.mono ?_
  rintro e w2 ⟨g, p, rfl, k1, k2⟩
  have K1 := Lib.hid k1; have K2 := Lib.hid k2
  have HNEW2 := Lib.hid (new_int size w2 h1 h2)
  clear k1 k2 HNEW
  go_wp2_with fail
  refine HNEW2.out.mono ?_
  rintro e w3 ⟨g', p', rfl, k3, k4⟩
  obtain ⟨B, hB⟩ : ∃ B, B = w1.heap.size := ⟨_, rfl⟩
  have HB := Lib.hid hB
  have hd := Duo.mk (w := w1) (K1.out.next k4) (k3.base K2.out.size) (Dj.late K1.out k3 (Nat.le_refl _)) (K2.out.trans (k4.mono K2.out.size))
  obtain ⟨N, hN⟩ : ∃ N, N = room size := ⟨_, rfl⟩
  rw [← hN, ← hB] at hd
  have hNle : N ≤ 65536 := hN ▸ room_le size
  have HD := Lib.hid (show Duo B w1 w3 N g p (.slice none 0 0) (puts N (l1.take 0)) g' p' (.slice none 0 0) [] from hd)
  clear k3 k4 hd hB hN HNEW2 K1 K2
  go_wp2_with fail
  go_loopw [28] (fun i wr => ∃ (k : Nat) (u : Value), k ≤ m1 ∧ i = .int .i64 k ∧ Hid (Duo B w1 wr N g p u (puts N (l1.take k)) g' p' (.slice none 0 0) [])) (fun i _ => m1 - (intOf i).toNat)
  case atStart => exact ⟨0, _, Nat.zero_le _, rfl, HD⟩
  case round =>
    obtain ⟨wo, hwo⟩ : ∃ wo : World, wo = wr := ⟨_, rfl⟩
    subst hwo
    obtain ⟨k, u, hk, rfl, HT⟩ := hrel
    clear HD
    have HW := Lib.hid (show B ≤ wo.heap.size by have := HT.out.below.size; rw [HB.out]; exact this)
    have hwr : Below w.heap.size w wo := HB1.out.trans (HT.out.below.mono (by rw [HB.out]; exact HB1.out.size))
    by_cases hlt : k < m1
    · have hkl : k < l1.length := by rw [HM1.out]; exact hlt
      obtain ⟨b, o, rfl, _⟩ := rd_form HR1.out (by omega)
      have d1 := rd_k (HR1.out.below hwr) hkl
      have hxo := HX1.out _ (List.getElem_mem hkl)
      have hts : l1.take (k + 1) = l1.take k ++ [l1[k]] := List.take_succ_eq_append_getElem hkl
      obtain ⟨x, hq⟩ : ∃ x, x = l1[k] := ⟨_, rfl⟩
      rw [← hq] at d1 hxo hts
      have HTS := Lib.hid (show puts N (l1.take (k + 1)) = put N (puts N (l1.take k)) x by rw [hts, puts_snoc])
      have HA := Lib.hid (add_int x B g p N u _ wo HT.out.one hxo.1 hxo.2)
      clear hts hq hkl hwr hxo
      go_wp2_with (first
        | (go_at_call 18; refine HA.out.mono ?_; rintro e4 w4 ⟨u4, rfl, k1, k2, k3⟩; have HT4 := Lib.hid (HT.out.fst k1 k2 k3 HW.out); clear k1 k2 k3))
      go_roundw
      case rel => exact ⟨k + 1, u4, by omega, by go_num, by rw [HTS.out]; exact HT4⟩
      case measure => simp [intOf]; omega
    · obtain ⟨C, hC⟩ : ∃ C, C = puts N (l1.take k) := ⟨_, rfl⟩
      rw [← hC] at HT
      have HV := Lib.hid (values_int B g p N u C wo HT.out.one)
      have HWR := Lib.hid hwr
      obtain ⟨n, hn⟩ : ∃ n, n = C.length := ⟨_, rfl⟩
      have HNL := Lib.hid hn
      clear hC hwr hn
      go_wp2_with fail
      refine HV.out.mono ?_
      rintro e4 w4 ⟨v4, rfl, k1, k2⟩
      obtain ⟨B3, hB3⟩ : ∃ B3, B3 = wo.heap.size := ⟨_, rfl⟩
      have HB3 := Lib.hid hB3
      have HT4 := Lib.hid (HT.out.next k2 HW.out)
      have HW4 := Lib.hid (Nat.le_trans HW.out k2.size)
      rw [← hB3, ← HNL.out] at k1
      have HAP := Lib.hid (show ∀ i, v4.ownBlock = some i → ¬ Ft g p u i ∧ ¬ Ft g' p' (.slice none 0 0) i ∧ B ≤ i from fun i hi => by
        have h3 := (k1.lt i hi).1
        rw [hB3] at h3
        refine ⟨fun hf => ?_, fun hf => ?_, Nat.le_trans HW.out h3⟩
        · have := (HT.out.one.hers hf).2; omega
        · have := (HT.out.two.hers hf).2; omega)
      have HO4 := Lib.hid k1
      obtain ⟨A4, ca4, rfl, _, _, _⟩ := own_form k1
      have HC := Lib.hid (clear_int B g p N u C w4 HT4.out.one)
      clear k1 k2 hB3 HV
      go_wp2_with fail
      refine HC.out.mono ?_
      rintro e5 w5 ⟨u5, rfl, k1, k2, k3⟩
      have HT5 := Lib.hid (HT4.out.fst k1 k2 k3 HW4.out)
      have HW5 := Lib.hid (Nat.le_trans HW4.out k2.size)
      have HO5 := Lib.hid (own_keep HO4.out k2 fun i hi => (HAP.out i hi).1)
      have HAP5 := Lib.hid (show ∀ i, (Value.slice A4 n ca4).ownBlock = some i → ¬ Ft g p u5 i ∧ ¬ Ft g' p' (.slice none 0 0) i ∧ B ≤ i from fun i hi =>
        ⟨fun hf => (HAP.out i hi).1 (ft_grew k3 (HO4.out.lt i hi).2 hf), (HAP.out i hi).2⟩)
      have HLN : Hid (Calls Try.prog 30 #[.pointer (some ⟨g, 0, none⟩)] w5 (Tells w5 (.int .i64 0))) := Lib.hid (len_int B g p N u5 [] w5 HT5.out.one)
      have HVL := Lib.hid (values_int B g p N u5 [] w5 HT5.out.one)
      clear k1 k2 k3 HC HT4 HO4 HAP
      go_wp2_with (first
        | (go_at_call 30; refine HLN.out.mono ?_; rintro e6 w6 ⟨rfl, rfl⟩)
        | (go_at_call 26; refine HVL.out.mono ?_; rintro e7 w7 ⟨v7, rfl, k1, k2⟩; have k1' : w7.ownsRow _ _ 1 v7 0 _ := k1; obtain ⟨A7, ca7, rfl, _, _, _⟩ := own_form k1'; have HT7 := Lib.hid (HT5.out.next k2 HW5.out); have HW7 := Lib.hid (Nat.le_trans HW5.out k2.size); have HO7 := Lib.hid (own_below HO5.out k2); clear k1 k1' k2))
      have HCI := Lib.hid HT.out.one.inn
      clear HT5 HO5 HLN HVL HT
      go_loopw [51] (fun i wi => ∃ k : Nat, k ≤ n ∧ i = .int .i64 k ∧ w7 = wi) (fun i _ => n - (intOf i).toNat)
      case atStart => exact ⟨0, Nat.zero_le _, rfl, rfl⟩
      case round =>
        obtain ⟨j, hj, rfl, rfl⟩ := hrel
        by_cases hjn : j < n
        · have hjc : j < C.length := by rw [← HNL.out]; exact hjn
          have hro := Rd.of_own HO7.out
          obtain ⟨b, o, rfl, _⟩ := rd_form hro (by omega)
          have d1 := rd_k hro hjc
          have hxo := HCI.out _ (List.getElem_mem hjc)
          obtain ⟨x, hq⟩ : ∃ x, x = C[j] := ⟨_, rfl⟩
          rw [← hq] at d1 hxo
          have HH := Lib.hid (has_int x B g p N u5 [] w7 HT7.out.one (by omega) (by omega))
          rw [show decide (x ∈ ([] : List Int)) = false from by simp] at HH
          clear hq hjc hro hxo
          go_wp2_with (go_at_call 22; refine HH.out.mono ?_; rintro e6 w6 ⟨rfl, rfl⟩)
          go_roundw
          case rel => exact ⟨j + 1, by omega, by go_num, trivial⟩
          case measure => simp [intOf]; omega
        · go_wp2_with fail
          go_loopw [61] (fun i wi => ∃ (k : Nat) (L : List Int), k ≤ n ∧ i = .int .i64 k ∧ Hid (L.length = n) ∧ Hid (wi.ownsRow B3 3 1 (.slice A4 n ca4) n (ks .i64 L)) ∧ Hid (Duo B w1 wi N g p u5 [] g' p' (.slice none 0 0) [])) (fun i _ => n - (intOf i).toNat)
          case atStart => exact ⟨0, C, Nat.zero_le _, rfl, Lib.hid HNL.out.symm, HO7, HT7⟩
          case round =>
            obtain ⟨ws, hws⟩ : ∃ ws : World, ws = wr := ⟨_, rfl⟩
            subst hws
            obtain ⟨i, L, hi, rfl, HLL, HOW, HDW⟩ := hrel
            by_cases hin : i < n
            · have hio : i < L.length := by rw [HLL.out]; exact hin
              have hro := Rd.of_own HOW.out
              obtain ⟨gb, cap, hv, _, _⟩ := HOW.out.form (by omega)
              injection hv with hv1 hv2 hv3
              subst hv1
              have d1 := rd_k hro hio
              have d2 := HOW.out.frozenAt i
              obtain ⟨st1, st2⟩ := HOW.out.stored i (.int .i64 (-7))
              rw [ks_set] at st1
              have HST := Lib.hid st1
              have HWS := Lib.hid (show B ≤ ws.heap.size by have := HDW.out.below.size; rw [HB.out]; exact this)
              have HDN := Lib.hid (HDW.out.keep (S := fun i => (Value.slice (some ⟨gb, 0, none⟩) n ca4).ownBlock = some i) ((Chg.refl ws _).grown st2 fun i _ e => e) (fun i hi => .inr (HAP5.out i hi)) HWS.out)
              obtain ⟨y, hq⟩ : ∃ y, y = L[i] := ⟨_, rfl⟩
              rw [← hq] at d1
              rw [Nat.zero_add] at d1
              clear st1 st2 hq hro hio hv2 hv3
              go_wp2_with fail
              go_roundw
              case rel => exact ⟨i + 1, _, by omega, by go_num, Lib.hid (by rw [List.length_set]; exact HLL.out), HST, HDN⟩
              case measure => simp [intOf]; omega
            · have hws0 : Below w.heap.size w ws := HB1.out.trans (HDW.out.below.mono (by rw [HB.out]; exact HB1.out.size))
              have HWS0 := Lib.hid hws0
              have HD4 := Lib.hid (show Duo B w1 ws N g p u5 (puts N (l2.take 0)) g' p' (.slice none 0 0) (puts N (l2.take 0)) from HDW.out)
              clear hws0 HDW HOW HT7 HO7 HAP5
              go_wp2_with fail
              go_loopw [70] (fun i wi => ∃ (k : Nat) (ua ub : Value), k ≤ m2 ∧ i = .int .i64 k ∧ Hid (Duo B w1 wi N g p ua (puts N (l2.take k)) g' p' ub (puts N (l2.take k)))) (fun i _ => m2 - (intOf i).toNat)
              case atStart => exact ⟨0, _, _, Nat.zero_le _, rfl, HD4⟩
              case round =>
                obtain ⟨wq, hwq⟩ : ∃ wq : World, wq = wr := ⟨_, rfl⟩
                subst hwq
                obtain ⟨k2, ua, ub, hk2, rfl, HQ⟩ := hrel
                clear HD4
                have HWQ := Lib.hid (show B ≤ wq.heap.size by have := HQ.out.below.size; rw [HB.out]; exact this)
                have hwr : Below w.heap.size w wq := HB1.out.trans (HQ.out.below.mono (by rw [HB.out]; exact HB1.out.size))
                by_cases hlt2 : k2 < m2
                · have hkl : k2 < l2.length := by rw [HM2.out]; exact hlt2
                  obtain ⟨b, o, rfl, _⟩ := rd_form HR2.out (by omega)
                  have d1 := rd_k (HR2.out.below hwr) hkl
                  have hxo := HX2.out _ (List.getElem_mem hkl)
                  have hts : l2.take (k2 + 1) = l2.take k2 ++ [l2[k2]] := List.take_succ_eq_append_getElem hkl
                  obtain ⟨x, hq⟩ : ∃ x, x = l2[k2] := ⟨_, rfl⟩
                  rw [← hq] at d1 hxo hts
                  have HTS := Lib.hid (show puts N (l2.take (k2 + 1)) = put N (puts N (l2.take k2)) x by rw [hts, puts_snoc])
                  obtain ⟨D, hD⟩ : ∃ D, D = puts N (l2.take k2) := ⟨_, rfl⟩
                  rw [← hD] at HTS HQ
                  have HXO := Lib.hid hxo
                  have HA := Lib.hid (add_int x B g p N ua D wq HQ.out.one hxo.1 hxo.2)
                  obtain ⟨F, hF⟩ : ∃ F, F = fresh N D x := ⟨_, rfl⟩
                  have HFF := Lib.hid hF.symm
                  obtain ⟨M, hM⟩ : ∃ M, M = decide (x ∈ put N D x) := ⟨_, rfl⟩
                  have HMM := Lib.hid hM.symm
                  have e1 : (F != F) = false := by simp
                  have e2 : (M != M) = false := by simp
                  clear hts hq hkl hwr hxo hD hF hM
                  go_wp2_with (first
                    | (go_at_call 18; refine HA.out.mono ?_; rintro e4 w4 ⟨ua4, he, k1, k2', k3⟩; rw [HFF.out] at he; subst he; have HQ4 := Lib.hid (HQ.out.fst k1 k2' k3 HWQ.out); have HW4 := Lib.hid (Nat.le_trans HWQ.out k2'.size); have HA2 := Lib.hid (add_int x B g' p' N ub D w4 HQ4.out.two HXO.out.1 HXO.out.2); clear k1 k2' k3 HA)
                    | (go_at_call 18; refine HA2.out.mono ?_; rintro e5 w5 ⟨ub5, he, k1, k2', k3⟩; rw [HFF.out] at he; subst he; have HQ5 := Lib.hid (HQ4.out.snd k1 k2' k3 HW4.out); have HH1 := Lib.hid (has_int x B g p N ua4 _ w5 HQ5.out.one HXO.out.1 HXO.out.2); have HH2 := Lib.hid (has_int x B g' p' N ub5 _ w5 HQ5.out.two HXO.out.1 HXO.out.2); rw [HMM.out] at HH1 HH2; clear k1 k2' k3 HA2)
                    | (go_at_call 22; refine HH1.out.mono ?_; rintro e6 w6 ⟨rfl, rfl⟩; clear HH1)
                    | (go_at_call 22; refine HH2.out.mono ?_; rintro e7 w7 ⟨rfl, rfl⟩))
                  go_roundw
                  case rel => exact ⟨k2 + 1, ua4, ub5, by omega, by go_num, by rw [HTS.out]; exact HQ5⟩
                  case measure => simp [intOf]; omega
                · obtain ⟨D, hD⟩ : ∃ D, D = puts N (l2.take k2) := ⟨_, rfl⟩
                  rw [← hD] at HQ
                  have HV1 := Lib.hid (values_int B g p N ua D wq HQ.out.one)
                  obtain ⟨nd, hnd⟩ : ∃ nd, nd = D.length := ⟨_, rfl⟩
                  have hfew : nd ≤ 65536 := by rw [hnd]; exact Nat.le_trans HQ.out.one.few hNle
                  have HND := Lib.hid hnd
                  have HBE := Lib.hid hwr
                  clear hD hwr hnd
                  go_wp2_with (first
                    | (go_at_call 29; refine (nil_Clear _).mono ?_; rintro e6 w6 ⟨rfl, rfl⟩)
                    | (go_at_call 31; refine (nil_At _).mono ?_; rintro e6 w6 ⟨rfl, rfl⟩)
                    | (go_at_call 18; refine (nil_Add _ _).mono ?_; rintro e6 w6 ⟨rfl, rfl⟩)
                    | (go_at_call 22; refine (nil_Has _ _).mono ?_; rintro e6 w6 ⟨rfl, rfl⟩)
                    | (go_at_call 30; refine (nil_Len _).mono ?_; rintro e6 w6 ⟨rfl, rfl⟩)
                    | (go_at_call 26; refine HV1.out.mono ?_; rintro e8 w8 ⟨v8, rfl, k1, k2'⟩; rw [← HND.out] at k1; have HO8 := Lib.hid k1; have HB8 := Lib.hid k2'; obtain ⟨A8, ca8, rfl, _, _, _⟩ := own_form k1; have HQ8 := Lib.hid (HQ.out.next k2' HWQ.out); have HV2 := Lib.hid (values_int B g' p' N ub D w8 HQ8.out.two); clear k1 k2' HV1)
                    | (go_at_call 26; refine HV2.out.mono ?_; rintro e9 w9 ⟨v9, rfl, k1, k2'⟩; rw [← HND.out] at k1; have HB9 := Lib.hid k2'; obtain ⟨A9, ca9, rfl, _, _, hr9⟩ := own_form k1; have HSN := Lib.hid (same_yes A8 A9 D D nd nd ca8 ca9 w9 (Rd.of_own (own_below HO8.out k2')) hr9 HND.out.symm HND.out.symm (by omega) rfl); clear k1 k2' hr9 HV2)
                    | (go_at_call 26; refine (nil_Values _).mono ?_; rintro e6 w6 ⟨rfl, rfl⟩)
                    | (go_at_call 10; refine HSN.out.mono ?_; rintro e10 w10 ⟨rfl, h10⟩; have HB10 := Lib.hid h10; clear h10))
                  go_ret
                  exact ⟨rfl, HBE.out.trans ((HB8.out.trans ((HB9.out.trans (HB10.out.mono HB9.out.size)).mono HB8.out.size)).mono HBE.out.size)⟩

theorem contract (H : Type) (enc : TypeId × Value → H) (W : World) (base : Nat) (args : Array Value) (ds gs : List (DataW H)) (before : List MemPlace)
    (hval : ∀ (j : Nat) t v, Try.f5.params[j]? = some t → args[j]? = some v → Value.okWide Try.prog W .any base t v)
    (hW : DataW.Whole enc Try.prog Try.f5.params.toList Rows.sparseClearsSpec.vars false W args.toList ds gs before) (hsz0 : (DataW.weightsEach Try.prog (Try.f5.params.toList ++ Rows.sparseClearsSpec.plain.varTypes Try.prog) (ds ++ gs)).all (· ≤ reachBytes) = true) :
    Calls Try.prog 5 args W fun e W' => ∃ v, e = .returned v ∧ Rows.sparseClearsSpec.post enc Try.prog Try.f5 false true false false W args v W' := by
  have hW' := hW
  obtain ⟨p, q, hA0, hV, rfl, hfz, hnd⟩ := hW
  have hA : DataW.TrodAll enc Try.prog W 0 (fun _ => true) true Try.f5.params.toList args.toList ds p := hA0
  have hsz := hsz0
  rw [Try.params5] at hA hval hsz
  obtain ⟨v0, vs0, d0, ds0, p0, q0, hargs, rfl, rfl, h0, r0⟩ := trodAll_cons hA
  obtain ⟨v1, vs1, d1, ds1, p1, q1, rfl, rfl, rfl, h1, r1⟩ := trodAll_cons r0
  obtain ⟨v2, vs2, d2, ds2, p2, q2, rfl, rfl, rfl, h2, r2⟩ := trodAll_cons r1
  obtain ⟨rfl, rfl, rfl⟩ := trodAll_nil r2
  obtain rfl : args = #[v0, v1, v2] := by cases args; simp_all
  obtain ⟨rfl, rfl⟩ := trodVars_none hV
  obtain ⟨z0, rfl, rfl, rfl, w00⟩ := open_int Try.underlying3 (hval 0 3 v0 rfl rfl) h0
  have w0 := i64_bounds w00
  obtain ⟨a1, len1, cap1, rfl⟩ := okWide_slice Try.underlying24 (hval 1 24 v1 rfl rfl)
  have k1 := h1
  have lt1 : ∀ x ∈ p1, x.block < W.heap.size := by obtain ⟨m, hm⟩ := k1; exact DataW.trod_lt m _ _ _ hm
  obtain ⟨l1, hl1, hc1, hm1, hw1, hr1, hb1, hd1⟩ := open_ks (k := .i64) Try.underlying24 Try.underlying3 (by kernel_rfl) h1
  have reach1 := reach_of (by_ := 8) hsz (j := 1) (t := 24) rfl rfl Try.underlying24 (by kernel_rfl) hd1
  obtain ⟨a2, len2, cap2, rfl⟩ := okWide_slice Try.underlying24 (hval 2 24 v2 rfl rfl)
  have k2 := h2
  have lt2 : ∀ x ∈ p2, x.block < W.heap.size := by obtain ⟨m, hm⟩ := k2; exact DataW.trod_lt m _ _ _ hm
  obtain ⟨l2, hl2, hc2, hm2, hw2, hr2, hb2, hd2⟩ := open_ks (k := .i64) Try.underlying24 Try.underlying3 (by kernel_rfl) h2
  have reach2 := reach_of (by_ := 8) hsz (j := 2) (t := 24) rfl rfl Try.underlying24 (by kernel_rfl) hd2
  clear hA0
  refine (walk z0 a1 a2 l1 l2 len1 len2 cap1 cap2 W w0.1 w0.2 hr1 hr2 hl1 hl2 (fun x hx => i64_bounds (hw1 x hx)) (fun x hx => i64_bounds (hw2 x hx)) (by omega) (by omega)).mono fun e W' ⟨he, bel⟩ => ?_
  subst he
  exact ⟨_, rfl, _, _, _, [], _, [], hW', trodAll_mk1 (shut_bool Try.underlying4 _), (trodAll_cons_mk (shut_int Try.underlying3 w00) (trodAll_cons_mk (Below.trod laidOut (by kernel_rfl) (of_decide_eq_true (by kernel_rfl)) k1 bel lt1) (trodAll_cons_mk (Below.trod laidOut (by kernel_rfl) (of_decide_eq_true (by kernel_rfl)) k2 bel lt2) trodAll_mk0))), rfl, bel.frame _, fun h => by cases h⟩

set_option maxRecDepth 100000 in
theorem lifted (os : Os) (started : os.Started) (H : Type) (enc : TypeId × Value → H) :
    ReturnsInHanded {} Try.checked os 5 .any (Rows.sparseClearsSpec.pre6 enc Try.prog Try.f5 Rows.sparseClearsRow.domain false) (Rows.sparseClearsSpec.post enc Try.prog Try.f5 false true false false) := by
  refine returnsInHanded_of_change_sized (C := Try.checked) own started (by kernel_rfl) Try.func5
    (ChangeSpec.witness6 (enc := enc) (C := Try.checked) false ⟨#[], #[.int .i64 0, .slice none 0 0, .slice none 0 0], []⟩ 8 (by kernel_rfl) (by kernel_rfl) (by kernel_rfl) (by kernel_rfl)) ?_
  intro W base args ds gs before hval hW _ hsz _
  exact contract H enc W base args ds gs before hval hW hsz

/-- THE STATEMENT -/
theorem proved : Rows.SparseClearsSaid :=
  OpenClaim.holds_of_wide 5 Try.f5 rfl rfl rfl rfl rfl rfl rfl ⟨rfl, rfl, rfl, rfl, rfl⟩ rfl rfl rfl rfl rfl (by kernel_rfl) Try.func5 (by kernel_rfl)
    (of_decide_eq_true (by kernel_rfl)) (by unfold Func.isWrapper; first | (rw [if_pos (by decide +kernel)]; kernel_rfl) | (rw [if_neg (by decide +kernel)]; exact ⟨rfl, rfl⟩))
    (fun os started H enc _ => lifted os started H enc)
end Go.Proofs.Ytckdjbonplpknaa.LawSparseClears
