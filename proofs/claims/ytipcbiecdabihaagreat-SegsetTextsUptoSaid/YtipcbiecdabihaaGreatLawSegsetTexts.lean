/-
  Whatever texts there are: the union of single texts' sets has these well-formed texts and no others. Conditions: the arguments hold together at most 1048576 values.
-/
import Derived.Test.YtipcbiecdabihaaGreatSsetFixed
import Derived.Test.YtipcbiecdabihaaGreatSsetOpen
import Derived.Test.YtipcbiecdabihaaGreatSsetFloat
import Derived.Test.YtipcbiecdabihaaGreatSsetMany
namespace Go.Proofs.YtipcbiecdabihaaGreat.LawSegsetTexts
open Go.ChangeShapes Go.WideShapes Go.ChangeAt Go.RowKit
open Utf (Rd Blk nums nums_len wpList_append_rd own_ne)
open Rset Sset
set_option maxRecDepth 100000

set_option maxHeartbeats 16000000 in
theorem walk (A B : Option Addr) (n c m d : Nat) (L M : List Tx) (w : World) (hA : ArgT w A n L) (hB : ArgT w B m M) (hn : n ≤ 1048576) (hm : m ≤ 1048576) :
    Calls Tryz.prog 6 #[.slice A n c, .slice B m d] w (Law w) := by
  obtain ⟨i0, hi, hz0, hz1, hz2⟩ := info_parts infoStr
  have HA := Lib.hid hA; have HM := Lib.hid hB
  clear hA hB
  go_enter Tryz.func6, Tryz.ntmps6
  go_wp2_with fail
  refine (fixed_any _).mono ?_
  rintro e w1 ⟨rfl, hb0⟩
  have HB1 := Lib.hid hb0
  clear hb0
  obtain ⟨g, hg⟩ : ∃ g, g = w1.heap.size := ⟨_, rfl⟩
  obtain ⟨W0, hW0⟩ : ∃ W0, W0 = w1.alloc (.cells #[.slice none 0 0, .slice none 0 0, .slice none 0 0] 25) := ⟨_, rfl⟩
  have XS0 := Lib.hid (show Bx W0 g none 0 0 none 0 0 none 0 0 (uns (L.take 0)) from by rw [hW0, hg]; exact Bx.new (has3_none w1))
  have HB := Lib.hid (show Below w.heap.size w W0 from by rw [hW0]; exact HB1.out.alloc HB1.out.size _)
  have HG := Lib.hid (show w.heap.size ≤ g from by rw [hg]; exact HB1.out.size)
  have HW0 := Lib.hid hW0; have HG0 := Lib.hid hg
  clear hW0 hg
  go_wp2_with fail
  rw [← HW0.out, ← HG0.out]
  clear HW0 HG0 HB1
  go_loopw [17] (fun i wr => ∃ (k : Nat) (A1 : Option Addr) (n1 c1 : Nat) (A2 : Option Addr) (n2 c2 : Nat) (A3 : Option Addr) (n3 c3 : Nat), k ≤ n ∧ i = .int .i64 k ∧ Hid (Bx wr g A1 n1 c1 A2 n2 c2 A3 n3 c3 (uns (L.take k))) ∧ Hid (Below w.heap.size w wr)) (fun i _ => n - (intOf i).toNat)
  case atStart => exact ⟨0, _, _, _, _, _, _, _, _, _, Nat.zero_le _, rfl, XS0, HB⟩
  case round =>
    clear XS0 HB
    obtain ⟨k, A1, n1, c1, A2, n2, c2, A3, n3, c3, hk, rfl, XS, HBR⟩ := hrel
    by_cases hlt : k < n
    · have hkl : k < L.length := by rw [HA.out.len]; exact hlt
      have hT2 := HA.out.next HBR.out
      obtain ⟨bt, ot, rfl, _⟩ := rd_form_tx hT2.rd (by omega)
      have c0 := rd_tx hT2.rd hkl
      have hxl := HA.out.short _ (List.getElem_mem hkl)
      have HS := Lib.hid (uns_take hkl)
      have hn3 : n3 ≤ 1048576 := by have h1 := XS.out.has.o.len; have h2 := uns_len L (k := k) (by omega); omega
      obtain ⟨x, hx⟩ : ∃ x, x = L[k] := ⟨_, rfl⟩
      rw [← hx] at c0 hxl HS
      obtain ⟨X, hX⟩ : ∃ X : ByteArray, X = ⟨x.toArray⟩ := ⟨_, rfl⟩
      have cX : wr.cell? ⟨bt, ot + k, none⟩ = some (.string X) := by rw [c0, hX]
      have HX := Lib.hid (show X.toList = x by rw [hX, mk_toList])
      have HXL := Lib.hid hxl
      obtain ⟨S0, hS0⟩ : ∃ S0, S0 = uns (L.take k) := ⟨_, rfl⟩
      rw [← hS0] at XS HS
      have HQ0 := Lib.hid (show Below wr.heap.size wr wr.drew from (Below.refl _ _).drew)
      clear c0 hX hx hkl hT2 hxl hS0
      go_wp2_with fail
      clear cX
      refine wp_region_held_drew (S := fun _ => True) (by kernel_rfl) trivial (fun hHeld => ?_)
      refine wpAnyH_take (i := 1) (oi := _) (v := ?_) rfl (by kernel_rfl) (by kernel_rfl) (by kernel_rfl) (fun _ _ _ h => h) (Or.inl ⟨by rfl, ?_⟩) (by assumption) ?_
      rotate_left
      · (intro w hSw; (try dsimp only at hSw); go_simp <;> with_reducible rfl)
      simp only [List.getElem_toArray, List.getElem_cons_succ, List.getElem_cons_zero, Act.put, List.setIfInBounds_toArray, List.set_cons_zero, List.set_cons_succ]
      refine wpAnyH_ready (rs := [0, 2]) (by kernel_rfl) (by simp) (AllReadyH.cons rfl (fun K hK => ?_) (AllReadyH.cons rfl (fun K hK => ?_) AllReadyH.nil))
      · have XSD := Lib.hid (XS.out.next HQ0.out)
        have l0 := XSD.out.blk.c0; have l1 := XSD.out.blk.c1; have l2 := XSD.out.blk.c2
        go_simp
        clear l0 l1 l2 XSD
        refine hK.out _ _ trivial (fun hHeld2 => ?_)
        clear hK K hHeld
        have hHeld := hHeld2
        clear hHeld2
        refine wpAnyH_ready (rs := [2]) (by kernel_rfl) (by simp) (AllReadyH.cons rfl (fun K hK => ?_) AllReadyH.nil)
        go_simp
        refine (r_of X x HX.out HXL.out _).mono ?_
        rintro e z1 ⟨D1, d1, e1, D2, d2, e2, D3, d3, e3, rfl, MD⟩
        have HQ1 := Lib.hid (show Below wr.heap.size wr z1 from HQ0.out.trans (MD.bel.mono HQ0.out.size))
        have HD := Lib.hid MD.has
        have hd3 : d3 ≤ 1 := by have h1 := MD.has.o.len; have h2 := (ofS_o x).2; omega
        have XS1 := Lib.hid (XS.out.next HQ1.out)
        clear MD
        refine hK.out _ _ trivial (fun hHeld2 => ?_)
        clear hK K hHeld
        have hHeld := hHeld2
        clear hHeld2
        refine wpAnyH_ready (rs := [3]) (by kernel_rfl) (by simp) (AllReadyH.cons rfl (fun K hK => ?_) AllReadyH.nil)
        go_simp
        refine (r_union _ _ _ _ _ _ XS1.out.has HD.out (by omega)).mono ?_
        rintro e z2 ⟨U1, u1, v1, U2, u2, v2, U3, u3, v3, rfl, MU⟩
        have HQ2 := Lib.hid (show Below wr.heap.size wr z2 from HQ1.out.trans (MU.bel.mono HQ1.out.size))
        have HU := Lib.hid MU.has
        have XS2 := Lib.hid (XS.out.next HQ2.out)
        clear MU
        refine hK.out _ _ trivial (fun hHeld2 => ?_)
        clear hK K hHeld
        have hHeld := hHeld2
        clear hHeld2
        have l0 := XS2.out.blk.c0; have l1 := XS2.out.blk.c1; have l2 := XS2.out.blk.c2
        have f0 := XS2.out.blk.fr 0; have f1 := XS2.out.blk.fr 1; have f2 := XS2.out.blk.fr 2
        refine wpAnyH_ready (rs := [4]) (by kernel_rfl) (by simp) (AllReadyH.cons rfl (fun K hK => ?_) AllReadyH.nil)
        go_simp
        refine hK.out _ _ trivial (fun hHeld2 => ?_)
        clear hK K hHeld
        have hHeld := hHeld2
        clear hHeld2
        clear l0 l1 l2 f0 f1 f2
        refine wpAnyH_done (by kernel_rfl) ?_ _
        obtain ⟨W5, hW5⟩ : ∃ W5, W5 = ((z2.setCell ⟨g, 0, none⟩ (.slice U1 u1 v1)).setCell ⟨g, 1, none⟩ (.slice U2 u2 v2)).setCell ⟨g, 2, none⟩ (.slice U3 u3 v3) := ⟨_, rfl⟩
        have XS5 := Lib.hid (show Bx W5 g U1 u1 v1 U2 u2 v2 U3 u3 v3 (uns (L.take (k + 1))) from by rw [hW5, HS.out]; exact ⟨XS2.out.blk.put _ _ _, has3_put HU.out XS2.out.blk _ _ _⟩)
        have HB5 := Lib.hid (show Below w.heap.size w W5 from by rw [hW5]; exact below_put3 (HBR.out.trans (HQ2.out.mono HBR.out.size)) HG.out _ _ _)
        rw [← hW5]
        clear hW5 hHeld HQ0 HQ1 HQ2 HU HD XS1 XS2 XS HBR HS
        go_wp2_with fail
        go_roundw
        case rel => exact ⟨k + 1, _, _, _, _, _, _, _, _, _, by omega, by go_num, XS5, HB5⟩
        case measure => simp [intOf]; omega
      · go_simp
        refine (r_of X x HX.out HXL.out _).mono ?_
        rintro e z1 ⟨D1, d1, e1, D2, d2, e2, D3, d3, e3, rfl, MD⟩
        have HQ1 := Lib.hid (show Below wr.heap.size wr z1 from HQ0.out.trans (MD.bel.mono HQ0.out.size))
        have HD := Lib.hid MD.has
        have hd3 : d3 ≤ 1 := by have h1 := MD.has.o.len; have h2 := (ofS_o x).2; omega
        have XS1 := Lib.hid (XS.out.next HQ1.out)
        clear MD
        refine hK.out _ _ trivial (fun hHeld2 => ?_)
        clear hK K hHeld
        have hHeld := hHeld2
        clear hHeld2
        have l0 := XS1.out.blk.c0; have l1 := XS1.out.blk.c1; have l2 := XS1.out.blk.c2
        refine wpAnyH_ready (rs := [0]) (by kernel_rfl) (by simp) (AllReadyH.cons rfl (fun K hK => ?_) AllReadyH.nil)
        go_simp
        refine hK.out _ _ trivial (fun hHeld2 => ?_)
        clear hK K hHeld
        have hHeld := hHeld2
        clear hHeld2
        clear l0 l1 l2
        refine wpAnyH_ready (rs := [3]) (by kernel_rfl) (by simp) (AllReadyH.cons rfl (fun K hK => ?_) AllReadyH.nil)
        go_simp
        refine (r_union _ _ _ _ _ _ XS1.out.has HD.out (by omega)).mono ?_
        rintro e z2 ⟨U1, u1, v1, U2, u2, v2, U3, u3, v3, rfl, MU⟩
        have HQ2 := Lib.hid (show Below wr.heap.size wr z2 from HQ1.out.trans (MU.bel.mono HQ1.out.size))
        have HU := Lib.hid MU.has
        have XS2 := Lib.hid (XS.out.next HQ2.out)
        clear MU
        refine hK.out _ _ trivial (fun hHeld2 => ?_)
        clear hK K hHeld
        have hHeld := hHeld2
        clear hHeld2
        have l0 := XS2.out.blk.c0; have l1 := XS2.out.blk.c1; have l2 := XS2.out.blk.c2
        have f0 := XS2.out.blk.fr 0; have f1 := XS2.out.blk.fr 1; have f2 := XS2.out.blk.fr 2
        refine wpAnyH_ready (rs := [4]) (by kernel_rfl) (by simp) (AllReadyH.cons rfl (fun K hK => ?_) AllReadyH.nil)
        go_simp
        refine hK.out _ _ trivial (fun hHeld2 => ?_)
        clear hK K hHeld
        have hHeld := hHeld2
        clear hHeld2
        clear l0 l1 l2 f0 f1 f2
        refine wpAnyH_done (by kernel_rfl) ?_ _
        obtain ⟨W5, hW5⟩ : ∃ W5, W5 = ((z2.setCell ⟨g, 0, none⟩ (.slice U1 u1 v1)).setCell ⟨g, 1, none⟩ (.slice U2 u2 v2)).setCell ⟨g, 2, none⟩ (.slice U3 u3 v3) := ⟨_, rfl⟩
        have XS5 := Lib.hid (show Bx W5 g U1 u1 v1 U2 u2 v2 U3 u3 v3 (uns (L.take (k + 1))) from by rw [hW5, HS.out]; exact ⟨XS2.out.blk.put _ _ _, has3_put HU.out XS2.out.blk _ _ _⟩)
        have HB5 := Lib.hid (show Below w.heap.size w W5 from by rw [hW5]; exact below_put3 (HBR.out.trans (HQ2.out.mono HBR.out.size)) HG.out _ _ _)
        rw [← hW5]
        clear hW5 hHeld HQ0 HQ1 HQ2 HU HD XS1 XS2 XS HBR HS
        go_wp2_with fail
        go_roundw
        case rel => exact ⟨k + 1, _, _, _, _, _, _, _, _, _, by omega, by go_num, XS5, HB5⟩
        case measure => simp [intOf]; omega
    · obtain rfl : k = n := by omega
      have XT := Lib.hid (show Bx wr g A1 n1 c1 A2 n2 c2 A3 n3 c3 (uns L) from by have := XS.out; rwa [List.take_of_length_le (by rw [HA.out.len]; exact Nat.le_refl _)] at this)
      have hn3 : n3 ≤ 1048576 := by have h1 := XT.out.has.o.len; have h2 := uns_len L (k := L.length) (Nat.le_refl _); rw [List.take_length] at h2; have := HA.out.len; omega
      clear XS hlt hk
      have HA2 := Lib.hid (HA.out.next HBR.out); have HM2 := Lib.hid (HM.out.next HBR.out)
      have HO1 := Lib.hid (show (wr.alloc (.cells #[] 9)).ownsRow wr.heap.size 9 1 (.slice (some ⟨wr.heap.size, 0, none⟩) 0 0) 0 [] from World.ownsRow_lit wr #[] 0 (Nat.le_refl _) (by unfold maxLen; omega) rfl)
      have HQ1 := Lib.hid (below_new wr (.cells #[] 9))
      have HML := Lib.hid (show (txs M).length = m * 1 by rw [txs_len, Nat.mul_one]; exact HM.out.len)
      have HAL := Lib.hid (show (txs L).length = k * 1 by rw [txs_len, Nat.mul_one]; exact HA.out.len)
      go_wp2_with (first
        | (at_builtin; refine wpList_append_rd _ rfl (.tmp 26) (.tmp 27) _ rfl wr.heap.size 9 i0 _ 1 16 Tryz.underlying23 hi hz0 hz1 hz2 rfl (by decide) _ 0 [] rfl HO1.out wr.heap.size B m d (txs M) rfl HML.out (HM2.out.rd.below HQ1.out) (txs_one _) (by unfold maxLen; omega) (by omega) HQ1.out.size ?_; intro v2 w2 ho2 hg2 _; rw [Nat.zero_add, List.nil_append] at ho2; have HQ2 := Lib.hid (HQ1.out.grown hg2 HQ1.out.size (fun j hj => (HO1.out.lt j hj).1)); have HO2 := Lib.hid ho2; obtain ⟨Q2, e2, rfl, hqc2, hqd2, _⟩ := own_form ho2; clear ho2 hg2)
        | (at_builtin; refine wpList_append_rd _ rfl (.tmp 28) (.tmp 29) _ rfl wr.heap.size 9 i0 _ 1 16 Tryz.underlying23 hi hz0 hz1 hz2 rfl (by decide) _ m (txs M) rfl HO2.out wr.heap.size A k c (txs L) rfl HAL.out (HA2.out.rd.below HQ2.out) (txs_one _) (by unfold maxLen; omega) (by omega) HQ2.out.size ?_; intro v3 w3 ho3 hg3 _; have HQ3 := Lib.hid (HQ2.out.grown hg3 HQ2.out.size (fun j hj => (HO2.out.lt j hj).1)); have HO3 := Lib.hid ho3; obtain ⟨Q3, e3, rfl, hqc3, hqd3, _⟩ := own_form ho3; obtain ⟨N, hN⟩ : ∃ N, N = m + k := ⟨_, rfl⟩; rw [← hN]; have HNN := Lib.hid hN; clear ho3 hg3 hN))
      have hN := HNN.out
      obtain ⟨K, hK⟩ : ∃ K, K = M ++ L := ⟨_, rfl⟩
      have HL := Lib.hid (show ArgT w3 Q3 N K from by
        obtain ⟨A', c', e', _, _, hr⟩ := own_form HO3.out
        injection e' with e1 e2 e3
        subst e1
        refine ⟨?_, ?_, ?_, by omega⟩
        · rw [hK, txs_append]; simpa using hr
        · rw [hK, List.length_append, HM.out.len, HA.out.len, hN]
        · intro x hx
          rw [hK, List.mem_append] at hx
          rcases hx with hx | hx
          · exact HM.out.short x hx
          · exact HA.out.short x hx)
      have hN30 : N ≤ 2097152 := by omega
      replace XT := Lib.hid (XT.out.next HQ3.out)
      replace HA2 := Lib.hid (HA2.out.next HQ3.out)
      have HB3 := Lib.hid (HBR.out.trans (HQ3.out.mono HBR.out.size))
      clear HO1 HO2 HO3 HQ1 HQ2 HQ3 hN HNN hK HBR HM2 HML HAL hqc2 hqd2 hqc3 hqd3
      go_loopw [32] (fun i wr => ∃ k : Nat, k ≤ N ∧ i = .int .i64 k ∧ Hid (Below w3.heap.size w3 wr)) (fun i _ => N - (intOf i).toNat)
      case atStart => exact ⟨0, Nat.zero_le _, rfl, Lib.hid (Below.refl _ _)⟩
      case round =>
        obtain ⟨j, hj, rfl, HBR⟩ := hrel
        by_cases hlt : j < N
        · have hkl : j < K.length := by rw [HL.out.len]; exact hlt
          have hT2 := HL.out.next HBR.out
          obtain ⟨bt, ot, rfl, _⟩ := rd_form_tx hT2.rd (by omega)
          have c0 := rd_tx hT2.rd hkl
          have hxl := HL.out.short _ (List.getElem_mem hkl)
          obtain ⟨x, hx⟩ : ∃ x, x = K[j] := ⟨_, rfl⟩
          rw [← hx] at c0 hxl
          obtain ⟨X, hX⟩ : ∃ X : ByteArray, X = ⟨x.toArray⟩ := ⟨_, rfl⟩
          have cX : wr.cell? ⟨bt, ot + j, none⟩ = some (.string X) := by rw [c0, hX]
          have HX := Lib.hid (show X.toList = x by rw [hX, mk_toList])
          have HXL := Lib.hid hxl
          clear c0 hX hx hkl hT2 hxl
          go_wp2_with fail
          clear cX
          have HAR := Lib.hid (HA2.out.next HBR.out)
          go_wp2_with fail
          go_loopw [10, 38] (fun b i wr' => ∃ q : Nat, q ≤ k ∧ i = .int .i64 q ∧ b = .bool (ins (L.take q) x) ∧ wr = wr') (fun _ i _ => k - (intOf i).toNat)
          case atStart => exact ⟨0, Nat.zero_le _, rfl, rfl, rfl⟩
          case round =>
            obtain ⟨q, hq, rfl, rfl, rfl⟩ := hrel
            by_cases hlq : q < k
            · have hql : q < L.length := by rw [HA.out.len]; exact hlq
              obtain ⟨bl, ol, rfl, _⟩ := rd_form_tx HAR.out.rd (by omega)
              have c1 := rd_tx HAR.out.rd hql
              have HIS := Lib.hid (ins_take hql x)
              obtain ⟨y, hy⟩ : ∃ y, y = L[q] := ⟨_, rfl⟩
              rw [← hy] at c1 HIS
              obtain ⟨Y, hY⟩ : ∃ Y : ByteArray, Y = ⟨y.toArray⟩ := ⟨_, rfl⟩
              have cY : wr.cell? ⟨bl, ol + q, none⟩ = some (.string Y) := by rw [c1, hY]
              have hYl : Y.toList = y := by rw [hY, mk_toList]
              obtain ⟨i1, hi1⟩ : ∃ i1, ins (L.take q) x = i1 := ⟨_, rfl⟩
              rw [hi1] at HIS ⊢
              have h1 : (Y.toList == X.toList) = decide (y = x) := by rw [hYl, HX.out, Bool.eq_iff_iff, beq_iff_eq, decide_eq_true_eq]
              have h2 : (X.toList == []) = decide (x = []) := by rw [HX.out, Bool.eq_iff_iff, beq_iff_eq, decide_eq_true_eq]
              clear c1 hY hYl hql hy
              cases i1 with
              | true =>
                have HS2 := Lib.hid (show ins (L.take (q + 1)) x = true from by rw [HIS.out]; rfl)
                clear HIS h1 h2
                go_wp2_with fail
                go_roundw
                case rel => exact ⟨q + 1, by omega, by go_num, by rw [HS2.out], by trivial⟩
                case measure => simp [intOf]; omega
              | false =>
                by_cases hyx : y = x
                · rw [decide_eq_true hyx] at h1
                  by_cases hx0 : x = []
                  · have HS2 := Lib.hid (show ins (L.take (q + 1)) x = false from by rw [HIS.out, decide_eq_true hx0]; simp)
                    rw [decide_eq_true hx0] at h2
                    clear HIS hyx hx0
                    go_wp2_with fail
                    go_roundw
                    case rel => exact ⟨q + 1, by omega, by go_num, by rw [HS2.out], by trivial⟩
                    case measure => simp [intOf]; omega
                  · have HS2 := Lib.hid (show ins (L.take (q + 1)) x = true from by rw [HIS.out, decide_eq_true hyx, decide_eq_false hx0]; rfl)
                    rw [decide_eq_false hx0] at h2
                    clear HIS hyx hx0
                    go_wp2_with fail
                    go_roundw
                    case rel => exact ⟨q + 1, by omega, by go_num, by rw [HS2.out], by trivial⟩
                    case measure => simp [intOf]; omega
                · have HS2 := Lib.hid (show ins (L.take (q + 1)) x = false from by rw [HIS.out, decide_eq_false hyx]; rfl)
                  rw [decide_eq_false hyx] at h1
                  clear HIS hyx h2
                  go_wp2_with fail
                  go_roundw
                  case rel => exact ⟨q + 1, by omega, by go_num, by rw [HS2.out], by trivial⟩
                  case measure => simp [intOf]; omega
            · obtain rfl : q = k := by omega
              have hT : L.take q = L := List.take_of_length_le (by rw [HA.out.len]; exact Nat.le_refl _)
              rw [hT]
              have XR := Lib.hid (XT.out.next HBR.out)
              clear hT hlq hq
              have HSL := Lib.hid (@uns_has L x)
              generalize ins L x = i1 at HSL ⊢
              go_wp2_with fail
              refine (good_any X x HX.out HXL.out _).mono ?_
              rintro e z1 ⟨rfl, hb⟩
              have HB1 := Lib.hid (HBR.out.trans (hb.mono HBR.out.size))
              replace XR := Lib.hid (XR.out.next hb)
              clear hb
              cases hg : good x with
              | false =>
                clear HSL hg
                go_wp2_with fail
                go_roundw
                case rel => exact ⟨j + 1, by omega, by go_num, HB1⟩
                case measure => simp [intOf]; omega
              | true =>
                have HE := Lib.hid (HSL.out hg)
                have l0 := XR.out.blk.c0; have l1 := XR.out.blk.c1; have l2 := XR.out.blk.c2
                clear HSL hg
                go_wp2_with fail
                refine (r_has _ _ _ XR.out.has X x HX.out HXL.out HE.out).mono ?_
                rintro e z2 ⟨rfl, hb⟩
                have HB2 := Lib.hid (HB1.out.trans (hb.mono HB1.out.size))
                clear hb l0 l1 l2
                cases i1 with
                | true =>
                  go_wp2_with fail
                  go_roundw
                  case rel => exact ⟨j + 1, by omega, by go_num, HB2⟩
                  case measure => simp [intOf]; omega
                | false =>
                  go_wp2_with fail
                  go_roundw
                  case rel => exact ⟨j + 1, by omega, by go_num, HB2⟩
                  case measure => simp [intOf]; omega
        · replace XT := Lib.hid (XT.out.next HBR.out)
          have l0 := XT.out.blk.c0; have l1 := XT.out.blk.c1; have l2 := XT.out.blk.c2
          go_wp2_with fail
          refine (r_may _ _ _ XT.out.has (decide_eq_true (normS_id (uns_nm L)))).mono ?_
          rintro e z1 ⟨rfl, hb⟩
          clear l0 l1 l2
          go_wp2_with fail
          go_ret
          exact ⟨rfl, (HB3.out.trans (HBR.out.mono HB3.out.size)).trans (hb.mono (HB3.out.trans (HBR.out.mono HB3.out.size)).size)⟩

theorem contract (H : Type) (enc : TypeId × Value → H) (W : World) (base : Nat) (args : Array Value) (ds gs : List (DataW H)) (before : List MemPlace)
    (hval : ∀ (j : Nat) t v, Tryz.f6.params[j]? = some t → args[j]? = some v → Value.okWide Tryz.prog W .any base t v)
    (hW : DataW.Whole enc Tryz.prog Tryz.f6.params.toList Rows.segsetTextsSpec.vars false W args.toList ds gs before) (hk : Rows.uptoSmall H (ds ++ gs) = true) :
    Calls Tryz.prog 6 args W fun e W' => ∃ v, e = .returned v ∧ Rows.segsetTextsSpec.post enc Tryz.prog Tryz.f6 false true false false W args v W' := by
  have hW' := hW
  obtain ⟨p, q, hA0, hV, rfl, hfz, hnd⟩ := hW
  have hA : DataW.TrodAll enc Tryz.prog W 0 (fun _ => true) true Tryz.f6.params.toList args.toList ds p := hA0
  rw [Tryz.params6] at hA hval
  obtain ⟨v0, vs0, d0, ds0, p0, q0, hargs, rfl, rfl, h0, r0⟩ := trodAll_cons hA
  obtain ⟨v1, vs1, d1, ds1, p1, q1, rfl, rfl, rfl, h1, r1⟩ := trodAll_cons r0
  obtain ⟨rfl, rfl, rfl⟩ := trodAll_nil r1
  obtain rfl : args = #[v0, v1] := by cases args; simp_all
  obtain ⟨rfl, rfl⟩ := trodVars_none hV
  have hbd := bulk_bound hk
  simp only [List.append_nil, Rows.uptoBulkAll] at hbd
  have k0 := h0
  have lt0 : ∀ x ∈ p0, x.block < W.heap.size := by obtain ⟨m, hm⟩ := k0; exact DataW.trod_lt m _ _ _ hm
  obtain ⟨a0, len0, cap0, rfl⟩ := okWide_slice Tryz.underlying23 (hval 0 23 v0 rfl rfl)
  obtain ⟨l0, hl0, hc0, hm0, hr0, ht0, hn0⟩ := open_texts h0
  have HT0 : ArgT W a0 len0 l0 := argT_texts hl0 hr0 ht0 hn0 (by omega)
  have bn0 : len0 ≤ 1048576 := by omega
  have k1 := h1
  have lt1 : ∀ x ∈ p1, x.block < W.heap.size := by obtain ⟨m, hm⟩ := k1; exact DataW.trod_lt m _ _ _ hm
  obtain ⟨a1, len1, cap1, rfl⟩ := okWide_slice Tryz.underlying23 (hval 1 23 v1 rfl rfl)
  obtain ⟨l1, hl1, hc1, hm1, hr1, ht1, hn1⟩ := open_texts h1
  have HT1 : ArgT W a1 len1 l1 := argT_texts hl1 hr1 ht1 hn1 (by omega)
  have bn1 : len1 ≤ 1048576 := by omega
  clear hA0
  refine (walk a0 a1 len0 cap0 len1 cap1 l0 l1 W HT0 HT1 (by omega) (by omega)).mono fun e W' ⟨he, bel⟩ => ?_
  subst he
  exact ⟨_, rfl, _, _, _, [], _, [], hW', trodAll_mk1 (shut_bool Tryz.underlying4 _), (trodAll_cons_mk (Below.trod laidOut (by kernel_rfl) (of_decide_eq_true (by kernel_rfl)) k0 bel lt0) (trodAll_cons_mk (Below.trod laidOut (by kernel_rfl) (of_decide_eq_true (by kernel_rfl)) k1 bel lt1) trodAll_mk0)), rfl, bel.frame _, fun h => by cases h⟩

set_option maxRecDepth 100000 in
theorem lifted (os : Os) (started : os.Started) (H : Type) (enc : TypeId × Value → H) (F : Stop.Interp) :
    ReturnsInHanded {} Tryz.checked os 6 .any ((Rows.OpenSpec.upto Rows.segsetTextsSpec).pre6 enc Tryz.prog Tryz.f6 Rows.segsetTextsUptoRow.domain false) (((Rows.OpenSpec.upto Rows.segsetTextsSpec).at F).post enc Tryz.prog Tryz.f6 false true false false) := by
  refine returnsInHanded_of_cond (C := Tryz.checked) (s := Rows.OpenSpec.upto Rows.segsetTextsSpec) (k := Rows.uptoSmall) rfl own started (by kernel_rfl) Tryz.func6
    (OpenSpec.witness (enc := enc) (C := Tryz.checked) (s := Rows.OpenSpec.upto Rows.segsetTextsSpec) (k := Rows.uptoSmall) rfl false ⟨#[], #[.slice none 0 0, .slice none 0 0], []⟩ 8 (by kernel_rfl) (by kernel_rfl) (by kernel_rfl)
      (x := ([.nil, .nil], [], [])) (by kernel_rfl) rfl (by kernel_rfl)) ?_
  intro W base args ds gs before hval hW _ hk _
  exact contract H enc W base args ds gs before hval hW hk

/-- THE STATEMENT -/
theorem proved : Rows.SegsetTextsUptoSaid :=
  OpenClaim.holds_of_cond 6 Tryz.f6 rfl rfl rfl rfl rfl rfl rfl ⟨rfl, rfl, rfl, rfl, rfl⟩ rfl rfl rfl rfl rfl (by kernel_rfl) Tryz.func6 (by kernel_rfl)
    (of_decide_eq_true (by kernel_rfl)) (by unfold Func.isWrapper; first | (rw [if_pos (by decide +kernel)]; kernel_rfl) | (rw [if_neg (by decide +kernel)]; exact ⟨rfl, rfl⟩))
    (fun os started H enc _ F => lifted os started H enc F)
end Go.Proofs.YtipcbiecdabihaaGreat.LawSegsetTexts
