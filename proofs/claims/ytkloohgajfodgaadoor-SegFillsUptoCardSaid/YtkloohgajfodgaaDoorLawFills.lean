/-
  Whatever bytes there are: the segments' bytes are the text, their Texts its normal form, none is empty. Conditions: the argument holds at most 1048576 values; the package's tables are laid as the program's text lays them (tied).
-/
import Derived.Test.YtkloohgajfodgaaDoorNormOpens
import Derived.Test.YtkloohgajfodgaaDoorSegFixed
import Derived.Test.YtkloohgajfodgaaDoorSegDoc
namespace Go.Proofs.YtkloohgajfodgaaDoor.LawSegFills
open Go.ChangeShapes Go.WideShapes Go.ChangeAt Go.RowKit
open Utf hiding infoI32 rd_new own_form rdec_any below_drewN new_any write_any close_any
open Ucd hiding grow same Told
open Norm hiding new_any write_any close_any pending_any pending_nil write_nil write_closed close_nil fixed_any write_at close_at
open Seg

set_option maxHeartbeats 16000000 in
set_option maxRecDepth 100000 in
theorem walk (A : Option Addr) (l : List UInt8) (n c : Nat) (w : World) (hL : Laid w) (hr : Rd w w.heap.size A (bys l)) (hn : l.length = n) (hc : n ≤ c) (hcm : c ≤ 9223372036854775807) (hsm : n ≤ 1048576) :
    Calls Tryd.prog 5 #[.slice A n c] w (Law w) := by
  have HF := Lib.hid (fixed_any w hL)
  have HL := Lib.hid hL
  have HR := Lib.hid hr
  have HN := Lib.hid hn
  have HC := Lib.hid hc
  have H1 := Lib.hid (fun (u : World) (hu : Laid u) (h : Rd u u.heap.size A (bys l)) => split_any 64 l A n c u hu h hn hc hcm (by omega))
  have HTX := Lib.hid (fun (u : World) (h : Rd u u.heap.size A (bys l)) => rtext_any A l n c u h hn (by omega))
  have HPC := Lib.hid (fun (k : Nat) (hk : k < (grp (dec false 0 l)).length) => piece_at l hk)
  have HWW := Lib.hid (ww_groups l)
  have HAC := Lib.hid (accL_all l)
  have hgl := grp_len false l
  have htl : (textF l).length ≤ 12 * n := by
    have h1 := enc_le (normal (runesF l)); have h2 := fulls_len (runesF l); have h3 := runes_len l
    rw [normal_len] at h1
    unfold textF; omega
  have HGOOD := Lib.hid (fun g (hg : g ∈ grp (dec false 0 l)) => show runs g ≠ [] by obtain ⟨q, t, rfl⟩ := cuts_group opP hg; simp [runs])
  have HSE := Lib.hid (show badS 64 l = false → spE 64 l = 0 ∧ spS 64 l = (grp (dec false 0 l)).map sgOf from fun h => by
    unfold spE spS
    have e : (64 : Int).toNat = 64 := rfl
    rw [e, h]
    refine ⟨rfl, ?_⟩
    rw [if_pos (by decide)]
    have : okS 64 l = grp (dec false 0 l) := by
      have h2 : badG flen 64 (grp (dec false 0 l)) = false := h
      have h3 : ∀ g ∈ grp (dec false 0 l), flen g ≤ 64 := fun g hg => by
        unfold badG at h2
        rw [List.any_eq_false] at h2
        have := h2 g hg
        simp at this
        omega
      exact (okG_all flen 64 h3).1
    rw [this])
  have HSB := Lib.hid (show badS 64 l = true → spE 64 l = 6 from fun h => by
    unfold spE
    have e : (64 : Int).toNat = 64 := rfl
    rw [e, h]; rfl)
  generalize grp (dec false 0 l) = G at HPC HWW HAC hgl HGOOD HSE
  obtain ⟨m, hm⟩ : ∃ m, m = G.length := ⟨_, rfl⟩
  rw [← hm] at hgl
  have HM := Lib.hid hm
  have HTL := Lib.hid htl
  clear hL hr hn hc hm htl
  cases hbad : badS 64 l with
  | true =>
    have hE := HSB.out hbad
    unfold SplitAns at H1
    rw [hE] at H1
    have H1' := H1
    clear hbad hE H1 HSE HSB
    go_enter Tryd.func5, Tryd.ntmps5
    go_wp2_with fail
    refine HF.out.mono ?_
    rintro e w1 ⟨rfl, hb1⟩
    have HB1 := Lib.hid hb1
    clear hb1 HF
    go_wp2_with fail
    refine (H1'.out w1 (HL.out.next HB1.out) ((HR.out.below HB1.out).more HB1.out.size)).mono ?_
    rintro e w2 ⟨v2, rfl, _, hb2⟩
    have HB2 := Lib.hid (HB1.out.trans (hb2.mono HB1.out.size))
    clear hb2
    go_wp2_with fail
    go_ret
    exact ⟨rfl, HB2.out⟩
  | false =>
  obtain ⟨hE, hS⟩ := HSE.out hbad
  unfold SplitAns at H1
  rw [hE, hS] at H1
  have H1' := H1
  clear hbad hE hS H1 HSE HSB
  go_enter Tryd.func5, Tryd.ntmps5
  go_wp2_with fail
  refine HF.out.mono ?_
  rintro e w1 ⟨rfl, hb1⟩
  have HB1 := Lib.hid hb1
  clear hb1 HF
  go_wp2_with fail
  refine (H1'.out w1 (HL.out.next HB1.out) ((HR.out.below HB1.out).more HB1.out.size)).mono ?_
  rintro e w2 ⟨v2, rfl, ho2, hb2⟩
  rw [List.length_map, ← HM.out] at ho2
  obtain ⟨A2, c2, rfl, _, _, hr2⟩ := own_form ho2
  have HB2 := Lib.hid (HB1.out.trans (hb2.mono HB1.out.size))
  have HR2 := Lib.hid hr2
  clear ho2 hr2 hb2 H1'
  go_wp2_with fail
  go_loopw [5, 6, 20] (fun va vs vi wr => ∃ k at1 : Nat, k ≤ m ∧ at1 ≤ n ∧ vi = .int .i64 k ∧ va = .int .i64 at1 ∧ Hid (at1 = ww (G.take k).flatten) ∧ (∃ sa : ByteArray, vs = .string sa ∧ Hid (sa = str (accL G k))) ∧ Hid (Below w2.heap.size w2 wr)) (fun _ _ vi _ => m - (intOf vi).toNat)
  case atStart => exact ⟨0, 0, Nat.zero_le _, Nat.zero_le _, rfl, rfl, Lib.hid rfl, ⟨_, rfl, Lib.hid rfl⟩, Lib.hid (Below.refl _ _)⟩
  case round =>
    obtain ⟨k, at1, hk, hat1, rfl, rfl, HAT, ⟨sa, rfl, HSA⟩, HB⟩ := hrel
    by_cases hlt : k < m
    · have hkl : k < G.length := by rw [← HM.out]; exact hlt
      obtain ⟨b, o, rfl, hbl⟩ := HR2.out.form (by rw [sgs_len, List.length_map]; omega)
      obtain ⟨p1, p2, p3⟩ := Rd_sg (k := k) (HR2.out.below HB.out) (by rw [List.length_map]; exact hkl)
      rw [List.getElem_map] at p1 p2 p3
      obtain ⟨e1, e2, e3, e4, e5⟩ := HPC.out k hkl
      change wr.cell? ⟨b, o + k * 3, none⟩ = some (.string (says G[k])) at p1
      change wr.cell? ⟨b, o + k * 3 + 1, none⟩ = some (.int .i64 (beg G[k])) at p2
      change wr.cell? ⟨b, o + k * 3 + 2, none⟩ = some (.int .i64 (fin G[k])) at p3
      rw [e1, ← HAT.out] at p2
      rw [e2] at p3
      rw [← HAT.out] at e3 e5
      rw [HN.out] at e4
      obtain ⟨at2, hat2⟩ : ∃ at2, at2 = ww (G.take (k + 1)).flatten := ⟨_, rfl⟩
      rw [← hat2] at p3 e3 e4 e5
      have HAT2 := Lib.hid hat2
      have hne := enc_some (normal_some (HGOOD.out G[k] (List.getElem_mem hkl)))
      have hacc := accL_succ hkl
      have hal : (accL G k).length + (enc (normal (runs G[k]))).length ≤ 12 * n := by
        rw [← List.length_append, ← hacc]
        have h1 : (accL G (k + 1)).length ≤ (accL G G.length).length := by
          unfold accL
          rw [List.take_length]
          rw [← List.take_append_drop (k + 1) (G.map fun g => enc (normal (runs g))), List.flatten_append, List.length_append, ← List.map_take]; omega
        rw [HAC.out] at h1
        have := HTL.out; omega
      obtain ⟨st, hst⟩ : ∃ st, st = says G[k] := ⟨_, rfl⟩
      rw [← hst] at p1
      have hst2 : st = str (enc (normal (runs G[k]))) := hst
      obtain ⟨A', hsl, hrp⟩ := bytes_cut (HR.out.below (HB2.out.trans (HB.out.mono HB2.out.size))) HN.out e3 e4 HC.out
      have HRT := Lib.hid (fun (u : World) (h : Rd u u.heap.size A' (bys ((l.drop at1).take (at2 - at1)))) => rtext_any A' ((l.drop at1).take (at2 - at1)) (at2 - at1) (c - at1) u h (by rw [List.length_take, List.length_drop, HN.out]; omega) (by omega))
      rw [e5, show (⟨(enc (normal (runs G[k]))).toArray⟩ : ByteArray) = st from hst2.symm] at HRT
      have hsne : st.toList ≠ [] := by rw [ByteArray.toList_eq, hst2]; simpa [str] using hne
      have hs1 : (st.toList == []) = false := by simpa using hsne
      have hs2 : st.toList.isEmpty = false := by simpa using hsne
      have hss : (st.toList != st.toList) = false := by simp
      have hss2 : (st.toList == st.toList) = true := by simp
      have hadd : ∀ u : World, (Op.stringOp .add sa st).run Tryd.prog u = .ok (.string (sa ++ st)) u := fun u => run_string_add_sum u sa st (by rw [HSA.out, hst2]; show (accL G k).toArray.size + (enc (normal (runs G[k]))).toArray.size ≤ _; rw [List.size_toArray, List.size_toArray]; omega)
      have HSA2 := Lib.hid (show sa ++ st = str (accL G (k + 1)) by rw [HSA.out, hst2, hacc]; unfold str; rw [ByteArray.mk_append_mk])
      obtain ⟨wp, hwp⟩ : ∃ wp, wp = wr.alloc (.cells #[.string st, .int .i64 at1, .int .i64 at2] 47) := ⟨_, rfl⟩
      have HWP := Lib.hid hwp
      have hbp : Below wr.heap.size wr wp := by rw [hwp]; exact (Below.refl _ _).alloc (Nat.le_refl _) _
      have hPB : Blk wp wr.heap.size 47 [.string st, .int .i64 at1, .int .i64 at2] := by rw [hwp]; exact Blk.new wr _ _
      have pb0 : wp.cell? ⟨wr.heap.size, 0, none⟩ = some (.string st) := hPB.cell 0
      have pb1 : wp.cell? ⟨wr.heap.size, 1, none⟩ = some (.int .i64 at1) := hPB.cell 1
      have pb2 : wp.cell? ⟨wr.heap.size, 2, none⟩ = some (.int .i64 at2) := hPB.cell 2
      have HPL := Lib.hid hPB.lt
      have HRA := Lib.hid (show Rd wp.drew wp.drew.heap.size A' (bys ((l.drop at1).take (at2 - at1))) from ((hrp.below ((HB2.out.trans (HB.out.mono HB2.out.size)) |> fun h => (hbp.mono (Nat.le_trans h.size (Nat.le_refl _))))).more (Nat.le_trans (HB2.out.trans (HB.out.mono HB2.out.size)).size hbp.size)).drew)
      have hd1 : decide (at2 ≤ at1) = false := decide_eq_false (by omega)
      have hd2 : ¬ at2 ≤ at1 := by omega
      have hd3 : ((at1 : Int) != (at1 : Int)) = false := by simp
      have HBP := Lib.hid hbp
      clear hkl e1 e2 e5 hat2 hne hacc hal hst hst2 hrp hsne hwp hbp hPB hbl
      go_wp2_with fail
      rw [← HWP.out]
      refine wp_region_held_drew (S := fun u => u.cell? ⟨wr.heap.size, 0, none⟩ = some (.string st) ∧ u.cell? ⟨wr.heap.size, 1, none⟩ = some (.int .i64 (at1 : Int)) ∧ u.cell? ⟨wr.heap.size, 2, none⟩ = some (.int .i64 (at2 : Int))) (by kernel_rfl) ⟨pb0, pb1, pb2⟩ (fun hHeld => ?_)
      refine wpAnyH_take (i := 0) (oi := _) (v := ?_) rfl (by kernel_rfl) (by kernel_rfl) (by kernel_rfl) (fun _ _ _ h => h) (Or.inl ⟨by rfl, ?_⟩) (by assumption) ?_
      rotate_left
      · (intro w hSw; (try dsimp only at hSw); (try obtain ⟨s1_, s2_, s3_⟩ := hSw); go_simp <;> with_reducible rfl)
      simp only [List.getElem_toArray, List.getElem_cons_zero, Act.put, List.setIfInBounds_toArray, List.set_cons_zero, List.set_cons_succ]
      refine wpAnyH_take (i := 1) (oi := _) (v := ?_) rfl (by kernel_rfl) (by kernel_rfl) (by kernel_rfl) (fun _ _ _ h => h) (Or.inl ⟨by rfl, ?_⟩) (by assumption) ?_
      rotate_left
      · (intro w hSw; (try dsimp only at hSw); (try obtain ⟨s1_, s2_, s3_⟩ := hSw); go_simp <;> with_reducible rfl)
      simp only [List.getElem_toArray, List.getElem_cons_succ, List.getElem_cons_zero, Act.put, List.setIfInBounds_toArray, List.set_cons_zero, List.set_cons_succ]
      refine wpAnyH_take (i := 2) (oi := _) (v := ?_) rfl (by kernel_rfl) (by kernel_rfl) (by kernel_rfl) (fun _ _ _ h => h) (Or.inl ⟨by rfl, ?_⟩) (by assumption) ?_
      rotate_left
      · (intro w hSw; (try dsimp only at hSw); (try obtain ⟨s1_, s2_, s3_⟩ := hSw); go_simp <;> with_reducible rfl)
      simp only [List.getElem_toArray, List.getElem_cons_succ, List.getElem_cons_zero, Act.put, List.setIfInBounds_toArray, List.set_cons_zero, List.set_cons_succ]
      refine wpAnyH_take (i := 3) (oi := _) (v := ?_) rfl (by kernel_rfl) (by kernel_rfl) (by kernel_rfl) (fun _ _ _ h => h) (Or.inl ⟨by rfl, ?_⟩) (by assumption) ?_
      rotate_left
      · (intro w hSw; (try dsimp only at hSw); (try obtain ⟨s1_, s2_, s3_⟩ := hSw); go_simp <;> with_reducible rfl)
      simp only [List.getElem_toArray, List.getElem_cons_succ, List.getElem_cons_zero, Act.put, List.setIfInBounds_toArray, List.set_cons_zero, List.set_cons_succ]
      refine wpAnyH_take (i := 4) (oi := _) (v := ?_) rfl (by kernel_rfl) (by kernel_rfl) (by kernel_rfl) (fun _ _ _ h => h) (Or.inl ⟨by rfl, ?_⟩) (by assumption) ?_
      rotate_left
      · (intro w hSw; (try dsimp only at hSw); (try obtain ⟨s1_, s2_, s3_⟩ := hSw); go_simp <;> with_reducible rfl)
      simp only [List.getElem_toArray, List.getElem_cons_succ, List.getElem_cons_zero, Act.put, List.setIfInBounds_toArray, List.set_cons_zero, List.set_cons_succ]
      refine wpAnyH_take (i := 5) (oi := _) (v := ?_) rfl (by kernel_rfl) (by kernel_rfl) (by kernel_rfl) (fun _ _ _ h => h) (Or.inl ⟨by rfl, ?_⟩) (by assumption) ?_
      rotate_left
      · (intro w hSw; (try dsimp only at hSw); (try obtain ⟨s1_, s2_, s3_⟩ := hSw); go_simp <;> with_reducible rfl)
      simp only [List.getElem_toArray, List.getElem_cons_succ, List.getElem_cons_zero, Act.put, List.setIfInBounds_toArray, List.set_cons_zero, List.set_cons_succ]
      refine wpAnyH_take (i := 6) (oi := _) (v := ?_) rfl (by kernel_rfl) (by kernel_rfl) (by kernel_rfl) (fun _ _ _ h => h) (Or.inl ⟨by rfl, ?_⟩) (by assumption) ?_
      rotate_left
      · (intro w hSw; (try dsimp only at hSw); (try obtain ⟨s1_, s2_, s3_⟩ := hSw); go_simp <;> with_reducible rfl)
      simp only [List.getElem_toArray, List.getElem_cons_succ, List.getElem_cons_zero, Act.put, List.setIfInBounds_toArray, List.set_cons_zero, List.set_cons_succ]
      refine wpAnyH_take (i := 7) (oi := _) (v := ?_) rfl (by kernel_rfl) (by kernel_rfl) (by kernel_rfl) (fun _ _ _ h => h) (Or.inl ⟨by rfl, ?_⟩) (by assumption) ?_
      rotate_left
      · (intro w hSw; (try dsimp only at hSw); (try obtain ⟨s1_, s2_, s3_⟩ := hSw); go_simp <;> with_reducible rfl)
      simp only [List.getElem_toArray, List.getElem_cons_succ, List.getElem_cons_zero, Act.put, List.setIfInBounds_toArray, List.set_cons_zero, List.set_cons_succ]
      refine wpAnyH_take (i := 8) (oi := _) (v := ?_) rfl (by kernel_rfl) (by kernel_rfl) (by kernel_rfl) (fun _ _ _ h => h) (Or.inl ⟨by rfl, ?_⟩) (by assumption) ?_
      rotate_left
      · (intro w hSw; (try dsimp only at hSw); (try obtain ⟨s1_, s2_, s3_⟩ := hSw); go_simp <;> with_reducible rfl)
      simp only [List.getElem_toArray, List.getElem_cons_succ, List.getElem_cons_zero, Act.put, List.setIfInBounds_toArray, List.set_cons_zero, List.set_cons_succ]
      refine wpAnyH_take (i := 9) (oi := _) (v := ?_) rfl (by kernel_rfl) (by kernel_rfl) (by kernel_rfl) (fun _ _ _ h => h) (Or.inl ⟨by rfl, ?_⟩) (by assumption) ?_
      rotate_left
      · (intro w hSw; (try dsimp only at hSw); (try obtain ⟨s1_, s2_, s3_⟩ := hSw); go_simp <;> with_reducible rfl)
      simp only [List.getElem_toArray, List.getElem_cons_succ, List.getElem_cons_zero, Act.put, List.setIfInBounds_toArray, List.set_cons_zero, List.set_cons_succ]
      refine wpAnyH_take (i := 10) (oi := _) (v := ?_) rfl (by kernel_rfl) (by kernel_rfl) (by kernel_rfl) (fun _ _ _ h => h) (Or.inl ⟨by rfl, ?_⟩) (by assumption) ?_
      rotate_left
      · (intro w hSw; (try dsimp only at hSw); (try obtain ⟨s1_, s2_, s3_⟩ := hSw); go_simp <;> with_reducible rfl)
      simp only [List.getElem_toArray, List.getElem_cons_succ, List.getElem_cons_zero, Act.put, List.setIfInBounds_toArray, List.set_cons_zero, List.set_cons_succ]
      refine wpAnyH_take (i := 11) (oi := _) (v := ?_) rfl (by kernel_rfl) (by kernel_rfl) (by kernel_rfl) (fun _ _ _ h => h) (Or.inl ⟨by rfl, ?_⟩) (by assumption) ?_
      rotate_left
      · (intro w hSw; (try dsimp only at hSw); (try obtain ⟨s1_, s2_, s3_⟩ := hSw); go_simp <;> with_reducible rfl)
      simp only [List.getElem_toArray, List.getElem_cons_succ, List.getElem_cons_zero, Act.put, List.setIfInBounds_toArray, List.set_cons_zero, List.set_cons_succ]
      refine wpAnyH_take (i := 12) (oi := _) (v := ?_) rfl (by kernel_rfl) (by kernel_rfl) (by kernel_rfl) (fun _ _ _ h => h) (Or.inl ⟨by rfl, ?_⟩) (by assumption) ?_
      rotate_left
      · (intro w hSw; (try dsimp only at hSw); (try obtain ⟨s1_, s2_, s3_⟩ := hSw); go_simp <;> with_reducible rfl)
      simp only [List.getElem_toArray, List.getElem_cons_succ, List.getElem_cons_zero, Act.put, List.setIfInBounds_toArray, List.set_cons_zero, List.set_cons_succ]
      refine wpAnyH_take (i := 13) (oi := _) (v := ?_) rfl (by kernel_rfl) (by kernel_rfl) (by kernel_rfl) (fun _ _ _ h => h) (Or.inl ⟨by rfl, ?_⟩) (by assumption) ?_
      rotate_left
      · (intro w hSw; (try dsimp only at hSw); (try obtain ⟨s1_, s2_, s3_⟩ := hSw); go_simp <;> with_reducible rfl)
      simp only [List.getElem_toArray, List.getElem_cons_succ, List.getElem_cons_zero, Act.put, List.setIfInBounds_toArray, List.set_cons_zero, List.set_cons_succ]
      refine wpAnyH_take (i := 14) (oi := _) (v := ?_) rfl (by kernel_rfl) (by kernel_rfl) (by kernel_rfl) (fun _ _ _ h => h) (Or.inl ⟨by rfl, ?_⟩) (by assumption) ?_
      rotate_left
      · (intro w hSw; (try dsimp only at hSw); (try obtain ⟨s1_, s2_, s3_⟩ := hSw); go_simp <;> with_reducible rfl)
      simp only [List.getElem_toArray, List.getElem_cons_succ, List.getElem_cons_zero, Act.put, List.setIfInBounds_toArray, List.set_cons_zero, List.set_cons_succ]
      refine wpAnyH_take (i := 15) (oi := _) (v := ?_) rfl (by kernel_rfl) (by kernel_rfl) (by kernel_rfl) (fun _ _ _ h => h) (Or.inl ⟨by rfl, ?_⟩) (by assumption) ?_
      rotate_left
      · (intro w hSw; (try dsimp only at hSw); (try obtain ⟨s1_, s2_, s3_⟩ := hSw); go_simp <;> with_reducible rfl)
      simp only [List.getElem_toArray, List.getElem_cons_succ, List.getElem_cons_zero, Act.put, List.setIfInBounds_toArray, List.set_cons_zero, List.set_cons_succ]
      refine wpAnyH_take (i := 16) (oi := _) (v := ?_) rfl (by kernel_rfl) (by kernel_rfl) (by kernel_rfl) (fun _ _ _ h => h) (Or.inl ⟨by rfl, ?_⟩) (by assumption) ?_
      rotate_left
      · (intro w hSw; (try dsimp only at hSw); (try obtain ⟨s1_, s2_, s3_⟩ := hSw); go_simp <;> with_reducible rfl)
      simp only [List.getElem_toArray, List.getElem_cons_succ, List.getElem_cons_zero, Act.put, List.setIfInBounds_toArray, List.set_cons_zero, List.set_cons_succ]
      refine wpAnyH_take (i := 17) (oi := _) (v := ?_) rfl (by kernel_rfl) (by kernel_rfl) (by kernel_rfl) (fun _ _ _ h => h) (Or.inl ⟨by rfl, ?_⟩) (by assumption) ?_
      rotate_left
      · (intro w hSw; (try dsimp only at hSw); (try obtain ⟨s1_, s2_, s3_⟩ := hSw); go_simp <;> with_reducible rfl)
      simp only [List.getElem_toArray, List.getElem_cons_succ, List.getElem_cons_zero, Act.put, List.setIfInBounds_toArray, List.set_cons_zero, List.set_cons_succ]
      refine wpAnyH_take (i := 18) (oi := _) (v := ?_) rfl (by kernel_rfl) (by kernel_rfl) (by kernel_rfl) (fun _ _ _ h => h) (Or.inl ⟨by rfl, ?_⟩) (by assumption) ?_
      rotate_left
      · (intro w hSw; (try dsimp only at hSw); (try obtain ⟨s1_, s2_, s3_⟩ := hSw); go_simp <;> with_reducible rfl)
      simp only [List.getElem_toArray, List.getElem_cons_succ, List.getElem_cons_zero, Act.put, List.setIfInBounds_toArray, List.set_cons_zero, List.set_cons_succ]
      refine wpAnyH_take (i := 19) (oi := _) (v := ?_) rfl (by kernel_rfl) (by kernel_rfl) (by kernel_rfl) (fun _ _ _ h => h) (Or.inl ⟨by rfl, ?_⟩) (by assumption) ?_
      rotate_left
      · (intro w hSw; (try dsimp only at hSw); (try obtain ⟨s1_, s2_, s3_⟩ := hSw); go_simp <;> with_reducible rfl)
      simp only [List.getElem_toArray, List.getElem_cons_succ, List.getElem_cons_zero, Act.put, List.setIfInBounds_toArray, List.set_cons_zero, List.set_cons_succ]
      refine wpAnyH_take (i := 20) (oi := _) (v := ?_) rfl (by kernel_rfl) (by kernel_rfl) (by kernel_rfl) (fun _ _ _ h => h) (Or.inl ⟨by rfl, ?_⟩) (by assumption) ?_
      rotate_left
      · (intro w hSw; (try dsimp only at hSw); (try obtain ⟨s1_, s2_, s3_⟩ := hSw); go_simp <;> with_reducible rfl)
      simp only [List.getElem_toArray, List.getElem_cons_succ, List.getElem_cons_zero, Act.put, List.setIfInBounds_toArray, List.set_cons_zero, List.set_cons_succ]
      refine wpAnyH_take (i := 21) (oi := _) (v := ?_) rfl (by kernel_rfl) (by kernel_rfl) (by kernel_rfl) (fun _ _ _ h => h) (Or.inl ⟨by rfl, ?_⟩) (by assumption) ?_
      rotate_left
      · (intro w hSw; (try dsimp only at hSw); (try obtain ⟨s1_, s2_, s3_⟩ := hSw); go_simp <;> with_reducible rfl)
      simp only [List.getElem_toArray, List.getElem_cons_succ, List.getElem_cons_zero, Act.put, List.setIfInBounds_toArray, List.set_cons_zero, List.set_cons_succ]
      refine wpAnyH_take (i := 22) (oi := _) (v := ?_) rfl (by kernel_rfl) (by kernel_rfl) (by kernel_rfl) (fun _ _ _ h => h) (Or.inl ⟨by rfl, ?_⟩) (by assumption) ?_
      rotate_left
      · (intro w hSw; (try dsimp only at hSw); (try obtain ⟨s1_, s2_, s3_⟩ := hSw); go_simp <;> with_reducible rfl)
      simp only [List.getElem_toArray, List.getElem_cons_succ, List.getElem_cons_zero, Act.put, List.setIfInBounds_toArray, List.set_cons_zero, List.set_cons_succ]
      refine wpAnyH_take (i := 23) (oi := _) (v := ?_) rfl (by kernel_rfl) (by kernel_rfl) (by kernel_rfl) (fun _ _ _ h => h) (Or.inl ⟨by rfl, ?_⟩) (by assumption) ?_
      rotate_left
      · (intro w hSw; (try dsimp only at hSw); (try obtain ⟨s1_, s2_, s3_⟩ := hSw); go_simp <;> with_reducible rfl)
      simp only [List.getElem_toArray, List.getElem_cons_succ, List.getElem_cons_zero, Act.put, List.setIfInBounds_toArray, List.set_cons_zero, List.set_cons_succ]
      refine wpAnyH_take (i := 24) (oi := _) (v := ?_) rfl (by kernel_rfl) (by kernel_rfl) (by kernel_rfl) (fun _ _ _ h => h) (Or.inl ⟨by rfl, ?_⟩) (by assumption) ?_
      rotate_left
      · (intro w hSw; (try dsimp only at hSw); (try obtain ⟨s1_, s2_, s3_⟩ := hSw); go_simp <;> with_reducible rfl)
      simp only [List.getElem_toArray, List.getElem_cons_succ, List.getElem_cons_zero, Act.put, List.setIfInBounds_toArray, List.set_cons_zero, List.set_cons_succ]
      refine wpAnyH_ready (rs := [25]) (by kernel_rfl) (by simp) (AllReadyH.cons rfl (fun K hK => ?_) AllReadyH.nil)
      go_simp
      go_at_call 25
      refine (HRT.out _ HRA.out).mono ?_
      rintro e5 w5 ⟨rfl, hb5⟩
      have HB5 := Lib.hid (show Below wp.heap.size wp w5 from (Below.refl _ _).drew.trans hb5)
      have hs5 : w5.cell? ⟨wr.heap.size, 0, none⟩ = some (.string st) ∧ w5.cell? ⟨wr.heap.size, 1, none⟩ = some (.int .i64 (at1 : Int)) ∧ w5.cell? ⟨wr.heap.size, 2, none⟩ = some (.int .i64 (at2 : Int)) := ⟨(HB5.out.cell (p := ⟨wr.heap.size, 0, none⟩) HPL.out).trans pb0, (HB5.out.cell (p := ⟨wr.heap.size, 1, none⟩) HPL.out).trans pb1, (HB5.out.cell (p := ⟨wr.heap.size, 2, none⟩) HPL.out).trans pb2⟩
      clear hb5
      refine hK.out _ _ hs5 (fun hHeld2 => ?_)
      clear hK K hHeld
      have hHeld := hHeld2
      clear hHeld2
      refine wpAnyH_take (i := 26) (oi := _) (v := ?_) rfl (by kernel_rfl) (by kernel_rfl) (by kernel_rfl) (fun _ _ _ h => h) (Or.inl ⟨by rfl, ?_⟩) (by assumption) ?_
      rotate_left
      · (intro w hSw; (try dsimp only at hSw); (try obtain ⟨s1_, s2_, s3_⟩ := hSw); go_simp <;> with_reducible rfl)
      simp only [List.getElem_toArray, List.getElem_cons_succ, List.getElem_cons_zero, Act.put, List.setIfInBounds_toArray, List.set_cons_zero, List.set_cons_succ]
      refine wpAnyH_take (i := 27) (oi := _) (v := ?_) rfl (by kernel_rfl) (by kernel_rfl) (by kernel_rfl) (fun _ _ _ h => h) (Or.inl ⟨by rfl, ?_⟩) (by assumption) ?_
      rotate_left
      · (intro w hSw; (try dsimp only at hSw); (try obtain ⟨s1_, s2_, s3_⟩ := hSw); go_simp <;> with_reducible rfl)
      simp only [List.getElem_toArray, List.getElem_cons_succ, List.getElem_cons_zero, Act.put, List.setIfInBounds_toArray, List.set_cons_zero, List.set_cons_succ]
      refine wpAnyH_done (by kernel_rfl) ?_ _
      clear pb0 pb1 pb2 hHeld
      obtain ⟨pc0, pc1, pc2⟩ := hs5
      have HB6 := Lib.hid (HB.out.trans ((HBP.out.trans (HB5.out.mono HBP.out.size)).mono HB.out.size))
      go_wp2_with fail
      go_roundw
      case rel => exact ⟨k + 1, at2, by omega, by omega, by go_num, rfl, HAT2, ⟨_, rfl, HSA2⟩, HB6⟩
      case measure => simp [intOf]; omega
    · obtain rfl : k = m := by omega
      have hcl : G.take k = G := by rw [HM.out]; exact List.take_length
      have hat : at1 = n := by rw [HAT.out, hcl, HWW.out, HN.out]
      have hsa : sa = ⟨(textF l).toArray⟩ := by rw [HSA.out, HM.out, HAC.out]; rfl
      have HBR := Lib.hid (HB2.out.trans (HB.out.mono HB2.out.size))
      have HSA3 := Lib.hid hsa
      have hss : (sa.toList == sa.toList) = true := by simp
      have HTX2 := Lib.hid (HTX.out wr ((HR.out.below HBR.out).more HBR.out.size))
      rw [← hsa] at HTX2
      subst hat
      have hnn : ((at1 : Int) == (at1 : Int)) = true := by simp
      clear hcl hsa HTX
      go_wp2_with fail
      refine HTX2.out.mono ?_
      rintro e w4 ⟨rfl, hb4⟩
      have HB4 := Lib.hid (HBR.out.trans (hb4.mono HBR.out.size))
      clear hb4
      go_wp2_with fail
      go_ret
      exact ⟨rfl, HB4.out⟩

set_option maxRecDepth 100000 in
theorem contract (H : Type) (enc : TypeId × Value → H) (W : World) (base : Nat) (args : Array Value) (ds gs : List (DataW H)) (before : List MemPlace)
    (hval : ∀ (j : Nat) t v, Tryd.f5.params[j]? = some t → args[j]? = some v → Value.okWide Tryd.prog W .any base t v)
    (hW : DataW.Whole enc Tryd.prog Tryd.f5.params.toList Rows.segFillsSpec.vars false W args.toList ds gs before) (hLL : laidMetH Tryd.prog Rows.segFillsUptoRow.laid W) (hk : Rows.uptoSmall H (ds ++ gs) = true) :
    Calls Tryd.prog 5 args W fun e W' => ∃ v, e = .returned v ∧ Rows.segFillsSpec.post enc Tryd.prog Tryd.f5 false true false false W args v W' := by
  have hL : Laid W := laid_of hLL
  have hW' := hW
  obtain ⟨p, q, hA0, hV, rfl, hfz, hnd⟩ := hW
  have hA : DataW.TrodAll enc Tryd.prog W 0 (fun _ => true) true Tryd.f5.params.toList args.toList ds p := hA0
  rw [Tryd.params5] at hA hval
  obtain ⟨v0, vs0, d0, ds0, p0, q0, hargs, rfl, rfl, h0, r0⟩ := trodAll_cons hA
  obtain ⟨rfl, rfl, rfl⟩ := trodAll_nil r0
  obtain rfl : args = #[v0] := by cases args; simp_all
  obtain ⟨rfl, rfl⟩ := trodVars_none hV
  obtain ⟨a0, len0, cap0, rfl⟩ := okWide_slice Tryd.underlying22 (hval 0 22 v0 rfl rfl)
  have k0 := h0
  have lt0 : ∀ x ∈ p0, x.block < W.heap.size := by obtain ⟨m, hm⟩ := k0; exact DataW.trod_lt m _ _ _ hm
  obtain ⟨l0, hl0, hc0, hm0, hr0, hb0⟩ := open_bytes h0
  have hbd := bulk_bound hk
  simp only [List.append_nil, Rows.uptoBulkAll] at hbd
  clear hA0
  refine (walk a0 l0 len0 cap0 W hL hr0 hl0 hc0 hm0 (by omega)).mono fun e W' ⟨he, bel⟩ => ?_
  subst he
  exact ⟨_, rfl, _, _, _, [], _, [], hW', trodAll_mk1 (shut_bool Tryd.underlying4 _), (trodAll_cons_mk (Below.trod laidOut (by kernel_rfl) (of_decide_eq_true (by kernel_rfl)) k0 bel lt0) trodAll_mk0), rfl, bel.frame _, fun h => by cases h⟩

set_option maxRecDepth 100000 in
theorem laid_met (os : Os) : laidMet Tryd.prog Rows.segFillsUptoRow.laid ((laidWorld os).forCall (fun _ _ => 0) ⟨#[], #[.slice none 0 0], []⟩).memory :=
  laidMet_of_run' 8 (by kernel_rfl) (by kernel_rfl)
set_option maxRecDepth 100000 in
theorem reads (os : Os) {H : Type} (enc : TypeId × Value → H) : ∃ places, DataW.whole enc Tryd.prog ((laidWorld os).forCall (fun _ _ => 0) ⟨#[], #[.slice none 0 0], []⟩).memory Tryd.f5.params.toList Rows.segFillsSpec.vars false (#[.slice none 0 0] : Array Value).toList 8 = some ([.nil], [], places) :=
  ⟨[], by kernel_rfl⟩

set_option maxRecDepth 100000 in
theorem lifted (os : Os) (started : os.Started) (H : Type) (enc : TypeId × Value → H) (F : Stop.Interp) :
    ReturnsInHanded {} Tryd.checked os 5 .any ((Rows.OpenSpec.upto Rows.segFillsSpec).preRow enc Tryd.prog Tryd.f5 Rows.segFillsUptoRow.domain false Rows.segFillsUptoRow.laid) (((Rows.OpenSpec.upto Rows.segFillsSpec).at F).post enc Tryd.prog Tryd.f5 false true false false) := by
  obtain ⟨places, hx⟩ := reads os enc
  refine returnsInHanded_of_row (C := Tryd.checked) (s := Rows.OpenSpec.upto Rows.segFillsSpec) own started (by kernel_rfl) Tryd.func5
    (witness_row_at (enc := enc) (C := Tryd.checked) false (laidWorld os) #[.slice none 0 0] rfl (by kernel_rfl) (by kernel_rfl) (by kernel_rfl)
      (OpenSpec.preRow_of_cond 8 hx (by kernel_rfl) (fun k hk => by cases hk; kernel_rfl) (by kernel_rfl) (laid_met os))) ?_
  intro W base args ds gs before hval hW _ hcond _ hL _ _
  exact contract H enc W base args ds gs before hval hW hL (hcond _ rfl)

set_option maxRecDepth 100000 in
theorem said : Rows.SegFillsUptoSaid :=
  OpenClaim.holds_of_cond 5 Tryd.f5 rfl rfl rfl rfl rfl rfl rfl ⟨rfl, rfl, rfl, rfl, rfl⟩ rfl rfl rfl rfl rfl (by kernel_rfl) Tryd.func5 (by kernel_rfl)
    (of_decide_eq_true (by kernel_rfl)) (by unfold Func.isWrapper; first | (rw [if_pos (by decide +kernel)]; kernel_rfl) | (rw [if_neg (by decide +kernel)]; exact ⟨rfl, rfl⟩))
    (fun os started H enc _ F => by rw [OpenClaim.pre_eq_preRow]; exact lifted os started H enc F)

set_option maxRecDepth 100000 in
/-- no parameter wants a stand-in; the program's own looks are off -/
theorem plain (f : FuncId) (fn : Func) (hf : Tryd.pinned.checked.prog.funcNamed Rows.segFillsUptoRow.func = some f) (hfn : Tryd.pinned.checked.prog.funcs[f]? = some fn) :
    false = Tryd.pinned.checked.prog.looks [] ∧ ∀ (j : Nat) t, fn.params[j]? = some t → Tryd.pinned.checked.prog.wantsStandIn t = false := by
  obtain rfl : f = 5 := Option.some.inj ((show Tryd.prog.funcNamed Rows.segFillsUptoRow.func = some 5 by kernel_rfl).symm.trans hf) |>.symm
  obtain rfl : fn = Tryd.f5 := (Option.some.inj (Tryd.func5.symm.trans hfn)).symm
  refine ⟨by kernel_rfl, fun j t ht => ?_⟩
  rw [Tryd.params5] at ht
  have hm := Array.mem_of_getElem? ht
  simp only [List.mem_toArray, List.mem_cons, List.not_mem_nil, or_false] at hm
  rcases hm with rfl
  all_goals first | exact (show Tryd.prog.wantsStandIn 22 = false by kernel_rfl)

set_option maxRecDepth 100000 in
/-- THE STATEMENT -/
theorem proved : Rows.SegFillsUptoCardSaid :=
  Claim7.holds_tied_plain_at .later [] _ _ _ _ said (fun _ h => by cases h) (by kernel_rfl) (fun _ h => by cases h) segFillsUpto_row_tie rfl ⟨rfl, rfl⟩ (by kernel_rfl) rfl plain (by kernel_rfl)
end Go.Proofs.YtkloohgajfodgaaDoor.LawSegFills
