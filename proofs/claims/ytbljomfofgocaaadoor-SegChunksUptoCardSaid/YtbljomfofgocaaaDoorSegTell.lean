/-
  CONTRACT OF tell: the open segment is whole.
-/
import Derived.Test.YtbljomfofgocaaaDoorSegWords
import Derived.Test.YtbljomfofgocaaaDoorNormText
import Derived.Deep.RegionHeld3
import Derived.BigRegion
namespace Go.Proofs.YtbljomfofgocaaaDoor.Seg
open Go.Shelf Go.RowKit Go.Sort
open Utf hiding infoI32 rd_new own_form rdec_any below_drewN new_any write_any close_any
open Ucd hiding grow same Told
open Norm hiding new_any write_any close_any pending_any pending_nil write_nil write_closed close_nil

theorem cut_any {w : World} {base f cf t : Nat} {Af : Option Addr} {F : List Int} (hown : w.ownsRow base 21 1 (.slice Af f cf) f (nums F)) (ht : t ≤ f) (u : World) :
    (Instr.slice 22 (.slice Af f cf) none (some (.int .i64 t)) none).run Tryd.prog u = .ok (.slice Af t cf) u := by
  have he : Tryd.prog.elem 22 = 21 := by simp [Program.elem, Tryd.underlying22]
  have hf : f ≤ cf ∧ Af.map (fun a => a.add 0) = Af := by
    rcases hown.2 with ⟨h0, h1, _⟩ | ⟨g, cap, cur, hv, h1, h2, h3, h4, h5, h6⟩
    · cases h0; exact ⟨Nat.le_refl _, rfl⟩
    · cases hv
      have hadd : (⟨g, 0, none⟩ : Addr).add 0 = ⟨g, 0, none⟩ := by unfold Addr.add; split <;> simp_all
      exact ⟨by omega, by rw [Option.map_some, hadd]⟩
  rw [run_slice_h u 22 Af f cf (by rw [he]; exact Tryd.underlying22) .i64 (t : Int) (by omega) (by omega), he, Tryd.sizeOf21]
  simp [Result.andThen, sliced, hf.2]

/-- what tell answers, of the told T and the open O -/
def Tells (w : World) (B base sb db : Nat) (lim : Int) (dc : List Value) (vo v : Value) (T : List Sg) (O : List Pt) (e : Nat) (en : Ending) (w' : World) : Prop :=
  ∃ v' vo', en = .returned v' ∧ w'.ownsRow B 58 3 v' (T ++ (shut ([], O)).map sgOf).length (sgs (T ++ (shut ([], O)).map sgOf)) ∧ Sm w' base sb db lim dc vo' [] e e ∧ Chg w w' (fun k => k = sb ∨ v.ownBlock = some k) ∧
    vo'.ownBlock = vo.ownBlock ∧ (∀ g, v'.ownBlock = some g → w.heap.size ≤ g ∨ v.ownBlock = some g)
theorem shut_none (O : List Pt) (h : O = []) : shut (([], O) : List (List Pt) × List Pt) = [] := by subst h; rfl
theorem shut_some (O : List Pt) (h : O ≠ []) : shut (([], O) : List (List Pt) × List Pt) = [O] := by simp [shut, h]

set_option maxHeartbeats 2000000 in
set_option maxRecDepth 100000 in
theorem tell_none (B base sb db : Nat) (lim : Int) (dc : List Value) (vo v : Value) (T : List Sg) (a e : Nat) (w : World) (hS : Sm w base sb db lim dc vo [] a e)
    (hT : w.ownsRow B 58 3 v T.length (sgs T)) :
    Calls Tryd.prog 41 #[.pointer (some ⟨sb, 0, none⟩), v] w (Tells w B base sb db lim dc vo v T [] e) := by
  obtain ⟨A, c, rfl, _⟩ := own_form hS.own
  have c2 := hS.blk.cell 2
  simp only [scs, List.getElem?_cons_succ, List.getElem?_cons_zero] at c2
  have e0 : (fulls (runs [])).length = 0 := rfl
  rw [e0] at c2
  have HS := Lib.hid hS
  have HT := Lib.hid hT
  clear hS hT e0
  go_enter Tryd.func41, Tryd.ntmps41
  go_wp2_with fail
  go_ret
  obtain rfl := HS.out.reach.1 rfl
  exact ⟨v, _, rfl, by simpa [shut] using HT.out, HS.out, Chg.refl _ _, rfl, fun g h => .inr h⟩

set_option maxHeartbeats 4000000 in
set_option maxRecDepth 100000 in
theorem tell_some (B base sb db : Nat) (lim : Int) (dc : List Value) (vo v : Value) (T : List Sg) (O : List Pt) (a e : Nat) (w : World) (hL : Laid w) (hS : Sm w base sb db lim dc vo O a e)
    (hT : w.ownsRow B 58 3 v T.length (sgs T)) (hB : B ≤ w.heap.size) (hO : O ≠ []) (hsm : flen O ≤ 1073741824) (hTm : T.length ≤ 1073741824) :
    Calls Tryd.prog 41 #[.pointer (some ⟨sb, 0, none⟩), v] w (Tells w B base sb db lim dc vo v T O e) := by
  obtain ⟨i0, hi, hz0, hz1, hz2⟩ := info_parts infoSg
  obtain ⟨A, c, rfl, hc, hcm, hr⟩ := own_form hS.own
  have hvn := own_apart hT hS.own (by decide)
  have hpos := flen_pos hO
  have hsay : saysN (fulls (runs O)) = says O := by rw [saysN, normal_fulls]; rfl
  have hne := own_ne hT hS.blk (by decide)
  have hnf := hS.ne
  have hcut := cut_any (t := 0) hS.own (Nat.zero_le _)
  have c2 := hS.blk.cell 2
  have c3 := hS.blk.cell 3
  have c4 := hS.blk.cell 4
  simp only [scs, List.getElem?_cons_succ, List.getElem?_cons_zero] at c2 c3 c4
  obtain ⟨ha, he⟩ := hS.reach.2 hO
  have hlt := hS.blk.lt
  have HS := Lib.hid hS
  have HT := Lib.hid hT
  have HSAY := Lib.hid hsay
  have HRE := Lib.hid (show sgOf O = ⟨says O, a, e⟩ by rw [sgOf, ha, he])
  have HO := Lib.hid hO
  have HVN := Lib.hid hvn
  have HNE := Lib.hid hne
  have HNF := Lib.hid hnf
  obtain ⟨f, hf⟩ : ∃ f, f = flen O := ⟨_, rfl⟩
  have hff : (fulls (runs O)).length = f := hf.symm
  rw [hff] at c2 hcut hc
  have HFF := Lib.hid hff
  rw [← hf] at hpos hsm
  have HNM := Lib.hid (fun (u : World) (h : Laid u) (hr : Rd u u.heap.size A (nums (fulls (runs O)))) => normal_any A (fulls (runs O)) f c u h hr hff (by omega))
  have hXl : (normal (fulls (runs O))).length = f := by rw [normal_fulls, normal_len]; exact hff
  have HX := Lib.hid (show saysN (fulls (runs O)) = str (enc (normal (fulls (runs O)))) from rfl)
  generalize normal (fulls (runs O)) = X at HNM hXl HX
  have HXL := Lib.hid hXl
  have HR := Lib.hid hr
  have HL := Lib.hid hL
  have HCUT := Lib.hid hcut
  clear hS hT hvn hsay hne hnf hO ha he hf hff hXl hr hL hcut
  have hf0 : ((f : Int) == 0) = false := by simp; omega
  go_enter Tryd.func41, Tryd.ntmps41
  go_wp2_with fail
  refine (HNM.out w HL.out HR.out).mono ?_
  rintro e1 w1 ⟨v1, rfl, ho1, hb1⟩
  obtain ⟨A1, c1, rfl, _, _, hr1⟩ := own_form ho1
  have HR1 := Lib.hid hr1
  have HB1 := Lib.hid hb1
  clear ho1 hr1 hb1 HNM
  go_wp2_with fail
  refine (encode_any A1 X X.length c1 w1 HR1.out rfl (by have := HXL.out; omega)).mono ?_
  rintro e2 w2 ⟨v2, rfl, ho2, hb2⟩
  obtain ⟨A2, c2', rfl, _, _, hr2⟩ := Utf.own_form ho2
  have hcv := conv_rd (c := c2') hr2 rfl
  rw [show (⟨(enc X).toArray⟩ : ByteArray) = says O from by rw [← HSAY.out, HX.out]; rfl] at hcv
  have HB2 := Lib.hid (HB1.out.trans (hb2.mono HB1.out.size))
  have HS2 := Lib.hid (HS.out.next HB2.out)
  have HT2 := Lib.hid (Ucd.own_below HT.out HB2.out)
  clear ho2 hr2 hb2 c2 c3 c4 HR1 HB1
  generalize says O = st at hcv HRE
  obtain ⟨bb, hbb⟩ : ∃ bb, bb = HB2.out.size := ⟨_, rfl⟩
  have hbase : B ≤ w2.heap.size := Nat.le_trans hB HB2.out.size
  have c2 := HS2.out.blk.cell 2
  have c3 := HS2.out.blk.cell 3
  have c4 := HS2.out.blk.cell 4
  simp only [scs, List.getElem?_cons_succ, List.getElem?_cons_zero] at c2 c3 c4
  rw [HFF.out] at c2
  have hsb := HS2.out.blk.lt
  clear bb hbb
  go_wp2_with fail
  go_region_held3 (fun w' => w'.cell? ⟨sb, 3, none⟩ = some (.int .i64 a) ∧ w'.cell? ⟨sb, 4, none⟩ = some (.int .i64 e))
    (first
      | go_keep
      | (go_split_ands
         refine ⟨?_, ?_⟩
         · (rw [hgr6.cell_far _ (by simp; omega) (Ne.symm HNE.out)]; assumption)
         · (rw [hgr6.cell_far _ (by simp; omega) (Ne.symm HNE.out)]; assumption)))
    ((refine step_append_rd (by rfl) _ _ _ (by rfl) B 58 i0 _ 3 32 Tryd.underlying36 hi hz0 hz1 hz2 rfl (by decide) v T.length (sgs T) (by rfl) ((HT2.out.alloc _).drew) _ (some ⟨w2.heap.size, 0, none⟩) 1 1 [.string st, .int .i64 a, .int .i64 e] (by rfl) (by rfl) (rd_new _ _ [.string st, .int .i64 a, .int .i64 e] _ (by simp)) (by simp [Value.oneCell']) (by unfold maxLen; omega) (by omega) (by simp; omega) ?_; intro v6 w6 hown6 hgr6 hat6))
  have hC6 : Chg w2 w6 (fun k => v.ownBlock = some k) := ((Chg.refl w2 _).and_below ((Below.refl _ _).alloc (Nat.le_refl _) _).drew).grown hgr6 (fun i _ h => h)
  have hS6 := HS2.out.keep hC6 HNE.out (own_ne HT2.out (show Blk _ _ _ _ from HS2.out.dec) (by decide)) (fun k h1 h2 => HVN.out k h2 h1)
  rw [show ([Value.string st, .int .i64 a, .int .i64 e] : List Value) = sgs [⟨st, a, e⟩] from rfl, ← sgs_append] at hown6
  have HO6 := Lib.hid hown6
  have HC6 := Lib.hid hC6
  have HS6 := Lib.hid hS6
  have HA6 := Lib.hid hat6
  clear c2 c3 c4 hgr6 hown6 hat6 hC6 hS6
  have c2 := HS6.out.blk.cell 2
  have c3 := HS6.out.blk.cell 3
  have c4 := HS6.out.blk.cell 4
  have f2 := HS6.out.blk.frozen 2
  have f3 := HS6.out.blk.frozen 3
  simp only [scs, List.getElem?_cons_succ, List.getElem?_cons_zero] at c2 c3 c4
  rw [HFF.out] at c2
  have hcut : ∀ u : World, (Instr.slice 22 (.slice A f c) none (some (.int .i64 0)) none).run Tryd.prog u = .ok (.slice A 0 c) u := fun u => HCUT.out u
  clear hcv HT2 HS2 hbase hB hsb hlt
  go_wp2_with fail
  go_region
  all_goals go_wp2_with fail
  go_ret
  have hb6 := HS6.out.blk
  have hne6 := own_ne HO6.out hb6 (by decide)
  have hW2 := ((hb6.set_ 2 (.slice A 0 c)).set_ 3 (.int .i64 e))
  have hx := HS6.out.own
  rw [HFF.out] at hx
  obtain ⟨g, cap, hv, _⟩ := hx.form hpos
  injection hv with hv1 _ hv2
  subst hv1 hv2
  have hpre : w6.ownsRow base 21 1 (.slice (some ⟨g, 0, none⟩) 0 c) (fulls (runs [])).length (nums (fulls (runs []))) := Norm.own_prefix hx (Nat.zero_le f)
  have hvo : (Value.slice (some ⟨g, 0, none⟩) 0 c).ownBlock ≠ some sb := HNF.out
  have hdb : db ≠ sb := fun h => HS6.out.apart h.symm
  have hC := (((Chg.of_below (S := fun k => k = sb ∨ v.ownBlock = some k) HB2.out (Nat.le_refl _)).trans (HC6.out.more (T := fun k => k = sb ∨ v.ownBlock = some k) fun i h => .inr h) (fun _ _ h => h)).setCell (p := ⟨sb, 2, none⟩) (.slice (some ⟨g, 0, none⟩) 0 c) (.inl rfl)).setCell (p := ⟨sb, 3, none⟩) (.int .i64 e) (.inl rfl)
  refine ⟨v6, .slice (some ⟨g, 0, none⟩) 0 c, rfl, ?_, ⟨hW2, (show Blk _ _ _ _ from HS6.out.dec).far hdb _ |>.far hdb _, ?_, HS6.out.le, HS6.out.led, Reach.start e⟩, hC.and_below (Below.refl _ _).drew, rfl, fun k hk => ?_⟩
  · rw [shut_some O HO.out, List.map_singleton, HRE.out, List.length_append]
    exact (own_set (own_set HO6.out hne6 _) hne6 _).drew
  · exact (own_set (own_set hpre hvo _) hvo _).drew
  · rcases HA6.out with h | h
    · exact .inr (h ▸ hk)
    · left
      rw [h] at hk
      injection hk with hk
      have := HB2.out.size
      simp at hk
      omega
theorem tell_any (B base sb db : Nat) (lim : Int) (dc : List Value) (vo v : Value) (T : List Sg) (O : List Pt) (a e : Nat) (w : World) (hL : Laid w) (hS : Sm w base sb db lim dc vo O a e)
    (hT : w.ownsRow B 58 3 v T.length (sgs T)) (hB : B ≤ w.heap.size) (hsm : flen O ≤ 1073741824) (hTm : T.length ≤ 1073741824) :
    Calls Tryd.prog 41 #[.pointer (some ⟨sb, 0, none⟩), v] w (Tells w B base sb db lim dc vo v T O e) := by
  by_cases hO : O = []
  · subst hO; exact tell_none B base sb db lim dc vo v T a e w hS hT
  · exact tell_some B base sb db lim dc vo v T O a e w hL hS hT hB hO hsm hTm
end Go.Proofs.YtbljomfofgocaaaDoor.Seg
