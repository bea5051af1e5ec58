/-
  SyntaxPlaces answers true, and leaves its argument as it was, for all bytes that hold together at most 1048576 values, from every memory in which the variables that the row lists hold what it says: a refusal's place is that of a segment, or of the end; without a refusal there is none.
-/
import Derived.Test.YtheelnhhkpkjnaaGreatDoorP40
namespace Go.Proofs.YtheelnhhkpkjnaaGreatDoor.LawSyntaxPlaces
open Go.ChangeShapes Go.WideShapes Go.ChangeAt Go.RowKit
open Utf (Rd bys bys_len open_bytes laidOut own bulk_bound)
open Ucd (Laid)
open Rset (Ret own_form)
open Sset (St Tx txs ArgT ArgR normS none_)
open Syn
theorem split_facts (l : List UInt8) :
  (((tx l).any fun t => decide (64 < rlen t)) = true → Seg.spE 64 l = 6 ∧ (Seg.spS 64 l).length = ((tx l).takeWhile fun t => decide (rlen t ≤ 64)).length) ∧
  (((tx l).any fun t => decide (64 < rlen t)) = false → Seg.spE 64 l = 0 ∧ (Seg.spS 64 l).map (fun x => x.t.data.toList) = tx l) := by
 have hsp : Seg.spS 64 l = (Seg.okS 64 l).map Seg.sgOf := by unfold Seg.spS; rw [if_pos (by omega)]; rfl
 have hse : Seg.spE 64 l = if Seg.badS 64 l then 6 else 0 := by unfold Seg.spE; rw [if_pos (by omega)]; rfl
 have hb : Seg.badS 64 l = (tx l).any fun t => decide (64 < rlen t) := bad_tx 64 l
 have ho := ok_tx 64 l
 rw [← hb]
 refine ⟨fun h => ⟨by rw [hse, h]; rfl, ?_⟩, fun h => ⟨by rw [hse, h]; rfl, ?_⟩⟩
 ·rw [hsp, List.length_map, ← ho, List.length_map]; rfl
 ·obtain ⟨h1, h2, _⟩ := good_split h
  rw [hsp, ← h2, List.map_map, List.map_map]
  exact List.map_congr_left fun x _ => by show (Seg.sgOf x).t.data.toList = (Seg.sgOf x).t.toList; rw [ByteArray.toList_eq]
set_option maxHeartbeats 16000000 in
set_option maxRecDepth 100000 in
theorem walk (A : Option Addr) (a : List UInt8) (n c : Nat) (w : World) (hL : Laid w) (hr : Rd w w.heap.size A (bys a)) (hn : a.length = n) (hc : n ≤ c) (hcm : c ≤ 9223372036854775807) (hsm : n ≤ 1048576) :
  Calls Tryz.prog 8 #[.slice A n c] w (Ret w (.bool true)) := by
 have HF := Lib.hid (fixed_any w hL)
 have HL := Lib.hid hL
 have HR := Lib.hid hr
 have HPA := Lib.hid (fun (u : World) (hu : Laid u) (h : Rd u u.heap.size A (bys a)) => parse_any a A n c u hu h hn hc hcm (by omega))
 have HSP := Lib.hid (fun (u : World) (h : Rd u u.heap.size A (bys a)) => Seg.rsplit_any 64 a A n c u h hn (by omega))
 have HSF := Lib.hid (split_facts a)
 clear hL hr hn hc
 go_enter Tryz.func8, Tryz.ntmps8
 go_wp2_with fail
 refine HF.out.mono ?_
 rintro e w1 ⟨rfl, hb1⟩
 have HB1 := Lib.hid hb1
 clear hb1 HF
 go_wp2_with fail
 refine (HPA.out w1 (HL.out.next HB1.out) ((HR.out.below HB1.out).more HB1.out.size)).mono ?_
 rintro e wa ha
 generalize hx : parseF theE a = x at ha
 have hba : Below w1.heap.size w1 wa := by
  cases x with
  | ok L => exact ha.2
  | error q => exact ha.2
 have HBA := Lib.hid (HB1.out.trans (hba.mono HB1.out.size))
 have HSS := Lib.hid (HSP.out wa ((HR.out.below HBA.out).more HBA.out.size))
 clear hba HPA HSP
 cases x with
 | ok L =>
  obtain ⟨⟨v, rfl, hok⟩, hb⟩ := ha
  obtain ⟨A1, n1, c1, V1, rfl, hn1, hg1⟩ := got_of hx hok
  have hpos : 0 < n1 := by
   have := (parse_len hx).2
   rw [← hn1]
   exact List.length_pos_iff.2 this
  clear hok hg1 hb hn1 hx
  go_wp2_with fail
  refine HSS.out.mono ?_
  rintro e wb ⟨A2, n2, c2, rfl, hn2, hr2, hb⟩
  have HBB := Lib.hid (HBA.out.trans (hb.mono HBA.out.size))
  clear hb hr2 hn2 HSS
  generalize Seg.spE 64 a = ee
  go_wp2_with fail
  go_ret
  exact ⟨rfl, HBB.out⟩
 | error q =>
  obtain ⟨k, y⟩ := q
  obtain ⟨rfl, hb⟩ := ha
  have HPP := Lib.hid (parse_place theE a hx)
  clear hb hx
  go_wp2_with fail
  refine HSS.out.mono ?_
  rintro e wb ⟨A2, n2, c2, rfl, hn2, hr2, hb⟩
  have HBB := Lib.hid (HBA.out.trans (hb.mono HBA.out.size))
  have HR2 := Lib.hid hr2
  have HN2 := Lib.hid hn2
  clear hb hr2 hn2 HSS
  rcases HPP.out with ⟨h1, rfl, hk⟩ | ⟨h1, h2⟩
  ·obtain ⟨f1, f2⟩ := HSF.out.1 h1
   rw [f1]
   obtain rfl : k = n2 := by rw [hk, HN2.out, f2]
   clear h1 hk f1 f2 HPP HSF HR2 HN2
   go_wp2_with fail
   go_ret
   exact ⟨rfl, HBB.out⟩
  ·obtain ⟨f1, f2⟩ := HSF.out.2 h1
   rw [f1]
   have hlen : (tx a).length = n2 := by rw [← f2, List.length_map, HN2.out]
   rcases h2 with ⟨rfl, rfl, h3⟩ | ⟨h3, rfl | ⟨rfl, h4, h5⟩⟩
   ·have h3' : 4096 < n2 := by omega
    have h4' : ¬ ((n2 : Int) ≤ 4096) := by omega
    have h5' : decide ((4096 : Int) < (n2 : Int)) = true := decide_eq_true (by omega)
    clear h1 h3 f1 f2 HPP HSF HR2 HN2 hlen
    go_wp2_with fail
    go_ret
    exact ⟨rfl, HBB.out⟩
   ·have h3' : k ≤ n2 := by omega
    clear h1 h3 f1 f2 HPP HSF HR2 HN2 hlen
    go_wp2_with fail
    go_ret
    exact ⟨rfl, HBB.out⟩
   ·have hk : k < n2 := by omega
    have hks : k < (Seg.spS 64 a).length := by rw [← HN2.out]; exact hk
    have ht : (Seg.spS 64 a)[k].t.data.toList = [40] := by
     rw [← h5]
     simp only [← f2, List.getElem_map]
    obtain ⟨b, o, rfl, hbl⟩ := HR2.out.form (by rw [Seg.sgs_len]; omega)
    obtain ⟨p1, p2, p3⟩ := Seg.Rd_sg HR2.out hks
    generalize (Seg.spS 64 a)[k].t = s at ht p1
    have hs : s = ⟨#[40]⟩ := by cases s; rename_i d; cases d; simp at ht; subst ht; rfl
    subst hs
    clear p2 p3 h1 h3 h4 h5 f1 f2 HPP HSF HN2 hlen hks ht
    have hq : ((⟨#[40]⟩ : ByteArray).toList == (⟨#[40]⟩ : ByteArray).toList) = true := beq_self_eq_true _
    go_wp2_with fail
    go_ret
    exact ⟨rfl, HBB.out⟩
set_option maxRecDepth 100000 in
theorem contract (H : Type) (enc : TypeId × Value → H) (W : World) (base : Nat) (args : Array Value) (ds gs : List (DataW H)) (before : List MemPlace)
  (hval : ∀ (j : Nat) t v, Tryz.f8.params[j]? = some t → args[j]? = some v → Value.okWide Tryz.prog W .any base t v)
  (hW : DataW.Whole enc Tryz.prog Tryz.f8.params.toList Rows.syntaxPlacesSpec.vars false W args.toList ds gs before) (hLL : laidMetH Tryz.prog Rows.syntaxPlacesUptoRow.laid W) (hk : Rows.uptoSmall H (ds ++ gs) = true) :
  Calls Tryz.prog 8 args W fun e W' => ∃ v, e = .returned v ∧ Rows.syntaxPlacesSpec.post enc Tryz.prog Tryz.f8 false true false false W args v W' := by
 have hL : Laid W := laid_of hLL
 have hW' := hW
 obtain ⟨p, q, hA0, hV, rfl, hfz, hnd⟩ := hW
 have hA : DataW.TrodAll enc Tryz.prog W 0 (fun _ => true) true Tryz.f8.params.toList args.toList ds p := hA0
 rw [Tryz.params8] at hA hval
 obtain ⟨v0, vs0, d0, ds0, p0, q0, hargs, rfl, rfl, h0, r0⟩ := trodAll_cons hA
 obtain ⟨rfl, rfl, rfl⟩ := trodAll_nil r0
 obtain rfl : args = #[v0] := by cases args; simp_all
 obtain ⟨rfl, rfl⟩ := trodVars_none hV
 obtain ⟨a0, len0, cap0, rfl⟩ := okWide_slice Tryz.underlying25 (hval 0 25 v0 rfl rfl)
 have k0 := h0
 have lt0 : ∀ x ∈ p0, x.block < W.heap.size := by obtain ⟨m, hm⟩ := k0; exact DataW.trod_lt m _ _ _ hm
 obtain ⟨l0, hl0, hc0, hm0, hr0, hb0⟩ := open_bytes h0
 have hbd := bulk_bound hk
 simp only [List.append_nil, Rows.uptoBulkAll] at hbd
 clear hA0
 refine (walk a0 l0 len0 cap0 W hL hr0 hl0 hc0 hm0 (by omega)).mono fun e W' ⟨he, bel⟩ => ?_
 subst he
 exact ⟨_, rfl, _, _, _, [], _, [], hW', trodAll_mk1 (shut_bool Tryz.underlying4 _), (trodAll_cons_mk (Below.trod laidOut (by kernel_rfl) (of_decide_eq_true (by kernel_rfl)) k0 bel lt0) trodAll_mk0), rfl, bel.frame _, fun h => by cases h⟩
set_option maxRecDepth 100000 in
theorem laid_met (os : Os) : laidMet Tryz.prog Rows.syntaxPlacesUptoRow.laid ((laidWorld os).forCall (fun _ _ => 0) ⟨#[], #[.slice none 0 0], []⟩).memory :=
 Syn.laid_met os _
set_option maxRecDepth 100000 in
theorem reads (os : Os) {H : Type} (enc : TypeId × Value → H) : ∃ places, DataW.whole enc Tryz.prog ((laidWorld os).forCall (fun _ _ => 0) ⟨#[], #[.slice none 0 0], []⟩).memory Tryz.f8.params.toList Rows.syntaxPlacesSpec.vars false (#[.slice none 0 0] : Array Value).toList 8 = some ([.nil], [], places) :=
 ⟨[], by kernel_rfl⟩
set_option maxRecDepth 100000 in
theorem lifted (os : Os) (started : os.Started) (H : Type) (enc : TypeId × Value → H) (F : Stop.Interp) :
  ReturnsInHanded {} Tryz.checked os 8 .any ((Rows.OpenSpec.upto Rows.syntaxPlacesSpec).preRow enc Tryz.prog Tryz.f8 Rows.syntaxPlacesUptoRow.domain false Rows.syntaxPlacesUptoRow.laid) (((Rows.OpenSpec.upto Rows.syntaxPlacesSpec).at F).post enc Tryz.prog Tryz.f8 false true false false) := by
 obtain ⟨places, hx⟩ := reads os enc
 refine returnsInHanded_of_row (C := Tryz.checked) (s := Rows.OpenSpec.upto Rows.syntaxPlacesSpec) own started (by kernel_rfl) Tryz.func8
  (witness_row_shaped (enc := enc) (C := Tryz.checked) false (laidWorld os) #[.slice none 0 0] (World.laidAll_os _ _ _) (World.shaped_of_ZipB (by kernel_rfl) (by kernel_rfl)) (by kernel_rfl)
   (OpenSpec.preRow_of_cond 8 hx (by kernel_rfl) (fun k hk => by cases hk; kernel_rfl) (by kernel_rfl) (laid_met os))) ?_
 intro W base args ds gs before hval hW _ hcond _ hL _ _
 exact contract H enc W base args ds gs before hval hW hL (hcond _ rfl)
set_option maxRecDepth 100000 in
theorem said : Rows.SyntaxPlacesUptoSaid :=
 OpenClaim.holds_of_cond 8 Tryz.f8 rfl rfl rfl rfl rfl rfl rfl ⟨rfl, rfl, rfl, rfl, rfl⟩ rfl rfl rfl rfl rfl (by kernel_rfl) Tryz.func8 (by kernel_rfl)
  (of_decide_eq_true (by kernel_rfl)) (by unfold Func.isWrapper; first | (rw [if_pos (by decide +kernel)]; kernel_rfl) | (rw [if_neg (by decide +kernel)]; exact ⟨rfl, rfl⟩))
  (fun os started H enc _ F => by rw [OpenClaim.pre_eq_preRow]; exact lifted os started H enc F)
set_option maxRecDepth 100000 in
theorem plain (f : FuncId) (fn : Func) (hf : Tryz.pinned.checked.prog.funcNamed Rows.syntaxPlacesUptoRow.func = some f) (hfn : Tryz.pinned.checked.prog.funcs[f]? = some fn) :
  true = Tryz.pinned.checked.prog.looks [] ∧ ∀ (j : Nat) t, fn.params[j]? = some t → Tryz.pinned.checked.prog.wantsStandIn t = false := by
 obtain rfl : f = 8 := Option.some.inj ((show Tryz.prog.funcNamed Rows.syntaxPlacesUptoRow.func = some 8 by kernel_rfl).symm.trans hf) |>.symm
 obtain rfl : fn = Tryz.f8 := (Option.some.inj (Tryz.func8.symm.trans hfn)).symm
 refine ⟨by kernel_rfl, fun j t ht => ?_⟩
 rw [Tryz.params8] at ht
 have hm := Array.mem_of_getElem? ht
 simp only [List.mem_toArray, List.mem_cons, List.not_mem_nil, or_false] at hm
 rcases hm with rfl
 all_goals first | exact (show Tryz.prog.wantsStandIn 25 = false by kernel_rfl)
set_option maxRecDepth 100000 in
theorem proved : Rows.SyntaxPlacesUptoCardSaid :=
 Claim7.holds_tied_plain_at .later [] _ _ _ _ said (fun _ h => by cases h) (by kernel_rfl) (fun _ h => by cases h) syntaxPlacesUpto_row_tie rfl ⟨rfl, rfl⟩ (by kernel_rfl) rfl plain (by kernel_rfl)
end Go.Proofs.YtheelnhhkpkjnaaGreatDoor.LawSyntaxPlaces
