/-
  SyntaxSame answers true, and leaves its arguments as they were, for all bytes that hold together at most 1048576 values, from every memory in which the variables that the row lists hold what it says: equivalent patterns have the same steps, or the same refusal.
-/
import Derived.Test.YtheelnhhkpkjnaaGreatDoorS42
namespace Go.Proofs.YtheelnhhkpkjnaaGreatDoor.LawSyntaxSame
open Go.ChangeShapes Go.WideShapes Go.ChangeAt Go.RowKit
open Utf (Rd bys bys_len open_bytes laidOut own bulk_bound)
open Ucd (Laid)
open Rset (Ret own_form)
open Sset (St Tx txs ArgT ArgR normS none_)
open Syn
theorem argN_nil {w : World} : ArgN w none 0 [] [] := ⟨fun h => absurd rfl h, rfl, rfl, fun i h => absurd h (Nat.not_lt_zero _), by decide⟩
set_option maxHeartbeats 16000000 in
set_option maxRecDepth 100000 in
theorem walk (A : Option Addr) (a : List UInt8) (n c : Nat) (B : Option Addr) (b : List UInt8) (m d : Nat) (w : World) (hL : Laid w) (hr : Rd w w.heap.size A (bys a)) (hn : a.length = n) (hc : n ≤ c) (hcm : c ≤ 9223372036854775807)
    (hs : Rd w w.heap.size B (bys b)) (hm : b.length = m) (hd : m ≤ d) (hdm : d ≤ 9223372036854775807) (hsm : n + m ≤ 1048576) :
    Calls Tryz.prog 4 #[.slice A n c, .slice B m d] w (Ret w (.bool true)) := by
  have HF := Lib.hid (fixed_any w hL)
  have HL := Lib.hid hL
  have HR := Lib.hid hr
  have HS := Lib.hid hs
  have HN := Lib.hid hn
  have HM := Lib.hid hm
  have HC := Lib.hid hc
  have HD := Lib.hid hd
  have HRA := Lib.hid (fun (u : World) (h : Rd u u.heap.size A (bys a)) => Norm.rtext_any A a n c u h hn (by omega))
  have HRB := Lib.hid (fun (u : World) (h : Rd u u.heap.size B (bys b)) => Norm.rtext_any B b m d u h hm (by omega))
  have htl : (Norm.textF a).length ≤ 12 * n := by
    have h1 := Utf.enc_le (Norm.normal (Norm.runesF a)); have h2 := Norm.fulls_len (Norm.runesF a); have h3 := Norm.runes_len a
    rw [Seg.normal_len] at h1
    unfold Norm.textF; omega
  have HTL := Lib.hid htl
  clear hL hr hs hn hm hc hd htl
  go_enter Tryz.func4, Tryz.ntmps4
  go_wp2_with fail
  refine HF.out.mono ?_
  rintro e w1 ⟨rfl, hb1⟩
  have HB1 := Lib.hid hb1
  clear hb1 HF
  go_wp2_with fail
  refine (HRA.out w1 ((HR.out.below HB1.out).more HB1.out.size)).mono ?_
  rintro e w2 ⟨rfl, hb2⟩
  have HB2 := Lib.hid (HB1.out.trans (hb2.mono HB1.out.size))
  clear hb2
  go_wp2_with fail
  refine (HRB.out w2 ((HS.out.below HB2.out).more HB2.out.size)).mono ?_
  rintro e w3 ⟨rfl, hb3⟩
  have HB3 := Lib.hid (HB2.out.trans (hb3.mono HB2.out.size))
  clear hb3 HRB
  obtain ⟨S1, hS1⟩ : ∃ S : ByteArray, S = ⟨(Norm.textF a).toArray⟩ := ⟨_, rfl⟩
  obtain ⟨S2, hS2⟩ : ∃ S : ByteArray, S = ⟨(Norm.textF b).toArray⟩ := ⟨_, rfl⟩
  have hl1 : S1.toList = Norm.textF a := by rw [hS1, ByteArray.toList_eq]
  have hl2 : S2.toList = Norm.textF b := by rw [hS2, ByteArray.toList_eq]
  rw [← hS1] at HRA
  rw [← hS1, ← hS2]
  by_cases heq : Norm.textF a = Norm.textF b
  · have hq : (S1.toList == S2.toList) = true := by rw [hl1, hl2, heq]; exact beq_self_eq_true _
    have hq2 : (S1.toList != S2.toList) = false := by rw [bne, hq]; rfl
    have HPE := Lib.hid (parse_same theE heq).symm
    clear hS1 hS2 hl1 hl2 heq HRA
    go_wp2_with fail
    have HPA := Lib.hid (parse_any a A n c w3 (HL.out.next HB3.out) ((HR.out.below HB3.out).more HB3.out.size) HN.out HC.out hcm (by omega))
    go_wp2_with fail
    refine HPA.out.mono ?_
    rintro e wa ha
    have hpb := HPE.out
    generalize hx : parseF theE a = x at ha hpb
    have hba : Below w3.heap.size w3 wa := by
      cases x with
      | ok L => exact ha.2
      | error q => exact ha.2
    have HBA := Lib.hid (HB3.out.trans (hba.mono HB3.out.size))
    have HPB := Lib.hid (parse_any b B m d wa (HL.out.next HBA.out) ((HS.out.below HBA.out).more HBA.out.size) HM.out HD.out hdm (by omega))
    rw [hpb] at HPB
    clear HPA hpb
    cases x with
    | ok L =>
      obtain ⟨⟨v, rfl, hok⟩, hb⟩ := ha
      obtain ⟨A1, n1, c1, V1, rfl, hn1, hg1⟩ := got_of hx hok
      have HG1 := Lib.hid hg1
      clear hok hg1 hb hba
      go_wp2_with fail
      refine HPB.out.mono ?_
      rintro e wb ⟨⟨v, rfl, hok⟩, hb⟩
      obtain ⟨A2, n2, c2, V2, rfl, hn2, hg2⟩ := got_of hx hok
      obtain rfl : n1 = n2 := hn1.symm.trans hn2
      have HBB := Lib.hid (HBA.out.trans (hb.mono HBA.out.size))
      have HSM := Lib.hid (rnsame_any A1 A2 V1 V2 L L n1 n1 c1 c2 wb (HG1.out.next hb).arg hg2.arg)
      rw [decide_eq_true (rfl : L = L)] at HSM
      clear hok hg2 hb HPB hn1 hn2 hx
      go_wp2_with fail
      refine HSM.out.mono ?_
      rintro e wc ⟨rfl, hbc⟩
      have HBC := Lib.hid (HBB.out.trans (hbc.mono HBB.out.size))
      clear hbc
      go_wp2_with fail
      go_ret
      exact ⟨rfl, HBC.out⟩
    | error q =>
      obtain ⟨k, y⟩ := q
      obtain ⟨rfl, hb⟩ := ha
      clear hb hba
      go_wp2_with fail
      refine HPB.out.mono ?_
      rintro e wb ⟨rfl, hb⟩
      have HBB := Lib.hid (HBA.out.trans (hb.mono HBA.out.size))
      have HSM := Lib.hid (rnsame_any none none [] [] [] [] 0 0 0 0 wb argN_nil argN_nil)
      rw [decide_eq_true (rfl : ([] : List Nd) = [])] at HSM
      clear hb HPB hx
      have hy : ((y : Int) == (y : Int)) = true := beq_self_eq_true _
      have hk : ((k : Int) == (k : Int)) = true := beq_self_eq_true _
      obtain ⟨yi, hyi⟩ : ∃ yi : Int, yi = (y : Int) := ⟨_, rfl⟩
      obtain ⟨ki, hki⟩ : ∃ ki : Int, ki = (k : Int) := ⟨_, rfl⟩
      rw [← hyi] at hy ⊢
      rw [← hki] at hk ⊢
      clear hyi hki
      go_wp2_with fail
      refine HSM.out.mono ?_
      rintro e wc ⟨rfl, hbc⟩
      have HBC := Lib.hid (HBB.out.trans (hbc.mono HBB.out.size))
      clear hbc
      go_wp2_with fail
      go_ret
      exact ⟨rfl, HBC.out⟩
  · have hq : (S1.toList == S2.toList) = false := by rw [hl1, hl2, beq_eq_false_iff_ne]; exact heq
    have hq2 : (S1.toList != S2.toList) = true := by rw [bne, hq]; rfl
    have HPE := Lib.hid (parse_text theE a)
    have HLA := Lib.hid hl1
    clear hS1 hS2 hl1 hl2 heq
    go_wp2_with fail
    refine (HRA.out w3 ((HR.out.below HB3.out).more HB3.out.size)).mono ?_
    rintro e w4 ⟨rfl, hb4⟩
    have HB4 := Lib.hid (HB3.out.trans (hb4.mono HB3.out.size))
    clear hb4 HRA
    obtain ⟨t, ht⟩ : ∃ t, (Norm.textF a).length = t := ⟨_, rfl⟩
    obtain ⟨g, C, u, hcv, hru, hbu, hC, hCm⟩ := Sset.conv_str w4 S1 (Norm.textF a) HLA.out t ht (by have := HTL.out; omega)
    have HT := Lib.hid ht
    have HTN := Lib.hid (show t ≤ 12 * n by rw [← ht]; exact HTL.out)
    have htn := HTN.out
    have HRU := Lib.hid hru
    have HCC := Lib.hid hC
    have HBU := Lib.hid (HB4.out.trans (hbu.mono HB4.out.size))
    clear ht hru hbu hC
    go_wp2_with fail
    have HPA := Lib.hid (parse_any a A n c u (HL.out.next HBU.out) ((HR.out.below HBU.out).more HBU.out.size) HN.out HC.out hcm (by omega))
    go_wp2_with fail
    refine HPA.out.mono ?_
    rintro e wa ha
    have hpb := HPE.out
    generalize hx : parseF theE a = x at ha hpb
    have hba : Below u.heap.size u wa := by
      cases x with
      | ok L => exact ha.2
      | error q => exact ha.2
    have HBA := Lib.hid (HBU.out.trans (hba.mono HBU.out.size))
    have HPB := Lib.hid (parse_any (Norm.textF a) (some ⟨g, 0, none⟩) t C wa (HL.out.next HBA.out) ((HRU.out.below hba).more hba.size) HT.out HCC.out hCm (by omega))
    rw [hpb] at HPB
    clear HPA hpb
    cases x with
    | ok L =>
      obtain ⟨⟨v, rfl, hok⟩, hb⟩ := ha
      obtain ⟨A1, n1, c1, V1, rfl, hn1, hg1⟩ := got_of hx hok
      have HG1 := Lib.hid hg1
      clear hok hg1 hb hba
      go_wp2_with fail
      refine HPB.out.mono ?_
      rintro e wb ⟨⟨v, rfl, hok⟩, hb⟩
      obtain ⟨A2, n2, c2, V2, rfl, hn2, hg2⟩ := got_of hx hok
      obtain rfl : n1 = n2 := hn1.symm.trans hn2
      have HBB := Lib.hid (HBA.out.trans (hb.mono HBA.out.size))
      have HSM := Lib.hid (rnsame_any A1 A2 V1 V2 L L n1 n1 c1 c2 wb (HG1.out.next hb).arg hg2.arg)
      rw [decide_eq_true (rfl : L = L)] at HSM
      clear hok hg2 hb HPB hn1 hn2 hx
      go_wp2_with fail
      refine HSM.out.mono ?_
      rintro e wc ⟨rfl, hbc⟩
      have HBC := Lib.hid (HBB.out.trans (hbc.mono HBB.out.size))
      clear hbc
      go_wp2_with fail
      go_ret
      exact ⟨rfl, HBC.out⟩
    | error q =>
      obtain ⟨k, y⟩ := q
      obtain ⟨rfl, hb⟩ := ha
      clear hb hba
      go_wp2_with fail
      refine HPB.out.mono ?_
      rintro e wb ⟨rfl, hb⟩
      have HBB := Lib.hid (HBA.out.trans (hb.mono HBA.out.size))
      have HSM := Lib.hid (rnsame_any none none [] [] [] [] 0 0 0 0 wb argN_nil argN_nil)
      rw [decide_eq_true (rfl : ([] : List Nd) = [])] at HSM
      clear hb HPB hx
      have hy : ((y : Int) == (y : Int)) = true := beq_self_eq_true _
      have hk : ((k : Int) == (k : Int)) = true := beq_self_eq_true _
      obtain ⟨yi, hyi⟩ : ∃ yi : Int, yi = (y : Int) := ⟨_, rfl⟩
      obtain ⟨ki, hki⟩ : ∃ ki : Int, ki = (k : Int) := ⟨_, rfl⟩
      rw [← hyi] at hy ⊢
      rw [← hki] at hk ⊢
      clear hyi hki
      go_wp2_with fail
      refine HSM.out.mono ?_
      rintro e wc ⟨rfl, hbc⟩
      have HBC := Lib.hid (HBB.out.trans (hbc.mono HBB.out.size))
      clear hbc
      go_wp2_with fail
      go_ret
      exact ⟨rfl, HBC.out⟩
set_option maxRecDepth 100000 in
theorem contract (H : Type) (enc : TypeId × Value → H) (W : World) (base : Nat) (args : Array Value) (ds gs : List (DataW H)) (before : List MemPlace)
    (hval : ∀ (j : Nat) t v, Tryz.f4.params[j]? = some t → args[j]? = some v → Value.okWide Tryz.prog W .any base t v)
    (hW : DataW.Whole enc Tryz.prog Tryz.f4.params.toList Rows.syntaxSameSpec.vars false W args.toList ds gs before) (hLL : laidMetH Tryz.prog Rows.syntaxSameUptoRow.laid W) (hk : Rows.uptoSmall H (ds ++ gs) = true) :
    Calls Tryz.prog 4 args W fun e W' => ∃ v, e = .returned v ∧ Rows.syntaxSameSpec.post enc Tryz.prog Tryz.f4 false true false false W args v W' := by
  have hL : Laid W := laid_of hLL
  have hW' := hW
  obtain ⟨p, q, hA0, hV, rfl, hfz, hnd⟩ := hW
  have hA : DataW.TrodAll enc Tryz.prog W 0 (fun _ => true) true Tryz.f4.params.toList args.toList ds p := hA0
  rw [Tryz.params4] at hA hval
  obtain ⟨v0, vs0, d0, ds0, p0, q0, hargs, rfl, rfl, h0, r0⟩ := trodAll_cons hA
  obtain ⟨v1, vs1, d1, ds1, p1, q1, rfl, rfl, rfl, h1, r1⟩ := trodAll_cons r0
  obtain ⟨rfl, rfl, rfl⟩ := trodAll_nil r1
  obtain rfl : args = #[v0, v1] := by cases args; simp_all
  obtain ⟨rfl, rfl⟩ := trodVars_none hV
  obtain ⟨a0, len0, cap0, rfl⟩ := okWide_slice Tryz.underlying25 (hval 0 25 v0 rfl rfl)
  have k0 := h0
  have lt0 : ∀ x ∈ p0, x.block < W.heap.size := by obtain ⟨m, hm⟩ := k0; exact DataW.trod_lt m _ _ _ hm
  obtain ⟨l0, hl0, hc0, hm0, hr0, hb0⟩ := open_bytes h0
  obtain ⟨a1, len1, cap1, rfl⟩ := okWide_slice Tryz.underlying25 (hval 1 25 v1 rfl rfl)
  have k1 := h1
  have lt1 : ∀ x ∈ p1, x.block < W.heap.size := by obtain ⟨m, hm⟩ := k1; exact DataW.trod_lt m _ _ _ hm
  obtain ⟨l1, hl1, hc1, hm1, hr1, hb1⟩ := open_bytes h1
  have hbd := bulk_bound hk
  simp only [List.append_nil, Rows.uptoBulkAll] at hbd
  clear hA0
  refine (walk a0 l0 len0 cap0 a1 l1 len1 cap1 W hL hr0 hl0 hc0 hm0 hr1 hl1 hc1 hm1 (by omega)).mono fun e W' ⟨he, bel⟩ => ?_
  subst he
  exact ⟨_, rfl, _, _, _, [], _, [], hW', trodAll_mk1 (shut_bool Tryz.underlying4 _), (trodAll_cons_mk (Below.trod laidOut (by kernel_rfl) (of_decide_eq_true (by kernel_rfl)) k0 bel lt0) (trodAll_cons_mk (Below.trod laidOut (by kernel_rfl) (of_decide_eq_true (by kernel_rfl)) k1 bel lt1) trodAll_mk0)), rfl, bel.frame _, fun h => by cases h⟩
set_option maxRecDepth 100000 in
theorem laid_met (os : Os) : laidMet Tryz.prog Rows.syntaxSameUptoRow.laid ((laidWorld os).forCall (fun _ _ => 0) ⟨#[], #[.slice none 0 0, .slice none 0 0], []⟩).memory :=
  Syn.laid_met os _
set_option maxRecDepth 100000 in
theorem reads (os : Os) {H : Type} (enc : TypeId × Value → H) : ∃ places, DataW.whole enc Tryz.prog ((laidWorld os).forCall (fun _ _ => 0) ⟨#[], #[.slice none 0 0, .slice none 0 0], []⟩).memory Tryz.f4.params.toList Rows.syntaxSameSpec.vars false (#[.slice none 0 0, .slice none 0 0] : Array Value).toList 8 = some ([.nil, .nil], [], places) :=
  ⟨[], by kernel_rfl⟩
set_option maxRecDepth 100000 in
theorem lifted (os : Os) (started : os.Started) (H : Type) (enc : TypeId × Value → H) (F : Stop.Interp) :
    ReturnsInHanded {} Tryz.checked os 4 .any ((Rows.OpenSpec.upto Rows.syntaxSameSpec).preRow enc Tryz.prog Tryz.f4 Rows.syntaxSameUptoRow.domain false Rows.syntaxSameUptoRow.laid) (((Rows.OpenSpec.upto Rows.syntaxSameSpec).at F).post enc Tryz.prog Tryz.f4 false true false false) := by
  obtain ⟨places, hx⟩ := reads os enc
  refine returnsInHanded_of_row (C := Tryz.checked) (s := Rows.OpenSpec.upto Rows.syntaxSameSpec) own started (by kernel_rfl) Tryz.func4
    (witness_row_shaped (enc := enc) (C := Tryz.checked) false (laidWorld os) #[.slice none 0 0, .slice none 0 0] (World.laidAll_os _ _ _) (World.shaped_of_ZipB (by kernel_rfl) (by kernel_rfl)) (by kernel_rfl)
      (OpenSpec.preRow_of_cond 8 hx (by kernel_rfl) (fun k hk => by cases hk; kernel_rfl) (by kernel_rfl) (laid_met os))) ?_
  intro W base args ds gs before hval hW _ hcond _ hL _ _
  exact contract H enc W base args ds gs before hval hW hL (hcond _ rfl)
set_option maxRecDepth 100000 in
theorem said : Rows.SyntaxSameUptoSaid :=
  OpenClaim.holds_of_cond 4 Tryz.f4 rfl rfl rfl rfl rfl rfl rfl ⟨rfl, rfl, rfl, rfl, rfl⟩ rfl rfl rfl rfl rfl (by kernel_rfl) Tryz.func4 (by kernel_rfl)
    (of_decide_eq_true (by kernel_rfl)) (by unfold Func.isWrapper; first | (rw [if_pos (by decide +kernel)]; kernel_rfl) | (rw [if_neg (by decide +kernel)]; exact ⟨rfl, rfl⟩))
    (fun os started H enc _ F => by rw [OpenClaim.pre_eq_preRow]; exact lifted os started H enc F)
set_option maxRecDepth 100000 in
/-- no parameter wants a stand-in; the program's own looks are off -/
theorem plain (f : FuncId) (fn : Func) (hf : Tryz.pinned.checked.prog.funcNamed Rows.syntaxSameUptoRow.func = some f) (hfn : Tryz.pinned.checked.prog.funcs[f]? = some fn) :
    true = Tryz.pinned.checked.prog.looks [] ∧ ∀ (j : Nat) t, fn.params[j]? = some t → Tryz.pinned.checked.prog.wantsStandIn t = false := by
  obtain rfl : f = 4 := Option.some.inj ((show Tryz.prog.funcNamed Rows.syntaxSameUptoRow.func = some 4 by kernel_rfl).symm.trans hf) |>.symm
  obtain rfl : fn = Tryz.f4 := (Option.some.inj (Tryz.func4.symm.trans hfn)).symm
  refine ⟨by kernel_rfl, fun j t ht => ?_⟩
  rw [Tryz.params4] at ht
  have hm := Array.mem_of_getElem? ht
  simp only [List.mem_toArray, List.mem_cons, List.not_mem_nil, or_false] at hm
  rcases hm with rfl | rfl
  all_goals first | exact (show Tryz.prog.wantsStandIn 25 = false by kernel_rfl)
set_option maxRecDepth 100000 in
/-- THE STATEMENT -/
theorem proved : Rows.SyntaxSameUptoCardSaid :=
  Claim7.holds_tied_plain_at .later [] _ _ _ _ said (fun _ h => by cases h) (by kernel_rfl) (fun _ h => by cases h) syntaxSameUpto_row_tie rfl ⟨rfl, rfl⟩ (by kernel_rfl) rfl plain (by kernel_rfl)
end Go.Proofs.YtheelnhhkpkjnaaGreatDoor.LawSyntaxSame
