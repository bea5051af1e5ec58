/-
  Whatever bytes there are: a text's key is what the document says, its own, that of its normal form, and in normal form; two texts are the same just where their keys are; equivalent ones are. Conditions: the arguments hold at most 1048576 values; the package's tables are laid as the program's text lays them (tied).
-/
import Derived.Deep.SlicePairs
import Derived.Test.YtdngaddggcmjgaaDoorW21
import Derived.Test.YtdngaddggcmjgaaDoorW22
import Derived.Test.YtdngaddggcmjgaaDoorW23
import Derived.Test.YtdngaddggcmjgaaDoorW24
namespace Go.Proofs.YtdngaddggcmjgaaDoor.LawWordsKeys
open Go.ChangeShapes Go.WideShapes Go.ChangeAt Go.RowKit
open Utf hiding infoI32 rd_new own_form own_below rdec_any below_drewN new_any write_any close_any infoU8
open Ucd hiding grow same Told grp
open Norm hiding new_any write_any close_any
open Seg
open Words
set_option maxHeartbeats 8000000 in
set_option maxRecDepth 100000 in
theorem walk (A:Option Addr) (a:List UInt8) (n c:Nat) (B:Option Addr) (b:List UInt8) (m d:Nat) (w:World) (hL:Laid w) (hra:Rd w w.heap.size A (bys a)) (hn:a.length=n) (hc:n≤c) (hcm:c≤9223372036854775807)
  (hrb:Rd w w.heap.size B (bys b)) (hm:b.length=m) (hd:m≤d) (hdm:d≤9223372036854775807) (hsn:n≤1048576) (hsm:m≤1048576) :
  Calls Tryd.prog 3 #[.slice A n c,.slice B m d] w (Law w):=by
 have HF:=Lib.hid (fixed_any w hL)
 have HL:=Lib.hid hL
 have HRA:=Lib.hid hra
 have HRB:=Lib.hid hrb
 have hka:=key_room (l:=a) (by omega)
 have hkb:=key_room (l:=b) (by omega)
 have hkl:=key_len a
 have htl:=text_len a
 obtain ⟨KS,hKS⟩:∃KS:ByteArray,KS=⟨(keyF a).toArray⟩:=⟨_,rfl⟩
 obtain ⟨KB,hKB⟩:∃KB:ByteArray,KB=⟨(keyF b).toArray⟩:=⟨_,rfl⟩
 obtain ⟨TS,hTS⟩:∃TS:ByteArray,TS=⟨(textF a).toArray⟩:=⟨_,rfl⟩
 obtain ⟨TB,hTB⟩:∃TB:ByteArray,TB=⟨(textF b).toArray⟩:=⟨_,rfl⟩
 obtain ⟨kl,hkn⟩:∃kl,(keyF a).length=kl:=⟨_,rfl⟩
 obtain ⟨tl,htn⟩:∃tl,(textF a).length=tl:=⟨_,rfl⟩
 rw [hkn,hn] at hkl
 rw [htn,hn] at htl
 have HKL:=Lib.hid (show KS.data.toList=keyF a by rw [hKS])
 have HTL:=Lib.hid (show TS.data.toList=textF a by rw [hTS])
 have HKN:=Lib.hid hkn
 have HTN:=Lib.hid htn
 have H1:=Lib.hid (fun (u:World) (hu:Laid u) (h:Rd u u.heap.size A (bys a))=>key_any A a n c u hu h hn hc hcm (by omega) hka)
 have H2:=Lib.hid (fun (u:World) (h:Rd u u.heap.size A (bys a))=>rkey_any A a n c u h hn (by omega) hka)
 have H3:=Lib.hid (fun (A:Option Addr) (c:Nat) (u:World) (hu:Laid u) (h:Rd u u.heap.size A (bys (keyF a))) (hc:kl≤c) (hcm:c≤9223372036854775807)=>key_any A (keyF a) kl c u hu h hkn hc hcm (by omega) (key_room (by omega)))
 have H4:=Lib.hid (fun (u:World) (h:Rd u u.heap.size A (bys a))=>rtext_any A a n c u h hn (by omega))
 have H5:=Lib.hid (fun (A:Option Addr) (c:Nat) (u:World) (hu:Laid u) (h:Rd u u.heap.size A (bys (textF a))) (hc:tl≤c) (hcm:c≤9223372036854775807)=>key_any A (textF a) tl c u hu h htn hc hcm (by omega) (key_room (by omega)))
 have H6:=Lib.hid (fun (A:Option Addr) (c:Nat) (u:World) (h:Rd u u.heap.size A (bys (keyF a)))=>rtext_any A (keyF a) kl c u h hkn (by omega))
 have H7:=Lib.hid (fun (u:World) (hu:Laid u) (h:Rd u u.heap.size A (bys a)) (h2:Rd u u.heap.size B (bys b))=>wsame_any a b A B n c m d u hu h h2 hn hc hcm hm hd hdm (by omega) (by omega) hka hkb)
 have H8:=Lib.hid (fun (u:World) (h:Rd u u.heap.size B (bys b))=>rkey_any B b m d u h hm (by omega) hkb)
 have H9:=Lib.hid (fun (u:World) (h:Rd u u.heap.size B (bys b))=>rtext_any B b m d u h hm (by omega))
 simp only [key_key,key_text,text_key,←hKS,←hKB,←hTS,←hTB] at H1 H2 H3 H4 H5 H6 H8 H9
 have hkk:(KS.toList == KS.toList)=true:=by simp
 have hsb:(KS.toList == KB.toList)=decide (keyF a=keyF b):=by
  rw [hKS,hKB,bytes_list,bytes_list,Bool.eq_iff_iff,beq_iff_eq,decide_eq_true_eq]
 have HTT:=Lib.hid (show textF a=textF b∨(TS.toList == TB.toList)=false by
  by_cases h:textF a=textF b
  ·exact .inl h
  ·exact .inr (by rw [hTS,hTB,bytes_list,bytes_list,beq_eq_false_iff_ne];exact h))
 have HTE:=Lib.hid (fun h:textF a=textF b=>(show (TS.toList == TB.toList)=true by rw [hTS,hTB,h];simp))
 obtain ⟨z,hz⟩:∃z,z=decide (keyF a=keyF b):=⟨_,rfl⟩
 rw [←hz] at hsb H7
 have HZE:=Lib.hid (fun h:textF a=textF b=>(show z=true by rw [hz];exact decide_eq_true (key_eq h)))
 have hzz:(z == z)=true:=by simp
 clear hL hra hrb hn hm hka hkb hKS hKB hTS hTB hkn htn hz
 go_enter Tryd.func3,Tryd.ntmps3
 go_wp2_with fail
 refine HF.out.mono ?_
 rintro e w1 ⟨rfl,hb1⟩
 have HB1:=Lib.hid hb1
 clear hb1 HF
 go_wp2_with fail
 refine (H1.out w1 (HL.out.next HB1.out) ((HRA.out.below HB1.out).more HB1.out.size)).mono ?_
 rintro e w2 ⟨rfl,hb2⟩
 have HB2:=Lib.hid (HB1.out.trans (hb2.mono HB1.out.size))
 clear hb2 H1
 go_wp2_with fail
 refine (H2.out w2 ((HRA.out.below HB2.out).more HB2.out.size)).mono ?_
 rintro e w3 ⟨rfl,hb3⟩
 have HB3:=Lib.hid (HB2.out.trans (hb3.mono HB2.out.size))
 obtain ⟨g4,C4,W4,hcv,hrd4,hbl4,hC4,hC4',_⟩:=conv_str w3 KS (keyF a) HKL.out kl HKN.out (by omega)
 have HB4:=Lib.hid (HB3.out.trans (hbl4.mono HB3.out.size))
 have HR4:=Lib.hid hrd4
 clear hb3 H2 hrd4 hbl4
 go_wp2_with fail
 refine (H3.out _ C4 W4 (HL.out.next HB4.out) HR4.out hC4 hC4').mono ?_
 rintro e w5 ⟨rfl,hb5⟩
 have HB5:=Lib.hid (HB4.out.trans (hb5.mono HB4.out.size))
 clear hb5 H3 hcv HR4
 go_wp2_with fail
 refine (H4.out w5 ((HRA.out.below HB5.out).more HB5.out.size)).mono ?_
 rintro e w6 ⟨rfl,hb6⟩
 have HB6:=Lib.hid (HB5.out.trans (hb6.mono HB5.out.size))
 obtain ⟨g7,C7,W7,hcv,hrd7,hbl7,hC7,hC7',_⟩:=conv_str w6 TS (textF a) HTL.out tl HTN.out (by omega)
 have HB7:=Lib.hid (HB6.out.trans (hbl7.mono HB6.out.size))
 have HR7:=Lib.hid hrd7
 clear hb6 hrd7 hbl7
 go_wp2_with fail
 refine (H5.out _ C7 W7 (HL.out.next HB7.out) HR7.out hC7 hC7').mono ?_
 rintro e w8 ⟨rfl,hb8⟩
 have HB8:=Lib.hid (HB7.out.trans (hb8.mono HB7.out.size))
 obtain ⟨g9,C9,W9,hcv9,hrd9,hbl9,hC9,hC9',_⟩:=conv_str w8 KS (keyF a) HKL.out kl HKN.out (by omega)
 have HB9:=Lib.hid (HB8.out.trans (hbl9.mono HB8.out.size))
 have HR9:=Lib.hid hrd9
 clear hb8 H5 hcv HR7 hrd9 hbl9
 go_wp2_with fail
 refine (H6.out _ C9 W9 HR9.out).mono ?_
 rintro e w10 ⟨rfl,hb10⟩
 have HB10:=Lib.hid (HB9.out.trans (hb10.mono HB9.out.size))
 clear hb10 H6 hcv9 HR9
 go_wp2_with fail
 refine (H7.out w10 (HL.out.next HB10.out) ((HRA.out.below HB10.out).more HB10.out.size) ((HRB.out.below HB10.out).more HB10.out.size)).mono ?_
 rintro e w11 ⟨rfl,hb11⟩
 have HB11:=Lib.hid (HB10.out.trans (hb11.mono HB10.out.size))
 clear hb11
 go_wp2_with fail
 refine (H8.out w11 ((HRB.out.below HB11.out).more HB11.out.size)).mono ?_
 rintro e w12 ⟨rfl,hb12⟩
 have HB12:=Lib.hid (HB11.out.trans (hb12.mono HB11.out.size))
 clear hb12 H8
 go_wp2_with fail
 refine (H4.out w12 ((HRA.out.below HB12.out).more HB12.out.size)).mono ?_
 rintro e w13 ⟨rfl,hb13⟩
 have HB13:=Lib.hid (HB12.out.trans (hb13.mono HB12.out.size))
 clear hb13 H4
 go_wp2_with fail
 refine (H9.out w13 ((HRB.out.below HB13.out).more HB13.out.size)).mono ?_
 rintro e w14 ⟨rfl,hb14⟩
 have HB14:=Lib.hid (HB13.out.trans (hb14.mono HB13.out.size))
 clear hb14 H9
 rcases HTT.out with ht | ht
 ·have hte:=HTE.out ht
  have hze:=HZE.out ht
  subst hze
  clear ht HTT HTE HZE
  go_wp2_with fail
  refine (H7.out w14 (HL.out.next HB14.out) ((HRA.out.below HB14.out).more HB14.out.size) ((HRB.out.below HB14.out).more HB14.out.size)).mono ?_
  rintro e w15 ⟨rfl,hb15⟩
  have HB15:=Lib.hid (HB14.out.trans (hb15.mono HB14.out.size))
  clear hb15 H7
  go_wp2_with fail
  go_ret
  exact ⟨rfl,HB15.out⟩
 ·clear HTT HTE HZE H7
  go_wp2_with fail
  go_ret
  exact ⟨rfl,HB14.out⟩
set_option maxRecDepth 100000 in
theorem contract (H:Type) (enc:TypeId × Value→H) (W:World) (base:Nat) (args:Array Value) (ds gs:List (DataW H)) (before:List MemPlace)
  (hval:∀(j:Nat) t v,Tryd.f3.params[j]? = some t→args[j]? = some v→Value.okWide Tryd.prog W .any base t v)
  (hW:DataW.Whole enc Tryd.prog Tryd.f3.params.toList Rows.wordsKeysSpec.vars false W args.toList ds gs before) (hLL:laidMetH Tryd.prog Rows.wordsKeysUptoRow.laid W) (hk:Rows.uptoSmall H (ds++gs)=true) :
  Calls Tryd.prog 3 args W fun e W'=>∃v,e=.returned v∧Rows.wordsKeysSpec.post enc Tryd.prog Tryd.f3 false true false false W args v W':=by
 have hL:Laid W:=laid_of hLL
 have hW':=hW
 obtain ⟨p,q,hA0,hV,rfl,hfz,hnd⟩:=hW
 have hA:DataW.TrodAll enc Tryd.prog W 0 (fun _=>true) true Tryd.f3.params.toList args.toList ds p:=hA0
 rw [Tryd.params3] at hA hval
 obtain ⟨v0,vs0,d0,ds0,p0,q0,hargs,rfl,rfl,h0,r0⟩:=trodAll_cons hA
 obtain ⟨v1,vs1,d1,ds1,p1,q1,rfl,rfl,rfl,h1,r1⟩:=trodAll_cons r0
 obtain ⟨rfl,rfl,rfl⟩:=trodAll_nil r1
 obtain rfl:args=#[v0,v1]:=by cases args;simp_all
 obtain ⟨rfl,rfl⟩:=trodVars_none hV
 obtain ⟨a0,len0,cap0,rfl⟩:=okWide_slice Tryd.underlying22 (hval 0 22 v0 rfl rfl)
 have k0:=h0
 have lt0:∀x∈p0,x.block < W.heap.size:=by obtain ⟨m,hm⟩:=k0;exact DataW.trod_lt m _ _ _ hm
 obtain ⟨l0,hl0,hc0,hm0,hr0,hb0⟩:=open_bytes h0
 obtain ⟨a1,len1,cap1,rfl⟩:=okWide_slice Tryd.underlying22 (hval 1 22 v1 rfl rfl)
 have k1:=h1
 have lt1:∀x∈p1,x.block < W.heap.size:=by obtain ⟨m,hm⟩:=k1;exact DataW.trod_lt m _ _ _ hm
 obtain ⟨l1,hl1,hc1,hm1,hr1,hb1⟩:=open_bytes h1
 have hbd:=bulk_bound hk
 simp only [List.append_nil,Rows.uptoBulkAll] at hbd
 clear hA0
 refine (walk a0 l0 len0 cap0 a1 l1 len1 cap1 W hL hr0 hl0 hc0 hm0 hr1 hl1 hc1 hm1 (by omega) (by omega)).mono fun e W' ⟨he,bel⟩=>?_
 subst he
 exact ⟨_,rfl,_,_,_,[],_,[],hW',trodAll_mk1 (shut_bool Tryd.underlying4 _),(trodAll_cons_mk (Below.trod laidOut (by kernel_rfl) (of_decide_eq_true (by kernel_rfl)) k0 bel lt0) (trodAll_cons_mk (Below.trod laidOut (by kernel_rfl) (of_decide_eq_true (by kernel_rfl)) k1 bel lt1) trodAll_mk0)),rfl,bel.frame _,fun h=>by cases h⟩
set_option maxRecDepth 100000 in
theorem laid_met (os:Os):laidMet Tryd.prog Rows.wordsKeysUptoRow.laid ((laidWorld os).forCall (fun _ _=>0) ⟨#[],#[.slice none 0 0,.slice none 0 0],[]⟩).memory :=
 laidMet_of_run' 8 (by kernel_rfl) (by kernel_rfl)
set_option maxRecDepth 100000 in
theorem reads (os:Os) {H:Type} (enc:TypeId × Value→H):∃places,DataW.whole enc Tryd.prog ((laidWorld os).forCall (fun _ _=>0) ⟨#[],#[.slice none 0 0,.slice none 0 0],[]⟩).memory Tryd.f3.params.toList Rows.wordsKeysSpec.vars false (#[.slice none 0 0,.slice none 0 0]:Array Value).toList 8=some ([.nil,.nil],[],places) :=
 ⟨[],by kernel_rfl⟩
set_option maxRecDepth 100000 in
theorem lifted (os:Os) (started:os.Started) (H:Type) (enc:TypeId × Value→H) (F:Stop.Interp) :
  ReturnsInHanded {} Tryd.checked os 3 .any ((Rows.OpenSpec.upto Rows.wordsKeysSpec).preRow enc Tryd.prog Tryd.f3 Rows.wordsKeysUptoRow.domain false Rows.wordsKeysUptoRow.laid) (((Rows.OpenSpec.upto Rows.wordsKeysSpec).at F).post enc Tryd.prog Tryd.f3 false true false false):=by
 obtain ⟨places,hx⟩:=reads os enc
 refine returnsInHanded_of_row (C:=Tryd.checked) (s:=Rows.OpenSpec.upto Rows.wordsKeysSpec) own started (by kernel_rfl) Tryd.func3
  (witness_row_at (enc:=enc) (C:=Tryd.checked) false (laidWorld os) #[.slice none 0 0,.slice none 0 0] rfl (by kernel_rfl) (by kernel_rfl) (by kernel_rfl)
   (OpenSpec.preRow_of_cond 8 hx (by kernel_rfl) (fun k hk=>by cases hk;kernel_rfl) (by kernel_rfl) (laid_met os))) ?_
 intro W base args ds gs before hval hW _ hcond _ hL _ _
 exact contract H enc W base args ds gs before hval hW hL (hcond _ rfl)
set_option maxRecDepth 100000 in
theorem said:Rows.WordsKeysUptoSaid :=
 OpenClaim.holds_of_cond 3 Tryd.f3 rfl rfl rfl rfl rfl rfl rfl ⟨rfl,rfl,rfl,rfl,rfl⟩ rfl rfl rfl rfl rfl (by kernel_rfl) Tryd.func3 (by kernel_rfl)
  (of_decide_eq_true (by kernel_rfl)) (by unfold Func.isWrapper;first | (rw [if_pos (by decide +kernel)];kernel_rfl) | (rw [if_neg (by decide +kernel)];exact ⟨rfl,rfl⟩))
  (fun os started H enc _ F=>by rw [OpenClaim.pre_eq_preRow];exact lifted os started H enc F)
set_option maxRecDepth 100000 in
theorem plain (f:FuncId) (fn:Func) (hf:Tryd.pinned.checked.prog.funcNamed Rows.wordsKeysUptoRow.func=some f) (hfn:Tryd.pinned.checked.prog.funcs[f]? = some fn) :
  false=Tryd.pinned.checked.prog.looks []∧∀(j:Nat) t,fn.params[j]? = some t→Tryd.pinned.checked.prog.wantsStandIn t=false:=by
 obtain rfl:f=3:=Option.some.inj ((show Tryd.prog.funcNamed Rows.wordsKeysUptoRow.func=some 3 by kernel_rfl).symm.trans hf) |>.symm
 obtain rfl:fn=Tryd.f3:=(Option.some.inj (Tryd.func3.symm.trans hfn)).symm
 refine ⟨by kernel_rfl,fun j t ht=>?_⟩
 rw [Tryd.params3] at ht
 have hm:=Array.mem_of_getElem? ht
 simp only [List.mem_toArray,List.mem_cons,List.not_mem_nil,or_false] at hm
 rcases hm with rfl | rfl
 all_goals first | exact (show Tryd.prog.wantsStandIn 22=false by kernel_rfl)
set_option maxRecDepth 100000 in
theorem proved:Rows.WordsKeysUptoCardSaid :=
 Claim7.holds_tied_plain_at .later [] _ _ _ _ said (fun _ h=>by cases h) (by kernel_rfl) (fun _ h=>by cases h) wordsKeysUpto_row_tie rfl ⟨rfl,rfl⟩ (by kernel_rfl) rfl plain (by kernel_rfl)
end Go.Proofs.YtdngaddggcmjgaaDoor.LawWordsKeys
