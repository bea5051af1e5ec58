/-
  Whatever list of segments there is: its words are what the document says. Conditions: the argument holds at most 1048576 values; the package's tables are laid as the program's text lays them (tied).
-/
import Derived.Test.YtdngaddggcmjgaaGreatDoorT21
import Derived.Test.YtdngaddggcmjgaaGreatDoorT24
import Derived.Test.YtdngaddggcmjgaaGreatDoorT25
import Derived.Test.YtdngaddggcmjgaaGreatDoorT26
namespace Go.Proofs.YtdngaddggcmjgaaGreatDoor.LawWordsJoins
open Go.ChangeShapes Go.WideShapes Go.ChangeAt Go.RowKit
open Utf hiding infoI32 rd_new own_form own_below rdec_any below_drewN new_any write_any close_any infoU8
open Ucd hiding grow same Told grp
open Norm hiding new_any write_any close_any
open Seg
open Words
set_option maxHeartbeats 8000000 in
set_option maxRecDepth 100000 in
theorem walk (A:Option Addr) (l:List Sx) (n c:Nat) (w:World) (hL:Laid w) (hr:Rd w w.heap.size A (sxs l)) (hn:l.length=n) (hc:n≤c) (hcm:c≤9223372036854775807) (hsm:n≤1048576) (ht:total l≤1048576) :
  Calls Tryz.prog 4 #[.slice A n c] w (Law w):=by
 have HF:=Lib.hid (fixed_any w hL)
 have HL:=Lib.hid hL
 have HR:=Lib.hid hr
 have H1:=Lib.hid (fun (u:World) (hu:Laid u) (h:Rd u u.heap.size A (sxs l))=>join_any A l n c u hu h hn hc hcm (by omega) (by omega))
 have H2:=Lib.hid (fun (u:World) (h:Rd u u.heap.size A (sxs l))=>rjoin_any A l n c u h hn (by omega) (by omega))
 have hwl:(joinF l).length≤n:=by rw [←hn];exact join_le l
 generalize joinF l=S at H1 H2 hwl
 obtain ⟨sl,hsl⟩:∃sl,sl=S.length:=⟨_,rfl⟩
 rw [←hsl] at hwl
 have HSL:=Lib.hid hsl
 have HSS:=Lib.hid (show sameW S S=true from decide_eq_true rfl)
 clear hL hr hn hc hsl
 go_enter Tryz.func4,Tryz.ntmps4
 go_wp2_with fail
 refine HF.out.mono ?_
 rintro e w1 ⟨rfl,hb1⟩
 have HB1:=Lib.hid hb1
 clear hb1 HF
 go_wp2_with fail
 refine (H1.out w1 (HL.out.next HB1.out) ((HR.out.below HB1.out).more HB1.out.size)).mono ?_
 rintro e w2 ⟨v2,rfl,ho2,hb2⟩
 rw [←HSL.out] at ho2
 obtain ⟨A2,c2,rfl,_,_,hr2⟩:=own_form ho2
 have HB2:=Lib.hid (HB1.out.trans (hb2.mono HB1.out.size))
 have HR2:=Lib.hid hr2
 clear ho2 hr2 hb2 H1
 go_wp2_with fail
 refine (H2.out w2 ((HR.out.below HB2.out).more HB2.out.size)).mono ?_
 rintro e w3 ⟨v3,rfl,ho3,hb3⟩
 rw [←HSL.out] at ho3
 obtain ⟨A3,c3,rfl,_,_,hr3⟩:=own_form ho3
 have HB3:=Lib.hid (HB2.out.trans (hb3.mono HB2.out.size))
 have HR3:=Lib.hid hr3
 have HR23:=Lib.hid ((HR2.out.below hb3).more hb3.size)
 clear ho3 hr3 hb3 H2
 go_wp2_with fail
 refine (rsameW_any A2 A3 S S sl sl c2 c3 w3 HR23.out HR3.out HSL.out.symm HSL.out.symm (by omega) (by omega)).mono ?_
 rintro e w4 ⟨rfl,k4,hw4⟩
 have HB4:=Lib.hid (show Below w.heap.size w w4 by rw [hw4];exact below_drewN HB3.out k4)
 rw [HSS.out]
 clear hw4 HR2 HR3 HR23
 go_wp2_with fail
 go_ret
 exact ⟨rfl,HB4.out⟩
set_option maxRecDepth 100000 in
theorem contract (H:Type) (enc:TypeId × Value→H) (W:World) (base:Nat) (args:Array Value) (ds gs:List (DataW H)) (before:List MemPlace)
  (hval:∀(j:Nat) t v,Tryz.f4.params[j]? = some t→args[j]? = some v→Value.okWide Tryz.prog W .any base t v)
  (hW:DataW.Whole enc Tryz.prog Tryz.f4.params.toList Rows.wordsJoinsSpec.vars false W args.toList ds gs before) (hLL:laidMetH Tryz.prog Rows.wordsJoinsUptoRow.laid W) (hk:Rows.uptoSmall H (ds++gs)=true) :
  Calls Tryz.prog 4 args W fun e W'=>∃v,e=.returned v∧Rows.wordsJoinsSpec.post enc Tryz.prog Tryz.f4 false true false false W args v W':=by
 have hL:Laid W:=laid_of hLL
 have hW':=hW
 obtain ⟨p,q,hA0,hV,rfl,hfz,hnd⟩:=hW
 have hA:DataW.TrodAll enc Tryz.prog W 0 (fun _=>true) true Tryz.f4.params.toList args.toList ds p:=hA0
 rw [Tryz.params4] at hA hval
 obtain ⟨v0,vs0,d0,ds0,p0,q0,hargs,rfl,rfl,h0,r0⟩:=trodAll_cons hA
 obtain ⟨rfl,rfl,rfl⟩:=trodAll_nil r0
 obtain rfl:args=#[v0]:=by cases args;simp_all
 obtain ⟨rfl,rfl⟩:=trodVars_none hV
 obtain ⟨a0,len0,cap0,rfl⟩:=okWide_slice Tryz.underlying30 (hval 0 30 v0 rfl rfl)
 have k0:=h0
 have lt0:∀x∈p0,x.block < W.heap.size:=by obtain ⟨m,hm⟩:=k0;exact DataW.trod_lt m _ _ _ hm
 obtain ⟨l0,hl0,hc0,hm0,hr0,hw0,ht0,hb0⟩:=open_segs h0
 have hbd:=bulk_bound hk
 simp only [List.append_nil,Rows.uptoBulkAll] at hbd
 clear hA0
 refine (walk a0 l0 len0 cap0 W hL hr0 hl0 hc0 hm0 (by omega) (by omega)).mono fun e W' ⟨he,bel⟩=>?_
 subst he
 exact ⟨_,rfl,_,_,_,[],_,[],hW',trodAll_mk1 (shut_bool Tryz.underlying4 _),(trodAll_cons_mk (Below.trod laidOut (by kernel_rfl) (of_decide_eq_true (by kernel_rfl)) k0 bel lt0) trodAll_mk0),rfl,bel.frame _,fun h=>by cases h⟩
set_option maxRecDepth 100000 in
theorem laid_met (os:Os):laidMet Tryz.prog Rows.wordsJoinsUptoRow.laid ((laidWorld os).forCall (fun _ _=>0) ⟨#[],#[.slice none 0 0],[]⟩).memory :=
 laidMet_of_run' 8 (by kernel_rfl) (by kernel_rfl)
set_option maxRecDepth 100000 in
theorem reads (os:Os) {H:Type} (enc:TypeId × Value→H):∃places,DataW.whole enc Tryz.prog ((laidWorld os).forCall (fun _ _=>0) ⟨#[],#[.slice none 0 0],[]⟩).memory Tryz.f4.params.toList Rows.wordsJoinsSpec.vars false (#[.slice none 0 0]:Array Value).toList 8=some ([.nil],[],places) :=
 ⟨[],by kernel_rfl⟩
set_option maxRecDepth 100000 in
theorem lifted (os:Os) (started:os.Started) (H:Type) (enc:TypeId × Value→H) (F:Stop.Interp) :
  ReturnsInHanded {} Tryz.checked os 4 .any ((Rows.OpenSpec.upto Rows.wordsJoinsSpec).preRow enc Tryz.prog Tryz.f4 Rows.wordsJoinsUptoRow.domain false Rows.wordsJoinsUptoRow.laid) (((Rows.OpenSpec.upto Rows.wordsJoinsSpec).at F).post enc Tryz.prog Tryz.f4 false true false false):=by
 obtain ⟨places,hx⟩:=reads os enc
 refine returnsInHanded_of_row (C:=Tryz.checked) (s:=Rows.OpenSpec.upto Rows.wordsJoinsSpec) own started (by kernel_rfl) Tryz.func4
  (witness_row_at (enc:=enc) (C:=Tryz.checked) false (laidWorld os) #[.slice none 0 0] rfl (by kernel_rfl) (by kernel_rfl) (by kernel_rfl)
   (OpenSpec.preRow_of_cond 8 hx (by kernel_rfl) (fun k hk=>by cases hk;kernel_rfl) (by kernel_rfl) (laid_met os))) ?_
 intro W base args ds gs before hval hW _ hcond _ hL _ _
 exact contract H enc W base args ds gs before hval hW hL (hcond _ rfl)
set_option maxRecDepth 100000 in
theorem said:Rows.WordsJoinsUptoSaid :=
 OpenClaim.holds_of_cond 4 Tryz.f4 rfl rfl rfl rfl rfl rfl rfl ⟨rfl,rfl,rfl,rfl,rfl⟩ rfl rfl rfl rfl rfl (by kernel_rfl) Tryz.func4 (by kernel_rfl)
  (of_decide_eq_true (by kernel_rfl)) (by unfold Func.isWrapper;first | (rw [if_pos (by decide +kernel)];kernel_rfl) | (rw [if_neg (by decide +kernel)];exact ⟨rfl,rfl⟩))
  (fun os started H enc _ F=>by rw [OpenClaim.pre_eq_preRow];exact lifted os started H enc F)
set_option maxRecDepth 100000 in
theorem plain (f:FuncId) (fn:Func) (hf:Tryz.pinned.checked.prog.funcNamed Rows.wordsJoinsUptoRow.func=some f) (hfn:Tryz.pinned.checked.prog.funcs[f]? = some fn) :
  false=Tryz.pinned.checked.prog.looks []∧∀(j:Nat) t,fn.params[j]? = some t→Tryz.pinned.checked.prog.wantsStandIn t=false:=by
 obtain rfl:f=4:=Option.some.inj ((show Tryz.prog.funcNamed Rows.wordsJoinsUptoRow.func=some 4 by kernel_rfl).symm.trans hf) |>.symm
 obtain rfl:fn=Tryz.f4:=(Option.some.inj (Tryz.func4.symm.trans hfn)).symm
 refine ⟨by kernel_rfl,fun j t ht=>?_⟩
 rw [Tryz.params4] at ht
 have hm:=Array.mem_of_getElem? ht
 simp only [List.mem_toArray,List.mem_cons,List.not_mem_nil,or_false] at hm
 rcases hm with rfl
 all_goals first | exact (show Tryz.prog.wantsStandIn 30=false by kernel_rfl)
set_option maxRecDepth 100000 in
theorem proved:Rows.WordsJoinsUptoCardSaid :=
 Claim7.holds_tied_plain_at .later [] _ _ _ _ said (fun _ h=>by cases h) (by kernel_rfl) (fun _ h=>by cases h) wordsJoinsUpto_row_tie rfl ⟨rfl,rfl⟩ (by kernel_rfl) rfl plain (by kernel_rfl)
end Go.Proofs.YtdngaddggcmjgaaGreatDoor.LawWordsJoins
