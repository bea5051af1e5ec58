/-
  Whatever bytes there are: no word is empty, and between two there is a segment, and its bytes. Conditions: the argument holds at most 1048576 values; the package's tables are laid as the program's text lays them (tied).
-/
import Derived.Deep.SlicePairs
import Derived.BigQuiet
import Derived.Deep.QuietTactic
import Derived.Test.YtdngaddggcmjgaaDoorW21
import Derived.Test.YtdngaddggcmjgaaDoorW22
import Derived.Test.YtdngaddggcmjgaaDoorW23
import Derived.Test.YtdngaddggcmjgaaDoorW24
namespace Go.Proofs.YtdngaddggcmjgaaDoor.LawWordsApart
open Go.ChangeShapes Go.WideShapes Go.ChangeAt Go.RowKit
open Utf hiding infoI32 rd_new own_form own_below rdec_any below_drewN new_any write_any close_any infoU8
open Ucd hiding grow same Told grp
open Norm hiding new_any write_any close_any
open Seg
open Words
set_option maxHeartbeats 8000000 in
set_option maxRecDepth 100000 in
theorem walk (A:Option Addr) (l:List UInt8) (n c:Nat) (w:World) (hL:Laid w) (hr:Rd w w.heap.size A (bys l)) (hn:l.length=n) (hc:n≤c) (hcm:c≤9223372036854775807) (hsm:n≤1048576) :
  Calls Tryd.prog 5 #[.slice A n c] w (Law w):=by
 have HF:=Lib.hid (fixed_any w hL)
 have HL:=Lib.hid hL
 have HR:=Lib.hid hr
 have H1:=Lib.hid (fun (u:World) (hu:Laid u) (h:Rd u u.heap.size A (bys l))=>words_any 64 l A n c u hu h hn hc hcm (by omega))
 obtain ⟨hf1,hf2⟩:=apart_facts l (wordsF 64 l) rfl
 have hwl:=words_len 64 l
 rw [hn] at hf1 hwl
 unfold WordsAns at H1
 generalize wordsF 64 l=S at H1 hf1 hf2 hwl
 generalize spE 64 l=E at H1
 have HF1:=Lib.hid hf1
 have HF2:=Lib.hid hf2
 obtain ⟨sl,hsl⟩:∃sl,sl=S.length:=⟨_,rfl⟩
 rw [←hsl] at hwl
 have HSL:=Lib.hid hsl
 clear hL hr hn hc hsl hf1 hf2
 go_enter Tryd.func5,Tryd.ntmps5
 go_wp2_with fail
 refine HF.out.mono ?_
 rintro e w1 ⟨rfl,hb1⟩
 have HB1:=Lib.hid hb1
 clear hb1 HF
 go_wp2_with fail
 refine (H1.out w1 (HL.out.next HB1.out) ((HR.out.below HB1.out).more HB1.out.size)).mono ?_
 rintro e w2 ⟨v2,rfl,ho2,hb2⟩
 rw [←HSL.out] at ho2
 obtain ⟨A2,c2,rfl,_,_,hr2⟩:=own_form ho2
 have HB2:=Lib.hid (HB1.out.trans (hb2.mono HB1.out.size))
 have HR2:=Lib.hid hr2
 clear ho2 hr2 hb2 H1
 go_wp2_with fail
 go_loopw [16] (fun i wr=>∃k:Nat,k≤sl∧i=.int .i64 k∧Hid (Below w2.heap.size w2 wr)) (fun i _=>sl - (intOf i).toNat)
 case atStart=>exact ⟨0,Nat.zero_le _,rfl,Lib.hid (Below.refl _ _)⟩
 case round =>
  obtain ⟨k,hk,rfl,HB⟩:=hrel
  by_cases hlt:k < sl
  ·have hkl:k < S.length:=by rw [←HSL.out];exact hlt
   obtain ⟨b,o,rfl,hbl⟩:=HR2.out.form (by rw [wds_len];omega)
   have hsz:w2.heap.size≤wr.heap.size:=HB.out.size
   have cc:=Rd_wd (HR2.out.below HB.out) hkl
   have a0:=cc 0 (by omega);have a1:=cc 1 (by omega);have a2:=cc 2 (by omega);have a3:=cc 3 (by omega);have a4:=cc 4 (by omega)
   simp only [rowW,Nat.add_zero,List.getElem?_cons_zero,List.getElem?_cons_succ] at a0 a1 a2 a3 a4
   obtain ⟨f1,f2,f3,f4,f5⟩:=HF1.out k hkl
   have d0:((⟨S[k].k.toArray⟩:ByteArray).toList == [])=false:=by rw [bytes_list,beq_eq_false_iff_ne];exact f1
   have d1:decide ((S[k].g:Int)≤(S[k].f:Int))=false:=decide_eq_false (by omega)
   have n1:decide (S[k].g≤S[k].f)=false:=decide_eq_false (by omega)
   have d2:decide (S[k].e≤S[k].a)=false:=decide_eq_false (by omega)
   have d3:decide ((n:Int) < S[k].e)=false:=decide_eq_false (by omega)
   have hbk:b < wr.heap.size:=by omega
   by_cases h0:0 < k
   ·have hkp:k - 1 < S.length:=by omega
    obtain ⟨g1,g2⟩:=HF2.out (k - 1) (by omega)
    have hk1:k - 1+1=k:=by omega
    simp only [hk1] at g1 g2
    have cp:=Rd_wd (HR2.out.below HB.out) hkp
    have b2:=cp 2 (by omega);have b4:=cp 4 (by omega)
    simp only [rowW,List.getElem?_cons_zero,List.getElem?_cons_succ] at b2 b4
    have d4:decide ((0:Int) < (k:Int))=true:=decide_eq_true (by omega)
    have d5:decide ((S[k].f:Int)≤(S[k - 1].g:Int))=false:=decide_eq_false (by omega)
    have n4:decide (0 < k)=true:=decide_eq_true h0
    have n5:decide (S[k].f≤S[k - 1].g)=false:=decide_eq_false (by omega)
    have d6:decide (S[k].a≤S[k - 1].e)=false:=decide_eq_false (by omega)
    have ht:((k:Int) - 1).toNat=k - 1:=by omega
    generalize (⟨S[k].k.toArray⟩:ByteArray)=X at a0 d0
    generalize S[k].f=x1 at a1 d1 d5 n1 n5
    generalize S[k].g=x2 at a2 d1 n1
    generalize S[k].a=x3 at a3 d2 d6
    generalize S[k].e=x4 at a4 d2 d3
    generalize S[k - 1].g=y2 at b2 d5 n5
    generalize S[k - 1].e=y4 at b4 d6
    clear f1 f2 f3 f4 f5 g1 g2 cc cp hkl hkp hk1
    have hk2:((k:Int) - 1) < (sl:Int):=by omega
    have hk3:(0:Int)≤((k:Int) - 1):=by omega
    go_wp2_with fail
    go_quiet (fail)
    go_wp2
    go_roundw
    case rel=>exact ⟨k+1,by omega,by go_num,Lib.hid (below_drewN (HB.out.alloc hsz _) _)⟩
    case measure=>simp [intOf];omega
   ·have d4:decide ((0:Int) < (k:Int))=false:=decide_eq_false (by omega)
    have n4:decide (0 < k)=false:=decide_eq_false h0
    generalize (⟨S[k].k.toArray⟩:ByteArray)=X at a0 d0
    generalize S[k].f=x1 at a1 d1 n1
    generalize S[k].g=x2 at a2 d1 n1
    generalize S[k].a=x3 at a3 d2
    generalize S[k].e=x4 at a4 d2 d3
    clear f1 f2 f3 f4 f5 cc hkl
    go_wp2_with fail
    go_quiet (fail)
    go_wp2
    go_roundw
    case rel=>exact ⟨k+1,by omega,by go_num,Lib.hid (below_drewN (HB.out.alloc hsz _) _)⟩
    case measure=>simp [intOf];omega
  ·go_wp2_with fail
   go_ret
   exact ⟨rfl,HB2.out.trans (HB.out.mono HB2.out.size)⟩
set_option maxRecDepth 100000 in
theorem contract (H:Type) (enc:TypeId × Value→H) (W:World) (base:Nat) (args:Array Value) (ds gs:List (DataW H)) (before:List MemPlace)
  (hval:∀(j:Nat) t v,Tryd.f5.params[j]? = some t→args[j]? = some v→Value.okWide Tryd.prog W .any base t v)
  (hW:DataW.Whole enc Tryd.prog Tryd.f5.params.toList Rows.wordsApartSpec.vars false W args.toList ds gs before) (hLL:laidMetH Tryd.prog Rows.wordsApartUptoRow.laid W) (hk:Rows.uptoSmall H (ds++gs)=true) :
  Calls Tryd.prog 5 args W fun e W'=>∃v,e=.returned v∧Rows.wordsApartSpec.post enc Tryd.prog Tryd.f5 false true false false W args v W':=by
 have hL:Laid W:=laid_of hLL
 have hW':=hW
 obtain ⟨p,q,hA0,hV,rfl,hfz,hnd⟩:=hW
 have hA:DataW.TrodAll enc Tryd.prog W 0 (fun _=>true) true Tryd.f5.params.toList args.toList ds p:=hA0
 rw [Tryd.params5] at hA hval
 obtain ⟨v0,vs0,d0,ds0,p0,q0,hargs,rfl,rfl,h0,r0⟩:=trodAll_cons hA
 obtain ⟨rfl,rfl,rfl⟩:=trodAll_nil r0
 obtain rfl:args=#[v0]:=by cases args;simp_all
 obtain ⟨rfl,rfl⟩:=trodVars_none hV
 obtain ⟨a0,len0,cap0,rfl⟩:=okWide_slice Tryd.underlying22 (hval 0 22 v0 rfl rfl)
 have k0:=h0
 have lt0:∀x∈p0,x.block < W.heap.size:=by obtain ⟨m,hm⟩:=k0;exact DataW.trod_lt m _ _ _ hm
 obtain ⟨l0,hl0,hc0,hm0,hr0,hb0⟩:=open_bytes h0
 have hbd:=bulk_bound hk
 simp only [List.append_nil,Rows.uptoBulkAll] at hbd
 clear hA0
 refine (walk a0 l0 len0 cap0 W hL hr0 hl0 hc0 hm0 (by omega)).mono fun e W' ⟨he,bel⟩=>?_
 subst he
 exact ⟨_,rfl,_,_,_,[],_,[],hW',trodAll_mk1 (shut_bool Tryd.underlying4 _),(trodAll_cons_mk (Below.trod laidOut (by kernel_rfl) (of_decide_eq_true (by kernel_rfl)) k0 bel lt0) trodAll_mk0),rfl,bel.frame _,fun h=>by cases h⟩
set_option maxRecDepth 100000 in
theorem laid_met (os:Os):laidMet Tryd.prog Rows.wordsApartUptoRow.laid ((laidWorld os).forCall (fun _ _=>0) ⟨#[],#[.slice none 0 0],[]⟩).memory :=
 laidMet_of_run' 8 (by kernel_rfl) (by kernel_rfl)
set_option maxRecDepth 100000 in
theorem reads (os:Os) {H:Type} (enc:TypeId × Value→H):∃places,DataW.whole enc Tryd.prog ((laidWorld os).forCall (fun _ _=>0) ⟨#[],#[.slice none 0 0],[]⟩).memory Tryd.f5.params.toList Rows.wordsApartSpec.vars false (#[.slice none 0 0]:Array Value).toList 8=some ([.nil],[],places) :=
 ⟨[],by kernel_rfl⟩
set_option maxRecDepth 100000 in
theorem lifted (os:Os) (started:os.Started) (H:Type) (enc:TypeId × Value→H) (F:Stop.Interp) :
  ReturnsInHanded {} Tryd.checked os 5 .any ((Rows.OpenSpec.upto Rows.wordsApartSpec).preRow enc Tryd.prog Tryd.f5 Rows.wordsApartUptoRow.domain false Rows.wordsApartUptoRow.laid) (((Rows.OpenSpec.upto Rows.wordsApartSpec).at F).post enc Tryd.prog Tryd.f5 false true false false):=by
 obtain ⟨places,hx⟩:=reads os enc
 refine returnsInHanded_of_row (C:=Tryd.checked) (s:=Rows.OpenSpec.upto Rows.wordsApartSpec) own started (by kernel_rfl) Tryd.func5
  (witness_row_at (enc:=enc) (C:=Tryd.checked) false (laidWorld os) #[.slice none 0 0] rfl (by kernel_rfl) (by kernel_rfl) (by kernel_rfl)
   (OpenSpec.preRow_of_cond 8 hx (by kernel_rfl) (fun k hk=>by cases hk;kernel_rfl) (by kernel_rfl) (laid_met os))) ?_
 intro W base args ds gs before hval hW _ hcond _ hL _ _
 exact contract H enc W base args ds gs before hval hW hL (hcond _ rfl)
set_option maxRecDepth 100000 in
theorem said:Rows.WordsApartUptoSaid :=
 OpenClaim.holds_of_cond 5 Tryd.f5 rfl rfl rfl rfl rfl rfl rfl ⟨rfl,rfl,rfl,rfl,rfl⟩ rfl rfl rfl rfl rfl (by kernel_rfl) Tryd.func5 (by kernel_rfl)
  (of_decide_eq_true (by kernel_rfl)) (by unfold Func.isWrapper;first | (rw [if_pos (by decide +kernel)];kernel_rfl) | (rw [if_neg (by decide +kernel)];exact ⟨rfl,rfl⟩))
  (fun os started H enc _ F=>by rw [OpenClaim.pre_eq_preRow];exact lifted os started H enc F)
set_option maxRecDepth 100000 in
theorem plain (f:FuncId) (fn:Func) (hf:Tryd.pinned.checked.prog.funcNamed Rows.wordsApartUptoRow.func=some f) (hfn:Tryd.pinned.checked.prog.funcs[f]? = some fn) :
  false=Tryd.pinned.checked.prog.looks []∧∀(j:Nat) t,fn.params[j]? = some t→Tryd.pinned.checked.prog.wantsStandIn t=false:=by
 obtain rfl:f=5:=Option.some.inj ((show Tryd.prog.funcNamed Rows.wordsApartUptoRow.func=some 5 by kernel_rfl).symm.trans hf) |>.symm
 obtain rfl:fn=Tryd.f5:=(Option.some.inj (Tryd.func5.symm.trans hfn)).symm
 refine ⟨by kernel_rfl,fun j t ht=>?_⟩
 rw [Tryd.params5] at ht
 have hm:=Array.mem_of_getElem? ht
 simp only [List.mem_toArray,List.mem_cons,List.not_mem_nil,or_false] at hm
 rcases hm with rfl
 all_goals first | exact (show Tryd.prog.wantsStandIn 22=false by kernel_rfl)
set_option maxRecDepth 100000 in
theorem proved:Rows.WordsApartUptoCardSaid :=
 Claim7.holds_tied_plain_at .later [] _ _ _ _ said (fun _ h=>by cases h) (by kernel_rfl) (fun _ h=>by cases h) wordsApartUpto_row_tie rfl ⟨rfl,rfl⟩ (by kernel_rfl) rfl plain (by kernel_rfl)
end Go.Proofs.YtdngaddggcmjgaaDoor.LawWordsApart
