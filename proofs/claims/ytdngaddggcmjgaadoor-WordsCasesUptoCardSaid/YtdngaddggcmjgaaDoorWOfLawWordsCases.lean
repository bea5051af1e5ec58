/-
  Whatever bytes there are: with all letters of one byte made large the key is the same. Conditions: the argument holds at most 1048576 values; the package's tables are laid as the program's text lays them (tied).
-/
import Derived.Deep.SlicePairs
import Derived.Test.YtdngaddggcmjgaaDoorW21
import Derived.Test.YtdngaddggcmjgaaDoorW22
import Derived.Test.YtdngaddggcmjgaaDoorW23
import Derived.Test.YtdngaddggcmjgaaDoorW24
namespace Go.Proofs.YtdngaddggcmjgaaDoor.LawWordsCases
open Go.ChangeShapes Go.WideShapes Go.ChangeAt Go.RowKit
open Utf hiding infoI32 rd_new own_form own_below rdec_any below_drewN new_any write_any close_any infoU8
open Ucd hiding grow same Told grp
open Norm hiding new_any write_any close_any
open Seg
open Words
theorem own_mt (u:World) (base g:Nat) (hb:base≤u.heap.size) (hg:g=u.heap.size):(u.alloc (.cells #[] 5)).ownsRow base 5 1 (.slice (some ⟨g,0,none⟩) 0 0) 0 []:=by
 subst hg
 exact ⟨rfl,.inr ⟨u.heap.size,0,#[],rfl,hb,heap_alloc_new u _,Nat.le_refl _,by simp [maxLen],by simp,by simp⟩⟩
def mixU (l:List UInt8) (k:Nat):List UInt8:=(l.take k).map upB++l.drop k
theorem mixU_id (l:List UInt8) (k:Nat):mixU l k=(l.take k).map upB++(l.drop k).map id:=by unfold mixU;rw [List.map_id]
theorem mixU_get {l:List UInt8} {k:Nat} (h:k < l.length):(bys (mixU l k))[k]? = some (.int .u8 (l[k].toNat:Int)):=by
 have h2:=mix_get upB id h (by simp;omega)
 have h3:(mixU l k)[k]? = some l[k]:=by
  rw [mixU_id,List.getElem?_eq_getElem (by simp;omega),h2];rfl
 unfold bys
 rw [List.getElem?_map,h3];rfl
theorem mixU_set {l:List UInt8} {k:Nat} (h:k < l.length):(bys (mixU l k)).set k (.int .u8 ((upB l[k]).toNat:Int))=bys (mixU l (k+1)):=by
 have h2:=mix_set upB id h
 rw [mixU_id,mixU_id,←h2]
 unfold bys
 rw [List.map_set]
theorem mixU_stay {l:List UInt8} {k:Nat} (h:k < l.length) (hu:upB l[k]=l[k]):mixU l (k+1)=mixU l k:=by
 unfold mixU
 rw [List.take_succ_eq_append_getElem h,List.map_append,List.drop_eq_getElem_cons h,List.append_assoc]
 simp [hu]
set_option maxHeartbeats 8000000 in
set_option maxRecDepth 100000 in
theorem walk (A:Option Addr) (l:List UInt8) (n c:Nat) (w:World) (hL:Laid w) (hr:Rd w w.heap.size A (bys l)) (hn:l.length=n) (hc:n≤c) (hcm:c≤9223372036854775807) (hsm:n≤1048576) :
  Calls Tryd.prog 6 #[.slice A n c] w (Law w):=by
 obtain ⟨i0,hi,hz0,hz1,hz2⟩:=info_parts Words.infoU8
 have HF:=Lib.hid (fixed_any w hL)
 have HL:=Lib.hid hL
 have HR:=Lib.hid hr
 have HN:=Lib.hid hn
 have hcc:=hc
 clear hL hr hn hc
 go_enter Tryd.func6,Tryd.ntmps6
 go_wp2_with fail
 refine HF.out.mono ?_
 rintro e w1 ⟨rfl,hb1⟩
 have HB1:=Lib.hid hb1
 clear hb1 HF
 have hs1:=HB1.out.size
 go_wp2_with (at_builtin;refine wpList_append_rd _ rfl (.tmp 8) (.tmp 9) _ rfl w1.heap.size 5 i0 _ 1 1 Tryd.underlying22 hi hz0 hz1 hz2 rfl (by decide) (.slice (some ⟨w1.heap.size,0,none⟩) 0 0) 0 [] rfl (own_mt w1 w1.heap.size w1.heap.size (Nat.le_refl _) rfl) w.heap.size A n c (bys l) rfl (by rw [bys_len,HN.out,Nat.mul_one]) ((HR.out.below HB1.out).alloc hs1 _) (bys_one _) (by unfold maxLen;omega) (by omega) (by simp) ?_;intro v3 w3 hown3 hgr3 hat3;simp only [Nat.zero_add,List.nil_append] at hown3;obtain ⟨A3,c3,rfl,hc3,hcm3,_⟩:=own_form hown3)
 have HO3:=Lib.hid (show w3.ownsRow w1.heap.size 5 1 (.slice A3 n c3) n (bys (mixU l 0)) from hown3)
 have HB3:=Lib.hid (((Below.refl w1.heap.size w1).alloc (Nat.le_refl _) (.cells #[] 5)).grown hgr3 (by simp) (fun g hg=>by have h2:some w1.heap.size=some g:=hg;injection h2 with h2;omega))
 clear hown3 hgr3 hat3
 go_wp2_with fail
 go_loopw [13] (fun i wr=>∃k:Nat,k≤n∧i=.int .i64 k∧Hid (wr.ownsRow w1.heap.size 5 1 (.slice A3 n c3) n (bys (mixU l k)))∧Hid (Below w1.heap.size w1 wr)) (fun i _=>n - (intOf i).toNat)
 case atStart=>exact ⟨0,Nat.zero_le _,rfl,HO3,HB3⟩
 case round =>
  clear HO3 HB3
  obtain ⟨k,hk,rfl,HO,HB⟩:=hrel
  by_cases hlt:k < n
  ·have hkl:k < l.length:=by rw [HN.out];exact hlt
   obtain ⟨g,cap,hv,hg0,hg1⟩:=HO.out.form (by omega)
   injection hv with hv1 _ hv2
   subst hv1 hv2
   have hcell:wr.cell? ⟨g,k,none⟩=some (.int .u8 (l[k].toNat:Int)):=(HO.out.cellAt k (by omega)).trans (mixU_get hkl)
   have fz:∀j,wr.frozen? ⟨g,j,none⟩=false:=own_frozen HO.out
   have hx1:l[k].toNat < 256:=l[k].toNat_lt
   have HU:=Lib.hid (up_nat l[k])
   have HST:=Lib.hid (mixU_set hkl)
   have HSY:=Lib.hid (fun h=>mixU_stay hkl h)
   have HUB:=Lib.hid (show ¬(97≤l[k].toNat∧l[k].toNat≤122)→upB l[k]=l[k] from fun h=>if_neg h)
   obtain ⟨x,hx⟩:∃x,x=l[k].toNat:=⟨_,rfl⟩
   rw [←hx] at hcell hx1 HU HUB
   clear hx
   by_cases h1:97≤x
   ·by_cases h2:x≤122
    ·have hup:upN x=x - 32:=if_pos ⟨h1,h2⟩
     have z1:(97:Int)≤(x:Int):=by omega
     have z2:(x:Int)≤122:=by omega
     have d1:decide ((97:Int)≤(x:Int))=true:=decide_eq_true z1
     have d2:decide ((x:Int)≤122)=true:=decide_eq_true z2
     obtain ⟨k1,q1⟩:=HO.out.stored k (.int .u8 ((x:Int) - 32))
     have he:(.int .u8 ((x:Int) - 32):Value)=.int .u8 ((upB l[k]).toNat:Int):=by
      rw [HU.out,hup];congr 1;omega
     rw [he,HST.out,←he] at k1
     have HO6:=Lib.hid k1
     have HB6:=Lib.hid (HB.out.grown q1 (by omega) (fun y hy=>by injection hy with hy;rw [←hy];exact hg0))
     clear k1 q1 he hup HU HST HSY HUB HO HB
     go_wp2_with fail
     go_roundw
     case rel=>exact ⟨k+1,by omega,by go_num,HO6,HB6⟩
     case measure=>simp [intOf];omega
    ·have d1:decide ((97:Int)≤(x:Int))=true:=decide_eq_true (by omega)
     have d2:decide ((x:Int)≤122)=false:=decide_eq_false (by omega)
     have n2:decide (x≤122)=false:=decide_eq_false h2
     have hst:=HSY.out (HUB.out (fun h=>h2 h.2))
     rw [←hst] at HO
     clear hst HU HST HSY HUB
     go_wp2_with fail
     go_roundw
     case rel=>exact ⟨k+1,by omega,by go_num,HO,HB⟩
     case measure=>simp [intOf];omega
   ·have d1:decide ((97:Int)≤(x:Int))=false:=decide_eq_false (by omega)
    have n1:decide (97≤x)=false:=decide_eq_false h1
    have hst:=HSY.out (HUB.out (fun h=>h1 h.1))
    rw [←hst] at HO
    clear hst HU HST HSY HUB
    go_wp2_with fail
    go_roundw
    case rel=>exact ⟨k+1,by omega,by go_num,HO,HB⟩
    case measure=>simp [intOf];omega
  ·have hM:mixU l k=l.map upB:=by
    unfold mixU
    rw [List.take_of_length_le (by rw [HN.out];omega),List.drop_of_length_le (by rw [HN.out];omega),List.append_nil]
   rw [hM] at HO
   obtain ⟨_,_,he,_,_,hru⟩:=own_form HO.out
   injection he with he1 _ he2
   subst he1 he2
   have HRU:=Lib.hid hru
   have HBW:=Lib.hid (HB1.out.trans (HB.out.mono hs1))
   have HLN:=Lib.hid (show (l.map upB).length=n by rw [List.length_map];exact HN.out)
   have hkr:=key_room (l:=l) (by rw [HN.out];omega)
   have hku:=key_room (l:=l.map upB) (by rw [HLN.out];omega)
   obtain ⟨KS,hKS⟩:∃KS:ByteArray,KS=⟨(keyF l).toArray⟩:=⟨_,rfl⟩
   have H1:=Lib.hid (fun (u:World) (hu:Laid u) (h:Rd u u.heap.size A3 (bys (l.map upB)))=>key_any A3 (l.map upB) n c3 u hu h HLN.out hc3 hcm3 (by omega) hku)
   have H2:=Lib.hid (fun (u:World) (hu:Laid u) (h:Rd u u.heap.size A (bys l))=>key_any A l n c u hu h HN.out hcc hcm (by omega) hkr)
   have H3:=Lib.hid (fun (u:World) (hu:Laid u) (h:Rd u u.heap.size A3 (bys (l.map upB))) (h2:Rd u u.heap.size A (bys l))=>wsame_any (l.map upB) l A3 A n c3 n c u hu h h2 HLN.out hc3 hcm3 HN.out hcc hcm (by omega) (by omega) hku hkr)
   simp only [key_up,←hKS,decide_true] at H1 H2 H3
   have hkk:(KS.toList == KS.toList)=true:=by simp
   clear hru hM HO HB hkr hku hKS
   go_wp2_with fail
   refine (H1.out wr (HL.out.next HBW.out) HRU.out).mono ?_
   rintro e w5 ⟨rfl,hb5⟩
   have HB5:=Lib.hid (HBW.out.trans (hb5.mono HBW.out.size))
   have HRU5:=Lib.hid ((HRU.out.below hb5).more hb5.size)
   clear hb5 H1 HRU
   go_wp2_with fail
   refine (H2.out w5 (HL.out.next HB5.out) ((HR.out.below HB5.out).more HB5.out.size)).mono ?_
   rintro e w6 ⟨rfl,hb6⟩
   have HB6:=Lib.hid (HB5.out.trans (hb6.mono HB5.out.size))
   have HRU6:=Lib.hid ((HRU5.out.below hb6).more hb6.size)
   clear hb6 H2 HRU5
   go_wp2_with fail
   refine (H3.out w6 (HL.out.next HB6.out) HRU6.out ((HR.out.below HB6.out).more HB6.out.size)).mono ?_
   rintro e w7 ⟨rfl,hb7⟩
   have HB7:=Lib.hid (HB6.out.trans (hb7.mono HB6.out.size))
   clear hb7 H3
   go_wp2_with fail
   go_ret
   exact ⟨rfl,HB7.out⟩
set_option maxRecDepth 100000 in
theorem contract (H:Type) (enc:TypeId × Value→H) (W:World) (base:Nat) (args:Array Value) (ds gs:List (DataW H)) (before:List MemPlace)
  (hval:∀(j:Nat) t v,Tryd.f6.params[j]? = some t→args[j]? = some v→Value.okWide Tryd.prog W .any base t v)
  (hW:DataW.Whole enc Tryd.prog Tryd.f6.params.toList Rows.wordsCasesSpec.vars false W args.toList ds gs before) (hLL:laidMetH Tryd.prog Rows.wordsCasesUptoRow.laid W) (hk:Rows.uptoSmall H (ds++gs)=true) :
  Calls Tryd.prog 6 args W fun e W'=>∃v,e=.returned v∧Rows.wordsCasesSpec.post enc Tryd.prog Tryd.f6 false true false false W args v W':=by
 have hL:Laid W:=laid_of hLL
 have hW':=hW
 obtain ⟨p,q,hA0,hV,rfl,hfz,hnd⟩:=hW
 have hA:DataW.TrodAll enc Tryd.prog W 0 (fun _=>true) true Tryd.f6.params.toList args.toList ds p:=hA0
 rw [Tryd.params6] at hA hval
 obtain ⟨v0,vs0,d0,ds0,p0,q0,hargs,rfl,rfl,h0,r0⟩:=trodAll_cons hA
 obtain ⟨rfl,rfl,rfl⟩:=trodAll_nil r0
 obtain rfl:args=#[v0]:=by cases args;simp_all
 obtain ⟨rfl,rfl⟩:=trodVars_none hV
 obtain ⟨a0,len0,cap0,rfl⟩:=okWide_slice Tryd.underlying22 (hval 0 22 v0 rfl rfl)
 have k0:=h0
 have lt0:∀x∈p0,x.block < W.heap.size:=by obtain ⟨m,hm⟩:=k0;exact DataW.trod_lt m _ _ _ hm
 obtain ⟨l0,hl0,hc0,hm0,hr0,hb0⟩:=open_bytes h0
 have hbd:=bulk_bound hk
 simp only [List.append_nil,Rows.uptoBulkAll] at hbd
 clear hA0
 refine (walk a0 l0 len0 cap0 W hL hr0 hl0 hc0 hm0 (by omega)).mono fun e W' ⟨he,bel⟩=>?_
 subst he
 exact ⟨_,rfl,_,_,_,[],_,[],hW',trodAll_mk1 (shut_bool Tryd.underlying4 _),(trodAll_cons_mk (Below.trod laidOut (by kernel_rfl) (of_decide_eq_true (by kernel_rfl)) k0 bel lt0) trodAll_mk0),rfl,bel.frame _,fun h=>by cases h⟩
set_option maxRecDepth 100000 in
theorem laid_met (os:Os):laidMet Tryd.prog Rows.wordsCasesUptoRow.laid ((laidWorld os).forCall (fun _ _=>0) ⟨#[],#[.slice none 0 0],[]⟩).memory :=
 laidMet_of_run' 8 (by kernel_rfl) (by kernel_rfl)
set_option maxRecDepth 100000 in
theorem reads (os:Os) {H:Type} (enc:TypeId × Value→H):∃places,DataW.whole enc Tryd.prog ((laidWorld os).forCall (fun _ _=>0) ⟨#[],#[.slice none 0 0],[]⟩).memory Tryd.f6.params.toList Rows.wordsCasesSpec.vars false (#[.slice none 0 0]:Array Value).toList 8=some ([.nil],[],places) :=
 ⟨[],by kernel_rfl⟩
set_option maxRecDepth 100000 in
theorem lifted (os:Os) (started:os.Started) (H:Type) (enc:TypeId × Value→H) (F:Stop.Interp) :
  ReturnsInHanded {} Tryd.checked os 6 .any ((Rows.OpenSpec.upto Rows.wordsCasesSpec).preRow enc Tryd.prog Tryd.f6 Rows.wordsCasesUptoRow.domain false Rows.wordsCasesUptoRow.laid) (((Rows.OpenSpec.upto Rows.wordsCasesSpec).at F).post enc Tryd.prog Tryd.f6 false true false false):=by
 obtain ⟨places,hx⟩:=reads os enc
 refine returnsInHanded_of_row (C:=Tryd.checked) (s:=Rows.OpenSpec.upto Rows.wordsCasesSpec) own started (by kernel_rfl) Tryd.func6
  (witness_row_at (enc:=enc) (C:=Tryd.checked) false (laidWorld os) #[.slice none 0 0] rfl (by kernel_rfl) (by kernel_rfl) (by kernel_rfl)
   (OpenSpec.preRow_of_cond 8 hx (by kernel_rfl) (fun k hk=>by cases hk;kernel_rfl) (by kernel_rfl) (laid_met os))) ?_
 intro W base args ds gs before hval hW _ hcond _ hL _ _
 exact contract H enc W base args ds gs before hval hW hL (hcond _ rfl)
set_option maxRecDepth 100000 in
theorem said:Rows.WordsCasesUptoSaid :=
 OpenClaim.holds_of_cond 6 Tryd.f6 rfl rfl rfl rfl rfl rfl rfl ⟨rfl,rfl,rfl,rfl,rfl⟩ rfl rfl rfl rfl rfl (by kernel_rfl) Tryd.func6 (by kernel_rfl)
  (of_decide_eq_true (by kernel_rfl)) (by unfold Func.isWrapper;first | (rw [if_pos (by decide +kernel)];kernel_rfl) | (rw [if_neg (by decide +kernel)];exact ⟨rfl,rfl⟩))
  (fun os started H enc _ F=>by rw [OpenClaim.pre_eq_preRow];exact lifted os started H enc F)
set_option maxRecDepth 100000 in
theorem plain (f:FuncId) (fn:Func) (hf:Tryd.pinned.checked.prog.funcNamed Rows.wordsCasesUptoRow.func=some f) (hfn:Tryd.pinned.checked.prog.funcs[f]? = some fn) :
  false=Tryd.pinned.checked.prog.looks []∧∀(j:Nat) t,fn.params[j]? = some t→Tryd.pinned.checked.prog.wantsStandIn t=false:=by
 obtain rfl:f=6:=Option.some.inj ((show Tryd.prog.funcNamed Rows.wordsCasesUptoRow.func=some 6 by kernel_rfl).symm.trans hf) |>.symm
 obtain rfl:fn=Tryd.f6:=(Option.some.inj (Tryd.func6.symm.trans hfn)).symm
 refine ⟨by kernel_rfl,fun j t ht=>?_⟩
 rw [Tryd.params6] at ht
 have hm:=Array.mem_of_getElem? ht
 simp only [List.mem_toArray,List.mem_cons,List.not_mem_nil,or_false] at hm
 rcases hm with rfl
 all_goals first | exact (show Tryd.prog.wantsStandIn 22=false by kernel_rfl)
set_option maxRecDepth 100000 in
theorem proved:Rows.WordsCasesUptoCardSaid :=
 Claim7.holds_tied_plain_at .later [] _ _ _ _ said (fun _ h=>by cases h) (by kernel_rfl) (fun _ h=>by cases h) wordsCasesUpto_row_tie rfl ⟨rfl,rfl⟩ (by kernel_rfl) rfl plain (by kernel_rfl)
end Go.Proofs.YtdngaddggcmjgaaDoor.LawWordsCases
