/-
  SyntaxKeeps answers true, and leaves its argument as it was, for all bytes that hold together at most 1048576 values, from every memory in which the variables that the row lists hold what it says: what is handed to Parse stays; the steps that it tells are its own: wiping those of one call leaves those of the others.
-/
import Derived.Test.YtkgeiokckfpjlaaGreatDoorK38
import Derived.Test.YtkgeiokckfpjlaaGreatDoorK39
namespace Go.Proofs.YtkgeiokckfpjlaaGreatDoor.LawSyntaxKeeps
open Go.ChangeShapes Go.WideShapes Go.ChangeAt Go.RowKit
open Utf (Rd bys bys_len open_bytes laidOut own bulk_bound)
open Ucd (Laid)
open Rset (Ret own_form)
open Sset (St Tx txs ArgT ArgR normS none_)
open Syn
set_option maxHeartbeats 32000000 in
set_option maxRecDepth 100000 in
theorem walk (A:Option Addr) (a:List UInt8) (n c:Nat) (w:World) (hL:Laid w) (hr:Rd w w.heap.size A (bys a)) (hn:a.length=n) (_hc:n≤c) (_hcm:c≤9223372036854775807) (hsm:n≤1048576) :
  Calls Tryz.prog 6 #[.slice A n c] w (Ret w (.bool true)):=by
 obtain ⟨i0,hi,hz0,hz1,hz2⟩:=info_parts Utf.infoU8
 have HF:=Lib.hid (fixed_any w hL)
 have HL:=Lib.hid hL
 have HR:=Lib.hid hr
 have HN:=Lib.hid hn
 clear hL hr hn _hc
 go_enter Tryz.func6,Tryz.ntmps6
 go_wp2_with fail
 refine HF.out.mono ?_
 rintro e w1 ⟨rfl,hb1⟩
 have HB1:=Lib.hid hb1
 clear hb1 HF
 obtain ⟨u,hmk,ho,hg⟩:=run_make_own (P:=Tryz.prog) w1 w1.heap.size 25 5 i0 (.int .u8 0) 1 Tryz.underlying25 hi hz0 hz1 .i64 .i64 (n+3) (by rw [hz2];omega) (by unfold maxLen;omega) (Nat.le_refl _)
 have hmk2:(Instr.makeSlice 25 (.int .i64 0) (.int .i64 ((n:Int)+3))).run Tryz.prog w1=.ok (.slice (some ⟨w1.heap.size,0,none⟩) 0 (n+3)) u:=hmk
 have HBU:=Lib.hid (show Below w1.heap.size w1 u from (Below.refl _ _).grown hg (Nat.le_refl _) (fun g hg=>by cases hg))
 have HO:=Lib.hid ho
 clear hmk ho hg
 go_wp2_with (at_builtin;refine Utf.wpList_append_rd _ rfl (.tmp 21) (.tmp 22) _ rfl w1.heap.size 5 i0 _ 1 1 Tryz.underlying25 hi hz0 hz1 hz2 rfl (by decide) (.slice (some ⟨w1.heap.size,0,none⟩) 0 (n+3)) 0 [] rfl HO.out _ A n c (bys a) rfl (by rw [bys_len,HN.out,Nat.mul_one]) (((HR.out.below HB1.out).more HB1.out.size).below HBU.out) (Utf.bys_one _) (by unfold maxLen;omega) (by omega) HBU.out.size ?_;intro v2 w2 hown2 hgr2 _;simp only [Nat.zero_add,List.nil_append] at hown2;have hb2:=HBU.out.grown hgr2 HBU.out.size (fun g hg=>(HO.out.lt g hg).1);have HB2:=Lib.hid (HB1.out.trans (hb2.mono HB1.out.size));obtain ⟨Ai,ci,rfl,hci,hcim,hri⟩:=own_form hown2;have HRI:=Lib.hid hri;have HCI:=Lib.hid hci;clear hown2 hgr2 hb2 hri hci)
 have HL2:=Lib.hid (HL.out.next HB2.out)
 refine (parse_got a Ai n ci w2 HL2.out HRI.out HN.out HCI.out hcim (by omega)).mono ?_
 rintro e w3 ⟨A1,n1,c1,V1,k1,E1,rfl,hg1,hb3⟩
 have HG1:=Lib.hid hg1;have HB23:=Lib.hid hb3
 have hn1:=hg1.sm
 clear hg1 hb3 hmk2 HBU HO
 go_wp2_with fail
 refine (parse_got a Ai n ci w3 (HL2.out.next HB23.out) ((HRI.out.below HB23.out).more HB23.out.size) HN.out HCI.out hcim (by omega)).mono ?_
 rintro e w4 ⟨A2,n2,c2,V2,k2,E2,rfl,hg2,hb4⟩
 have HG2:=Lib.hid hg2
 have HB24:=Lib.hid (HB23.out.trans (hb4.mono HB23.out.size))
 have HKY:=Lib.hid (KY.start HG1.out hb4)
 clear hg2 hb4
 go_wp2_with fail
 go_loopw [38] (fun i wr=>∃k:Nat,k≤n1∧i=.int .i64 k∧Hid (KY w2.heap.size w3.heap.size w4 wr A1 n1 V1)) (fun i _=>n1 - (intOf i).toNat)
 case atStart=>exact ⟨0,Nat.zero_le _,rfl,HKY⟩
 case round =>
  obtain ⟨k,hk,rfl,HK⟩:=hrel
  by_cases hlt:k < n1
  ·have hkv:k < V1.length:=by rw [HG1.out.len];exact hlt
   obtain ⟨g0,e0,hkx⟩:=HK.out.at_ (by omega)
   subst e0
   have HX:=Lib.hid hkx
   have hsm1:=(HG1.out.small k hkv).1
   have hsm3:=(HG1.out.small k hkv).2
   have HC1:=Lib.hid (fun (u:World) (h:KX w2.heap.size w3.heap.size g0 w4 u V1)=>h.c1 k hkv)
   have HC3:=Lib.hid (fun (u:World) (h:KX w2.heap.size w3.heap.size g0 w4 u V1)=>h.c3 k hkv)
   have HR1:=Lib.hid (fun (u:World) (h:KX w2.heap.size w3.heap.size g0 w4 u V1)=>h.r1 k hkv)
   have HR3:=Lib.hid (fun (u:World) (h:KX w2.heap.size w3.heap.size g0 w4 u V1)=>h.r3 k hkv)
   have HC0:=Lib.hid (fun (u:World) (h:KX w2.heap.size w3.heap.size g0 w4 u V1)=>h.c0 k hkv)
   generalize V1[k]=v at hsm1 hsm3 HC1 HC3 HR1 HR3
   obtain ⟨vk,X1,x1,y1,X2,x2,y2,X3,x3,y3,vm,vx⟩:=v
   dsimp only at hsm1 hsm3 HC1 HC3 HR1 HR3
   clear hkx hkv HK
   have q1:=HC1.out _ HX.out
   go_wp2_with fail
   clear q1
   go_loopw [48] (fun j wq=>∃q:Nat,q≤x1∧j=.int .i64 q∧Hid (KX w2.heap.size w3.heap.size g0 w4 wq V1)) (fun j _=>x1 - (intOf j).toNat)
   case atStart=>exact ⟨0,Nat.zero_le _,rfl,HX⟩
   case round =>
    obtain ⟨q,hq,rfl,HX⟩:=hrel
    by_cases hlq:q < x1
    ·have q1:=HC1.out _ HX.out
     obtain h0 | ⟨g,rfl,hgB,hgE,hgN,hcell⟩:=HR1.out _ HX.out
     ·omega
     ·obtain ⟨⟨za,ha⟩,fa⟩:=hcell (q*2) (by omega)
      obtain ⟨⟨zb,hb⟩,fb⟩:=hcell (q*2+1) (by omega)
      have HX2:=Lib.hid (show ∀v1 v2:Value,KX w2.heap.size w3.heap.size g0 w4 ((wr.setCell ⟨g,q*2,none⟩ v1).setCell ⟨g,q*2+1,none⟩ v2) V1 from fun v1 v2=>(HX.out.set hgB hgE hgN _ _).set hgB hgE hgN _ _)
      clear hcell
      go_wp2_with fail
      go_roundw
      case rel=>exact ⟨q+1,by omega,by go_num,Lib.hid (HX2.out _ _)⟩
      case measure=>simp [intOf];omega
    ·obtain rfl:q=x1:=by omega
     have q3:=HC3.out _ HX.out
     go_wp2_with fail
     clear q3
     go_loopw [68] (fun j wq=>∃q:Nat,q≤x3∧j=.int .i64 q∧Hid (KX w2.heap.size w3.heap.size g0 w4 wq V1)) (fun j _=>x3 - (intOf j).toNat)
     case atStart=>exact ⟨0,Nat.zero_le _,rfl,HX⟩
     case round =>
      obtain ⟨p,hp,rfl,HX⟩:=hrel
      by_cases hlp:p < x3
      ·have q3:=HC3.out _ HX.out
       obtain h0 | ⟨g,rfl,hgB,hgE,hgN,hcell⟩:=HR3.out _ HX.out
       ·omega
       ·obtain ⟨⟨za,ha⟩,fa⟩:=hcell p (by omega)
        have HX2:=Lib.hid (show ∀v1:Value,KX w2.heap.size w3.heap.size g0 w4 (wr.setCell ⟨g,p,none⟩ v1) V1 from fun v1=>HX.out.set hgB hgE hgN _ _)
        clear hcell
        go_wp2_with fail
        go_roundw
        case rel=>exact ⟨p+1,by omega,by go_num,Lib.hid (HX2.out _)⟩
        case measure=>simp [intOf];omega
      ·obtain rfl:p=x3:=by omega
       obtain ⟨⟨za,ha⟩,fa⟩:=HC0.out _ HX.out
       have HX2:=Lib.hid (show ∀v1:Value,KX w2.heap.size w3.heap.size g0 w4 (wr.setCell ⟨g0,k*6,none⟩ v1) V1 from fun v1=>HX.out.kind _ _)
       go_wp2_with fail
       go_roundw
       case rel=>exact ⟨k+1,by omega,by go_num,Lib.hid ⟨(HX2.out _).bel,(HX2.out _).chg,fun _=>⟨g0,rfl,HX2.out _⟩⟩⟩
       case measure=>simp [intOf];omega
  ·obtain rfl:k=n1:=by omega
   have HB2R:=Lib.hid (HB24.out.trans HK.out.bel)
   have HCH:=Lib.hid HK.out.chg
   have HGY:=Lib.hid (HG2.out.chg HCH.out)
   have HPZ:=Lib.hid (parse_got a Ai n ci wr (HL2.out.below HB2R.out HL2.out.size) ((HRI.out.below HB2R.out).more HB2R.out.size) HN.out HCI.out hcim (by omega))
   clear HK HKY
   go_wp2_with fail
   refine HPZ.out.mono ?_
   rintro e w5 ⟨A3,n3,c3,V3,k3,E3,rfl,hg3,hb5⟩
   have HB25:=Lib.hid (HB2R.out.trans (hb5.mono HB2R.out.size))
   have HBW:=Lib.hid (HB2.out.trans (HB25.out.mono HB2.out.size))
   have HSM:=Lib.hid (rnsame_any A2 A3 V2 V3 (lst a) (lst a) n2 n3 c2 c3 w5 (HGY.out.next hb5).arg hg3.arg)
   rw [decide_eq_true (rfl:lst a=lst a)] at HSM
   obtain ⟨SA,hSA⟩:∃S:ByteArray,S=⟨a.toArray⟩:=⟨_,rfl⟩
   have h1:(convert 25 9 (.slice Ai n ci)).run Tryz.prog w5=.ok (.string SA) w5:=by rw [hSA];exact Sset.conv_rd (HRI.out.below HB25.out) HN.out
   have h2:(convert 25 9 (.slice A n c)).run Tryz.prog w5=.ok (.string SA) w5:=by rw [hSA];exact Sset.conv_rd (HR.out.below HBW.out) HN.out
   have hq:(SA.toList == SA.toList)=true:=beq_self_eq_true _
   clear hg3 hb5 hSA HPZ
   go_wp2_with fail
   refine HSM.out.mono ?_
   rintro e w6 ⟨rfl,hb6⟩
   have HB6:=Lib.hid (HBW.out.trans (hb6.mono HBW.out.size))
   clear hb6
   go_wp2_with fail
   go_ret
   exact ⟨rfl,HB6.out⟩
set_option maxRecDepth 100000 in
theorem contract (H:Type) (enc:TypeId × Value→H) (W:World) (base:Nat) (args:Array Value) (ds gs:List (DataW H)) (before:List MemPlace)
  (hval:∀(j:Nat) t v,Tryz.f6.params[j]? = some t→args[j]? = some v→Value.okWide Tryz.prog W .any base t v)
  (hW:DataW.Whole enc Tryz.prog Tryz.f6.params.toList Rows.syntaxKeepsSpec.vars false W args.toList ds gs before) (hLL:laidMetH Tryz.prog Rows.syntaxKeepsUptoRow.laid W) (hk:Rows.uptoSmall H (ds++gs)=true) :
  Calls Tryz.prog 6 args W fun e W'=>∃v,e=.returned v∧Rows.syntaxKeepsSpec.post enc Tryz.prog Tryz.f6 false true false false W args v W':=by
 have hL:Laid W:=laid_of hLL
 have hW':=hW
 obtain ⟨p,q,hA0,hV,rfl,hfz,hnd⟩:=hW
 have hA:DataW.TrodAll enc Tryz.prog W 0 (fun _=>true) true Tryz.f6.params.toList args.toList ds p:=hA0
 rw [Tryz.params6] at hA hval
 obtain ⟨v0,vs0,d0,ds0,p0,q0,hargs,rfl,rfl,h0,r0⟩:=trodAll_cons hA
 obtain ⟨rfl,rfl,rfl⟩:=trodAll_nil r0
 obtain rfl:args=#[v0]:=by cases args;simp_all
 obtain ⟨rfl,rfl⟩:=trodVars_none hV
 obtain ⟨a0,len0,cap0,rfl⟩:=okWide_slice Tryz.underlying25 (hval 0 25 v0 rfl rfl)
 have k0:=h0
 have lt0:∀x∈p0,x.block < W.heap.size:=by obtain ⟨m,hm⟩:=k0;exact DataW.trod_lt m _ _ _ hm
 obtain ⟨l0,hl0,hc0,hm0,hr0,hb0⟩:=open_bytes h0
 have hbd:=bulk_bound hk
 simp only [List.append_nil,Rows.uptoBulkAll] at hbd
 clear hA0
 refine (walk a0 l0 len0 cap0 W hL hr0 hl0 hc0 hm0 (by omega)).mono fun e W' ⟨he,bel⟩=>?_
 subst he
 exact ⟨_,rfl,_,_,_,[],_,[],hW',trodAll_mk1 (shut_bool Tryz.underlying4 _),(trodAll_cons_mk (Below.trod laidOut (by kernel_rfl) (of_decide_eq_true (by kernel_rfl)) k0 bel lt0) trodAll_mk0),rfl,bel.frame _,fun h=>by cases h⟩
set_option maxRecDepth 100000 in
theorem laid_met (os:Os):laidMet Tryz.prog Rows.syntaxKeepsUptoRow.laid ((laidWorld os).forCall (fun _ _=>0) ⟨#[],#[.slice none 0 0],[]⟩).memory :=
 Syn.laid_met os _
set_option maxRecDepth 100000 in
theorem reads (os:Os) {H:Type} (enc:TypeId × Value→H):∃places,DataW.whole enc Tryz.prog ((laidWorld os).forCall (fun _ _=>0) ⟨#[],#[.slice none 0 0],[]⟩).memory Tryz.f6.params.toList Rows.syntaxKeepsSpec.vars false (#[.slice none 0 0]:Array Value).toList 8=some ([.nil],[],places) :=
 ⟨[],by kernel_rfl⟩
set_option maxRecDepth 100000 in
theorem lifted (os:Os) (started:os.Started) (H:Type) (enc:TypeId × Value→H) (F:Stop.Interp) :
  ReturnsInHanded {} Tryz.checked os 6 .any ((Rows.OpenSpec.upto Rows.syntaxKeepsSpec).preRow enc Tryz.prog Tryz.f6 Rows.syntaxKeepsUptoRow.domain false Rows.syntaxKeepsUptoRow.laid) (((Rows.OpenSpec.upto Rows.syntaxKeepsSpec).at F).post enc Tryz.prog Tryz.f6 false true false false):=by
 obtain ⟨places,hx⟩:=reads os enc
 refine returnsInHanded_of_row (C:=Tryz.checked) (s:=Rows.OpenSpec.upto Rows.syntaxKeepsSpec) own started (by kernel_rfl) Tryz.func6
  (witness_row_shaped (enc:=enc) (C:=Tryz.checked) false (laidWorld os) #[.slice none 0 0] (World.laidAll_os _ _ _) (World.shaped_of_ZipB (by kernel_rfl) (by kernel_rfl)) (by kernel_rfl)
   (OpenSpec.preRow_of_cond 8 hx (by kernel_rfl) (fun k hk=>by cases hk;kernel_rfl) (by kernel_rfl) (laid_met os))) ?_
 intro W base args ds gs before hval hW _ hcond _ hL _ _
 exact contract H enc W base args ds gs before hval hW hL (hcond _ rfl)
set_option maxRecDepth 100000 in
theorem cl:Tryz.prog.closure 6=[6,14,18,45,81,87,119,82,113,148,180,203,181,204,241,242,205,243,277,147,178,199,239,276,240,200,201,150,183,207,208,179,202,246,247,278,297,307,308,319,332,279,280,298,209,182,206,244,245,151,114,149,46,83,84,115,152,154,186,117,153,116,184,210,221,85,212,248,255,285,286,302,313,197,238,166,325,335,336,347,337,271,272,338,348,349,353,339,340,341,342,314,303,211,213,250,214,216,254,256,287,215,253,284,301,281,218,259,288,290,305,315,88,120,326,343,49,316,50,317,327,344,328,329,345,350,330,318,331,346,351,352,86,118,155,187,156,157,158,188,289,304,174,20,47,217,140,176,177,175,198,257,258,105,138,171,195,172,196,229,235,275,230,270,231,232,273,274,296,233,234,236,237,173,137,170,139,282,299,249,252,283,300,309,320,310,311,321,333,312,322,323,324,334,251,185,219,220,260,22,48,15,39,40,72,103,104,73,74,19,25,54,55]:=by kernel_rfl
set_option maxHeartbeats 8000000 in
set_option maxRecDepth 100000 in
theorem goes_no:Rows.syntaxKeepsUptoRow.goesBy Tryz.prog=false:=by
 have hn:Tryz.prog.funcNamed Rows.syntaxKeepsUptoRow.func=some 6:=by kernel_rfl
 have hg:Tryz.prog.goes 6=false:=by
  unfold Program.goes Program.unfollowed
  rw [cl]
  as_aux_lemma=>kernel_rfl
 unfold OpenClaim.goesBy Program.goesAt Program.goesFrom
 rw [hn]
 show (Tryz.prog.goes 6 || _)=false
 rw [hg]
 kernel_rfl
set_option maxHeartbeats 8000000 in
set_option maxRecDepth 100000 in
theorem said:Rows.SyntaxKeepsUptoSaid :=
 OpenClaim.holds_of_cond 6 Tryz.f6 rfl rfl rfl rfl rfl rfl rfl ⟨rfl,rfl,rfl,rfl,rfl⟩ rfl rfl rfl rfl rfl (by kernel_rfl) Tryz.func6 (by
  unfold joinedFacts
  repeat' (with_reducible refine and_both ?_ ?_)
  all_goals first
   | (unfold Program.inPlace;rw [cl];as_aux_lemma=>kernel_rfl)
   | (unfold Program.unfollowed;rw [cl];as_aux_lemma=>kernel_rfl)
   | (unfold Program.varsNamed;rw [cl];as_aux_lemma=>kernel_rfl)
   | (as_aux_lemma=>kernel_rfl))
  (of_decide_eq_true (by kernel_rfl)) (by unfold Func.isWrapper;first | (rw [if_pos (by decide +kernel)];kernel_rfl) | (rw [if_neg (by decide +kernel)];exact ⟨rfl,rfl⟩))
  (fun os started H enc _ F=>by rw [OpenClaim.pre_eq_preRow];exact lifted os started H enc F)
set_option maxRecDepth 100000 in
theorem plain (f:FuncId) (fn:Func) (hf:Tryz.pinned.checked.prog.funcNamed Rows.syntaxKeepsUptoRow.func=some f) (hfn:Tryz.pinned.checked.prog.funcs[f]? = some fn) :
  true=Tryz.pinned.checked.prog.looks []∧∀(j:Nat) t,fn.params[j]? = some t→Tryz.pinned.checked.prog.wantsStandIn t=false:=by
 obtain rfl:f=6:=Option.some.inj ((show Tryz.prog.funcNamed Rows.syntaxKeepsUptoRow.func=some 6 by kernel_rfl).symm.trans hf) |>.symm
 obtain rfl:fn=Tryz.f6:=(Option.some.inj (Tryz.func6.symm.trans hfn)).symm
 refine ⟨by kernel_rfl,fun j t ht=>?_⟩
 rw [Tryz.params6] at ht
 have hm:=Array.mem_of_getElem? ht
 simp only [List.mem_toArray,List.mem_cons,List.not_mem_nil,or_false] at hm
 rcases hm with rfl
 all_goals first | exact (show Tryz.prog.wantsStandIn 25=false by kernel_rfl)
set_option maxRecDepth 100000 in
theorem proved:Rows.SyntaxKeepsUptoCardSaid :=
 Claim7.holds_tied_plain_at .later [] _ _ _ _ said (fun _ h=>by cases h) (by kernel_rfl) (fun _ h=>by cases h) syntaxKeepsUpto_row_tie rfl ⟨rfl,rfl⟩ (by kernel_rfl) rfl plain goes_no.symm
end Go.Proofs.YtkgeiokckfpjlaaGreatDoor.LawSyntaxKeeps
