/-
  SyntaxMays answers true, and leaves its argument as it was, for every list of steps that hold together at most 1048576 values and letters, from every memory in which the variables that the row lists hold what it says: what the document's May says of the list, the project's May says.
-/
import Derived.Test.YtkgeiokckfpjlaaGreatDoorM42
namespace Go.Proofs.YtkgeiokckfpjlaaGreatDoor.LawSyntaxMays
open Go.ChangeShapes Go.WideShapes Go.ChangeAt Go.RowKit
open Utf (Rd bys bys_len laidOut own bulk_bound)
open Ucd (Laid)
open Rset (Ret own_form)
open Sset (St Tx txs ArgT ArgR normS none_ open_texts)
open Syn
set_option maxHeartbeats 4000000 in
theorem walk (A:Option Addr) (V:List NV) (l:List Nd) (n c:Nat) (w:World) (hL:Laid w) (h:ArgN w A n V l) :
  Calls Tryz.prog 3 #[.slice A n c] w (Ret w (.bool true)):=by
 have HF:=Lib.hid (fixed_any w hL)
 have H:=Lib.hid h
 clear hL h
 go_enter Tryz.func3,Tryz.ntmps3
 go_wp2_with fail
 refine HF.out.mono ?_
 rintro e w1 ⟨rfl,hb1⟩
 have HB1:=Lib.hid hb1
 have HM:=Lib.hid (may_any A V l n c w1 (H.out.next hb1))
 clear hb1
 go_wp2_with fail
 refine HM.out.mono ?_
 rintro e w2 ⟨rfl,hb2⟩
 have HB2:=Lib.hid (HB1.out.trans (hb2.mono HB1.out.size))
 have HR:=Lib.hid (rmay_any A V l n c w2 (H.out.next HB2.out))
 clear hb2
 go_wp2_with fail
 refine HR.out.mono ?_
 rintro e w3 ⟨rfl,hb3⟩
 have HB3:=Lib.hid (HB2.out.trans (hb3.mono HB2.out.size))
 have hq:(mayF l == mayF l)=true:=beq_self_eq_true _
 clear hb3
 generalize mayF l=z at hq ⊢
 go_wp2_with fail
 go_ret
 exact ⟨rfl,HB3.out⟩
set_option maxRecDepth 100000 in
theorem contract (H:Type) (enc:TypeId × Value→H) (W:World) (base:Nat) (args:Array Value) (ds gs:List (DataW H)) (before:List MemPlace)
  (hval:∀(j:Nat) t v,Tryz.f3.params[j]? = some t→args[j]? = some v→Value.okWide Tryz.prog W .any base t v)
  (hW:DataW.Whole enc Tryz.prog Tryz.f3.params.toList Rows.syntaxMaysSpec.vars false W args.toList ds gs before) (hLL:laidMetH Tryz.prog Rows.syntaxMaysUptoRow.laid W) (hk:Rows.uptoSmall H (ds++gs)=true) :
  Calls Tryz.prog 3 args W fun e W'=>∃v,e=.returned v∧Rows.syntaxMaysSpec.post enc Tryz.prog Tryz.f3 false true false false W args v W':=by
 have hL:Laid W:=laid_of hLL
 have hW':=hW
 obtain ⟨p,q,hA0,hV,rfl,hfz,hnd⟩:=hW
 have hA:DataW.TrodAll enc Tryz.prog W 0 (fun _=>true) true Tryz.f3.params.toList args.toList ds p:=hA0
 rw [Tryz.params3] at hA hval
 obtain ⟨v0,vs0,d0,ds0,p0,q0,hargs,rfl,rfl,h0,r0⟩:=trodAll_cons hA
 obtain ⟨rfl,rfl,rfl⟩:=trodAll_nil r0
 obtain rfl:args=#[v0]:=by cases args;simp_all
 obtain ⟨rfl,rfl⟩:=trodVars_none hV
 obtain ⟨a0,len0,cap0,rfl⟩:=okWide_slice Tryz.underlying22 (hval 0 22 v0 rfl rfl)
 have k0:=h0
 have lt0:∀x∈p0,x.block < W.heap.size:=by obtain ⟨m,hm⟩:=k0;exact DataW.trod_lt m _ _ _ hm
 have hbd:=bulk_bound hk
 simp only [List.append_nil,Rows.uptoBulkAll] at hbd
 obtain ⟨V0,l0,g0⟩:=open_nodes h0 (by omega)
 clear hA0
 refine (walk a0 V0 l0 len0 cap0 W hL g0).mono fun e W' ⟨he,bel⟩=>?_
 subst he
 exact ⟨_,rfl,_,_,_,[],_,[],hW',trodAll_mk1 (shut_bool Tryz.underlying4 _),(trodAll_cons_mk (Below.trod laidOut (by kernel_rfl) (of_decide_eq_true (by kernel_rfl)) k0 bel lt0) trodAll_mk0),rfl,bel.frame _,fun h=>by cases h⟩
set_option maxRecDepth 100000 in
theorem laid_met (os:Os):laidMet Tryz.prog Rows.syntaxMaysUptoRow.laid ((laidWorld os).forCall (fun _ _=>0) ⟨#[],#[.slice none 0 0],[]⟩).memory :=
 Syn.laid_met os _
set_option maxRecDepth 100000 in
theorem reads (os:Os) {H:Type} (enc:TypeId × Value→H):∃places,DataW.whole enc Tryz.prog ((laidWorld os).forCall (fun _ _=>0) ⟨#[],#[.slice none 0 0],[]⟩).memory Tryz.f3.params.toList Rows.syntaxMaysSpec.vars false (#[.slice none 0 0]:Array Value).toList 8=some ([.nil],[],places) :=
 ⟨[],by kernel_rfl⟩
set_option maxRecDepth 100000 in
theorem lifted (os:Os) (started:os.Started) (H:Type) (enc:TypeId × Value→H) (F:Stop.Interp) :
  ReturnsInHanded {} Tryz.checked os 3 .any ((Rows.OpenSpec.upto Rows.syntaxMaysSpec).preRow enc Tryz.prog Tryz.f3 Rows.syntaxMaysUptoRow.domain false Rows.syntaxMaysUptoRow.laid) (((Rows.OpenSpec.upto Rows.syntaxMaysSpec).at F).post enc Tryz.prog Tryz.f3 false true false false):=by
 obtain ⟨places,hx⟩:=reads os enc
 refine returnsInHanded_of_row (C:=Tryz.checked) (s:=Rows.OpenSpec.upto Rows.syntaxMaysSpec) own started (by kernel_rfl) Tryz.func3
  (witness_row_shaped (enc:=enc) (C:=Tryz.checked) false (laidWorld os) #[.slice none 0 0] (World.laidAll_os _ _ _) (World.shaped_of_ZipB (by kernel_rfl) (by kernel_rfl)) (by kernel_rfl)
   (OpenSpec.preRow_of_cond 8 hx (by kernel_rfl) (fun k hk=>by cases hk;kernel_rfl) (by kernel_rfl) (laid_met os))) ?_
 intro W base args ds gs before hval hW _ hcond _ hL _ _
 exact contract H enc W base args ds gs before hval hW hL (hcond _ rfl)
set_option maxRecDepth 100000 in
theorem cl:Tryz.prog.closure 3=[3,14,18,45,81,87,119,82,113,148,180,203,181,204,241,242,205,243,277,147,178,199,239,276,240,200,201,150,183,207,208,179,202,246,247,278,297,307,308,319,332,279,280,298,209,182,206,244,245,151,114,149,46,83,84,115,152,154,186,117,153,116,184,210,221,85,212,248,255,285,286,302,313,197,238,166,325,335,336,347,337,271,272,338,348,349,353,339,340,341,342,314,303,211,213,250,214,216,254,256,287,215,253,284,301,281,218,259,288,290,305,315,88,120,326,343,49,316,50,317,327,344,328,329,345,350,330,318,331,346,351,352,86,118,155,187,156,157,158,188,289,304,174,20,47,217,140,176,177,175,198,257,258,105,138,171,195,172,196,229,235,275,230,270,231,232,273,274,296,233,234,236,237,173,137,170,139,282,299,249,252,283,300,309,320,310,311,321,333,312,322,323,324,334,251,185,219,220,260,22,48,15,39,40,72,103,104,73,74,16,25,54,55,41,75,107,106,76,56,44,80,112,146,42,77,109,108]:=by kernel_rfl
set_option maxHeartbeats 8000000 in
set_option maxRecDepth 100000 in
theorem goes_no:Rows.syntaxMaysUptoRow.goesBy Tryz.prog=false:=by
 have hn:Tryz.prog.funcNamed Rows.syntaxMaysUptoRow.func=some 3:=by kernel_rfl
 have hg:Tryz.prog.goes 3=false:=by
  unfold Program.goes Program.unfollowed
  rw [cl]
  as_aux_lemma=>kernel_rfl
 unfold OpenClaim.goesBy Program.goesAt Program.goesFrom
 rw [hn]
 show (Tryz.prog.goes 3 || _)=false
 rw [hg]
 kernel_rfl
set_option maxHeartbeats 8000000 in
set_option maxRecDepth 100000 in
theorem said:Rows.SyntaxMaysUptoSaid :=
 OpenClaim.holds_of_cond 3 Tryz.f3 rfl rfl rfl rfl rfl rfl rfl ⟨rfl,rfl,rfl,rfl,rfl⟩ rfl rfl rfl rfl rfl (by kernel_rfl) Tryz.func3 (by
  unfold joinedFacts
  repeat' (with_reducible refine and_both ?_ ?_)
  all_goals first
   | (unfold Program.inPlace;rw [cl];as_aux_lemma=>kernel_rfl)
   | (unfold Program.unfollowed;rw [cl];as_aux_lemma=>kernel_rfl)
   | (unfold Program.varsNamed;rw [cl];as_aux_lemma=>kernel_rfl)
   | (as_aux_lemma=>kernel_rfl))
  (of_decide_eq_true (by kernel_rfl)) (by unfold Func.isWrapper;first | (rw [if_pos (by decide +kernel)];kernel_rfl) | (rw [if_neg (by decide +kernel)];exact ⟨rfl,rfl⟩))
  (fun os started H enc _ F=>by rw [OpenClaim.pre_eq_preRow];exact lifted os started H enc F)
set_option maxRecDepth 100000 in
theorem plain (f:FuncId) (fn:Func) (hf:Tryz.pinned.checked.prog.funcNamed Rows.syntaxMaysUptoRow.func=some f) (hfn:Tryz.pinned.checked.prog.funcs[f]? = some fn) :
  true=Tryz.pinned.checked.prog.looks []∧∀(j:Nat) t,fn.params[j]? = some t→Tryz.pinned.checked.prog.wantsStandIn t=false:=by
 obtain rfl:f=3:=Option.some.inj ((show Tryz.prog.funcNamed Rows.syntaxMaysUptoRow.func=some 3 by kernel_rfl).symm.trans hf) |>.symm
 obtain rfl:fn=Tryz.f3:=(Option.some.inj (Tryz.func3.symm.trans hfn)).symm
 refine ⟨by kernel_rfl,fun j t ht=>?_⟩
 rw [Tryz.params3] at ht
 have hm:=Array.mem_of_getElem? ht
 simp only [List.mem_toArray,List.mem_cons,List.not_mem_nil,or_false] at hm
 rcases hm with rfl
 all_goals first | exact (show Tryz.prog.wantsStandIn 22=false by kernel_rfl)
set_option maxRecDepth 100000 in
theorem proved:Rows.SyntaxMaysUptoCardSaid :=
 Claim7.holds_tied_plain_at .later [] _ _ _ _ said (fun _ h=>by cases h) (by kernel_rfl) (fun _ h=>by cases h) syntaxMaysUpto_row_tie rfl ⟨rfl,rfl⟩ (by kernel_rfl) rfl plain goes_no.symm
end Go.Proofs.YtkgeiokckfpjlaaGreatDoor.LawSyntaxMays
