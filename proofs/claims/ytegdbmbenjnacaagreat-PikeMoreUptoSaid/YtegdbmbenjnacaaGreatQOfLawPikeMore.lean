/-
  Where a run isn't open, more text changes nothing of its answer. Conditions: arguments of bulk at most 1048576.
-/
import Derived.Test.YtegdbmbenjnacaaGreatQ31
import Derived.Test.YtegdbmbenjnacaaGreatQ34
namespace Go.Proofs.YtegdbmbenjnacaaGreat.LawPikeMore
open Go.ChangeShapes Go.WideShapes Go.ChangeAt Go.RowKit
open Mem hiding Rd Blk
open Sset (St Tx ArgT txs Short)
open Syn (Nd NV nvs ArgN)
open Prg (Ins mayP PR)
open Pike
set_option maxRecDepth 100000
theorem own_mt (w:World) (B:Nat) (hB:B≤w.heap.size):(w.alloc (.cells #[] 9)).ownsRow B 9 1 (.slice (some ⟨w.heap.size,0,none⟩) 0 0) 0 [] :=
 ⟨rfl,.inr ⟨w.heap.size,0,#[],rfl,hB,heap_alloc_new w _,Nat.le_refl _,by unfold maxLen;omega,rfl,rfl⟩⟩
def Two (w:World) (g:Nat) (x y:Value):Prop:=w.cell? ⟨g,0,none⟩=some x∧w.cell? ⟨g,1,none⟩=some y
theorem Two.next {w w':World} {g B:Nat} {x y:Value} (h:Two w g x y) (hb:Below B w w') (hg:g < B):Two w' g x y:=⟨(hb.cell (p:=⟨g,0,none⟩) hg).trans h.1,(hb.cell (p:=⟨g,1,none⟩) hg).trans h.2⟩
theorem long_no {p:List Nd} {T:List Tx} {b f:Bool} {z:Int} (h:¬(mayP p=true∧0≤z∧z≤T.length)):longF p T b f z=(0,false,false,1):=if_neg h
theorem long_err {p:List Nd} {T:List Tx} {b f:Bool} {z:Int} (h:mayP p=true∧0≤z∧z≤T.length):(longF p T b f z).2.2.2=0:=by unfold longF;rw [if_pos h]
set_option maxHeartbeats 2000000 in
theorem walk (a0 a1 a2:Option Addr) (V0:List NV) (pp:List Nd) (T U:List Tx) (ln lt lu cp ct cu:Nat) (x y:Int) (W:World) (HN:ArgN W a0 ln V0 pp) (HT:ArgT W a1 lt T) (HT2:ArgT W a2 lu U) (bn:lt+lu≤1048576) :
  Calls Tryz.prog 6 #[.slice a0 ln cp,.agg #[.slice a1 lt ct,.slice a2 lu cu],.agg #[.int .i64 x,.int .i64 y]] W (Ret W (.bool true)):=by
 obtain ⟨i0,hi,hz0,hz1,hz2⟩:=info_parts Sset.infoStr
 obtain ⟨u0,hu0⟩:∃u0,u0=W.alloc (.cells #[.slice a1 lt ct,.slice a2 lu cu] 54):=⟨_,rfl⟩
 obtain ⟨u,hu⟩:∃u,u=u0.alloc (.cells #[.int .i64 x,.int .i64 y] 55):=⟨_,rfl⟩
 have hs0:u0.heap.size=W.heap.size+1:=by rw [hu0];simp
 have hb0:Below W.heap.size W u0:=by rw [hu0];exact (Below.refl _ _).alloc (Nat.le_refl _) _
 have hb1:Below u0.heap.size u0 u:=by rw [hu];exact (Below.refl _ _).alloc (Nat.le_refl _) _
 have k0:Two u0 W.heap.size (.slice a1 lt ct) (.slice a2 lu cu):=by
  have:Mem.Blk u0 W.heap.size 54 [.slice a1 lt ct,.slice a2 lu cu]:=by rw [hu0];exact Mem.Blk.new W _ _
  exact ⟨this.cell 0,this.cell 1⟩
 have k1:Two u (W.heap.size+1) (.int .i64 x) (.int .i64 y):=by
  have:Mem.Blk u u0.heap.size 55 [.int .i64 x,.int .i64 y]:=by rw [hu];exact Mem.Blk.new u0 _ _
  rw [hs0] at this
  exact ⟨this.cell 0,this.cell 1⟩
 have hsu:W.heap.size+2≤u.heap.size:=by rw [hu];simp;omega
 have HB0:=Lib.hid (hb0.trans (hb1.mono (by omega)))
 have HF:=Lib.hid (fixed_any u)
 have HK0:=Lib.hid (k0.next hb1 (by omega));have HK1:=Lib.hid k1
 have HU:=Lib.hid hu;have HU0:=Lib.hid hu0
 have HSU:=Lib.hid hsu
 have HP:=Lib.hid HN;have HX:=Lib.hid HT;have HY:=Lib.hid HT2
 clear hu hu0 hs0 hb0 hb1 k0 k1 hsu HN HT HT2
 go_enter Tryz.func6,Tryz.ntmps6
 go_wp2_with fail
 rw [←HU0.out,←HU.out]
 refine HF.out.mono ?_
 rintro e w1 ⟨rfl,hb⟩
 have hgs:W.heap.size+2≤u.heap.size:=HSU.out
 have HB1:=Lib.hid (HB0.out.trans (hb.mono HB0.out.size))
 have HK2:=Lib.hid (HK0.out.next hb (by omega));have HK3:=Lib.hid (HK1.out.next hb (by omega))
 have HP1:=Lib.hid (HP.out.next HB1.out);have HX1:=Lib.hid (HX.out.next HB1.out);have HY1:=Lib.hid (HY.out.next HB1.out)
 have hg1:W.heap.size+2≤w1.heap.size:=Nat.le_trans hgs hb.size
 have q0:w1.cell? ⟨W.heap.size+1,0,none⟩=some (.int .i64 x):=HK3.out.1
 have q1:w1.cell? ⟨W.heap.size+1,1,none⟩=some (.int .i64 y):=HK3.out.2
 clear hb HF HU HU0 HB0 HK0 HK1 HP HX HY HSU hgs HK3
 go_wp2_with fail
 go_quiet (fail)
 generalize (y.tmod 2 != 0)=bb
 have HB2:=Lib.hid (below_drewN HB1.out nq)
 have HP2:=Lib.hid (HP1.out.next (below_drewN (Below.refl _ _) nq));have HX2:=Lib.hid (HX1.out.next (below_drewN (Below.refl _ _) nq));have HY2:=Lib.hid (HY1.out.next (below_drewN (Below.refl _ _) nq))
 have hk2:Two (w1.drewN nq) W.heap.size (.slice a1 lt ct) (.slice a2 lu cu):=HK2.out
 have hg2:W.heap.size+2≤(w1.drewN nq).heap.size:=hg1
 generalize w1.drewN nq=w2 at *
 have c0:w2.cell? ⟨W.heap.size,0,none⟩=some (.slice a1 lt ct):=hk2.1
 have HK2:=Lib.hid hk2
 clear HP1 HX1 HY1 HB1 hk2 q0 q1 hg1
 go_wp2_with fail
 refine (longest_any a0 a1 ln cp lt ct bb false x w2 HP2.out HX2.out).mono ?_
 rintro e w3 ⟨rfl,hb⟩
 have HB3:=Lib.hid (HB2.out.trans (hb.mono HB2.out.size))
 have HP3:=Lib.hid (HP2.out.next hb);have HX3:=Lib.hid (HX2.out.next hb);have HY3:=Lib.hid (HY2.out.next hb)
 have HK3:=Lib.hid (HK2.out.next hb (by omega))
 have hg3:W.heap.size+2≤w3.heap.size:=Nat.le_trans hg2 hb.size
 have HTL:=Lib.hid HX2.out.len
 clear hb HP2 HX2 HY2 HB2 HK2 c0 hg2
 by_cases hc:mayP pp=true∧0≤x∧x≤T.length
 ·obtain ⟨q,hq⟩:∃q,q=longF pp T bb false x:=⟨_,rfl⟩
  have hqe:q.2.2.2=0:=by rw [hq];exact long_err hc
  have HQ:=Lib.hid hq
  have HC:=Lib.hid hc
  rw [←hq]
  clear hq hc
  obtain ⟨m,is_,op,er⟩:=q
  dsimp only at hqe
  subst hqe
  simp only [four]
  cases op with
  | true =>
   go_wp2_with fail
   go_ret
   exact ⟨rfl,HB3.out⟩
  | false =>
   have HM:=Lib.hid (fun f=>(long_more U x HC.out.1 HC.out.2.1 HC.out.2.2 (by rw [←HQ.out]) f))
   go_wp2_with fail
   have HSW:=Lib.hid (fun (w:World) (h:Below w3.heap.size w3 w)=>HK3.out.next h (by omega))
   refine wp_region_held_drew (S:=fun u=>Two u W.heap.size (.slice a1 lt ct) (.slice a2 lu cu)) (by kernel_rfl) (HSW.out _ (Below.refl _ _).drew) (fun hHeld=>?_)
   refine wpAnyH_take (i:=1) (oi:=_) (v:=?_) rfl (by kernel_rfl) (by kernel_rfl) (by kernel_rfl) (fun _ _ _ h=>h) (Or.inl ⟨by rfl,?_⟩) (by assumption) ?_
   rotate_left
   ·(intro w hSw;have hS1:=hSw.1;have hS2:=hSw.2;go_simp <;> with_reducible rfl)
   simp only [List.getElem_toArray,List.getElem_cons_succ,List.getElem_cons_zero,Act.put,List.setIfInBounds_toArray,List.set_cons_zero,List.set_cons_succ]
   refine wpAnyH_take (i:=2) (oi:=_) (v:=?_) rfl (by kernel_rfl) (by kernel_rfl) (by kernel_rfl) (fun _ _ _ h=>h) (Or.inl ⟨by rfl,?_⟩) (by assumption) ?_
   rotate_left
   ·(intro w hSw;have hS1:=hSw.1;have hS2:=hSw.2;go_simp <;> with_reducible rfl)
   simp only [List.getElem_toArray,List.getElem_cons_succ,List.getElem_cons_zero,Act.put,List.setIfInBounds_toArray,List.set_cons_zero,List.set_cons_succ]
   refine wpAnyH_take (i:=4) (oi:=_) (v:=?_) rfl (by kernel_rfl) (by kernel_rfl) (by kernel_rfl) (fun _ _ _ h=>h) (Or.inl ⟨by rfl,?_⟩) (by assumption) ?_
   rotate_left
   ·(intro w hSw;have hS1:=hSw.1;have hS2:=hSw.2;go_simp <;> with_reducible rfl)
   simp only [List.getElem_toArray,List.getElem_cons_succ,List.getElem_cons_zero,Act.put,List.setIfInBounds_toArray,List.set_cons_zero,List.set_cons_succ]
   refine wpAnyH_take (i:=5) (oi:=_) (v:=?_) rfl (by kernel_rfl) (by kernel_rfl) (by kernel_rfl) (fun _ _ _ h=>h) (Or.inl ⟨by rfl,?_⟩) (by assumption) ?_
   rotate_left
   ·(intro w hSw;have hS1:=hSw.1;have hS2:=hSw.2;go_simp <;> with_reducible rfl)
   simp only [List.getElem_toArray,List.getElem_cons_succ,List.getElem_cons_zero,Act.put,List.setIfInBounds_toArray,List.set_cons_zero,List.set_cons_succ]
   refine wpAnyH_ready (rs:=[0]) (by kernel_rfl) (by simp) (AllReadyH.cons rfl (fun K hK=>?_) AllReadyH.nil)
   go_simp
   have HBA:=Lib.hid (show Below w3.heap.size w3 (w3.drew.alloc (.cells #[] 9)) from ((Below.refl _ _).drew).alloc (Nat.le_refl _) _)
   refine hK.out _ _ (HSW.out _ HBA.out) (fun hHeld2=>?_)
   clear hK K hHeld
   have hHeld:=hHeld2
   clear hHeld2
   refine wpAnyH_ready (rs:=[3]) (by kernel_rfl) (by simp) (AllReadyH.cons rfl (fun K hK=>?_) AllReadyH.nil)
   have hown0:=own_mt w3.drew w3.heap.size (Nat.le_refl _)
   refine step_append_rd (by rfl) (.tmp 46) (.tmp 48) _ (by rfl) w3.heap.size 9 i0 _ 1 16 Tryz.underlying23 hi hz0 hz1 hz2 rfl (by decide) _ 0 [] (by rfl) hown0 _ a1 lt ct (txs T) (by rfl) (by rw [Sset.txs_len,HTL.out,Nat.mul_one]) (HX3.out.next HBA.out).rd (Sset.txs_one _) (by unfold maxLen;omega) (by omega) HBA.out.size ?_
   intro v4 w4 hown4 hgr4 hat4
   have HO4:=Lib.hid hown4
   have HB4:=Lib.hid (HBA.out.grown hgr4 HBA.out.size (fun j hj=>(hown0.lt j hj).1))
   clear hown4 hgr4 hat4 hown0
   refine hK.out _ _ (HSW.out _ HB4.out) (fun hHeld2=>?_)
   clear hK K hHeld
   have hHeld:=hHeld2
   clear hHeld2
   refine wpAnyH_ready (rs:=[6]) (by kernel_rfl) (by simp) (AllReadyH.cons rfl (fun K hK=>?_) AllReadyH.nil)
   refine step_append_rd (by rfl) (.tmp 49) (.tmp 51) _ (by rfl) w3.heap.size 9 i0 _ 1 16 Tryz.underlying23 hi hz0 hz1 hz2 rfl (by decide) v4 (0+lt) ([]++txs T) (by rfl) HO4.out _ a2 lu cu (txs U) (by rfl) (by rw [Sset.txs_len,HY3.out.len,Nat.mul_one]) (HY3.out.next HB4.out).rd (Sset.txs_one _) (by unfold maxLen;omega) (by omega) HB4.out.size ?_
   intro v5 w5 hown5 hgr5 hat5
   have HO5:=Lib.hid hown5
   have HB5:=Lib.hid (HB4.out.grown hgr5 HB4.out.size (fun j hj=>(HO4.out.lt j hj).1))
   clear hown5 hgr5 hat5
   refine hK.out _ _ (HSW.out _ HB5.out) (fun hHeld2=>?_)
   clear hK K hHeld
   have hHeld:=hHeld2
   clear hHeld2
   refine wpAnyH_take (i:=7) (oi:=_) (v:=?_) rfl (by kernel_rfl) (by kernel_rfl) (by kernel_rfl) (fun _ _ _ h=>h) (Or.inl ⟨by rfl,?_⟩) (by assumption) ?_
   rotate_left
   ·(intro w hSw;have hS1:=hSw.1;have hS2:=hSw.2;go_simp <;> with_reducible rfl)
   simp only [List.getElem_toArray,List.getElem_cons_succ,List.getElem_cons_zero,Act.put,List.setIfInBounds_toArray,List.set_cons_zero,List.set_cons_succ]
   refine wpAnyH_done (by kernel_rfl) ?_ _
   clear hHeld HSW HO4
   have ho5:=HO5.out
   rw [List.nil_append,←Sset.txs_append,Nat.zero_add] at ho5
   obtain ⟨A5,k5,rfl,HA⟩:=Sset.argT_own ho5 (show (T++U).length=lt+lu by rw [List.length_append,HTL.out,HY3.out.len]) (fun t ht=>(List.mem_append.1 ht).elim (HX3.out.short t) (HY3.out.short t)) (by omega)
   have HA5:=Lib.hid HA
   have HP5:=Lib.hid (HP3.out.next HB5.out)
   have HB6:=Lib.hid (HB3.out.trans (HB5.out.mono HB3.out.size))
   clear ho5 HA HO5 HB4 HBA HB5 HP3
   go_wp2_with fail
   refine (longest_any a0 A5 ln cp (lt+lu) k5 bb false x w5 HP5.out HA5.out).mono ?_
   rintro e w7 ⟨rfl,hb⟩
   have HB7:=Lib.hid (HB6.out.trans (hb.mono HB6.out.size))
   have HP7:=Lib.hid (HP5.out.next hb);have HA7:=Lib.hid (HA5.out.next hb)
   clear hb HB6 HP5 HA5
   rw [(HM.out false).1,(HM.out false).2,←HQ.out]
   simp only [four]
   go_wp2_with fail
   refine (longest_any a0 A5 ln cp (lt+lu) k5 bb true x w7 HP7.out HA7.out).mono ?_
   rintro e w8 ⟨rfl,hb⟩
   have HB8:=Lib.hid (HB7.out.trans (hb.mono HB7.out.size))
   clear hb HB7 HP7 HA7
   rw [(HM.out true).1,←HQ.out]
   have o1:(m == m)=true:=by simp
   have o2:(is_ == is_)=true:=by simp
   simp only [four]
   go_wp2_with fail
   go_ret
   exact ⟨rfl,HB8.out⟩
 ·rw [long_no hc]
  simp only [four]
  go_wp2_with fail
  go_ret
  exact ⟨rfl,HB3.out⟩
theorem contract (H:Type) (enc:TypeId × Value→H) (W:World) (base:Nat) (args:Array Value) (ds gs:List (DataW H)) (before:List MemPlace)
  (hval:∀(j:Nat) t v,Tryz.f6.params[j]? = some t→args[j]? = some v→Value.okWide Tryz.prog W .any base t v)
  (hW:DataW.Whole enc Tryz.prog Tryz.f6.params.toList Rows.pikeMoreSpec.vars false W args.toList ds gs before) (hk:Rows.uptoSmall H (ds++gs)=true) :
  Calls Tryz.prog 6 args W fun e W'=>∃v,e=.returned v∧Rows.pikeMoreSpec.post enc Tryz.prog Tryz.f6 false true false false W args v W':=by
 have hW':=hW
 obtain ⟨p,q,hA0,hV,rfl,hfz,hnd⟩:=hW
 have hA:DataW.TrodAll enc Tryz.prog W 0 (fun _=>true) true Tryz.f6.params.toList args.toList ds p:=hA0
 rw [Tryz.params6] at hA hval
 obtain ⟨v0,vs0,d0,ds0,p0,q0,hargs,rfl,rfl,h0,r0⟩:=trodAll_cons hA
 obtain ⟨v1,vs1,d1,ds1,p1,q1,rfl,rfl,rfl,h1,r1⟩:=trodAll_cons r0
 obtain ⟨v2,vs2,d2,ds2,p2,q2,rfl,rfl,rfl,h2,r2⟩:=trodAll_cons r1
 obtain ⟨rfl,rfl,rfl⟩:=trodAll_nil r2
 obtain rfl:args=#[v0,v1,v2]:=by cases args;simp_all
 obtain ⟨rfl,rfl⟩:=trodVars_none hV
 have hbd:=bulk_bound hk
 simp only [List.append_nil,Rows.uptoBulkAll] at hbd
 have k0:=h0
 have lt0:∀x∈p0,x.block < W.heap.size:=by obtain ⟨m,hm⟩:=k0;exact DataW.trod_lt m _ _ _ hm
 obtain ⟨a0,len0,cap0,rfl⟩:=okWide_slice Tryz.underlying22 (hval 0 22 v0 rfl rfl)
 obtain ⟨V0,l0,HN0⟩:=open_code h0 (by omega)
 have k1:=h1
 have lt1:∀x∈p1,x.block < W.heap.size:=by obtain ⟨m,hm⟩:=k1;exact DataW.trod_lt m _ _ _ hm
 obtain ⟨A1,n1,c1,l1,A1',n1',c1',l1',rfl,HT1,HT1',bn1⟩:=open_lists (hval 1 54 v1 rfl rfl) h1 (by omega)
 have k2:=h2
 have lt2:∀x∈p2,x.block < W.heap.size:=by obtain ⟨m,hm⟩:=k2;exact DataW.trod_lt m _ _ _ hm
 obtain ⟨x2,y2,rfl,rfl,rfl,wx20,wy20⟩:=open_two (hval 2 55 v2 rfl rfl) h2
 have wx2:=i64_bounds wx20
 have wy2:=i64_bounds wy20
 clear hA0
 refine (walk a0 A1 A1' V0 l0 l1 l1' len0 n1 n1' cap0 c1 c1' x2 y2 W HN0 HT1 HT1' bn1).mono fun e W' ⟨he,bel⟩=>?_
 subst he
 exact ⟨_,rfl,_,_,_,[],_,[],hW',trodAll_mk1 (shut_bool Tryz.underlying4 _),(trodAll_cons_mk (Below.trod laidOut (by kernel_rfl) (of_decide_eq_true (by kernel_rfl)) k0 bel lt0) (trodAll_cons_mk (Below.trod laidOut (by kernel_rfl) (of_decide_eq_true (by kernel_rfl)) k1 bel lt1) (trodAll_cons_mk (shut_two wx20 wy20) trodAll_mk0))),rfl,bel.frame _,fun h=>by cases h⟩
set_option maxRecDepth 100000 in
theorem lifted (os:Os) (started:os.Started) (H:Type) (enc:TypeId × Value→H) (F:Stop.Interp) :
  ReturnsInHanded {} Tryz.checked os 6 .any ((Rows.OpenSpec.upto Rows.pikeMoreSpec).pre6 enc Tryz.prog Tryz.f6 Rows.pikeMoreUptoRow.domain false) (((Rows.OpenSpec.upto Rows.pikeMoreSpec).at F).post enc Tryz.prog Tryz.f6 false true false false):=by
 refine returnsInHanded_of_cond (C:=Tryz.checked) (s:=Rows.OpenSpec.upto Rows.pikeMoreSpec) (k:=Rows.uptoSmall) rfl own started (by kernel_rfl) Tryz.func6
  (OpenSpec.witness (enc:=enc) (C:=Tryz.checked) (s:=Rows.OpenSpec.upto Rows.pikeMoreSpec) (k:=Rows.uptoSmall) rfl false ⟨#[],#[.slice none 0 0,.agg #[.slice none 0 0,.slice none 0 0],.agg #[.int .i64 0,.int .i64 0]],[]⟩ 8 (by kernel_rfl) (by kernel_rfl) (by kernel_rfl)
   (x:=([.nil,.agg [.nil,.nil],.agg [.lit (.int .i64 0),.lit (.int .i64 0)]],[],[])) (by kernel_rfl) rfl (by kernel_rfl)) ?_
 intro W base args ds gs before hval hW _ hk _
 exact contract H enc W base args ds gs before hval hW hk
theorem proved:Rows.PikeMoreUptoSaid :=
 OpenClaim.holds_of_cond 6 Tryz.f6 rfl rfl rfl rfl rfl rfl rfl ⟨rfl,rfl,rfl,rfl,rfl⟩ rfl rfl rfl rfl rfl (by kernel_rfl) Tryz.func6 (by kernel_rfl)
  (of_decide_eq_true (by kernel_rfl)) (by unfold Func.isWrapper;first | (rw [if_pos (by decide +kernel)];kernel_rfl) | (rw [if_neg (by decide +kernel)];exact ⟨rfl,rfl⟩))
  (fun os started H enc _ F=>lifted os started H enc F)
end Go.Proofs.YtegdbmbenjnacaaGreat.LawPikeMore
