/-
  Spans don't overlap, rise, and are not empty but where nothing longer is found from there. Conditions: arguments of bulk at most 1048576.
-/
import Derived.Test.YtegdbmbenjnacaaGreatQ31
import Derived.Test.YtegdbmbenjnacaaGreatQ34
namespace Go.Proofs.YtegdbmbenjnacaaGreat.LawPikeApart
open Go.ChangeShapes Go.WideShapes Go.ChangeAt Go.RowKit
open Mem hiding Rd Blk
open Sset (St Tx ArgT txs Short)
open Syn (Nd NV nvs ArgN)
open Prg (Ins mayP PR)
open Pike
set_option maxRecDepth 100000
theorem sps_get (L:List (Nat × Nat)):∀{k:Nat} (hk:k < L.length) (j:Nat),j < 4→(sps L)[k*4+j]? = [Value.int .i64 (L[k].1:Int),.int .i64 (L[k].2:Int),.int .i64 0,.int .i64 0][j]?:=by
 induction L with
 | nil=>intro k hk;simp at hk
 | cons q L ih =>
  intro k hk j hj
  have e:sps (q :: L)=[Value.int .i64 (q.1:Int),.int .i64 (q.2:Int),.int .i64 0,.int .i64 0]++sps L:=rfl
  rw [e]
  cases k with
  | zero=>rw [List.getElem?_append_left (by simpa using hj),Nat.zero_mul,Nat.zero_add];rfl
  | succ k =>
   rw [List.getElem?_append_right (by simp;omega)]
   have:=ih (k:=k) (by simpa using hk) j hj
   simp only [List.length_cons,List.length_nil,List.getElem_cons_succ]
   rw [show (k+1)*4+j - (0+1+1+1+1)=k*4+j by omega]
   exact this
theorem rd_sp {w:World} {B b o:Nat} {L:List (Nat × Nat)} (h:Mem.Rd w B (some ⟨b,o,none⟩) (sps L)) {k:Nat} (hk:k < L.length) :
  w.cell? ⟨b,o+k*4,none⟩=some (.int .i64 (L[k].1:Int))∧w.cell? ⟨b,o+k*4+1,none⟩=some (.int .i64 (L[k].2:Int))∧w.cell? ⟨b,o+k*4+2,none⟩=some (.int .i64 0)∧w.cell? ⟨b,o+k*4+3,none⟩=some (.int .i64 0):=by
 obtain ⟨b',o',e,_,hc⟩:=h (by intro e;have:=congrArg List.length e;rw [sps_len] at this;simp at this;omega)
 simp only [Option.some.injEq,Addr.mk.injEq,and_true] at e
 obtain ⟨rfl,rfl⟩:=e
 have g:=fun j hj v hv=>hc (k*4+j) v (by rw [sps_get L hk j hj];exact hv)
 refine ⟨by have:=g 0 (by omega) _ rfl;rwa [Nat.add_zero] at this,?_,?_,?_⟩
 ·have:=g 1 (by omega) _ rfl;rwa [←Nat.add_assoc] at this
 ·have:=g 2 (by omega) _ rfl;rwa [←Nat.add_assoc] at this
 ·have:=g 3 (by omega) _ rfl;rwa [←Nat.add_assoc] at this
structure Sp (w:World) (A:Option Addr) (N:Nat) (L:List (Nat × Nat)) (p:List Nd) (T:List Tx):Prop where
 len:L.length=N
 rd:Mem.Rd w w.heap.size A (sps L)
 ok:∀i (h:i < L.length),SpOk p T L[i]∧mayP p=true
 row:∀i (h:i+1 < L.length),L[i].2≤L[i+1].1∧L[i].1 < L[i+1].1
theorem Sp.next {w w':World} {A:Option Addr} {N:Nat} {L:List (Nat × Nat)} {p:List Nd} {T:List Tx} (h:Sp w A N L p T) (hb:Below w.heap.size w w'):Sp w' A N L p T:=⟨h.len,(h.rd.below hb).more hb.size,h.ok,h.row⟩
theorem sp_of {w w':World} {p:List Nd} {T:List Tx} {e:Ending} (h:AllT w p T e w'):∃A N c L er,e=.returned (.tuple #[.slice A N c,.int .i64 er])∧Sp w' A N L p T∧Below w.heap.size w w'∧N≤maxLen:=by
 unfold AllT at h
 by_cases hm:mayP p=true
 ·rw [if_pos hm] at h
  obtain ⟨v,rfl,ho,hb⟩:=h
  obtain ⟨A,c,rfl,hc,hcm,hr⟩:=own_form ho
  obtain ⟨h1,h2⟩:=allA_ok (p:=p) (W:=T) (T.length+1 - 0) 0
  refine ⟨A,_,c,allF p T 0,0,rfl,⟨rfl,hr,fun i hi=>⟨(h1 _ (List.getElem_mem hi)).2,hm⟩,fun i hi=>?_⟩,hb,by unfold maxLen;omega⟩
  exact List.pairwise_iff_getElem.1 h2 i (i+1) (Nat.lt_of_succ_lt hi) hi (Nat.lt_succ_self i)
 ·rw [if_neg hm] at h
  obtain ⟨rfl,hb⟩:=h
  exact ⟨none,0,0,[],1,rfl,⟨rfl,fun h=>absurd rfl h,fun i h=>absurd h (Nat.not_lt_zero _),fun i h=>absurd h (Nat.not_lt_zero _)⟩,hb,by unfold maxLen;omega⟩
theorem long_at {p:List Nd} {T:List Tx} {q:Nat × Nat} (h:SpOk p T q) (hm:mayP p=true):longF p T true true (q.1:Int)=((q.2:Int),true,openF p T true true q.1,0):=by
 obtain ⟨h1,h2,h3⟩:=h
 have e:longF p T true true (q.1:Int)=((((lastM p T true true q.1 (T.length+1)).getD 0:Nat):Int),(lastM p T true true q.1 (T.length+1)).isSome,openF p T true true q.1,0):=if_pos ⟨hm,by omega,by omega⟩
 rw [e,h3];rfl
set_option maxHeartbeats 1000000 in
theorem walk (a0 a1:Option Addr) (V0:List NV) (pp:List Nd) (T:List Tx) (ln lt cp ct:Nat) (W:World) (HN:ArgN W a0 ln V0 pp) (HT:ArgT W a1 lt T) (_:lt≤1048576) :
  Calls Tryz.prog 8 #[.slice a0 ln cp,.slice a1 lt ct] W (Ret W (.bool true)):=by
 have HP:=Lib.hid HN;have HX:=Lib.hid HT
 clear HN HT
 go_enter Tryz.func8,Tryz.ntmps8
 go_wp2_with fail
 refine (fixed_any W).mono ?_
 rintro e w1 ⟨rfl,hb⟩
 have HB1:=Lib.hid hb
 have HP1:=Lib.hid (HP.out.next hb);have HX1:=Lib.hid (HX.out.next hb)
 clear hb HP HX
 go_wp2_with fail
 refine (all_any a0 a1 ln cp lt ct w1 HP1.out HX1.out).mono ?_
 intro e w2 h2
 obtain ⟨A,N,c,L,er,rfl,hs,hb,hN⟩:=sp_of h2
 have HB2:=Lib.hid (HB1.out.trans (hb.mono HB1.out.size))
 have HP2:=Lib.hid (HP1.out.next hb);have HX2:=Lib.hid (HX1.out.next hb)
 have HS2:=Lib.hid hs
 unfold maxLen at hN
 clear hb h2 hs HP1 HX1 HB1
 go_wp2_with fail
 go_loopw [23] (fun kv wr=>∃k:Nat,k≤N∧kv=.int .i64 (k:Int)∧Hid (Below W.heap.size W wr)∧Hid (ArgN wr a0 ln V0 pp)∧Hid (ArgT wr a1 lt T)∧Hid (Sp wr A N L pp T)) (fun kv _=>N - (intOf kv).toNat)
 case atStart=>exact ⟨0,Nat.zero_le _,rfl,HB2,HP2,HX2,HS2⟩
 case round =>
  obtain ⟨k,hk,rfl,J1,J2,J3,J4⟩:=hrel
  clear HB2 HP2 HX2 HS2
  by_cases hlt:k < N
  ·have hkL:k < L.length:=by rw [J4.out.len];exact hlt
   obtain ⟨b,o,rfl,hbl,_⟩:=J4.out.rd (by intro e;have:=congrArg List.length e;rw [sps_len] at this;simp at this;omega)
   obtain ⟨d0,d1,d2,d3⟩:=rd_sp J4.out.rd hkL
   have HOK:=Lib.hid (J4.out.ok k hkL)
   have hq1:=(J4.out.ok k hkL).1.1
   have hq2:=(J4.out.ok k hkL).1.2.1
   rw [J3.out.len] at hq2
   have HLQ:=Lib.hid (long_at HOK.out.1 HOK.out.2)
   have HPV:=Lib.hid (fun (k':Nat) (e:k=k'+1)=>(show ∃q:Nat × Nat,wr.cell? ⟨b,o+k'*4,none⟩=some (.int .i64 (q.1:Int))∧wr.cell? ⟨b,o+k'*4+1,none⟩=some (.int .i64 (q.2:Int))∧q.2≤L[k].1∧q.1 < L[k].1 by
    subst e
    obtain ⟨e0,e1,_,_⟩:=rd_sp J4.out.rd (show k' < L.length by omega)
    exact ⟨_,e0,e1,(J4.out.row k' hkL).1,(J4.out.row k' hkL).2⟩))
   generalize L[k]=q at *
   obtain ⟨sf,st⟩:=q
   dsimp only at d0 d1 d2 d3 hq1 hq2 HPV HLQ
   obtain ⟨u,hu⟩:∃u,u=wr.alloc (.cells #[.int .i64 (sf:Int),.int .i64 (st:Int),.int .i64 0,.int .i64 0] 52):=⟨_,rfl⟩
   clear HOK
   go_upto_region 7 with fail
   have blk:Mem.Blk u wr.heap.size 52 [.int .i64 (sf:Int),.int .i64 (st:Int),.int .i64 0,.int .i64 0]:=by rw [hu];exact Mem.Blk.new wr _ _
   have hbu:Below wr.heap.size wr u:=by rw [hu];exact (Below.refl _ _).alloc (Nat.le_refl _) _
   rw [←hu]
   clear hu d0 d1 d2 d3
   have e0:u.cell? ⟨wr.heap.size,0,none⟩=some (.int .i64 (sf:Int)):=blk.cell 0
   have e1:u.cell? ⟨wr.heap.size,1,none⟩=some (.int .i64 (st:Int)):=blk.cell 1
   have e2:u.cell? ⟨wr.heap.size,2,none⟩=some (.int .i64 0):=blk.cell 2
   have e3:u.cell? ⟨wr.heap.size,3,none⟩=some (.int .i64 0):=blk.cell 3
   have K1:=Lib.hid (J1.out.trans (hbu.mono J1.out.size));have K2:=Lib.hid (J2.out.next hbu);have K3:=Lib.hid (J3.out.next hbu);have K4:=Lib.hid (J4.out.next hbu)
   have KB:=Lib.hid blk
   have HPW:=Lib.hid (fun (k':Nat) (e:k=k'+1)=>(show ∃q:Nat × Nat,u.cell? ⟨b,o+k'*4,none⟩=some (.int .i64 (q.1:Int))∧u.cell? ⟨b,o+k'*4+1,none⟩=some (.int .i64 (q.2:Int))∧q.2≤sf∧q.1 < sf by
    obtain ⟨q,g1,g2,g3⟩:=HPV.out k' e
    exact ⟨q,(hbu.cell (p:=⟨b,_,none⟩) hbl).trans g1,(hbu.cell (p:=⟨b,_,none⟩) hbl).trans g2,g3⟩))
   generalize wr.heap.size=sb at *
   clear J1 J2 J3 J4 HPV hbl blk hbu hkL
   have t1:¬(sf:Int) < 0:=by omega
   have t2:¬(st:Int) < sf:=by omega
   have t3:¬(lt:Int) < st:=by omega
   go_wp2_with fail
   cases k with
   | zero =>
    have t4:¬((0:Nat):Int) > 0:=by omega
    go_quiet (fail)
    have HW:=Lib.hid (longest_any a0 a1 ln cp lt ct true true (sf:Int) (u.drewN nq) (K2.out.next (below_drewN (Below.refl _ _) nq)) (K3.out.next (below_drewN (Below.refl _ _) nq)))
    rw [HLQ.out] at HW
    have N1:=Lib.hid (below_drewN K1.out nq);have N2:=Lib.hid (K2.out.next (below_drewN (Below.refl _ _) nq));have N3:=Lib.hid (K3.out.next (below_drewN (Below.refl _ _) nq));have N4:=Lib.hid (K4.out.next (below_drewN (Below.refl _ _) nq));have NB:=Lib.hid (KB.out.drewN nq)
    have e0:(u.drewN nq).cell? ⟨sb,0,none⟩=some (.int .i64 (sf:Int)):=NB.out.cell 0
    generalize u.drewN nq=u2 at *
    clear K1 K2 K3 K4 KB HPW
    go_wp2_with fail
    refine HW.out.mono ?_
    rintro e w5 ⟨rfl,hb⟩
    have M1:=Lib.hid (N1.out.trans (hb.mono N1.out.size));have M2:=Lib.hid (N2.out.next hb);have M3:=Lib.hid (N3.out.next hb);have M4:=Lib.hid (N4.out.next hb)
    have m1:w5.cell? ⟨sb,1,none⟩=some (.int .i64 (st:Int)):=(NB.out.below hb NB.out.lt).cell 1
    clear hb N1 N2 N3 N4 NB HW
    simp only [four]
    go_wp2_with fail
    go_roundw
    case rel=>exact ⟨0+1,by omega,by go_num,M1,M2,M3,M4⟩
    case measure=>simp [intOf];omega
   | succ k' =>
    obtain ⟨⟨pf,pt⟩,g1,g2,g3,g4⟩:=HPW.out k' rfl
    dsimp only at g1 g2 g3 g4
    have t4:((k'+1:Nat):Int) > 0:=by omega
    have t5:((k'+1:Nat):Int) - 1=(k':Int):=by omega
    have t6:¬(sf:Int) < pt:=by omega
    have t7:¬(sf:Int)≤pf:=by omega
    go_quiet (fail)
    have HW:=Lib.hid (longest_any a0 a1 ln cp lt ct true true (sf:Int) (u.drewN nq) (K2.out.next (below_drewN (Below.refl _ _) nq)) (K3.out.next (below_drewN (Below.refl _ _) nq)))
    rw [HLQ.out] at HW
    have N1:=Lib.hid (below_drewN K1.out nq);have N2:=Lib.hid (K2.out.next (below_drewN (Below.refl _ _) nq));have N3:=Lib.hid (K3.out.next (below_drewN (Below.refl _ _) nq));have N4:=Lib.hid (K4.out.next (below_drewN (Below.refl _ _) nq));have NB:=Lib.hid (KB.out.drewN nq)
    have e0:(u.drewN nq).cell? ⟨sb,0,none⟩=some (.int .i64 (sf:Int)):=NB.out.cell 0
    generalize u.drewN nq=u2 at *
    clear K1 K2 K3 K4 KB HPW
    go_wp2_with fail
    refine HW.out.mono ?_
    rintro e w5 ⟨rfl,hb⟩
    have M1:=Lib.hid (N1.out.trans (hb.mono N1.out.size));have M2:=Lib.hid (N2.out.next hb);have M3:=Lib.hid (N3.out.next hb);have M4:=Lib.hid (N4.out.next hb)
    have m1:w5.cell? ⟨sb,1,none⟩=some (.int .i64 (st:Int)):=(NB.out.below hb NB.out.lt).cell 1
    clear hb N1 N2 N3 N4 NB HW
    simp only [four]
    go_wp2_with fail
    go_roundw
    case rel=>exact ⟨k'+1+1,by omega,by go_num,M1,M2,M3,M4⟩
    case measure=>simp [intOf];omega
  ·go_wp2_with fail
   go_ret
   exact ⟨rfl,J1.out⟩
theorem contract (H:Type) (enc:TypeId × Value→H) (W:World) (base:Nat) (args:Array Value) (ds gs:List (DataW H)) (before:List MemPlace)
  (hval:∀(j:Nat) t v,Tryz.f8.params[j]? = some t→args[j]? = some v→Value.okWide Tryz.prog W .any base t v)
  (hW:DataW.Whole enc Tryz.prog Tryz.f8.params.toList Rows.pikeApartSpec.vars false W args.toList ds gs before) (hk:Rows.uptoSmall H (ds++gs)=true) :
  Calls Tryz.prog 8 args W fun e W'=>∃v,e=.returned v∧Rows.pikeApartSpec.post enc Tryz.prog Tryz.f8 false true false false W args v W':=by
 have hW':=hW
 obtain ⟨p,q,hA0,hV,rfl,hfz,hnd⟩:=hW
 have hA:DataW.TrodAll enc Tryz.prog W 0 (fun _=>true) true Tryz.f8.params.toList args.toList ds p:=hA0
 rw [Tryz.params8] at hA hval
 obtain ⟨v0,vs0,d0,ds0,p0,q0,hargs,rfl,rfl,h0,r0⟩:=trodAll_cons hA
 obtain ⟨v1,vs1,d1,ds1,p1,q1,rfl,rfl,rfl,h1,r1⟩:=trodAll_cons r0
 obtain ⟨rfl,rfl,rfl⟩:=trodAll_nil r1
 obtain rfl:args=#[v0,v1]:=by cases args;simp_all
 obtain ⟨rfl,rfl⟩:=trodVars_none hV
 have hbd:=bulk_bound hk
 simp only [List.append_nil,Rows.uptoBulkAll] at hbd
 have k0:=h0
 have lt0:∀x∈p0,x.block < W.heap.size:=by obtain ⟨m,hm⟩:=k0;exact DataW.trod_lt m _ _ _ hm
 obtain ⟨a0,len0,cap0,rfl⟩:=okWide_slice Tryz.underlying22 (hval 0 22 v0 rfl rfl)
 obtain ⟨V0,l0,HN0⟩:=open_code h0 (by omega)
 have k1:=h1
 have lt1:∀x∈p1,x.block < W.heap.size:=by obtain ⟨m,hm⟩:=k1;exact DataW.trod_lt m _ _ _ hm
 obtain ⟨a1,len1,cap1,rfl⟩:=okWide_slice Tryz.underlying23 (hval 1 23 v1 rfl rfl)
 obtain ⟨l1,hl1,hc1,hm1,hr1,ht1,hn1⟩:=open_texts h1
 have HT1:ArgT W a1 len1 l1:=argT_texts hl1 hr1 ht1 hn1 (by omega)
 have bn1:len1≤1048576:=by omega
 clear hA0
 refine (walk a0 a1 V0 l0 l1 len0 len1 cap0 cap1 W HN0 HT1 bn1).mono fun e W' ⟨he,bel⟩=>?_
 subst he
 exact ⟨_,rfl,_,_,_,[],_,[],hW',trodAll_mk1 (shut_bool Tryz.underlying4 _),(trodAll_cons_mk (Below.trod laidOut (by kernel_rfl) (of_decide_eq_true (by kernel_rfl)) k0 bel lt0) (trodAll_cons_mk (Below.trod laidOut (by kernel_rfl) (of_decide_eq_true (by kernel_rfl)) k1 bel lt1) trodAll_mk0)),rfl,bel.frame _,fun h=>by cases h⟩
set_option maxRecDepth 100000 in
theorem lifted (os:Os) (started:os.Started) (H:Type) (enc:TypeId × Value→H) (F:Stop.Interp) :
  ReturnsInHanded {} Tryz.checked os 8 .any ((Rows.OpenSpec.upto Rows.pikeApartSpec).pre6 enc Tryz.prog Tryz.f8 Rows.pikeApartUptoRow.domain false) (((Rows.OpenSpec.upto Rows.pikeApartSpec).at F).post enc Tryz.prog Tryz.f8 false true false false):=by
 refine returnsInHanded_of_cond (C:=Tryz.checked) (s:=Rows.OpenSpec.upto Rows.pikeApartSpec) (k:=Rows.uptoSmall) rfl own started (by kernel_rfl) Tryz.func8
  (OpenSpec.witness (enc:=enc) (C:=Tryz.checked) (s:=Rows.OpenSpec.upto Rows.pikeApartSpec) (k:=Rows.uptoSmall) rfl false ⟨#[],#[.slice none 0 0,.slice none 0 0],[]⟩ 8 (by kernel_rfl) (by kernel_rfl) (by kernel_rfl)
   (x:=([.nil,.nil],[],[])) (by kernel_rfl) rfl (by kernel_rfl)) ?_
 intro W base args ds gs before hval hW _ hk _
 exact contract H enc W base args ds gs before hval hW hk
theorem proved:Rows.PikeApartUptoSaid :=
 OpenClaim.holds_of_cond 8 Tryz.f8 rfl rfl rfl rfl rfl rfl rfl ⟨rfl,rfl,rfl,rfl,rfl⟩ rfl rfl rfl rfl rfl (by kernel_rfl) Tryz.func8 (by kernel_rfl)
  (of_decide_eq_true (by kernel_rfl)) (by unfold Func.isWrapper;first | (rw [if_pos (by decide +kernel)];kernel_rfl) | (rw [if_neg (by decide +kernel)];exact ⟨rfl,rfl⟩))
  (fun os started H enc _ F=>lifted os started H enc F)
end Go.Proofs.YtegdbmbenjnacaaGreat.LawPikeApart
