/-
  Texts of stage 7, part 35.
-/
import Derived.Deep.QuietTactic
import Derived.BigQuiet
import Derived.Test.YtegdbmbenjnacaaGreatR16
import Derived.Test.YtegdbmbenjnacaaGreatR30
import Derived.Test.YtegdbmbenjnacaaGreatR31
namespace Go.Proofs.YtegdbmbenjnacaaGreat.Pike
open Go.RowKit Mem Sparse
open Prg (Ins mayP nxt Rch on off on_set on_lt bls bls_len bls_get bls_set rd_b infoBool made_b Marked rmark_any own_blk)
open Sset (Tx ArgT Has3 hasS)
open Syn (Nd NV nvs rd_nv nv_form Means ArgN)
set_option maxRecDepth 100000
def Row (w:World) (n:Nat) (O:Nat→Prop) (e:Ending) (w':World):Prop:=∃v m,e=.returned v∧w'.ownsRow w.heap.size 4 1 v n (bls m)∧m.length=n∧(∀i,on m i↔O i)∧Below w.heap.size w w'
theorem row_of {w w1:World} {p:List Ins} {b e:Bool} {m0:List Bool} {n:Nat} {S:Nat→Prop} (hb:Below w.heap.size w w1) (hS:∀k,on m0 k↔S k) {x:Ending} {w2:World} (h:Marked w1 p b e m0 n x w2):Row w n (Rch p b e S) x w2:=by
 obtain ⟨v,m,h1,h2,h3,h4,h5⟩:=h
 exact ⟨v,m,h1,own_mono h2 hb.size,h3,fun i=>(h4 i).trans (rch_iff hS),hb.trans (h5.mono hb.size)⟩
theorem blk_rd {w:World} {g:Nat} {t:TypeId} {xs:List Value} (h:Blk w g t xs):Utf.Rd w w.heap.size (some ⟨g,0,none⟩) xs:=fun _=>⟨g,0,rfl,h.lt,fun j x hx=>by rw [h.cell,Nat.zero_add];exact hx⟩
theorem on_rep (n i:Nat):¬on (List.replicate n false) i:=fun h=>by unfold on at h;rw [List.getElem?_replicate] at h;split at h <;> simp at h
theorem run_bools (w:World) {n:Nat} (hn:n≤4096):(Instr.makeSlice 50 (.int .i64 (n:Int)) (.int .i64 (n:Int))).run Tryz.prog w=.ok (.slice (some ⟨w.heap.size,0,none⟩) n n) (w.alloc (.cells (bls (List.replicate n false)).toArray 4)):=by
 obtain ⟨ib,jb0,jb1,jb2,jb3⟩:=info_parts infoBool
 have h:=run_make (P:=Tryz.prog) w 50 4 ib (.bool false) Tryz.underlying50 jb0 jb1 .i64 .i64 n n (by omega) (by omega) (by rw [jb3];omega) (by omega)
 rw [Int.toNat_natCast,jb2,Nat.mul_one] at h
 rw [h]
 show Result.ok _ (w.alloc (.cells (madeCells #[Value.bool false] n) _))=_
 rw [made_b]
set_option maxHeartbeats 4000000 in
theorem rbegin_any {A:Option Addr} {V:List NV} {p:List Ins} {n c:Nat} {w:World} (hA:ArgN w A n V p) (hm:mayP p=true) (N a:Nat) (b f:Bool) :
  Calls Tryz.prog 28 #[.slice A n c,.int .i64 (N:Int),.int .i64 (a:Int),.bool b,.bool f] w (Row w n (Rch p (bg b a) (en f N a) (fun k=>k=0))):=by
 obtain ⟨h1,h2,_⟩:=Prg.may_last hm
 have hn0:0 < n:=by rw [←hA.len2];exact h1
 have hn1:n≤4096:=by rw [←hA.len2];exact h2
 have hmk:=run_bools w hn1
 obtain ⟨u0,hu0⟩:∃u,u=w.alloc (.cells (bls (List.replicate n false)).toArray 4):=⟨_,rfl⟩
 rw [←hu0] at hmk
 have k0:Blk u0 w.heap.size 4 (bls (List.replicate n false)):=by rw [hu0];exact Blk.new w _ _
 have hb0:Below w.heap.size w u0:=by rw [hu0];exact (Below.refl _ _).alloc (Nat.le_refl _) _
 have gc:u0.cell? ⟨w.heap.size,0,none⟩=some (.bool false):=by
  have:=k0.cell 0
  rwa [bls_get (by simp;exact hn0),List.getElem_replicate] at this
 have gf:=k0.frozen 0
 obtain ⟨u,hu⟩:∃u,u=u0.setCell ⟨w.heap.size,0,none⟩ (.bool true):=⟨_,rfl⟩
 have hch:Chg u0 u (fun i=>i=w.heap.size):=by rw [hu];exact (Chg.refl u0 _).setCell (p:=⟨w.heap.size,0,none⟩) _ rfl
 have hbu:Below w.heap.size w u:=hb0.trans (hch.below hb0.size fun i hi e=>by omega)
 have k1:Blk u w.heap.size 4 (bls ((List.replicate n false).set 0 true)):=by rw [hu,←bls_set];exact k0.set_ 0 (.bool true)
 have HMK:=Lib.hid (fun b' f'=>rmark_any (c:=c) (d:=n) (hA.next hbu) hm (I:=some ⟨w.heap.size,0,none⟩) (m0:=(List.replicate n false).set 0 true) (blk_rd k1) (by rw [List.length_set,List.length_replicate]) b' f')
 have HON:=Lib.hid (show ∀k,on ((List.replicate n false).set 0 true) k↔k=0 from fun k=>by rw [on_set (by rw [List.length_replicate];exact hn0)];exact ⟨fun h=>h.resolve_left (on_rep n k),.inr⟩)
 have HB:=Lib.hid hbu;have HU:=Lib.hid hu
 have ha0:((a:Int) == 0)=decide (a=0):=by rw [Bool.eq_iff_iff,beq_iff_eq,decide_eq_true_eq];omega
 have ha1:((a:Int) == (N:Int))=decide (a=N):=by rw [Bool.eq_iff_iff,beq_iff_eq,decide_eq_true_eq];omega
 clear hA hm hu0 hb0 k0 hch hbu k1 hu h1 h2
 cases b <;> cases f
 all_goals go_enter Tryz.func28,Tryz.ntmps28
 all_goals go_wp2_with fail
 all_goals rw [←HU.out]
 all_goals refine (HMK.out _ _).mono ?_
 all_goals intro e1 w1 hr
 all_goals obtain ⟨v,m,rfl,r1,r2,r3,r4⟩:=row_of HB.out HON.out hr
 all_goals have R1:=Lib.hid r1
 all_goals have R3:=Lib.hid r3
 all_goals have R4:=Lib.hid r4
 all_goals clear hr r1 r3 r4
 all_goals go_wp2_with fail
 all_goals go_ret
 all_goals exact ⟨v,m,rfl,R1.out,r2,R3.out,R4.out⟩
def Ovk (p:List Ins) (O:Nat→Prop) (x:Tx) (k j:Nat):Prop:=∃i s,i < k∧O i∧p[i]? = some s∧s.kind=1∧hasS s.set x=true∧j=i+1
section
variable {p:List Ins} {O:Nat→Prop} {x:Tx} {k j:Nat} {s:Ins}
theorem ovk_zero:¬Ovk p O x 0 j:=fun ⟨_,_,h,_⟩=>absurd h (Nat.not_lt_zero _)
theorem ovk_no (hs:p[k]? = some s) (h:O k→s.kind=1→hasS s.set x=true→False):Ovk p O x (k+1) j↔Ovk p O x k j:=by
 constructor
 ·rintro ⟨i,z,h1,h2,h3,h4,h5,h6⟩
  rcases Nat.lt_succ_iff_lt_or_eq.1 h1 with h7 | rfl
  ·exact ⟨i,z,h7,h2,h3,h4,h5,h6⟩
  ·rw [hs] at h3;injection h3 with h3;subst h3;exact (h h2 h4 h5).elim
 ·rintro ⟨i,z,h1,h2⟩;exact ⟨i,z,by omega,h2⟩
theorem ovk_yes (hs:p[k]? = some s) (ho:O k) (h1:s.kind=1) (h2:hasS s.set x=true):Ovk p O x (k+1) j↔Ovk p O x k j∨j=k+1:=by
 constructor
 ·rintro ⟨i,z,h1,h2,h3,h4,h5,h6⟩
  rcases Nat.lt_succ_iff_lt_or_eq.1 h1 with h7 | rfl
  ·exact .inl ⟨i,z,h7,h2,h3,h4,h5,h6⟩
  ·exact .inr h6
 ·rintro (⟨i,z,h1,h2⟩ | rfl)
  ·exact ⟨i,z,by omega,h2⟩
  ·exact ⟨k,s,by omega,ho,hs,h1,h2,rfl⟩
theorem ovk_all (h:∀i,O i→i < k):Ovk p O x k j↔Ov p O x j:=⟨fun ⟨i,z,_,h2⟩=>⟨i,z,h2⟩,fun ⟨i,z,h2⟩=>⟨i,z,h i h2.1,h2⟩⟩
end
set_option maxHeartbeats 8000000 in
theorem rover_any {A I U:Option Addr} {V:List NV} {p:List Ins} {W:List Tx} {mo:List Bool} {O:Nat→Prop} {n c d N cu:Nat} {w:World} (hA:ArgN w A n V p) (hm:mayP p=true) (hI:Mrk w I n mo O) (hW:ArgT w U N W) (i:Nat) (hi:i < N) (f:Bool) :
  Calls Tryz.prog 31 #[.slice A n c,.slice I n d,.slice U N cu,.int .i64 (i:Int),.bool f] w (Row w n (Rch p false (en f N (i+1)) (Ov p O (W.getD i [])))):=by
 obtain ⟨h1,h2,h6⟩:=Prg.may_last hm
 have hn0:0 < n:=by rw [←hA.len2];exact h1
 have hn1:n≤4096:=by rw [←hA.len2];exact h2
 have hmk:=run_bools w hn1
 obtain ⟨u0,hu0⟩:∃u,u=w.alloc (.cells (bls (List.replicate n false)).toArray 4):=⟨_,rfl⟩
 rw [←hu0] at hmk
 have k0:Blk u0 w.heap.size 4 (bls (List.replicate n false)):=by rw [hu0];exact Blk.new w _ _
 have hb0:Below w.heap.size w u0:=by rw [hu0];exact (Below.refl _ _).alloc (Nat.le_refl _) _
 have HS:=Lib.hid (show Src w ⟨A,n,c,U,N,cu,false,f⟩ V p W from ⟨hA,hW,hm⟩)
 have HI:=Lib.hid hI
 have HIN:=Lib.hid (show ∀i,O i→i < n from fun i ho=>by have:=on_lt ((hI.iff i).2 ho);rwa [hI.len] at this)
 have HMK:=Lib.hid (fun (u:World) (hb:Below w.heap.size w u) (m':List Bool) (hl:m'.length=n) (hk:Blk u w.heap.size 4 (bls m')) f'=>rmark_any (c:=c) (d:=n) (hA.next hb) hm (I:=some ⟨w.heap.size,0,none⟩) (m0:=m') (blk_rd hk) (by rw [hl]) false f')
 have HLAST:=Lib.hid (show ∀k,k < n→∀s,p[k]? = some s→s.kind=1→k+1 < n from fun k hk s hs hq=>by
  obtain ⟨hzl,hze⟩:=List.getElem?_eq_some_iff.1 hs
  have:k≠p.length - 1:=by
   rintro rfl
   have:=h6 hzl
   rw [hze,hq] at this
   cases this
  have:=hA.len2
  omega)
 have K0:=Lib.hid k0;have B0:=Lib.hid hb0
 obtain ⟨tx,htx⟩:∃t,t=W.getD i []:=⟨_,rfl⟩
 have HTX:=Lib.hid htx
 have HEN:=Lib.hid (show (wrap64 ((i:Int)+1) == (N:Int))=en true N (i+1) by
  have h1:wrap64 ((i:Int)+1)=(i:Int)+1:=by have:=hW.sm;unfold wrap64;omega
  unfold en
  rw [h1,Bool.true_and,Bool.eq_iff_iff,beq_iff_eq,decide_eq_true_eq];omega)
 rw [←htx]
 clear hA hm hu0 hb0 k0 h1 h2 h6 hI hW htx
 go_enter Tryz.func31,Tryz.ntmps31
 go_wp2_with fail
 go_loopw [12] (fun kv wr=>∃(k:Nat) (m':List Bool),k≤n∧kv=.int .i64 (k:Int)∧m'.length=n∧Hid (Blk wr w.heap.size 4 (bls m'))∧Hid (Below w.heap.size w wr)∧Hid (∀j,on m' j↔Ovk p O tx k j)) (fun kv _=>n - (intOf kv).toNat)
 case atStart=>exact ⟨0,List.replicate n false,Nat.zero_le _,rfl,List.length_replicate,K0,B0,Lib.hid fun j=>⟨fun h=>absurd h (on_rep n j),fun h=>absurd h ovk_zero⟩⟩
 case round =>
  obtain ⟨k,m',hk,rfl,hl,J1,J2,J3⟩:=hrel
  clear K0 B0 hmk
  by_cases hlt:k < n
  ·have hkm:k < mo.length:=by rw [HI.out.len];exact hlt
   obtain ⟨bi,oi,rfl,_⟩:=HI.out.rd.form (by rw [bls_len];omega)
   have dm:=rd_b (HI.out.rd.below J2.out) hkm
   obtain ⟨mk,hmk⟩:∃q,q=mo[k]:=⟨_,rfl⟩
   have HON:=Lib.hid (show O k↔mk=true by rw [hmk,←HI.out.iff];exact on_at hkm)
   rw [←hmk] at dm
   obtain ⟨b,o,s,A1,n1,a1,A2,n2,a2,A3,n3,a3,hA,hget,_,hcells⟩:=HS.out.all (a:=k) hlt
   obtain ⟨d0,d1,d2,d3,h3⟩:=hcells wr J2.out
   obtain rfl:A=some ⟨b,o,none⟩:=hA
   have HG:=Lib.hid hget
   have HL2:=Lib.hid (fun h=>HLAST.out k hlt s hget h)
   obtain ⟨sk,hsk⟩:∃q,q=s.kind:=⟨_,rfl⟩
   rw [←hsk] at d0 HL2
   have HK:=Lib.hid hsk
   have HNO:=Lib.hid (fun (h:O k→s.kind=1→hasS s.set tx=true→False)=>(show ∀j,on m' j↔Ovk p O tx (k+1) j from fun j=>(J3.out j).trans (ovk_no hget h).symm))
   have HRD:=Lib.hid (show ∀u,Below w.heap.size w u→u.cell? ⟨bi,oi+k,none⟩=some (.bool mk) from fun u hu=>by rw [hmk];exact rd_b (HI.out.rd.below hu) hkm)
   rw [←hsk] at hcells
   have HCL:=Lib.hid hcells
   clear hkm hget hmk hcells hsk
   cases mk with
   | false =>
    have H4:=Lib.hid (HNO.out fun h=>absurd (HON.out.1 h) (by decide))
    clear h3
    go_upto_region 5 with fail
    go_quiet (fail)
    have M1:=Lib.hid (J1.out.below (below_drewN (Below.refl wr.heap.size wr) nq) J1.out.lt);have M2:=Lib.hid (below_drewN J2.out nq)
    go_wp2_with fail
    go_roundw
    case rel=>exact ⟨k+1,m',by omega,by go_num,hl,M1,M2,H4⟩
    case measure=>simp [intOf];omega
   | true =>
    by_cases k1:sk=1
    ·subst k1
     obtain ⟨bU,oU,hU,hxl,htx2⟩:=HS.out.text (i:=i) hi
     obtain rfl:U=some ⟨bU,oU,none⟩:=hU
     have ct:=htx2 wr J2.out
     rw [←HTX.out] at ct hxl
     have HHS:=Lib.hid (Sset.rshas_any A1 A2 A3 n1 a1 n2 a2 n3 a3 s.set ⟨tx.toArray⟩ tx (Sset.mk_toList tx) hxl wr.drew (h3.next (Below.refl _ _).drew))
     have hk1:k+1 < n:=HL2.out rfl
     have ew:IntKind.i64.wrap ((k:Int)+1)=((k+1:Nat):Int):=IntWalk.i64_in _ (by omega)
     have hinn:(i:Int) < (N:Int):=by omega
     obtain ⟨hq,hhq⟩:∃q,q=hasS s.set tx:=⟨_,rfl⟩
     rw [←hhq] at HHS
     have HHQ:=Lib.hid hhq
     have HSW:=Lib.hid (show ∀u2,Below wr.heap.size wr u2→u2.cell? ⟨bi,oi+k,none⟩=some (.bool true)∧u2.cell? ⟨b,o+k*6,none⟩=some (.int .i64 1)∧u2.cell? ⟨b,o+k*6+1,none⟩=some (.slice A1 n1 a1)∧u2.cell? ⟨b,o+k*6+1+1,none⟩=some (.slice A2 n2 a2)∧u2.cell? ⟨b,o+k*6+1+2,none⟩=some (.slice A3 n3 a3)∧u2.cell? ⟨bU,oU+i,none⟩=some (.string ⟨tx.toArray⟩) from fun u2 hu=>by
      obtain ⟨g0,g1,g2,g3,_⟩:=HCL.out u2 (J2.out.trans (hu.mono J2.out.size))
      exact ⟨HRD.out u2 (J2.out.trans (hu.mono J2.out.size)),g0,g1,g2,g3,by have:=htx2 u2 (J2.out.trans (hu.mono J2.out.size));rwa [←HTX.out] at this⟩)
     have HQ0:=Lib.hid (show Below wr.heap.size wr wr.drew from (Below.refl _ _).drew)
     clear h3 htx2 hhq d0 d1 d2 d3 dm ct
     go_upto_region 5 with fail
     refine wp_region_held_drew (S:=fun u2=>u2.cell? ⟨bi,oi+k,none⟩=some (.bool true)∧u2.cell? ⟨b,o+k*6,none⟩=some (.int .i64 1)∧u2.cell? ⟨b,o+k*6+1,none⟩=some (.slice A1 n1 a1)∧u2.cell? ⟨b,o+k*6+1+1,none⟩=some (.slice A2 n2 a2)∧u2.cell? ⟨b,o+k*6+1+2,none⟩=some (.slice A3 n3 a3)∧u2.cell? ⟨bU,oU+i,none⟩=some (.string ⟨tx.toArray⟩)) (by kernel_rfl) (HSW.out _ HQ0.out) (fun hHeld=>?_)
     refine wpAnyH_take (i:=0) (oi:=_) (v:=?_) rfl (by kernel_rfl) (by kernel_rfl) (by kernel_rfl) (fun _ _ _ h=>h) (Or.inl ⟨by rfl,?_⟩) (by assumption) ?_
     rotate_left
     ·(intro w hSw;(try dsimp only at hSw);(try obtain ⟨s1_,s2_,s3_,s4_,s5_,s6_⟩:=hSw);go_simp <;> with_reducible rfl)
     simp only [List.getElem_toArray,List.getElem_cons_zero,Act.put,List.setIfInBounds_toArray,List.set_cons_zero,List.set_cons_succ]
     refine wpAnyH_take (i:=1) (oi:=_) (v:=?_) rfl (by kernel_rfl) (by kernel_rfl) (by kernel_rfl) (fun _ _ _ h=>h) (Or.inl ⟨by rfl,?_⟩) (by assumption) ?_
     rotate_left
     ·(intro w hSw;(try dsimp only at hSw);(try obtain ⟨s1_,s2_,s3_,s4_,s5_,s6_⟩:=hSw);go_simp <;> with_reducible rfl)
     simp only [List.getElem_toArray,List.getElem_cons_succ,List.getElem_cons_zero,Act.put,List.setIfInBounds_toArray,List.set_cons_zero,List.set_cons_succ]
     refine wpAnyH_take (i:=2) (oi:=_) (v:=?_) rfl (by kernel_rfl) (by kernel_rfl) (by kernel_rfl) (fun _ _ _ h=>h) (Or.inl ⟨by rfl,?_⟩) (by assumption) ?_
     rotate_left
     ·(intro w hSw;(try dsimp only at hSw);(try obtain ⟨s1_,s2_,s3_,s4_,s5_,s6_⟩:=hSw);go_simp <;> with_reducible rfl)
     simp only [List.getElem_toArray,List.getElem_cons_succ,List.getElem_cons_zero,Act.put,List.setIfInBounds_toArray,List.set_cons_zero,List.set_cons_succ]
     refine wpAnyH_take (i:=3) (oi:=_) (v:=?_) rfl (by kernel_rfl) (by kernel_rfl) (by kernel_rfl) (fun _ _ _ h=>h) (Or.inl ⟨by rfl,?_⟩) (by assumption) ?_
     rotate_left
     ·(intro w hSw;(try dsimp only at hSw);(try obtain ⟨s1_,s2_,s3_,s4_,s5_,s6_⟩:=hSw);go_simp <;> with_reducible rfl)
     simp only [List.getElem_toArray,List.getElem_cons_succ,List.getElem_cons_zero,Act.put,List.setIfInBounds_toArray,List.set_cons_zero,List.set_cons_succ]
     refine wpAnyH_take (i:=4) (oi:=_) (v:=?_) rfl (by kernel_rfl) (by kernel_rfl) (by kernel_rfl) (fun _ _ _ h=>h) (Or.inl ⟨by rfl,?_⟩) (by assumption) ?_
     rotate_left
     ·(intro w hSw;(try dsimp only at hSw);(try obtain ⟨s1_,s2_,s3_,s4_,s5_,s6_⟩:=hSw);go_simp <;> with_reducible rfl)
     simp only [List.getElem_toArray,List.getElem_cons_succ,List.getElem_cons_zero,Act.put,List.setIfInBounds_toArray,List.set_cons_zero,List.set_cons_succ]
     refine wpAnyH_take (i:=5) (oi:=_) (v:=?_) rfl (by kernel_rfl) (by kernel_rfl) (by kernel_rfl) (fun _ _ _ h=>h) (Or.inl ⟨by rfl,?_⟩) (by assumption) ?_
     rotate_left
     ·(intro w hSw;(try dsimp only at hSw);(try obtain ⟨s1_,s2_,s3_,s4_,s5_,s6_⟩:=hSw);go_simp <;> with_reducible rfl)
     simp only [List.getElem_toArray,List.getElem_cons_succ,List.getElem_cons_zero,Act.put,List.setIfInBounds_toArray,List.set_cons_zero,List.set_cons_succ]
     refine wpAnyH_take (i:=6) (oi:=_) (v:=?_) rfl (by kernel_rfl) (by kernel_rfl) (by kernel_rfl) (fun _ _ _ h=>h) (Or.inl ⟨by rfl,?_⟩) (by assumption) ?_
     rotate_left
     ·(intro w hSw;(try dsimp only at hSw);(try obtain ⟨s1_,s2_,s3_,s4_,s5_,s6_⟩:=hSw);go_simp <;> with_reducible rfl)
     simp only [List.getElem_toArray,List.getElem_cons_succ,List.getElem_cons_zero,Act.put,List.setIfInBounds_toArray,List.set_cons_zero,List.set_cons_succ]
     refine wpAnyH_take (i:=7) (oi:=_) (v:=?_) rfl (by kernel_rfl) (by kernel_rfl) (by kernel_rfl) (fun _ _ _ h=>h) (Or.inl ⟨by rfl,?_⟩) (by assumption) ?_
     rotate_left
     ·(intro w hSw;(try dsimp only at hSw);(try obtain ⟨s1_,s2_,s3_,s4_,s5_,s6_⟩:=hSw);go_simp <;> with_reducible rfl)
     simp only [List.getElem_toArray,List.getElem_cons_succ,List.getElem_cons_zero,Act.put,List.setIfInBounds_toArray,List.set_cons_zero,List.set_cons_succ]
     refine wpAnyH_take (i:=8) (oi:=_) (v:=?_) rfl (by kernel_rfl) (by kernel_rfl) (by kernel_rfl) (fun _ _ _ h=>h) (Or.inl ⟨by rfl,?_⟩) (by assumption) ?_
     rotate_left
     ·(intro w hSw;(try dsimp only at hSw);(try obtain ⟨s1_,s2_,s3_,s4_,s5_,s6_⟩:=hSw);go_simp <;> with_reducible rfl)
     simp only [List.getElem_toArray,List.getElem_cons_succ,List.getElem_cons_zero,Act.put,List.setIfInBounds_toArray,List.set_cons_zero,List.set_cons_succ]
     refine wpAnyH_take (i:=9) (oi:=_) (v:=?_) rfl (by kernel_rfl) (by kernel_rfl) (by kernel_rfl) (fun _ _ _ h=>h) (Or.inl ⟨by rfl,?_⟩) (by assumption) ?_
     rotate_left
     ·(intro w hSw;(try dsimp only at hSw);(try obtain ⟨s1_,s2_,s3_,s4_,s5_,s6_⟩:=hSw);go_simp <;> with_reducible rfl)
     simp only [List.getElem_toArray,List.getElem_cons_succ,List.getElem_cons_zero,Act.put,List.setIfInBounds_toArray,List.set_cons_zero,List.set_cons_succ]
     refine wpAnyH_take (i:=10) (oi:=_) (v:=?_) rfl (by kernel_rfl) (by kernel_rfl) (by kernel_rfl) (fun _ _ _ h=>h) (Or.inl ⟨by rfl,?_⟩) (by assumption) ?_
     rotate_left
     ·(intro w hSw;(try dsimp only at hSw);(try obtain ⟨s1_,s2_,s3_,s4_,s5_,s6_⟩:=hSw);go_simp <;> with_reducible rfl)
     simp only [List.getElem_toArray,List.getElem_cons_succ,List.getElem_cons_zero,Act.put,List.setIfInBounds_toArray,List.set_cons_zero,List.set_cons_succ]
     refine wpAnyH_take (i:=11) (oi:=_) (v:=?_) rfl (by kernel_rfl) (by kernel_rfl) (by kernel_rfl) (fun _ _ _ h=>h) (Or.inl ⟨by rfl,?_⟩) (by assumption) ?_
     rotate_left
     ·(intro w hSw;(try dsimp only at hSw);(try obtain ⟨s1_,s2_,s3_,s4_,s5_,s6_⟩:=hSw);go_simp <;> with_reducible rfl)
     simp only [List.getElem_toArray,List.getElem_cons_succ,List.getElem_cons_zero,Act.put,List.setIfInBounds_toArray,List.set_cons_zero,List.set_cons_succ]
     refine wpAnyH_take (i:=12) (oi:=_) (v:=?_) rfl (by kernel_rfl) (by kernel_rfl) (by kernel_rfl) (fun _ _ _ h=>h) (Or.inl ⟨by rfl,?_⟩) (by assumption) ?_
     rotate_left
     ·(intro w hSw;(try dsimp only at hSw);(try obtain ⟨s1_,s2_,s3_,s4_,s5_,s6_⟩:=hSw);go_simp <;> with_reducible rfl)
     simp only [List.getElem_toArray,List.getElem_cons_succ,List.getElem_cons_zero,Act.put,List.setIfInBounds_toArray,List.set_cons_zero,List.set_cons_succ]
     refine wpAnyH_take (i:=13) (oi:=_) (v:=?_) rfl (by kernel_rfl) (by kernel_rfl) (by kernel_rfl) (fun _ _ _ h=>h) (Or.inl ⟨by rfl,?_⟩) (by assumption) ?_
     rotate_left
     ·(intro w hSw;(try dsimp only at hSw);(try obtain ⟨s1_,s2_,s3_,s4_,s5_,s6_⟩:=hSw);go_simp <;> with_reducible rfl)
     simp only [List.getElem_toArray,List.getElem_cons_succ,List.getElem_cons_zero,Act.put,List.setIfInBounds_toArray,List.set_cons_zero,List.set_cons_succ]
     refine wpAnyH_take (i:=14) (oi:=_) (v:=?_) rfl (by kernel_rfl) (by kernel_rfl) (by kernel_rfl) (fun _ _ _ h=>h) (Or.inl ⟨by rfl,?_⟩) (by assumption) ?_
     rotate_left
     ·(intro w hSw;(try dsimp only at hSw);(try obtain ⟨s1_,s2_,s3_,s4_,s5_,s6_⟩:=hSw);go_simp <;> with_reducible rfl)
     simp only [List.getElem_toArray,List.getElem_cons_succ,List.getElem_cons_zero,Act.put,List.setIfInBounds_toArray,List.set_cons_zero,List.set_cons_succ]
     refine wpAnyH_take (i:=15) (oi:=_) (v:=?_) rfl (by kernel_rfl) (by kernel_rfl) (by kernel_rfl) (fun _ _ _ h=>h) (Or.inl ⟨by rfl,?_⟩) (by assumption) ?_
     rotate_left
     ·(intro w hSw;(try dsimp only at hSw);(try obtain ⟨s1_,s2_,s3_,s4_,s5_,s6_⟩:=hSw);go_simp <;> with_reducible rfl)
     simp only [List.getElem_toArray,List.getElem_cons_succ,List.getElem_cons_zero,Act.put,List.setIfInBounds_toArray,List.set_cons_zero,List.set_cons_succ]
     refine wpAnyH_take (i:=16) (oi:=_) (v:=?_) rfl (by kernel_rfl) (by kernel_rfl) (by kernel_rfl) (fun _ _ _ h=>h) (Or.inl ⟨by rfl,?_⟩) (by assumption) ?_
     rotate_left
     ·(intro w hSw;(try dsimp only at hSw);(try obtain ⟨s1_,s2_,s3_,s4_,s5_,s6_⟩:=hSw);go_simp <;> with_reducible rfl)
     simp only [List.getElem_toArray,List.getElem_cons_succ,List.getElem_cons_zero,Act.put,List.setIfInBounds_toArray,List.set_cons_zero,List.set_cons_succ]
     refine wpAnyH_take (i:=17) (oi:=_) (v:=?_) rfl (by kernel_rfl) (by kernel_rfl) (by kernel_rfl) (fun _ _ _ h=>h) (Or.inl ⟨by rfl,?_⟩) (by assumption) ?_
     rotate_left
     ·(intro w hSw;(try dsimp only at hSw);(try obtain ⟨s1_,s2_,s3_,s4_,s5_,s6_⟩:=hSw);go_simp <;> with_reducible rfl)
     simp only [List.getElem_toArray,List.getElem_cons_succ,List.getElem_cons_zero,Act.put,List.setIfInBounds_toArray,List.set_cons_zero,List.set_cons_succ]
     refine wpAnyH_take (i:=18) (oi:=_) (v:=?_) rfl (by kernel_rfl) (by kernel_rfl) (by kernel_rfl) (fun _ _ _ h=>h) (Or.inl ⟨by rfl,?_⟩) (by assumption) ?_
     rotate_left
     ·(intro w hSw;(try dsimp only at hSw);(try obtain ⟨s1_,s2_,s3_,s4_,s5_,s6_⟩:=hSw);go_simp <;> with_reducible rfl)
     simp only [List.getElem_toArray,List.getElem_cons_succ,List.getElem_cons_zero,Act.put,List.setIfInBounds_toArray,List.set_cons_zero,List.set_cons_succ]
     refine wpAnyH_take (i:=19) (oi:=_) (v:=?_) rfl (by kernel_rfl) (by kernel_rfl) (by kernel_rfl) (fun _ _ _ h=>h) (Or.inl ⟨by rfl,?_⟩) (by assumption) ?_
     rotate_left
     ·(intro w hSw;(try dsimp only at hSw);(try obtain ⟨s1_,s2_,s3_,s4_,s5_,s6_⟩:=hSw);go_simp <;> with_reducible rfl)
     simp only [List.getElem_toArray,List.getElem_cons_succ,List.getElem_cons_zero,Act.put,List.setIfInBounds_toArray,List.set_cons_zero,List.set_cons_succ]
     refine wpAnyH_take (i:=20) (oi:=_) (v:=?_) rfl (by kernel_rfl) (by kernel_rfl) (by kernel_rfl) (fun _ _ _ h=>h) (Or.inl ⟨by rfl,?_⟩) (by assumption) ?_
     rotate_left
     ·(intro w hSw;(try dsimp only at hSw);(try obtain ⟨s1_,s2_,s3_,s4_,s5_,s6_⟩:=hSw);go_simp <;> with_reducible rfl)
     simp only [List.getElem_toArray,List.getElem_cons_succ,List.getElem_cons_zero,Act.put,List.setIfInBounds_toArray,List.set_cons_zero,List.set_cons_succ]
     refine wpAnyH_take (i:=21) (oi:=_) (v:=?_) rfl (by kernel_rfl) (by kernel_rfl) (by kernel_rfl) (fun _ _ _ h=>h) (Or.inl ⟨by rfl,?_⟩) (by assumption) ?_
     rotate_left
     ·(intro w hSw;(try dsimp only at hSw);(try obtain ⟨s1_,s2_,s3_,s4_,s5_,s6_⟩:=hSw);go_simp <;> with_reducible rfl)
     simp only [List.getElem_toArray,List.getElem_cons_succ,List.getElem_cons_zero,Act.put,List.setIfInBounds_toArray,List.set_cons_zero,List.set_cons_succ]
     refine wpAnyH_ready (rs:=[22]) (by kernel_rfl) (by simp) (AllReadyH.cons rfl (fun K hK=>?_) AllReadyH.nil)
     go_simp
     refine HHS.out.mono ?_
     rintro e6 w6 ⟨rfl,hb6⟩
     have HQ1:=Lib.hid (show Below wr.heap.size wr w6 from HQ0.out.trans hb6)
     clear hb6
     refine hK.out _ _ (HSW.out _ HQ1.out) (fun hHeld2=>?_)
     clear hK K hHeld
     have hHeld:=hHeld2
     clear hHeld2
     refine wpAnyH_take (i:=23) (oi:=_) (v:=?_) rfl (by kernel_rfl) (by kernel_rfl) (by kernel_rfl) (fun _ _ _ h=>h) (Or.inl ⟨by rfl,?_⟩) (by assumption) ?_
     rotate_left
     ·(intro w hSw;(try dsimp only at hSw);(try obtain ⟨s1_,s2_,s3_,s4_,s5_,s6_⟩:=hSw);go_simp <;> with_reducible rfl)
     simp only [List.getElem_toArray,List.getElem_cons_succ,List.getElem_cons_zero,Act.put,List.setIfInBounds_toArray,List.set_cons_zero,List.set_cons_succ]
     refine wpAnyH_done (by kernel_rfl) ?_ _
     have M1:=Lib.hid (J1.out.below HQ1.out J1.out.lt);have M2:=Lib.hid (J2.out.trans (HQ1.out.mono J2.out.size))
     clear HSW HQ0 HQ1 HHS hHeld
     cases hq with
     | false =>
      have H4:=Lib.hid (HNO.out fun _ _ h=>by rw [←HHQ.out] at h;cases h)
      go_wp2_with fail
      go_roundw
      case rel=>exact ⟨k+1,m',by omega,by go_num,hl,M1,M2,H4⟩
      case measure=>simp [intOf];omega
     | true =>
      have hkm1:k+1 < m'.length:=by rw [hl];exact hk1
      have H4:=Lib.hid (show ∀j,on (m'.set (k+1) true) j↔Ovk p O tx (k+1) j from fun j=>(on_set hkm1).trans ((or_congr (J3.out j) Iff.rfl).trans (ovk_yes HG.out (HON.out.2 rfl) HK.out.symm HHQ.out.symm).symm))
      have gc:=M1.out.cell (k+1)
      rw [bls_get hkm1] at gc
      have gf:=M1.out.frozen (k+1)
      have hch:Chg w6 (w6.setCell ⟨w.heap.size,k+1,none⟩ (.bool true)) (fun i=>i=w.heap.size):=(Chg.refl w6 _).setCell (p:=⟨w.heap.size,k+1,none⟩) _ rfl
      have N2:=Lib.hid (M2.out.trans (hch.below M2.out.size fun i hi e=>by omega))
      have N1:=Lib.hid (show Blk (w6.setCell ⟨w.heap.size,k+1,none⟩ (.bool true)) w.heap.size 4 (bls (m'.set (k+1) true)) by rw [←bls_set];exact M1.out.set_ (k+1) (.bool true))
      have hl2:(m'.set (k+1) true).length=n:=by rw [List.length_set];exact hl
      have hkn:((k+1:Nat):Int) < (n:Int):=by omega
      clear hch
      go_wp2_with fail
      go_roundw
      case rel=>exact ⟨k+1,m'.set (k+1) true,by omega,by go_num,hl2,N1,N2,H4⟩
      case measure=>simp [intOf];omega
    ·have q1:(sk == 1)=false:=beq_eq_false_iff_ne.2 k1
     have H4:=Lib.hid (HNO.out fun _ h _=>k1 (HK.out.trans h))
     clear h3 k1
     go_upto_region 5 with fail
     go_quiet (fail)
     have M1:=Lib.hid (J1.out.below (below_drewN (Below.refl wr.heap.size wr) nq) J1.out.lt);have M2:=Lib.hid (below_drewN J2.out nq)
     go_wp2_with fail
     go_roundw
     case rel=>exact ⟨k+1,m',by omega,by go_num,hl,M1,M2,H4⟩
     case measure=>simp [intOf];omega
  ·obtain rfl:k=n:=by omega
   have H4:=Lib.hid (show ∀j,on m' j↔Ov p O tx j from fun j=>(J3.out j).trans (ovk_all HIN.out))
   have HM2:=Lib.hid (HMK.out wr J2.out m' hl J1.out)
   clear HMK J3 J1
   cases f
   all_goals go_wp2_with fail
   all_goals refine (HM2.out _).mono ?_
   all_goals intro e1 w1 hr
   all_goals obtain ⟨v,m,rfl,r1,r2,r3,r4⟩:=row_of J2.out H4.out hr
   all_goals have R1:=Lib.hid r1
   all_goals have R3:=Lib.hid r3
   all_goals have R4:=Lib.hid r4
   all_goals clear hr r1 r3 r4
   all_goals go_wp2_with fail
   all_goals go_ret
   ·exact ⟨v,m,rfl,R1.out,r2,R3.out,R4.out⟩
   ·exact ⟨v,m,rfl,R1.out,r2,fun j=>by have:=R3.out j;rw [HEN.out] at this;exact this,R4.out⟩
end Go.Proofs.YtegdbmbenjnacaaGreat.Pike
namespace Go.Proofs.YtegdbmbenjnacaaGreat.Pike
open Go.RowKit Mem Sparse
open Prg (Ins mayP nxt Rch on off on_set on_lt bls bls_len bls_get)
open Sset (Tx ArgT Has3 hasS)
open Syn (Nd NV nvs Means ArgN)
set_option maxRecDepth 100000
open Classical
section
variable {p:List Ins} {W:List Tx} {b f:Bool} {i s n:Nat} {m:List Bool}
theorem doc_end (hm:∀k,on m k↔R p W b f s i k) (hs:s≤i) (hn:i≤W.length) (he:i=W.length∨ct m=0) :
  lastM p W b f s (W.length+1)=lastM p W b f s (i+1)∧stepsF p W b f s (W.length+1)=stepsF p W b f s (i+1)∧openF p W b f s=(!f && decide (Any p (R p W b f s i) 1∨Any p (R p W b f s i) 5)):=by
 by_cases hi:i=W.length
 ·subst hi;exact ⟨rfl,rfl,rfl⟩
 ·have hz:∀k,¬R p W b f s i k:=fun k hr=>ct_zero (he.resolve_left hi) k ((hm k).2 hr)
  refine ⟨?_,?_,?_⟩
  ·rw [lastM_stop hs hz (show i≤W.length+1 by omega),lastM_stop (j:=i+1) hs hz (by omega)]
  ·rw [stepsF_stop hs hz (show i≤W.length+1 by omega),stepsF_stop (j:=i+1) hs hz (by omega)]
  ·rw [openF_stop hs hz hn,decide_eq_false (fun h=>h.elim (any_none hz) (any_none hz)),Bool.and_false]
theorem steps_next (hl:m.length=p.length) (h:∀k,on m k↔R p W b f s i k):stepsF p W b f s (i+1)=stepsF p W b f s i+ct m:=by
 show stepsF p W b f s i+cnt p.length _=_
 rw [ct_cnt hl h]
theorem last_next {r:Bool} (h:r=true↔Any p (R p W b f s i) 6):lastM p W b f s (i+1)=if r=true then some i else lastM p W b f s i:=by
 cases r with
 | true=>rw [if_pos rfl];exact lastM_yes (h.1 rfl)
 | false=>rw [if_neg (by decide)];exact lastM_no fun e=>by have:=h.2 e;cases this
end
structure Mr (w0 w:World) (v:Value) (n:Nat) (m:List Bool) (O:Nat→Prop):Prop where
 own:w.ownsRow w0.heap.size 4 1 v n (bls m)
 len:m.length=n
 iff:∀i,on m i↔O i
 bel:Below w0.heap.size w0 w
theorem Mr.form {w0 w:World} {v:Value} {n:Nat} {m:List Bool} {O:Nat→Prop} (h:Mr w0 w v n m O):∃I d,v=.slice I n d∧Mrk w I n m O:=by
 obtain ⟨I,d,rfl,_,_,hr⟩:=own_form h.own
 exact ⟨I,d,rfl,hr,h.len,h.iff⟩
noncomputable def docF (p:List Ins) (W:List Tx) (b f:Bool) (s:Nat):Value:=.tuple #[.int .i64 (((lastM p W b f s (W.length+1)).getD 0:Nat):Int),.bool (lastM p W b f s (W.length+1)).isSome,.bool (openF p W b f s),.int .i64 (stepsF p W b f s (W.length+1):Int)]
set_option maxHeartbeats 8000000 in
theorem rlongest_any {A U:Option Addr} {n c N d:Nat} {b f:Bool} {s:Nat} {V:List NV} {p:List Ins} {W:List Tx} {w:World} (hA:ArgN w A n V p) (hm:mayP p=true) (hW:ArgT w U N W) (hs:s≤N) :
  Calls Tryz.prog 13 #[.slice A n c,.slice U N d,.int .i64 (s:Int),.bool b,.bool f] w (Ret w (docF p W b f s)):=by
 obtain ⟨_,h2,_⟩:=Prg.may_last hm
 have hn1:n≤4096:=by rw [←hA.len2];exact h2
 have hwl:=hW.len
 have hN63:=hW.sm
 have HB:=Lib.hid (rbegin_any (c:=c) hA hm N s b f)
 have HA:=Lib.hid hA;have HW:=Lib.hid hW;have HM:=Lib.hid hm;have HWL:=Lib.hid hwl
 have HD:=Lib.hid (show docF p W b f s=.tuple #[.int .i64 (((lastM p W b f s (N+1)).getD 0:Nat):Int),.bool (lastM p W b f s (N+1)).isSome,.bool (openF p W b f s),.int .i64 (stepsF p W b f s (N+1):Int)] by unfold docF;rw [hwl])
 rw [HD.out]
 generalize hres:lastM p W b f s (N+1)=res
 generalize hrst:stepsF p W b f s (N+1)=rst
 obtain ⟨op,hop⟩:∃o,o=openF p W b f s:=⟨_,rfl⟩
 rw [←hop]
 have HRES:=Lib.hid hres;have HRST:=Lib.hid hrst;have HOP:=Lib.hid hop
 clear hA hm hW hwl h2 hres hrst hop HD
 go_enter Tryz.func13,Tryz.ntmps13
 go_wp2_with (first
  | (go_at_call 28;refine HB.out.mono ?_;rintro e1 w1 ⟨v,m,rfl,r1,r2,r3,r4⟩;have M1:=Lib.hid (show Mr w w1 v n m (R p W b f s s) from ⟨r1,r2,fun k=>(r3 k).trans (by rw [←HWL.out];exact (R_here k).symm),r4⟩);obtain ⟨I,d1,rfl,m1⟩:=M1.out.form;have HC:=Lib.hid (rcount_any (d:=d1) m1.rd m1.len hn1);have MK:=Lib.hid m1;clear r1 r2 r3 r4 m1)
  | (go_at_call 29;refine HC.out.mono ?_;rintro e2 w2 ⟨rfl,rfl⟩))
 go_loopw [14,15,16,17,18] (fun rv ev fv sv iv wr=>∃(i:Nat) (m:List Bool) (l:Option Nat) (st:Nat),s≤i∧i≤N∧iv=.int .i64 (i:Int)∧ev=.int .i64 ((l.getD 0:Nat):Int)∧fv=.bool l.isSome∧sv=.int .i64 (st:Int)∧Hid (Mr w wr rv n m (R p W b f s i))∧Hid (lastM p W b f s i=l)∧Hid (stepsF p W b f s (i+1)=st)) (fun _ _ _ _ iv _=>N - (intOf iv).toNat)
 case atStart=>exact ⟨s,m,none,ct m,Nat.le_refl _,hs,rfl,rfl,rfl,rfl,M1,Lib.hid (lastM_early (Nat.le_refl _)),Lib.hid (by rw [steps_next (M1.out.len.trans HA.out.len2.symm) M1.out.iff,stepsF_early (Nat.le_refl _),Nat.zero_add])⟩
 case round =>
  clear M1 MK HC HB
  obtain ⟨i,m,l,st,hi1,hi2,rfl,rfl,rfl,rfl,J1,J2,J3⟩:=hrel
  obtain ⟨I,d1,rfl,mk⟩:=J1.out.form
  have MK:=Lib.hid mk
  have HC:=Lib.hid (rcount_any (d:=d1) mk.rd mk.len hn1)
  have HAw:=Lib.hid (HA.out.next J1.out.bel)
  have HWw:=Lib.hid (HW.out.next J1.out.bel)
  have HBL:=Lib.hid J1.out.bel
  obtain ⟨r6,h6⟩:∃r:Bool,r=true↔Any p (R p W b f s i) 6:=⟨decide _,decide_eq_true_iff⟩
  obtain ⟨r5,h5⟩:∃r:Bool,r=true↔Any p (R p W b f s i) 1∨Any p (R p W b f s i) 5:=⟨decide _,decide_eq_true_iff⟩
  have HA6:=Lib.hid (rany_any (c:=c) (d:=d1) HAw.out MK.out hn1 6 6 (r:=r6) (h6.trans (or_self_iff).symm))
  have HA5:=Lib.hid (rany_any (c:=c) (d:=d1) HAw.out MK.out hn1 1 5 (r:=r5) h5)
  have H5:=Lib.hid h5
  have HLN:=Lib.hid (show lastM p W b f s (i+1)=if r6=true then some i else l by rw [last_next h6,J2.out])
  clear mk h5 h6
  by_cases hiN:i=N
  ·have c1:((i:Int) == (N:Int))=true:=by rw [beq_iff_eq];omega
   have HE:=Lib.hid (doc_end J1.out.iff hi1 (by rw [HWL.out];exact hi2) (.inl (hiN.trans HWL.out.symm)))
   obtain ⟨q1,q2,q3⟩:=HE.out
   rw [HWL.out,HRES.out,HLN.out] at q1
   rw [HWL.out,HRST.out,J3.out] at q2
   have q3:=HOP.out.trans (q3.trans (show _=(!f && r5) by congr 1;exact (Bool.eq_iff_iff.2 (by rw [decide_eq_true_eq];exact H5.out.symm))))
   subst q1 q2 q3
   clear HE
   cases r6
   all_goals cases f
   all_goals go_upto_region 7 with (go_at_call 30;refine HA6.out.mono ?_;rintro e2 w2 ⟨rfl,rfl⟩)
   all_goals go_wp2_with (first
    | (go_at_call 30;refine HA5.out.mono ?_;rintro e2 w2 ⟨rfl,rfl⟩)
    | (go_at_call 29;refine HC.out.mono ?_;rintro e2 w2 ⟨rfl,rfl⟩))
   all_goals refine bodyPost_ret (results_tmp4 rfl _ _ _) rfl ?_
   all_goals exact ⟨rfl,HBL.out⟩
  ·have c1:((i:Int) == (N:Int))=false:=by rw [beq_eq_false_iff_ne];omega
   obtain ⟨q,hq⟩:∃q,q=ct m:=⟨_,rfl⟩
   have HQ:=Lib.hid hq
   rw [←hq] at HC
   clear hq
   by_cases hq0:q=0
   ·subst hq0
    have HE:=Lib.hid (doc_end J1.out.iff hi1 (by rw [HWL.out];exact hi2) (.inr HQ.out.symm))
    obtain ⟨q1,q2,q3⟩:=HE.out
    rw [HWL.out,HRES.out,HLN.out] at q1
    rw [HWL.out,HRST.out,J3.out] at q2
    have q3:=HOP.out.trans (q3.trans (show _=(!f && r5) by congr 1;exact (Bool.eq_iff_iff.2 (by rw [decide_eq_true_eq];exact H5.out.symm))))
    subst q1 q2 q3
    clear HE
    cases r6
    all_goals cases f
    all_goals go_upto_region 7 with (go_at_call 30;refine HA6.out.mono ?_;rintro e2 w2 ⟨rfl,rfl⟩)
    all_goals go_wp2_with (first
     | (go_at_call 30;refine HA5.out.mono ?_;rintro e2 w2 ⟨rfl,rfl⟩)
     | (go_at_call 29;refine HC.out.mono ?_;rintro e2 w2 ⟨rfl,rfl⟩))
    all_goals refine bodyPost_ret (results_tmp4 rfl _ _ _) rfl ?_
    all_goals exact ⟨rfl,HBL.out⟩
   ·have c2:((q:Int) == 0)=false:=by rw [beq_eq_false_iff_ne];omega
    have HOV:=Lib.hid (rover_any (c:=c) (d:=d1) (cu:=d) HAw.out HM.out MK.out HWw.out i (by omega) f)
    have HR:=Lib.hid (fun k=>show Rch p false (en f N (i+1)) (Ov p (R p W b f s i) (W.getD i [])) k↔R p W b f s (i+1) k by rw [R_next hi1,HWL.out,show bg b (i+1)=false by unfold bg;simp])
    have HBD:=Lib.hid (stepsF_bound W b f HM.out (show s≤i+1 by omega) (show i+1≤N by omega) hN63)
    clear hq0
    cases r6
    all_goals go_upto_region 7 with (go_at_call 30;refine HA6.out.mono ?_;rintro e2 w2 ⟨rfl,rfl⟩)
    all_goals go_upto_region 8 with (go_at_call 29;refine HC.out.mono ?_;rintro e2 w2 ⟨rfl,rfl⟩)
    all_goals go_wp2_with (first
     | (go_at_call 29;refine HC3.out.mono ?_;rintro e2 w2 ⟨rfl,rfl⟩)
     | (go_at_call 31;refine HOV.out.mono ?_;rintro e3 w3 ⟨v3,m3,rfl,r1,r2,r3,r4⟩;have M3:=Lib.hid (show Mr w w3 v3 n m3 (R p W b f s (i+1)) from ⟨own_mono r1 HBL.out.size,r2,fun k=>(r3 k).trans (HR.out k),HBL.out.trans (r4.mono HBL.out.size)⟩);obtain ⟨I3,d3,rfl,k3⟩:=M3.out.form;have HC3:=Lib.hid (rcount_any (d:=d3) k3.rd k3.len hn1);have HS3:=steps_next (M3.out.len.trans HA.out.len2.symm) M3.out.iff;have hbd:=HBD.out;rw [HS3,J3.out] at hbd;rw [J3.out] at HS3;obtain ⟨q3,hq3⟩:∃q,q=ct m3:=⟨_,rfl⟩;rw [←hq3] at HC3 HS3 hbd;have ew:IntKind.i64.wrap ((st:Int)+(q3:Int))=((st+q3:Nat):Int):=IntWalk.i64_in _ (by omega);have HS4:=Lib.hid HS3;clear r1 r2 r3 r4 k3 HS3 hq3))
    ·go_roundw
     case rel=>exact ⟨i+1,m3,l,st+q3,by omega,by omega,by go_num,rfl,rfl,by go_num,M3,HLN,HS4⟩
     case measure=>simp [intOf];omega
    ·go_roundw
     case rel=>exact ⟨i+1,m3,some i,st+q3,by omega,by omega,by go_num,rfl,rfl,by go_num,M3,HLN,HS4⟩
     case measure=>simp [intOf];omega
end Go.Proofs.YtegdbmbenjnacaaGreat.Pike
namespace Go.Proofs.YtegdbmbenjnacaaGreat.Prg
open Go.RowKit
open Utf (Rd Blk)
open Rset (Ret own_form ret_bool)
open Sset (St Tx normS none_ Has3 ArgT ArgR r_rsame r_rsnorm has3_none mk_toList)
open Syn (Nd NV nvs rd_nv nv_form Means ArgN)
set_option maxRecDepth 100000
theorem may_no_at {l:List Ins} {k:Nat} (hk:k < l.length) (h:okP l.length l[k]=false):mayP l=false:=by
 cases e:mayP l with
 | false=>rfl
 | true=>rw [may_at e hk] at h;cases h
theorem may_long {l:List Ins} (h:4096 < l.length):mayP l=false:=by
 unfold mayP;rw [decide_eq_false fun e=>by omega];rfl
theorem may_last_no {l:List Ins} {k:Nat} (hn:l.length=k+1) (hk:k < l.length) (h:l[k].kind≠6):mayP l=false:=by
 unfold mayP
 rw [decide_eq_false fun e=>?_];rfl
 rw [List.getLast?_eq_getElem?,hn,Nat.add_sub_cancel,List.getElem?_eq_getElem hk] at e
 injection e.2 with e;exact h e
theorem may_yes {l:List Ins} {k:Nat} (hn:l.length=k+1) (hk:k < l.length) (h:l[k].kind=6) (h1:l.length≤4096) (h2:∀i (hi:i < l.length),okP l.length l[i]=true):mayP l=true:=by
 unfold mayP
 rw [decide_eq_true,Bool.true_and,List.all_eq_true]
 ·intro x hx
  obtain ⟨i,hi,rfl⟩:=List.getElem_of_mem hx
  exact h2 i hi
 ·refine ⟨h1,?_⟩
  rw [List.getLast?_eq_getElem?,hn,Nat.add_sub_cancel,List.getElem?_eq_getElem hk,←h];rfl
set_option maxHeartbeats 8000000 in
theorem rpmay_any (A:Option Addr) (V:List NV) (l:List Ins) (n c:Nat) (w:World) (h:ArgN w A n V l) :
  Calls Tryz.prog 12 #[.slice A n c] w (Ret w (.bool (mayP l))):=by
 have H:=Lib.hid h
 have hn:=h.sm
 have hlen:=h.len2
 clear h
 rcases Nat.eq_zero_or_pos n with h0 | h0
 ·subst h0
  have:l=[]:=List.eq_nil_of_length_eq_zero hlen
  subst this
  have hF:mayP []=false:=by unfold mayP;simp
  rw [hF]
  go_enter Tryz.func12,Tryz.ntmps12
  go_wp2_with fail
  go_ret
  exact ⟨rfl,Below.refl _ _⟩
 by_cases h1:4096 < n
 ·rw [may_long (by omega)]
  have z0:¬n=0:=by omega
  have z1:(4096:Int) < n:=by omega
  have z2:¬(n:Int)=0:=by omega
  go_enter Tryz.func12,Tryz.ntmps12
  go_wp2_with fail
  go_ret
  exact ⟨rfl,Below.refl _ _⟩
 obtain ⟨n',hnn⟩:∃n',n=n'+1:=⟨n - 1,by omega⟩
 obtain ⟨pb,o,rfl,_⟩:=nv_form H.out.rd (by rw [H.out.len];omega)
 have hv:n' < V.length:=by rw [H.out.len];omega
 have hl:n' < l.length:=by omega
 have hk1:=(H.out.means n' hv hl).k
 obtain ⟨d0,_⟩:=rd_nv H.out.rd hv
 rw [hk1] at d0
 have z0:¬n=0:=by omega
 have z2:¬(n:Int)=0:=by omega
 have zb:((n:Int) == 0)=false:=by rw [beq_eq_false_iff_ne];exact z2
 have z1:¬(4096:Int) < (n:Int):=by omega
 have z3:(n:Int) - 1=n':=by omega
 have z4:n' < n:=by omega
 have HNN:=Lib.hid hnn
 clear hnn
 have HLN:=Lib.hid hlen
 by_cases h6:l[n'].kind=6
 ·have H6:=Lib.hid h6
  rw [h6] at d0
  clear h6 hk1
  go_enter Tryz.func12,Tryz.ntmps12
  go_wp2_with fail
  go_loopw [4] (fun i wr=>∃k:Nat,k≤n∧i=.int .i64 (k:Int)∧Hid (∀i (hi:i < l.length),i < k→okP l.length l[i]=true)∧Hid (Below w.heap.size w wr)) (fun i _=>n - (intOf i).toNat)
  case atStart=>exact ⟨0,Nat.zero_le _,rfl,Lib.hid (fun i _ h=>absurd h (Nat.not_lt_zero _)),Lib.hid (Below.refl _ _)⟩
  case round =>
   obtain ⟨k,hk,rfl,HT,HB⟩:=hrel
   clear d0
   by_cases hlt:k < n
   ·have ha:k < l.length:=by rw [H.out.len2];exact hlt
    have hv:k < V.length:=by rw [H.out.len];exact hlt
    have HM:=Lib.hid ((H.out.next HB.out).means k hv ha)
    have HD:=rd_nv (H.out.next HB.out).rd hv
    have HNO:=Lib.hid (show okP n l[k]=false→mayP l=false from fun h=>may_no_at ha (by rw [HLN.out];exact h))
    have HYE:=Lib.hid (show okP n l[k]=true→∀i (hi:i < l.length),i < k+1→okP l.length l[i]=true from fun h i hi hik=>by
     rcases Nat.lt_or_ge i k with g | g
     ·exact HT.out i hi g
     ·obtain rfl:i=k:=by omega
      rw [HLN.out];exact h)
    generalize V[k]=v at HM HD
    generalize l[k]=s at HM HNO HYE
    clear ha hv HT
    have e1:=HM.out.k;have e3:=HM.out.mn;have e5:=HM.out.mx
    obtain ⟨vk,X1,x1,y1,X2,x2,y2,X3,x3,y3,vm,vx⟩:=v
    dsimp only at e1 e3 e5 HD
    obtain ⟨sk,ss,sm,sx⟩:=s
    dsimp only at e1 e3 e5
    subst e1 e3 e5
    obtain ⟨d0,d1,d2,d3,d4,d5⟩:=HD
    obtain ⟨gb,hgb⟩:∃gb,gb=wr.heap.size:=⟨_,rfl⟩
    obtain ⟨U,hU⟩:∃U,U=wr.alloc (.cells #[.int .i64 vk,.slice X1 x1 y1,.slice X2 x2 y2,.slice X3 x3 y3,.int .i64 vm,.int .i64 vx] 76):=⟨_,rfl⟩
    have HBX:=Lib.hid (show Blk U gb 76 [.int .i64 vk,.slice X1 x1 y1,.slice X2 x2 y2,.slice X3 x3 y3,.int .i64 vm,.int .i64 vx] from by rw [hU,hgb];exact Blk.new wr _ _)
    have HS:=Lib.hid (show Has3 U X1 x1 X2 x2 X3 x3 ss from by rw [hU];exact HM.out.set.next ((Below.refl _ _).alloc (Nat.le_refl _) _))
    have HB2:=Lib.hid (show Below w.heap.size w U from by rw [hU];exact HB.out.alloc HB.out.size _)
    have HU:=Lib.hid hU;have HG:=Lib.hid hgb
    clear hU hgb HM
    go_wp2_with fail
    rw [←HU.out,←HG.out]
    clear HU HG d0 d1 d2 d3 d4 d5
    have q1:=HBX.out.cell 1;have q2:=HBX.out.cell 2;have q3:=HBX.out.cell 3
    go_wp2_with fail
    refine (r_rsame _ _ _ 0 0 0 HS.out (has3_none _) rfl).mono ?_
    rintro e u ⟨rfl,hb⟩
    clear q1 q2 q3
    replace HBX:=Lib.hid (HBX.out.below hb HBX.out.lt)
    replace HS:=Lib.hid (HS.out.next hb)
    replace HB2:=Lib.hid (HB2.out.trans (hb.mono HB2.out.size))
    clear hb HB
    obtain ⟨z,hz⟩:∃z,decide (ss=none_)=z:=⟨_,rfl⟩
    rw [hz]
    have HZ:=Lib.hid hz
    clear hz
    have q0:=HBX.out.cell 0;have q4:=HBX.out.cell 4;have q5:=HBX.out.cell 5
    by_cases c1:vk=1
    ·subst c1
     have q1:=HBX.out.cell 1;have q2:=HBX.out.cell 2;have q3:=HBX.out.cell 3
     have HSW:=Lib.hid (show ∀u2,Below u.heap.size u u2→u2.cell? ⟨gb,1,none⟩=some (.slice X1 x1 y1)∧u2.cell? ⟨gb,2,none⟩=some (.slice X2 x2 y2)∧u2.cell? ⟨gb,3,none⟩=some (.slice X3 x3 y3)∧u2.cell? ⟨gb,4,none⟩=some (.int .i64 vm)∧u2.cell? ⟨gb,5,none⟩=some (.int .i64 vx) from fun u2 hu=>⟨(HBX.out.below hu HBX.out.lt).cell 1,(HBX.out.below hu HBX.out.lt).cell 2,(HBX.out.below hu HBX.out.lt).cell 3,(HBX.out.below hu HBX.out.lt).cell 4,(HBX.out.below hu HBX.out.lt).cell 5⟩)
     have HQ0:=Lib.hid (show Below u.heap.size u u.drew from (Below.refl _ _).drew)
     go_wp2_with fail
     refine wp_region_held_drew (S:=fun u2=>u2.cell? ⟨gb,1,none⟩=some (.slice X1 x1 y1)∧u2.cell? ⟨gb,2,none⟩=some (.slice X2 x2 y2)∧u2.cell? ⟨gb,3,none⟩=some (.slice X3 x3 y3)∧u2.cell? ⟨gb,4,none⟩=some (.int .i64 vm)∧u2.cell? ⟨gb,5,none⟩=some (.int .i64 vx)) (by kernel_rfl) (HSW.out _ HQ0.out) (fun hHeld=>?_)
     refine wpAnyH_take (i:=0) (oi:=_) (v:=?_) rfl (by kernel_rfl) (by kernel_rfl) (by kernel_rfl) (fun _ _ _ h=>h) (Or.inl ⟨by rfl,?_⟩) (by assumption) ?_
     rotate_left
     ·(intro w hSw;(try dsimp only at hSw);(try obtain ⟨s1_,s2_,s3_,s4_,s5_⟩:=hSw);go_simp <;> with_reducible rfl)
     simp only [List.getElem_toArray,List.getElem_cons_zero,Act.put,List.setIfInBounds_toArray,List.set_cons_zero,List.set_cons_succ]
     refine wpAnyH_take (i:=1) (oi:=_) (v:=?_) rfl (by kernel_rfl) (by kernel_rfl) (by kernel_rfl) (fun _ _ _ h=>h) (Or.inl ⟨by rfl,?_⟩) (by assumption) ?_
     rotate_left
     ·(intro w hSw;(try dsimp only at hSw);(try obtain ⟨s1_,s2_,s3_,s4_,s5_⟩:=hSw);go_simp <;> with_reducible rfl)
     simp only [List.getElem_toArray,List.getElem_cons_succ,List.getElem_cons_zero,Act.put,List.setIfInBounds_toArray,List.set_cons_zero,List.set_cons_succ]
     refine wpAnyH_take (i:=3) (oi:=_) (v:=?_) rfl (by kernel_rfl) (by kernel_rfl) (by kernel_rfl) (fun _ _ _ h=>h) (Or.inl ⟨by rfl,?_⟩) (by assumption) ?_
     rotate_left
     ·(intro w hSw;(try dsimp only at hSw);(try obtain ⟨s1_,s2_,s3_,s4_,s5_⟩:=hSw);go_simp <;> with_reducible rfl)
     simp only [List.getElem_toArray,List.getElem_cons_succ,List.getElem_cons_zero,Act.put,List.setIfInBounds_toArray,List.set_cons_zero,List.set_cons_succ]
     refine wpAnyH_take (i:=4) (oi:=_) (v:=?_) rfl (by kernel_rfl) (by kernel_rfl) (by kernel_rfl) (fun _ _ _ h=>h) (Or.inl ⟨by rfl,?_⟩) (by assumption) ?_
     rotate_left
     ·(intro w hSw;(try dsimp only at hSw);(try obtain ⟨s1_,s2_,s3_,s4_,s5_⟩:=hSw);go_simp <;> with_reducible rfl)
     simp only [List.getElem_toArray,List.getElem_cons_succ,List.getElem_cons_zero,Act.put,List.setIfInBounds_toArray,List.set_cons_zero,List.set_cons_succ]
     refine wpAnyH_ready (rs:=[2]) (by kernel_rfl) (by simp) (AllReadyH.cons rfl (fun K hK=>?_) AllReadyH.nil)
     go_simp
     refine (r_rsnorm _ _ _ (HS.out.next HQ0.out)).mono ?_
     rintro e u1 ⟨N1,m1,k1,N2,m2,k2,N3,m3,k3,rfl,MN⟩
     have HQ1:=Lib.hid (show Below u.heap.size u u1 from HQ0.out.trans (MN.bel.mono HQ0.out.size))
     have HNN2:=Lib.hid MN.has
     clear MN
     refine hK.out _ _ (HSW.out _ HQ1.out) (fun hHeld2=>?_)
     clear hK K hHeld
     have hHeld:=hHeld2
     clear hHeld2
     refine wpAnyH_ready (rs:=[5]) (by kernel_rfl) (by simp) (AllReadyH.cons rfl (fun K hK=>?_) AllReadyH.nil)
     go_simp
     refine (r_rsame _ _ _ _ _ _ HNN2.out (HS.out.next HQ1.out) rfl).mono ?_
     rintro e u2 ⟨rfl,hb⟩
     have HQ2:=Lib.hid (show Below u.heap.size u u2 from HQ1.out.trans (hb.mono HQ1.out.size))
     clear hb
     refine hK.out _ _ (HSW.out _ HQ2.out) (fun hHeld2=>?_)
     clear hK K hHeld
     have hHeld:=hHeld2
     clear hHeld2
     have HB3:=Lib.hid (HB2.out.trans (HQ2.out.mono HB2.out.size))
     by_cases hno:normS ss=ss
     ·rw [decide_eq_true hno]
      refine wpAnyH_take (i:=6) (oi:=_) (v:=?_) rfl (by kernel_rfl) (by kernel_rfl) (by kernel_rfl) (fun _ _ _ h=>h) (Or.inl ⟨by rfl,?_⟩) (by assumption) ?_
      rotate_left
      ·(intro w hSw;(try dsimp only at hSw);(try obtain ⟨s1_,s2_,s3_,s4_,s5_⟩:=hSw);go_simp <;> with_reducible rfl)
      simp only [List.getElem_toArray,List.getElem_cons_succ,List.getElem_cons_zero,Act.put,List.setIfInBounds_toArray,List.set_cons_zero,List.set_cons_succ]
      refine wpAnyH_take (i:=7) (oi:=_) (v:=?_) rfl (by kernel_rfl) (by kernel_rfl) (by kernel_rfl) (fun _ _ _ h=>h) (Or.inl ⟨by rfl,?_⟩) (by assumption) ?_
      rotate_left
      ·(intro w hSw;(try dsimp only at hSw);(try obtain ⟨s1_,s2_,s3_,s4_,s5_⟩:=hSw);go_simp <;> with_reducible rfl)
      simp only [List.getElem_toArray,List.getElem_cons_succ,List.getElem_cons_zero,Act.put,List.setIfInBounds_toArray,List.set_cons_zero,List.set_cons_succ]
      refine wpAnyH_take (i:=8) (oi:=_) (v:=?_) rfl (by kernel_rfl) (by kernel_rfl) (by kernel_rfl) (fun _ _ _ h=>h) (Or.inl ⟨by rfl,?_⟩) (by assumption) ?_
      rotate_left
      ·(intro w hSw;(try dsimp only at hSw);(try obtain ⟨s1_,s2_,s3_,s4_,s5_⟩:=hSw);go_simp <;> with_reducible rfl)
      simp only [List.getElem_toArray,List.getElem_cons_succ,List.getElem_cons_zero,Act.put,List.setIfInBounds_toArray,List.set_cons_zero,List.set_cons_succ]
      refine wpAnyH_take (i:=9) (oi:=_) (v:=?_) rfl (by kernel_rfl) (by kernel_rfl) (by kernel_rfl) (fun _ _ _ h=>h) (Or.inl ⟨by rfl,?_⟩) (by assumption) ?_
      rotate_left
      ·(intro w hSw;(try dsimp only at hSw);(try obtain ⟨s1_,s2_,s3_,s4_,s5_⟩:=hSw);go_simp <;> with_reducible rfl)
      simp only [List.getElem_toArray,List.getElem_cons_succ,List.getElem_cons_zero,Act.put,List.setIfInBounds_toArray,List.set_cons_zero,List.set_cons_succ]
      by_cases c2:vm=0
      ·subst c2
       refine wpAnyH_take (i:=10) (oi:=_) (v:=?_) rfl (by kernel_rfl) (by kernel_rfl) (by kernel_rfl) (fun _ _ _ h=>h) (Or.inl ⟨by rfl,?_⟩) (by assumption) ?_
       rotate_left
       ·(intro w hSw;(try dsimp only at hSw);(try obtain ⟨s1_,s2_,s3_,s4_,s5_⟩:=hSw);go_simp <;> with_reducible rfl)
       simp only [List.getElem_toArray,List.getElem_cons_succ,List.getElem_cons_zero,Act.put,List.setIfInBounds_toArray,List.set_cons_zero,List.set_cons_succ]
       refine wpAnyH_take (i:=11) (oi:=_) (v:=?_) rfl (by kernel_rfl) (by kernel_rfl) (by kernel_rfl) (fun _ _ _ h=>h) (Or.inl ⟨by rfl,?_⟩) (by assumption) ?_
       rotate_left
       ·(intro w hSw;(try dsimp only at hSw);(try obtain ⟨s1_,s2_,s3_,s4_,s5_⟩:=hSw);go_simp <;> with_reducible rfl)
       simp only [List.getElem_toArray,List.getElem_cons_succ,List.getElem_cons_zero,Act.put,List.setIfInBounds_toArray,List.set_cons_zero,List.set_cons_succ]
       refine wpAnyH_take (i:=12) (oi:=_) (v:=?_) rfl (by kernel_rfl) (by kernel_rfl) (by kernel_rfl) (fun _ _ _ h=>h) (Or.inl ⟨by rfl,?_⟩) (by assumption) ?_
       rotate_left
       ·(intro w hSw;(try dsimp only at hSw);(try obtain ⟨s1_,s2_,s3_,s4_,s5_⟩:=hSw);go_simp <;> with_reducible rfl)
       simp only [List.getElem_toArray,List.getElem_cons_succ,List.getElem_cons_zero,Act.put,List.setIfInBounds_toArray,List.set_cons_zero,List.set_cons_succ]
       refine wpAnyH_take (i:=13) (oi:=_) (v:=?_) rfl (by kernel_rfl) (by kernel_rfl) (by kernel_rfl) (fun _ _ _ h=>h) (Or.inl ⟨by rfl,?_⟩) (by assumption) ?_
       rotate_left
       ·(intro w hSw;(try dsimp only at hSw);(try obtain ⟨s1_,s2_,s3_,s4_,s5_⟩:=hSw);go_simp <;> with_reducible rfl)
       simp only [List.getElem_toArray,List.getElem_cons_succ,List.getElem_cons_zero,Act.put,List.setIfInBounds_toArray,List.set_cons_zero,List.set_cons_succ]
       refine wpAnyH_take (i:=14) (oi:=_) (v:=?_) rfl (by kernel_rfl) (by kernel_rfl) (by kernel_rfl) (fun _ _ _ h=>h) (Or.inl ⟨by rfl,?_⟩) (by assumption) ?_
       rotate_left
       ·(intro w hSw;(try dsimp only at hSw);(try obtain ⟨s1_,s2_,s3_,s4_,s5_⟩:=hSw);go_simp <;> with_reducible rfl)
       simp only [List.getElem_toArray,List.getElem_cons_succ,List.getElem_cons_zero,Act.put,List.setIfInBounds_toArray,List.set_cons_zero,List.set_cons_succ]
       by_cases c3:vx=0
       ·subst c3
        refine wpAnyH_take (i:=15) (oi:=_) (v:=?_) rfl (by kernel_rfl) (by kernel_rfl) (by kernel_rfl) (fun _ _ _ h=>h) (Or.inl ⟨by rfl,?_⟩) (by assumption) ?_
        rotate_left
        ·(intro w hSw;(try dsimp only at hSw);(try obtain ⟨s1_,s2_,s3_,s4_,s5_⟩:=hSw);go_simp <;> with_reducible rfl)
        simp only [List.getElem_toArray,List.getElem_cons_succ,List.getElem_cons_zero,Act.put,List.setIfInBounds_toArray,List.set_cons_zero,List.set_cons_succ]
        refine wpAnyH_take (i:=16) (oi:=_) (v:=?_) rfl (by kernel_rfl) (by kernel_rfl) (by kernel_rfl) (fun _ _ _ h=>h) (Or.inl ⟨by rfl,?_⟩) (by assumption) ?_
        rotate_left
        ·(intro w hSw;(try dsimp only at hSw);(try obtain ⟨s1_,s2_,s3_,s4_,s5_⟩:=hSw);go_simp <;> with_reducible rfl)
        simp only [List.getElem_toArray,List.getElem_cons_succ,List.getElem_cons_zero,Act.put,List.setIfInBounds_toArray,List.set_cons_zero,List.set_cons_succ]
        refine wpAnyH_done (by kernel_rfl) ?_ _
        have HN:=Lib.hid (HYE.out (by unfold okP;rw [if_pos rfl];exact decide_eq_true ⟨hno,rfl,rfl⟩))
        go_wp2_with fail
        go_roundw
        case rel=>exact ⟨k+1,by omega,by go_num,HN,HB3⟩
        case measure=>simp [intOf];omega
       ·have c3':(vx != 0)=true:=by rw [bne_iff_ne];exact c3
        refine wpAnyH_take (i:=15) (oi:=_) (v:=?_) rfl (by kernel_rfl) (by kernel_rfl) (by kernel_rfl) (fun _ _ _ h=>h) (Or.inl ⟨by rfl,?_⟩) (by assumption) ?_
        rotate_left
        ·(intro w hSw;(try dsimp only at hSw);(try obtain ⟨s1_,s2_,s3_,s4_,s5_⟩:=hSw);go_simp <;> with_reducible rfl)
        simp only [List.getElem_toArray,List.getElem_cons_succ,List.getElem_cons_zero,Act.put,List.setIfInBounds_toArray,List.set_cons_zero,List.set_cons_succ]
        refine wpAnyH_take (i:=16) (oi:=_) (v:=?_) rfl (by kernel_rfl) (by kernel_rfl) (by kernel_rfl) (fun _ _ _ h=>h) (Or.inl ⟨by rfl,?_⟩) (by assumption) ?_
        rotate_left
        ·(intro w hSw;(try dsimp only at hSw);(try obtain ⟨s1_,s2_,s3_,s4_,s5_⟩:=hSw);go_simp <;> with_reducible rfl)
        simp only [List.getElem_toArray,List.getElem_cons_succ,List.getElem_cons_zero,Act.put,List.setIfInBounds_toArray,List.set_cons_zero,List.set_cons_succ]
        refine wpAnyH_done (by kernel_rfl) ?_ _
        have HF:=Lib.hid (HNO.out (by unfold okP;rw [if_pos rfl];exact decide_eq_false fun e=>c3 e.2.2))
        go_wp2_with fail
        go_ret
        rw [HF.out]
        exact ⟨rfl,HB3.out⟩
      ·have c2':(vm != 0)=true:=by rw [bne_iff_ne];exact c2
       refine wpAnyH_take (i:=10) (oi:=_) (v:=?_) rfl (by kernel_rfl) (by kernel_rfl) (by kernel_rfl) (fun _ _ _ h=>h) (Or.inl ⟨by rfl,?_⟩) (by assumption) ?_
       rotate_left
       ·(intro w hSw;(try dsimp only at hSw);(try obtain ⟨s1_,s2_,s3_,s4_,s5_⟩:=hSw);go_simp <;> with_reducible rfl)
       simp only [List.getElem_toArray,List.getElem_cons_succ,List.getElem_cons_zero,Act.put,List.setIfInBounds_toArray,List.set_cons_zero,List.set_cons_succ]
       refine wpAnyH_take (i:=11) (oi:=_) (v:=?_) rfl (by kernel_rfl) (by kernel_rfl) (by kernel_rfl) (fun _ _ _ h=>h) (Or.inl ⟨by rfl,?_⟩) (by assumption) ?_
       rotate_left
       ·(intro w hSw;(try dsimp only at hSw);(try obtain ⟨s1_,s2_,s3_,s4_,s5_⟩:=hSw);go_simp <;> with_reducible rfl)
       simp only [List.getElem_toArray,List.getElem_cons_succ,List.getElem_cons_zero,Act.put,List.setIfInBounds_toArray,List.set_cons_zero,List.set_cons_succ]
       refine wpAnyH_take (i:=12) (oi:=_) (v:=?_) rfl (by kernel_rfl) (by kernel_rfl) (by kernel_rfl) (fun _ _ _ h=>h) (Or.inl ⟨by rfl,?_⟩) (by assumption) ?_
       rotate_left
       ·(intro w hSw;(try dsimp only at hSw);(try obtain ⟨s1_,s2_,s3_,s4_,s5_⟩:=hSw);go_simp <;> with_reducible rfl)
       simp only [List.getElem_toArray,List.getElem_cons_succ,List.getElem_cons_zero,Act.put,List.setIfInBounds_toArray,List.set_cons_zero,List.set_cons_succ]
       refine wpAnyH_take (i:=13) (oi:=_) (v:=undef) rfl (by kernel_rfl) (by kernel_rfl) (by kernel_rfl) (fun _ _ _ h=>h) (Or.inr ⟨by rfl,rfl⟩) (by assumption) ?_
       simp only [List.getElem_toArray,List.getElem_cons_succ,List.getElem_cons_zero,Act.put,List.setIfInBounds_toArray,List.set_cons_zero,List.set_cons_succ]
       refine wpAnyH_take (i:=14) (oi:=_) (v:=undef) rfl (by kernel_rfl) (by kernel_rfl) (by kernel_rfl) (fun _ _ _ h=>h) (Or.inr ⟨by rfl,rfl⟩) (by assumption) ?_
       simp only [List.getElem_toArray,List.getElem_cons_succ,List.getElem_cons_zero,Act.put,List.setIfInBounds_toArray,List.set_cons_zero,List.set_cons_succ]
       refine wpAnyH_take (i:=15) (oi:=_) (v:=undef) rfl (by kernel_rfl) (by kernel_rfl) (by kernel_rfl) (fun _ _ _ h=>h) (Or.inr ⟨by rfl,rfl⟩) (by assumption) ?_
       simp only [List.getElem_toArray,List.getElem_cons_succ,List.getElem_cons_zero,Act.put,List.setIfInBounds_toArray,List.set_cons_zero,List.set_cons_succ]
       refine wpAnyH_take (i:=16) (oi:=_) (v:=?_) rfl (by kernel_rfl) (by kernel_rfl) (by kernel_rfl) (fun _ _ _ h=>h) (Or.inl ⟨by rfl,?_⟩) (by assumption) ?_
       rotate_left
       ·(intro w hSw;(try dsimp only at hSw);(try obtain ⟨s1_,s2_,s3_,s4_,s5_⟩:=hSw);go_simp <;> with_reducible rfl)
       simp only [List.getElem_toArray,List.getElem_cons_succ,List.getElem_cons_zero,Act.put,List.setIfInBounds_toArray,List.set_cons_zero,List.set_cons_succ]
       refine wpAnyH_done (by kernel_rfl) ?_ _
       have HF:=Lib.hid (HNO.out (by unfold okP;rw [if_pos rfl];exact decide_eq_false fun e=>c2 e.2.1))
       go_wp2_with fail
       go_ret
       rw [HF.out]
       exact ⟨rfl,HB3.out⟩
     ·rw [decide_eq_false hno]
      refine wpAnyH_take (i:=6) (oi:=_) (v:=?_) rfl (by kernel_rfl) (by kernel_rfl) (by kernel_rfl) (fun _ _ _ h=>h) (Or.inl ⟨by rfl,?_⟩) (by assumption) ?_
      rotate_left
      ·(intro w hSw;(try dsimp only at hSw);(try obtain ⟨s1_,s2_,s3_,s4_,s5_⟩:=hSw);go_simp <;> with_reducible rfl)
      simp only [List.getElem_toArray,List.getElem_cons_succ,List.getElem_cons_zero,Act.put,List.setIfInBounds_toArray,List.set_cons_zero,List.set_cons_succ]
      refine wpAnyH_take (i:=7) (oi:=_) (v:=?_) rfl (by kernel_rfl) (by kernel_rfl) (by kernel_rfl) (fun _ _ _ h=>h) (Or.inl ⟨by rfl,?_⟩) (by assumption) ?_
      rotate_left
      ·(intro w hSw;(try dsimp only at hSw);(try obtain ⟨s1_,s2_,s3_,s4_,s5_⟩:=hSw);go_simp <;> with_reducible rfl)
      simp only [List.getElem_toArray,List.getElem_cons_succ,List.getElem_cons_zero,Act.put,List.setIfInBounds_toArray,List.set_cons_zero,List.set_cons_succ]
      refine wpAnyH_take (i:=8) (oi:=_) (v:=undef) rfl (by kernel_rfl) (by kernel_rfl) (by kernel_rfl) (fun _ _ _ h=>h) (Or.inr ⟨by rfl,rfl⟩) (by assumption) ?_
      simp only [List.getElem_toArray,List.getElem_cons_succ,List.getElem_cons_zero,Act.put,List.setIfInBounds_toArray,List.set_cons_zero,List.set_cons_succ]
      refine wpAnyH_take (i:=9) (oi:=_) (v:=undef) rfl (by kernel_rfl) (by kernel_rfl) (by kernel_rfl) (fun _ _ _ h=>h) (Or.inr ⟨by rfl,rfl⟩) (by assumption) ?_
      simp only [List.getElem_toArray,List.getElem_cons_succ,List.getElem_cons_zero,Act.put,List.setIfInBounds_toArray,List.set_cons_zero,List.set_cons_succ]
      refine wpAnyH_take (i:=10) (oi:=_) (v:=undef) rfl (by kernel_rfl) (by kernel_rfl) (by kernel_rfl) (fun _ _ _ h=>h) (Or.inr ⟨by rfl,rfl⟩) (by assumption) ?_
      simp only [List.getElem_toArray,List.getElem_cons_succ,List.getElem_cons_zero,Act.put,List.setIfInBounds_toArray,List.set_cons_zero,List.set_cons_succ]
      refine wpAnyH_take (i:=11) (oi:=_) (v:=?_) rfl (by kernel_rfl) (by kernel_rfl) (by kernel_rfl) (fun _ _ _ h=>h) (Or.inl ⟨by rfl,?_⟩) (by assumption) ?_
      rotate_left
      ·(intro w hSw;(try dsimp only at hSw);(try obtain ⟨s1_,s2_,s3_,s4_,s5_⟩:=hSw);go_simp <;> with_reducible rfl)
      simp only [List.getElem_toArray,List.getElem_cons_succ,List.getElem_cons_zero,Act.put,List.setIfInBounds_toArray,List.set_cons_zero,List.set_cons_succ]
      refine wpAnyH_take (i:=12) (oi:=_) (v:=?_) rfl (by kernel_rfl) (by kernel_rfl) (by kernel_rfl) (fun _ _ _ h=>h) (Or.inl ⟨by rfl,?_⟩) (by assumption) ?_
      rotate_left
      ·(intro w hSw;(try dsimp only at hSw);(try obtain ⟨s1_,s2_,s3_,s4_,s5_⟩:=hSw);go_simp <;> with_reducible rfl)
      simp only [List.getElem_toArray,List.getElem_cons_succ,List.getElem_cons_zero,Act.put,List.setIfInBounds_toArray,List.set_cons_zero,List.set_cons_succ]
      refine wpAnyH_take (i:=13) (oi:=_) (v:=undef) rfl (by kernel_rfl) (by kernel_rfl) (by kernel_rfl) (fun _ _ _ h=>h) (Or.inr ⟨by rfl,rfl⟩) (by assumption) ?_
      simp only [List.getElem_toArray,List.getElem_cons_succ,List.getElem_cons_zero,Act.put,List.setIfInBounds_toArray,List.set_cons_zero,List.set_cons_succ]
      refine wpAnyH_take (i:=14) (oi:=_) (v:=undef) rfl (by kernel_rfl) (by kernel_rfl) (by kernel_rfl) (fun _ _ _ h=>h) (Or.inr ⟨by rfl,rfl⟩) (by assumption) ?_
      simp only [List.getElem_toArray,List.getElem_cons_succ,List.getElem_cons_zero,Act.put,List.setIfInBounds_toArray,List.set_cons_zero,List.set_cons_succ]
      refine wpAnyH_take (i:=15) (oi:=_) (v:=undef) rfl (by kernel_rfl) (by kernel_rfl) (by kernel_rfl) (fun _ _ _ h=>h) (Or.inr ⟨by rfl,rfl⟩) (by assumption) ?_
      simp only [List.getElem_toArray,List.getElem_cons_succ,List.getElem_cons_zero,Act.put,List.setIfInBounds_toArray,List.set_cons_zero,List.set_cons_succ]
      refine wpAnyH_take (i:=16) (oi:=_) (v:=?_) rfl (by kernel_rfl) (by kernel_rfl) (by kernel_rfl) (fun _ _ _ h=>h) (Or.inl ⟨by rfl,?_⟩) (by assumption) ?_
      rotate_left
      ·(intro w hSw;(try dsimp only at hSw);(try obtain ⟨s1_,s2_,s3_,s4_,s5_⟩:=hSw);go_simp <;> with_reducible rfl)
      simp only [List.getElem_toArray,List.getElem_cons_succ,List.getElem_cons_zero,Act.put,List.setIfInBounds_toArray,List.set_cons_zero,List.set_cons_succ]
      refine wpAnyH_done (by kernel_rfl) ?_ _
      have HF:=Lib.hid (HNO.out (by unfold okP;rw [if_pos rfl];exact decide_eq_false fun e=>hno e.1))
      go_wp2_with fail
      go_ret
      rw [HF.out]
      exact ⟨rfl,HB3.out⟩
    ·by_cases c2:vk=2
     ·subst c2
      cases z with
      | false =>
       have HF:=Lib.hid (HNO.out (by unfold okP;rw [if_neg (by simp),if_pos rfl];exact decide_eq_false fun e=>of_decide_eq_false HZ.out e.1))
       go_wp2_with fail
       go_ret
       rw [HF.out]
       exact ⟨rfl,HB2.out⟩
      | true =>
       by_cases h1:0≤vm
       ·skip
        by_cases h2:vm < (n:Int)
        ·skip
         by_cases h3:0≤vx
         ·skip
          by_cases h4:vx < (n:Int)
          ·skip
           have HN:=Lib.hid (HYE.out (by unfold okP;rw [if_neg (by simp),if_pos rfl];exact decide_eq_true ⟨of_decide_eq_true HZ.out,h1,h2,h3,h4⟩))
           go_wp2_with fail
           go_roundw
           case rel=>exact ⟨k+1,by omega,by go_num,HN,HB2⟩
           case measure=>simp [intOf];omega
          ·skip
           have HF:=Lib.hid (HNO.out (by unfold okP;rw [if_neg (by simp),if_pos rfl];exact decide_eq_false fun e=>h4 e.2.2.2.2))
           go_wp2_with fail
           go_ret
           rw [HF.out]
           exact ⟨rfl,HB2.out⟩
         ·skip
          have HF:=Lib.hid (HNO.out (by unfold okP;rw [if_neg (by simp),if_pos rfl];exact decide_eq_false fun e=>h3 e.2.2.2.1))
          go_wp2_with fail
          go_ret
          rw [HF.out]
          exact ⟨rfl,HB2.out⟩
        ·skip
         have HF:=Lib.hid (HNO.out (by unfold okP;rw [if_neg (by simp),if_pos rfl];exact decide_eq_false fun e=>h2 e.2.2.1))
         go_wp2_with fail
         go_ret
         rw [HF.out]
         exact ⟨rfl,HB2.out⟩
       ·skip
        have HF:=Lib.hid (HNO.out (by unfold okP;rw [if_neg (by simp),if_pos rfl];exact decide_eq_false fun e=>h1 e.2.1))
        go_wp2_with fail
        go_ret
        rw [HF.out]
        exact ⟨rfl,HB2.out⟩
     ·by_cases c3:vk=3
      ·subst c3
       cases z with
       | false =>
        have HF:=Lib.hid (HNO.out (by unfold okP;rw [if_neg (by simp),if_neg (by simp),if_pos rfl];exact decide_eq_false fun e=>of_decide_eq_false HZ.out e.1))
        go_wp2_with fail
        go_ret
        rw [HF.out]
        exact ⟨rfl,HB2.out⟩
       | true =>
        by_cases h1:0≤vm
        ·skip
         by_cases h2:vm < (n:Int)
         ·skip
          by_cases h3:vx=0
          ·skip
           have HN:=Lib.hid (HYE.out (by unfold okP;rw [if_neg (by simp),if_neg (by simp),if_pos rfl];exact decide_eq_true ⟨of_decide_eq_true HZ.out,h1,h2,h3⟩))
           go_wp2_with fail
           go_roundw
           case rel=>exact ⟨k+1,by omega,by go_num,HN,HB2⟩
           case measure=>simp [intOf];omega
          ·skip
           have h3':(vx != 0)=true:=by rw [bne_iff_ne];exact h3
           have HF:=Lib.hid (HNO.out (by unfold okP;rw [if_neg (by simp),if_neg (by simp),if_pos rfl];exact decide_eq_false fun e=>h3 e.2.2.2))
           go_wp2_with fail
           go_ret
           rw [HF.out]
           exact ⟨rfl,HB2.out⟩
         ·skip
          have HF:=Lib.hid (HNO.out (by unfold okP;rw [if_neg (by simp),if_neg (by simp),if_pos rfl];exact decide_eq_false fun e=>h2 e.2.2.1))
          go_wp2_with fail
          go_ret
          rw [HF.out]
          exact ⟨rfl,HB2.out⟩
        ·skip
         have HF:=Lib.hid (HNO.out (by unfold okP;rw [if_neg (by simp),if_neg (by simp),if_pos rfl];exact decide_eq_false fun e=>h1 e.2.1))
         go_wp2_with fail
         go_ret
         rw [HF.out]
         exact ⟨rfl,HB2.out⟩
      ·by_cases c4:vk=4∨vk=5∨vk=6
       ·have hpf:okP n ⟨vk,ss,vm,vx⟩=decide (ss=none_∧vm=0∧vx=0):=by unfold okP;rw [if_neg c1,if_neg c2,if_neg c3,if_pos c4]
        clear c1 c2 c3
        rcases c4 with rfl | rfl | rfl
        all_goals
         cases z with
         | false =>
          have HF:=Lib.hid (HNO.out (by rw [hpf];exact decide_eq_false fun e=>of_decide_eq_false HZ.out e.1))
          go_wp2_with fail
          go_ret
          rw [HF.out]
          exact ⟨rfl,HB2.out⟩
         | true =>
          by_cases h1:vm=0
          ·skip
           by_cases h2:vx=0
           ·skip
            have HN:=Lib.hid (HYE.out (by rw [hpf];exact decide_eq_true ⟨of_decide_eq_true HZ.out,h1,h2⟩))
            go_wp2_with fail
            go_roundw
            case rel=>exact ⟨k+1,by omega,by go_num,HN,HB2⟩
            case measure=>simp [intOf];omega
           ·skip
            have h2':(vx != 0)=true:=by rw [bne_iff_ne];exact h2
            have HF:=Lib.hid (HNO.out (by rw [hpf];exact decide_eq_false fun e=>h2 e.2.2))
            go_wp2_with fail
            go_ret
            rw [HF.out]
            exact ⟨rfl,HB2.out⟩
          ·skip
           have h1':(vm != 0)=true:=by rw [bne_iff_ne];exact h1
           have HF:=Lib.hid (HNO.out (by rw [hpf];exact decide_eq_false fun e=>h1 e.2.1))
           go_wp2_with fail
           go_ret
           rw [HF.out]
           exact ⟨rfl,HB2.out⟩
       ·have b1:(vk == 1)=false:=by rw [beq_eq_false_iff_ne];exact c1
        have b2:(vk == 2)=false:=by rw [beq_eq_false_iff_ne];exact c2
        have b3:(vk == 3)=false:=by rw [beq_eq_false_iff_ne];exact c3
        have b4:(vk == 4)=false:=by rw [beq_eq_false_iff_ne];exact fun e=>c4 (.inl e)
        have b5:(vk == 5)=false:=by rw [beq_eq_false_iff_ne];exact fun e=>c4 (.inr (.inl e))
        have b6:(vk == 6)=false:=by rw [beq_eq_false_iff_ne];exact fun e=>c4 (.inr (.inr e))
        have HF:=Lib.hid (HNO.out (by unfold okP;rw [if_neg c1,if_neg c2,if_neg c3,if_neg c4]))
        go_wp2_with fail
        go_ret
        rw [HF.out]
        exact ⟨rfl,HB2.out⟩
   ·have HY:=Lib.hid (may_yes (HLN.out.trans HNN.out) hl H6.out (by rw [HLN.out];omega) fun i hi=>HT.out i hi (by rw [HLN.out] at hi;omega))
    go_wp2_with fail
    go_ret
    rw [HY.out]
    exact ⟨rfl,HB.out⟩
 ·rw [may_last_no (hlen.trans HNN.out) hl h6]
  have h6':(l[n'].kind != 6)=true:=by rw [bne_iff_ne];exact h6
  generalize l[n'].kind=kk at *
  go_enter Tryz.func12,Tryz.ntmps12
  go_wp2_with fail
  go_ret
  exact ⟨rfl,Below.refl _ _⟩
end Go.Proofs.YtegdbmbenjnacaaGreat.Prg
namespace Go.Proofs.YtegdbmbenjnacaaGreat.Pike
open Go.RowKit Mem Sparse
open Prg (Ins mayP)
open Sset (Tx ArgT)
open Syn (Nd NV nvs Means ArgN)
set_option maxRecDepth 100000
def RallT (w:World) (p:List Ins) (W:List Tx) (e:Ending) (w':World):Prop:=∃v,e=.returned v∧w'.ownsRow w.heap.size 52 4 v (allF p W 0).length (sps (allF p W 0))∧Below w.heap.size w w'
set_option maxHeartbeats 8000000 in
theorem rall_any (A U:Option Addr) (n c m d:Nat) {V:List NV} {p:List Ins} {W:List Tx} (w:World) (hA:ArgN w A n V p) (hW:ArgT w U m W) (hm:mayP p=true) :
  Calls Tryz.prog 17 #[.slice A n c,.slice U m d] w (RallT w p W):=by
 obtain ⟨i0,hi,hz0,hz1,hz2⟩:=info_parts infoSpan
 have hwl:=hW.len
 have hm63:m≤1073741824:=hW.sm
 have HA:=Lib.hid hA;have HW:=Lib.hid hW;have HM:=Lib.hid hm;have HWL:=Lib.hid hwl
 clear hA hW hm hwl
 go_enter Tryz.func17,Tryz.ntmps17
 go_wp2_with fail
 go_loopw [5,6] (fun v fv wr=>∃(a:Nat) (D:List (Nat × Nat)),a≤m+1∧fv=.int .i64 (a:Int)∧D.length≤a∧Hid (wr.ownsRow w.heap.size 52 4 v D.length (sps D))∧Hid (Below w.heap.size w wr)∧Hid (D++allF p W a=allF p W 0)) (fun _ fv _=>m+1 - (intOf fv).toNat)
 case atStart=>exact ⟨0,[],by omega,rfl,Nat.le_refl _,Lib.hid (World.ownsRow_nil _ _ _ _),Lib.hid (Below.refl _ _),Lib.hid rfl⟩
 case round =>
  obtain ⟨a,D,ha,rfl,hD,J0,J1,J2⟩:=hrel
  have hown:=J0.out
  obtain ⟨dn,hdn⟩:∃n,D.length=n:=⟨_,rfl⟩
  have HDN:=Lib.hid hdn
  rw [hdn] at hown hD
  obtain ⟨Av,cv,rfl,_,_,_⟩:=own_form hown
  have HO:=Lib.hid hown
  clear hown hdn J0
  by_cases hle:a≤m
  ·have HLO:=Lib.hid (rlongest_any (c:=c) (d:=d) (b:=true) (f:=true) (HA.out.next J1.out) HM.out (HW.out.next J1.out) hle)
   have dle:decide ((a:Int)≤(m:Int))=true:=decide_eq_true (by omega)
   unfold docF at HLO
   rw [HWL.out] at HLO
   have hle2:(a:Int)≤(m:Int):=by omega
   have ew:IntKind.i64.wrap ((a:Int)+1)=((a+1:Nat):Int):=IntWalk.i64_in _ (by omega)
   generalize openF p W true true a=v3 at HLO
   generalize (stepsF p W true true a (m+1):Int)=v4 at HLO
   obtain ⟨r,hr⟩:∃r,r=lastM p W true true a (m+1):=⟨_,rfl⟩
   rw [←hr] at HLO
   have HR:=Lib.hid hr
   clear hr
   rcases r with _ | e
   ·have h5:=J2.out
    rw [allF_none (by rw [HWL.out];exact hle) (by rw [HWL.out];exact HR.out.symm)] at h5
    have H5:=Lib.hid h5
    clear h5
    dsimp only [Option.getD,Option.isSome] at HLO
    go_wp2_with (go_at_call 13;refine HLO.out.mono ?_;rintro e2 w2 ⟨rfl,hb⟩;have B2:=Lib.hid (J1.out.trans (hb.mono J1.out.size));have O2:=Lib.hid (own_below HO.out hb);clear hb)
    go_roundw
    case rel=>exact ⟨a+1,D,by omega,by go_num,by have:=HDN.out;omega,by rw [HDN.out];exact O2,B2,H5⟩
    case measure=>simp [intOf];omega
   ·dsimp only [Option.getD,Option.isSome] at HLO
    obtain ⟨e1,e2,_,_⟩:=lastM_some HR.out.symm
    have h5:=J2.out
    rw [allF_some (by rw [HWL.out];exact hle) (by rw [HWL.out];exact HR.out.symm)] at h5
    have H5:=Lib.hid (show (D++[(a,e)])++allF p W (max e (a+1))=allF p W 0 by rw [List.append_assoc];exact h5)
    clear h5
    by_cases hae:a < e
    ·rw [show max e (a+1)=e by omega] at H5
     have hg:(a:Int) < (e:Int):=by omega
     go_upto_region 6 with (go_at_call 13;refine HLO.out.mono ?_;rintro e2 w2 ⟨rfl,hb⟩;have B2:=Lib.hid (J1.out.trans (hb.mono J1.out.size));have O2:=Lib.hid (own_below HO.out hb);clear hb)
     have hsz:w.heap.size≤w2.heap.size:=B2.out.size
     go_wp2_with (at_builtin;refine wpList_append_rd _ rfl (.tmp 25) (.tmp 29) _ rfl w.heap.size 52 i0 _ 4 32 Tryz.underlying34 hi hz0 hz1 hz2 rfl (by decide) (.slice Av dn cv) dn (sps D) rfl (own_below O2.out ((Below.refl _ _).alloc (Nat.le_refl _) _)) _ (some ⟨w2.heap.size,0,none⟩) 1 1 [.int .i64 (a:Int),.int .i64 (e:Int),.int .i64 0,.int .i64 0] rfl rfl (rd_new w2 _ [.int .i64 (a:Int),.int .i64 (e:Int),.int .i64 0,.int .i64 0] _ rfl) (sp_ones a e) (by unfold maxLen;omega) (by omega) (by simp;omega) ?_;intro v6 w6 hown6 hgr6 hat6;have O6:=Lib.hid (show w6.ownsRow w.heap.size 52 4 v6 (D++[(a,e)]).length (sps (D++[(a,e)])) by rw [List.length_append,sps_app,HDN.out];exact hown6);have B6:=Lib.hid (B2.out.trans ((((Below.refl _ _).alloc (Nat.le_refl _) _).mono B2.out.size).trans (((Chg.refl _ (fun i=>(Value.slice Av dn cv).ownBlock=some i)).grown hgr6 fun i _ e=>e).below (by simp;omega) fun i hi e=>by have:=(O2.out.lt i e).1;omega)));clear hown6 hgr6 hat6)
     go_roundw
     case rel=>exact ⟨e,D++[(a,e)],by omega,by go_num,by rw [List.length_append,HDN.out];simp;omega,O6,B6,H5⟩
     case measure=>simp [intOf];omega
    ·rw [show max e (a+1)=a+1 by omega] at H5
     have hg:¬((a:Int) < (e:Int)):=by omega
     go_upto_region 6 with (go_at_call 13;refine HLO.out.mono ?_;rintro e2 w2 ⟨rfl,hb⟩;have B2:=Lib.hid (J1.out.trans (hb.mono J1.out.size));have O2:=Lib.hid (own_below HO.out hb);clear hb)
     have hsz:w.heap.size≤w2.heap.size:=B2.out.size
     go_wp2_with (at_builtin;refine wpList_append_rd _ rfl (.tmp 25) (.tmp 29) _ rfl w.heap.size 52 i0 _ 4 32 Tryz.underlying34 hi hz0 hz1 hz2 rfl (by decide) (.slice Av dn cv) dn (sps D) rfl (own_below O2.out ((Below.refl _ _).alloc (Nat.le_refl _) _)) _ (some ⟨w2.heap.size,0,none⟩) 1 1 [.int .i64 (a:Int),.int .i64 (e:Int),.int .i64 0,.int .i64 0] rfl rfl (rd_new w2 _ [.int .i64 (a:Int),.int .i64 (e:Int),.int .i64 0,.int .i64 0] _ rfl) (sp_ones a e) (by unfold maxLen;omega) (by omega) (by simp;omega) ?_;intro v6 w6 hown6 hgr6 hat6;have O6:=Lib.hid (show w6.ownsRow w.heap.size 52 4 v6 (D++[(a,e)]).length (sps (D++[(a,e)])) by rw [List.length_append,sps_app,HDN.out];exact hown6);have B6:=Lib.hid (B2.out.trans ((((Below.refl _ _).alloc (Nat.le_refl _) _).mono B2.out.size).trans (((Chg.refl _ (fun i=>(Value.slice Av dn cv).ownBlock=some i)).grown hgr6 fun i _ e=>e).below (by simp;omega) fun i hi e=>by have:=(O2.out.lt i e).1;omega)));clear hown6 hgr6 hat6)
     go_roundw
     case rel=>exact ⟨a+1,D++[(a,e)],by omega,by go_num,by rw [List.length_append,HDN.out];simp;omega,O6,B6,H5⟩
     case measure=>simp [intOf];omega
  ·have h5:=J2.out
   rw [allF_end (by rw [HWL.out];omega),List.append_nil] at h5
   have H5:=Lib.hid h5
   have dle:decide ((a:Int)≤(m:Int))=false:=decide_eq_false (by omega)
   clear h5
   go_wp2_with fail
   go_ret
   exact ⟨_,rfl,by rw [←H5.out,HDN.out];exact HO.out,J1.out⟩
theorem allA_len {p:List Ins} {W:List Tx}:∀(d s:Nat),(allA p W d s).length≤d
 | 0,_=>Nat.le_refl _
 | d+1,s=>by
  unfold allA
  split
  ·exact Nat.zero_le _
  ·split
   ·rw [List.length_cons];exact Nat.succ_le_succ (allA_len d _)
   ·exact Nat.le_succ_of_le (allA_len d _)
theorem sps_at (L:List (Nat × Nat)):∀{k:Nat} (hk:k < L.length) (j:Nat),j < 4→(sps L)[k*4+j]? = [Value.int .i64 (L[k].1:Int),.int .i64 (L[k].2:Int),.int .i64 0,.int .i64 0][j]?:=by
 induction L with
 | nil=>intro k hk;simp at hk
 | cons q L ih =>
  intro k hk j hj
  have e:sps (q :: L)=[Value.int .i64 (q.1:Int),.int .i64 (q.2:Int),.int .i64 0,.int .i64 0]++sps L:=rfl
  rw [e]
  cases k with
  | zero=>rw [List.getElem?_append_left (by simpa using hj),Nat.zero_mul,Nat.zero_add];rfl
  | succ k =>
   rw [List.getElem?_append_right (by simp;omega)]
   have:=ih (k:=k) (by simpa using hk) j hj
   simp only [List.length_cons,List.length_nil,List.getElem_cons_succ]
   rw [show (k+1)*4+j - (0+1+1+1+1)=k*4+j by omega]
   exact this
theorem sps_rd {w:World} {B b o:Nat} {L:List (Nat × Nat)} (h:Rd w B (some ⟨b,o,none⟩) (sps L)) {k:Nat} (hk:k < L.length) :
  w.cell? ⟨b,o+k*4,none⟩=some (.int .i64 (L[k].1:Int))∧w.cell? ⟨b,o+k*4+1,none⟩=some (.int .i64 (L[k].2:Int))∧w.cell? ⟨b,o+k*4+2,none⟩=some (.int .i64 0)∧w.cell? ⟨b,o+k*4+3,none⟩=some (.int .i64 0):=by
 obtain ⟨b',o',e,_,hc⟩:=h (by intro e;have:=congrArg List.length e;rw [sps_len] at this;simp at this;omega)
 simp only [Option.some.injEq,Addr.mk.injEq,and_true] at e
 obtain ⟨rfl,rfl⟩:=e
 have g:=fun j hj v hv=>hc (k*4+j) v (by rw [sps_at L hk j hj];exact hv)
 refine ⟨by have:=g 0 (by omega) _ rfl;rwa [Nat.add_zero] at this,?_,?_,?_⟩
 ·have:=g 1 (by omega) _ rfl;rwa [←Nat.add_assoc] at this
 ·have:=g 2 (by omega) _ rfl;rwa [←Nat.add_assoc] at this
 ·have:=g 3 (by omega) _ rfl;rwa [←Nat.add_assoc] at this
theorem spFields:Tryz.prog.underlying 52=some (.struct (Tryz.prog.fieldsOf 52)):=by kernel_rfl
theorem spHeld:Tryz.prog.stoodInHeld 52=false:=by kernel_rfl
theorem neq_sp (w:World) (a b:Int):(binOp .neq 52 (.agg #[.int .i64 a,.int .i64 b,.int .i64 0,.int .i64 0]) (.agg #[.int .i64 a,.int .i64 b,.int .i64 0,.int .i64 0])).run Tryz.prog w=.ok (.bool false) w:=by
 have u21:=Tryz.underlying3
 have a21:=Tryz.isAgg3
 have z21:=Tryz.sizeOf3
 rw [run_neq_struct,show (10000:Nat)=9999+1 from rfl,run_equalIn_agg w 9999 _ _ _ spFields spHeld]
 simp only [Program.fieldsOf,Tryz.underlying52]
 go_simp
set_option maxHeartbeats 4000000 in
theorem rsame_spans {A B:Option Addr} {n c d:Nat} {L:List (Nat × Nat)} {w:World} {C C':Nat} (hA:Rd w C A (sps L)) (hB:Rd w C' B (sps L)) (hn:L.length=n) (hs:n≤1099511627776) :
  Calls Tryz.prog 16 #[.slice A n c,.slice B n d] w (Ret w (.bool true)):=by
 have HA:=Lib.hid hA;have HB:=Lib.hid hB;have HN:=Lib.hid hn
 clear hA hB hn
 have nn:((n:Int) != (n:Int))=false:=by simp
 go_enter Tryz.func16,Tryz.ntmps16
 go_wp2_with fail
 go_loopw [5] (fun kv wr=>∃k j:Nat,k≤n∧kv=.int .i64 (k:Int)∧Hid (wr=w.drewN j)) (fun kv _=>n - (intOf kv).toNat)
 case atStart=>exact ⟨0,0,Nat.zero_le _,rfl,Lib.hid rfl⟩
 case round =>
  obtain ⟨k,j,hk,rfl,HW⟩:=hrel
  obtain rfl:=HW.out
  by_cases hlt:k < n
  ·have hkl:k < L.length:=by rw [HN.out];exact hlt
   obtain ⟨ab,ao,rfl,_⟩:=HA.out.form (by rw [sps_len];omega)
   obtain ⟨bb,bo,rfl,_⟩:=HB.out.form (by rw [sps_len];omega)
   obtain ⟨a0,a1,a2,a3⟩:=sps_rd HA.out hkl
   obtain ⟨b0,b1,b2,b3⟩:=sps_rd HB.out hkl
   generalize (L[k].1:Int)=x at a0 b0
   generalize (L[k].2:Int)=y at a1 b1
   have hq:=fun u=>neq_sp u x y
   clear hkl
   go_wp2_with fail
   go_quiet (fail)
   go_wp2_with fail
   go_roundw
   case rel=>exact ⟨k+1,_,by omega,by go_num,Lib.hid (by first | rfl | trivial)⟩
   case measure=>simp [intOf];omega
  ·go_wp2_with fail
   go_ret
   exact ⟨rfl,below_drewN (Below.refl _ _) j⟩
end Go.Proofs.YtegdbmbenjnacaaGreat.Pike
