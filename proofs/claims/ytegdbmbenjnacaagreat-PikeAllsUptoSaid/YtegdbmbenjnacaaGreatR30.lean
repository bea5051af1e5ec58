/-
  Texts of stage 7, part 30.
-/
import Derived.Deep.QuietTactic
import Derived.BigQuiet
import Derived.Test.YtegdbmbenjnacaaGreatR14
import Derived.Test.YtegdbmbenjnacaaGreatR16
import Derived.Test.YtegdbmbenjnacaaGreatR29
namespace Go.Proofs.YtegdbmbenjnacaaGreat.Pike
open Go.RowKit Mem Sparse
open Prg (Ins ints mem_ints mayP nxt nexts nexts_iff nxt_lt Rch)
open Sset (Tx ArgT Has3 hasS shas_any mk_toList rd_tx rd_form_tx)
open Syn (Nd NV nvs rd_nv nv_form Means ArgN)
set_option maxRecDepth 100000
theorem Src.all {w0:World} {R:Rv} {V:List NV} {p:List Ins} {W:List Tx} (h:Src w0 R V p W) {a:Nat} (ha:a < R.n):∃b o i A1 n1 c1 A2 n2 c2 A3 n3 c3,R.A=some ⟨b,o,none⟩∧p[a]? = some i∧Prg.okP R.n i=true ∧
  ∀u,Below w0.heap.size w0 u→u.cell? ⟨b,o+a*6,none⟩=some (.int .i64 i.kind)∧u.cell? ⟨b,o+a*6+1,none⟩=some (.slice A1 n1 c1)∧u.cell? ⟨b,o+a*6+1+1,none⟩=some (.slice A2 n2 c2)∧u.cell? ⟨b,o+a*6+1+2,none⟩=some (.slice A3 n3 c3)∧Has3 u A1 n1 A2 n2 A3 n3 i.set:=by
 have ha2:a < p.length:=by rw [h.arg.len2];exact ha
 have hav:a < V.length:=by rw [h.arg.len];exact ha
 have hm:=h.arg.means a hav ha2
 obtain ⟨b,o,hA,hbl⟩:=nv_form h.arg.rd (by omega)
 have hrd:=h.arg.rd
 rw [hA] at hrd
 refine ⟨b,o,p[a],V[a].A1,V[a].n1,V[a].c1,V[a].A2,V[a].n2,V[a].c2,V[a].A3,V[a].n3,V[a].c3,hA,List.getElem?_eq_getElem ha2,h.arg.len2 ▸ Prg.may_at h.may ha2,fun u hu=>?_⟩
 obtain ⟨d0,d1,d2,d3,_,_⟩:=rd_nv (hrd.below hu) hav
 rw [hm.k] at d0
 exact ⟨d0,d1,d2,d3,hm.set.next hu⟩
theorem Src.text {w0:World} {R:Rv} {V:List NV} {p:List Ins} {W:List Tx} (h:Src w0 R V p W) {i:Nat} (hi:i < R.m):∃b o,R.U=some ⟨b,o,none⟩∧(W.getD i []).length≤1073741824 ∧
  ∀u,Below w0.heap.size w0 u→u.cell? ⟨b,o+i,none⟩=some (.string ⟨(W.getD i []).toArray⟩):=by
 have hl:i < W.length:=by rw [h.win.len];exact hi
 obtain ⟨b,o,hU,_⟩:=rd_form_tx h.win.rd (by omega)
 have hrd:=h.win.rd
 rw [hU] at hrd
 have e:W.getD i []=W[i]:=by simp [List.getD,List.getElem?_eq_getElem hl]
 rw [e]
 exact ⟨b,o,hU,h.win.short _ (List.getElem_mem hl),fun u hu=>rd_tx (hrd.below hu) hl⟩
theorem Frt.cell {B N:Nat} {w:World} {x:Fr} (h:Frt B N w x) {k:Nat} (hk:k∈x.L):w.cell? ⟨x.q,k,none⟩=some (.int .i64 (x.F k:Int)):=by
 obtain ⟨T,h1,h2,h3⟩:=h.row
 rw [h1.cell]
 have:=h3 k hk
 obtain ⟨hl,e⟩:=List.getElem?_eq_some_iff.1 this
 rw [ks_get hl,e]
section
variable {w0 w w' w'':World} {rb pl lt:Nat} {R:Rv} {x y x':Fr}
theorem Run.olen (h:Run w0 w rb R pl lt x y):Calls Tryz.prog 25 #[.pointer (some ⟨y.g,0,none⟩)] w (Tells w (.int .i64 (y.L.length:Int))):=by
 have:=len_int w0.heap.size y.g y.p R.n y.v (ints y.L) w h.old.ss
 rw [ints_len] at this
 exact this
theorem Run.oat (h:Run w0 w rb R pl lt x y) {i:Nat} (hi:i < y.L.length):Calls Tryz.prog 50 #[.pointer (some ⟨y.g,0,none⟩),.int .i64 (i:Int)] w (Tells w (.tuple #[.int .i64 (y.L[i]:Int),.bool true])):=by
 have:=at_int (i:Int) w0.heap.size y.g y.p R.n y.v (ints y.L) w h.old.ss
 rw [nth_ints hi] at this
 exact this
theorem Run.swap (h:Run w0 w rb R pl lt x y):∃u,u=(((w.setCell ⟨rb,5,none⟩ (.pointer (some ⟨y.g,0,none⟩))).setCell ⟨rb,6,none⟩ (.slice (some ⟨y.q,0,none⟩) R.n R.n)).setCell ⟨rb,7,none⟩ (.pointer (some ⟨x.g,0,none⟩))).setCell ⟨rb,8,none⟩ (.slice (some ⟨x.q,0,none⟩) R.n R.n) ∧
  Run w0 u rb R pl lt y x∧Mv w u (Rf rb x y) (Rf rb y x):=by
 refine ⟨_,rfl,?_⟩
 have hb:=(((h.blk.set_ 5 (.pointer (some ⟨y.g,0,none⟩))).set_ 6 (.slice (some ⟨y.q,0,none⟩) R.n R.n)).set_ 7 (.pointer (some ⟨x.g,0,none⟩))).set_ 8 (.slice (some ⟨x.q,0,none⟩) R.n R.n)
 have hc:Chg w ((((w.setCell ⟨rb,5,none⟩ (.pointer (some ⟨y.g,0,none⟩))).setCell ⟨rb,6,none⟩ (.slice (some ⟨y.q,0,none⟩) R.n R.n)).setCell ⟨rb,7,none⟩ (.pointer (some ⟨x.g,0,none⟩))).setCell ⟨rb,8,none⟩ (.slice (some ⟨x.q,0,none⟩) R.n R.n)) (fun i=>i=rb):=by
  have h1:Chg w (w.setCell ⟨rb,5,none⟩ (.pointer (some ⟨y.g,0,none⟩))) (fun i=>i=rb):=(Chg.refl w _).setCell (p:=⟨rb,5,none⟩) _ rfl
  exact ((h1.setCell (p:=⟨rb,6,none⟩) _ rfl).setCell (p:=⟨rb,7,none⟩) _ rfl).setCell (p:=⟨rb,8,none⟩) _ rfl
 generalize (((w.setCell ⟨rb,5,none⟩ (.pointer (some ⟨y.g,0,none⟩))).setCell ⟨rb,6,none⟩ (.slice (some ⟨y.q,0,none⟩) R.n R.n)).setCell ⟨rb,7,none⟩ (.pointer (some ⟨x.g,0,none⟩))).setCell ⟨rb,8,none⟩ (.slice (some ⟨x.q,0,none⟩) R.n R.n)=u at hb hc ⊢
 exact ⟨⟨hb,h.old.keep hc fun i hi e=>h.ny (e ▸ hi),h.now.keep hc fun i hi e=>h.nx (e ▸ hi),fun i hy hx=>h.dj i hx hy,h.ny,h.nx,h.le,h.bel.trans (hc.below h.bel.size fun i hi e=>by have:=h.le;omega)⟩,
  ⟨hc.more fun i hi=>.inl hi,fun i _ hi=>hi.imp_right fun h=>h.symm⟩⟩
end
def Stepped (w0 w:World) (rb:Nat) (R:Rv) (pl lt:Nat) (x y:Fr) (p:List Ins) (W:List Tx) (lo:Nat) (e:Ending) (w':World):Prop :=
 if pl=R.m∨x.L=[] then e=.returned (.bool false)∧Run w0 w' rb R pl lt x y∧Mv w w' (Rf rb x y) (Rf rb x y)
 else ∃x' y',e=.returned (.bool true)∧Run w0 w' rb R (pl+1) lt x' y'∧Mv w w' (Rf rb x y) (Rf rb x' y') ∧
  Side p W R.b R.f (pl+1) lo (lt+1) x'.L x'.F∧(∀k∈x'.L,x'.F k < lt+1)∧Cl p (bg R.b (pl+1)) (en R.f R.m (pl+1)) x'.L x'.F
set_option maxHeartbeats 8000000 in
theorem step_any {w0 w:World} {rb pl lt:Nat} {R:Rv} {x y:Fr} {V:List NV} {p:List Ins} {W:List Tx} (lo:Nat) (h:Run w0 w rb R pl lt x y) (hs:Src w0 R V p W) (hpl:pl≤R.m) (hlt:lt≤pl)
  (hS:Side p W R.b R.f pl lo (lt+1) x.L x.F) :
  Calls Tryz.prog 23 #[.pointer (some ⟨rb,0,none⟩)] w (Stepped w0 w rb R pl lt x y p W lo):=by
 have H:=Lib.hid h;have HS:=Lib.hid hs;have HSI:=Lib.hid hS
 have c4:=h.c4;have c1:=h.c1;have c5:=h.c5;have f4:=h.fr 4
 have hm63:=hs.win.sm
 by_cases he:pl=R.m∨x.L=[]
 ·have HE:=Lib.hid he
  by_cases hp:pl=R.m
  ·have hpm:((pl:Int) == (R.m:Int))=true:=by rw [beq_iff_eq];omega
   clear he h hs hS hp
   go_enter Tryz.func23,Tryz.ntmps23
   go_wp2_with fail
   go_quiet (fail)
   go_wp2_with fail
   go_ret
   unfold Stepped
   rw [if_pos HE.out]
   exact ⟨rfl,H.out.next (below_drewN (Below.refl _ _) nq),(Mv.refl w _).below (below_drewN (Below.refl _ _) nq)⟩
  ·have hpm:((pl:Int) == (R.m:Int))=false:=by rw [beq_eq_false_iff_ne];omega
   have hx:x.L=[]:=he.resolve_left hp
   have hl0:((x.L.length:Int) == 0)=true:=by rw [hx];rfl
   have HLN:=Lib.hid (fun u (hu:Below w.heap.size w u)=>(h.next hu).len)
   obtain ⟨q,hq⟩:∃q,q=x.L.length:=⟨_,rfl⟩
   rw [←hq] at HLN hl0
   clear he h hs hS hp hx hq
   go_enter Tryz.func23,Tryz.ntmps23
   go_wp2_with fail
   go_quiet (first | (go_at_call 25;exact Calls.quiet_of_same ((HLN.out _ (below_drewN (Below.refl _ _) _)).mono fun _ _ h=>⟨h.1,h.2.symm⟩)))
   go_wp2_with fail
   go_ret
   unfold Stepped
   rw [if_pos HE.out]
   exact ⟨rfl,H.out.next (below_drewN (Below.refl _ _) nq),(Mv.refl w _).below (below_drewN (Below.refl _ _) nq)⟩
 ·have hE:=Lib.hid he
  have hpm:((pl:Int) == (R.m:Int))=false:=by rw [beq_eq_false_iff_ne];omega
  have hlt2:(pl:Int) < (R.m:Int):=by omega
  have hl0:((x.L.length:Int) == 0)=false:=by
   rw [beq_eq_false_iff_ne]
   intro e
   exact he (.inr (List.eq_nil_of_length_eq_zero (by omega)))
  have HLN:=Lib.hid (fun u (hu:Below w.heap.size w u)=>(h.next hu).len)
  obtain ⟨q,hq⟩:∃q,q=x.L.length:=⟨_,rfl⟩
  rw [←hq] at HLN hl0
  have HQ:=Lib.hid hq
  clear he h hs hS hq
  go_enter Tryz.func23,Tryz.ntmps23
  go_wp2_with fail
  go_quiet (first | (go_at_call 25;exact Calls.quiet_of_same ((HLN.out _ (below_drewN (Below.refl _ _) _)).mono fun _ _ h=>⟨h.1,h.2.symm⟩)))
  obtain ⟨bU,oU,hU,hxl,htx⟩:=HS.out.text (i:=pl) (by omega)
  rw [hU] at c1
  have ct:=htx w H.out.bel
  generalize htxe:W.getD pl []=tx at *
  have HTX:=Lib.hid htxe
  clear htxe
  go_wp2_with fail
  go_region
  go_upto_region 5 with fail
  obtain ⟨h1,m1⟩:=(H.out.next (below_drewN (Below.refl _ _) (nq+1))).setPl (pl+1)
  have hmv:Mv w (w.drewN (nq+1)) (Rf rb x y) (Rf rb x y):=(Mv.refl w _).below (below_drewN (Below.refl _ _) (nq+1))
  have m0:=hmv.trans m1
  rw [show (((pl+1:Nat)):Int)=(pl:Int)+1 from rfl] at h1 m0
  obtain ⟨u1,hu1⟩:∃u1,u1=(w.drewN (nq+1)).setCell ⟨rb,4,none⟩ (.int .i64 ((pl:Int)+1)):=⟨_,rfl⟩
  rw [←hu1] at h1 m0 ⊢
  obtain ⟨u2,hu2,h2,m2⟩:=h1.swap
  have HU2:=Lib.hid hu2;have H2:=Lib.hid h2;have M2:=Lib.hid (m0.trans m2)
  have e5:=h1.c5;have e6:=h1.c6;have e7:=h1.c7;have e8:=h1.c8
  have f5:=h1.fr 5;have f6:=h1.fr 6;have f7:=h1.fr 7;have f8:=h1.fr 8
  clear h1 m1 m0 hmv hu1 hu2 h2 m2 c1 c4 c5 f4 ct htx HLN
  go_region
  rw [←HU2.out]
  have d5:=H2.out.c5
  have hql:q≤65536:=by have:=H.out.now.few;have:=H.out.now.ss.sm;have:=HQ.out;omega
  clear e5 e6 e7 e8 f5 f6 f7 f8
  go_wp2_with (first
   | (go_at_call 49;refine (H2.out.drew.clear).mono ?_;rintro e3 w3 ⟨x3,rfl,k1,k2,k3⟩;have g7:=k1.c7;have K1:=Lib.hid k1;have K2:=Lib.hid (M2.out.trans k2.drewl);have K3:=Lib.hid k3;clear k1 k2 k3)
   | (go_at_call 25;refine K1.out.olen.mono ?_;rintro e4 w4 ⟨rfl,rfl⟩;rw [←HQ.out]))
  go_loopw [71] (fun i wr=>∃(d:Nat) (xr:Fr),d≤q∧i=.int .i64 (d:Int)∧Hid (Run w0 wr rb R (pl+1) lt xr x)∧Hid (Mv w wr (Rf rb x y) (Rf rb xr x))∧Hid (Mid p W R.b R.f pl lo (lt+1) (x.L.take d) x.F xr.L xr.F)) (fun i _=>q - (intOf i).toNat)
  case atStart=>exact ⟨0,x3,Nat.zero_le _,rfl,K1,K2,Lib.hid (by rw [K3.out];exact mid_nil)⟩
  case round =>
   obtain ⟨d,xr,hd,rfl,J1,J2,J3⟩:=hrel
   clear K1 K2 K3 H2 M2 HU2 d5
   have c7:=J1.out.c7;have c8:=J1.out.c8;have c0:=J1.out.c0;have c9:=J1.out.c9
   by_cases hlt3:d < q
   ·have hdl:d < x.L.length:=by rw [←HQ.out];exact hlt3
    have HAT:=Lib.hid (J1.out.oat hdl)
    have hmem:=List.getElem_mem hdl
    have hz:x.L[d] < R.n:=J1.out.old.lt hmem
    have hc:=J1.out.old.cell hmem
    have HTS:=Lib.hid (show x.L.take (d+1)=x.L.take d++[x.L[d]] from List.take_succ_eq_append_getElem hdl)
    have HKK:=Lib.hid (show ∃E,x.L=x.L.take d++x.L[d] :: E from ⟨x.L.drop (d+1),by rw [←List.drop_eq_getElem_cons hdl,List.take_append_drop]⟩)
    have hFm:=(HSI.out.snd _ hmem).2.1
    generalize x.L[d]=z at HAT hz hc HTS HKK hFm
    clear hmem hdl
    obtain ⟨b,o,i,A1,n1,a1,A2,n2,a2,A3,n3,a3,hA,hget,hok,hcells⟩:=HS.out.all hz
    obtain ⟨d0,d1,d2,d3,h3⟩:=hcells wr J1.out.bel
    rw [hA] at c0
    have hzn:(z:Int) < (R.n:Int):=by omega
    have hzn2:z < R.n:=hz
    have HG:=Lib.hid hget
    have HOK:=Lib.hid hok
    have hn63:R.n≤65536:=J1.out.now.ss.sm
    obtain ⟨ik,iset,im,ix⟩:=i
    obtain ⟨fz,hfz⟩:∃f,f=x.F z:=⟨_,rfl⟩
    rw [←hfz] at hc hFm
    have HFZ:=Lib.hid hfz
    dsimp only at d0 h3
    clear hget hok hcells hA hfz hz
    by_cases k1:ik=1
    ·subst k1
     by_cases kl:fz≤lt
     ·have hz1:z+1 < R.n:=by
       have hm:=HS.out.may
       obtain ⟨_,_,h6⟩:=Prg.may_last hm
       have hpl2:=HS.out.arg.len2
       obtain ⟨hzl,hze⟩:=List.getElem?_eq_some_iff.1 HG.out
       have:z≠p.length - 1:=by
        rintro rfl
        have:=h6 hzl
        rw [hze] at this
        cases this
       omega
      have HHS:=Lib.hid (shas_any A1 A2 A3 n1 a1 n2 a2 n3 a3 iset ⟨tx.toArray⟩ tx (mk_toList tx) (by omega) wr h3)
      have dl:decide ((fz:Int)≤(lt:Int))=true:=decide_eq_true (by omega)
      have ew:IntKind.i64.wrap ((z:Int)+1)=((z+1:Nat):Int):=IntWalk.i64_in _ (by omega)
      cases hq:hasS iset tx with
      | true =>
       rw [hq] at HHS
       have HGO:=Lib.hid (fun L' F' (he:Ent p (bg R.b (pl+1)) (en R.f W.length (pl+1)) (z+1) (x.F z) xr.L xr.F L' F')=>J3.out.go HSI.out HKK.out HG.out rfl (by rw [←HFZ.out];omega) (by rw [HTX.out];exact hq) he)
       have HEN:=Lib.hid (fun u (hu:Below wr.heap.size wr u)=>enter_any (z+1) fz (J1.out.next hu) HS.out hz1 (fun a c ha hn=>(J3.out.cl a c ha (by rw [HS.out.win.len];exact hn)).1))
       clear hq h3 hz1
       go_wp2_with (first
        | (go_at_call 50;refine HAT.out.mono ?_;rintro e5 w5 ⟨rfl,rfl⟩)
        | (go_at_call 51;refine HHS.out.mono ?_;rintro e6 w6 ⟨rfl,hb6⟩;have HE6:=Lib.hid (HEN.out w6 hb6);have HB6:=Lib.hid hb6;clear hb6)
        | (go_at_call 52;refine HE6.out.mono ?_;rintro e7 w7 ⟨x7,rfl,m1,m2,m3⟩;have M1:=Lib.hid m1;have M2:=Lib.hid ((J2.out.below HB6.out).trans m2);have M3:=Lib.hid (HGO.out _ _ (by rw [←HFZ.out,HS.out.win.len];exact m3));clear m1 m2 m3))
       go_roundw
       case rel=>exact ⟨d+1,x7,by omega,by go_num,M1,M2,by rw [HTS.out];exact M3⟩
       case measure=>simp [intOf];omega
      | false =>
       rw [hq] at HHS
       have HSK:=Lib.hid (J3.out.skip (a:=z) fun y hy _ _ hh=>by rw [HG.out] at hy;injection hy with hy;subst hy;rw [HTX.out] at hh;dsimp only at hh;rw [hq] at hh;cases hh)
       clear hq h3 hz1
       go_wp2_with (first
        | (go_at_call 50;refine HAT.out.mono ?_;rintro e5 w5 ⟨rfl,rfl⟩)
        | (go_at_call 51;refine HHS.out.mono ?_;rintro e6 w6 ⟨rfl,hb6⟩;have M1:=Lib.hid (J1.out.next hb6);have M2:=Lib.hid (J2.out.below hb6);clear hb6))
       go_roundw
       case rel=>exact ⟨d+1,xr,by omega,by go_num,M1,M2,by rw [HTS.out];exact HSK⟩
       case measure=>simp [intOf];omega
     ·have dl:decide ((fz:Int)≤(lt:Int))=false:=decide_eq_false (by omega)
      have HSK:=Lib.hid (J3.out.skip (a:=z) fun y _ _ hh _=>by rw [←HFZ.out] at hh;omega)
      clear h3
      go_wp2_with (first
       | (go_at_call 50;refine HAT.out.mono ?_;rintro e5 w5 ⟨rfl,rfl⟩))
      go_roundw
      case rel=>exact ⟨d+1,xr,by omega,by go_num,J1,J2,by rw [HTS.out];exact HSK⟩
      case measure=>simp [intOf];omega
    ·have q1:(ik == 1)=false:=beq_eq_false_iff_ne.2 k1
     have HSK:=Lib.hid (J3.out.skip (a:=z) fun y hy hk _ _=>by rw [HG.out] at hy;injection hy with hy;subst hy;exact k1 hk)
     clear h3 k1
     go_wp2_with (first
      | (go_at_call 50;refine HAT.out.mono ?_;rintro e5 w5 ⟨rfl,rfl⟩))
     go_roundw
     case rel=>exact ⟨d+1,xr,by omega,by go_num,J1,J2,by rw [HTS.out];exact HSK⟩
     case measure=>simp [intOf];omega
   ·have HT:=Lib.hid (show x.L.take d=x.L from List.take_of_length_le (by have:=HQ.out;omega))
    go_wp2_with fail
    go_ret
    unfold Stepped
    rw [if_neg hE.out]
    have hJ:=J3.out
    rw [HT.out] at hJ
    obtain ⟨t1,t2⟩:=hJ.all HSI.out (by omega)
    exact ⟨xr,x,rfl,J1.out,J2.out,t1,t2,HS.out.win.len ▸ hJ.cl⟩
end Go.Proofs.YtegdbmbenjnacaaGreat.Pike
namespace Go.Proofs.YtegdbmbenjnacaaGreat.Syn
open Go.RowKit
open Utf (Rd Blk)
open Rset (Ret)
open Sset (St Tx normS none_ Has3 BlkS r_may)
set_option maxRecDepth 100000
theorem none_iff (a:St):a=none_↔a.s=[]∧a.m=[]∧a.o=[]:=by
 constructor
 ·rintro rfl;exact ⟨rfl,rfl,rfl⟩
 ·rintro ⟨h1,h2,h3⟩
  cases a
  simp only at h1 h2 h3
  subst h1 h2 h3
  rfl
end Go.Proofs.YtegdbmbenjnacaaGreat.Syn
namespace Go.Proofs.YtegdbmbenjnacaaGreat.Prg
open Go.RowKit
open Utf (Rd Blk)
open Rset (Ret own_form ret_bool)
open Sset (St normS none_ Has3 BlkS r_may)
open Syn (Nd nd NV nvs nvs_len nv_form rd_nv Means ArgN none_iff)
set_option maxRecDepth 100000
set_option maxHeartbeats 4000000 in
theorem pbare_any {A1 A2 A3:Option Addr} {n1 c1 n2 c2 n3 c3:Nat} {a:St} {w:World} (h:Has3 w A1 n1 A2 n2 A3 n3 a) :
  Calls Tryz.prog 89 #[.agg #[.slice A1 n1 c1,.slice A2 n2 c2,.slice A3 n3 c3]] w (Ret w (.bool (decide (a=none_)))):=by
 obtain ⟨b1,h1⟩:∃b,b=((n1:Int) == 0):=⟨_,rfl⟩
 obtain ⟨b2,h2⟩:∃b,b=((n2:Int) == 0):=⟨_,rfl⟩
 obtain ⟨b3,h3⟩:∃b,b=((n3:Int) == 0):=⟨_,rfl⟩
 have hv:decide (a=none_)=(b1 && b2 && b3):=by
  rw [h1,h2,h3,Bool.eq_iff_iff,decide_eq_true_eq,none_iff,Bool.and_eq_true,Bool.and_eq_true]
  have l1:=h.s.len;have l2:=h.m.len;have l3:=h.o.len
  constructor
  ·rintro ⟨e1,e2,e3⟩
   rw [e1] at l1;rw [e2] at l2;rw [e3] at l3
   simp at l1 l2 l3
   subst l1 l2 l3
   exact ⟨⟨rfl,rfl⟩,rfl⟩
  ·rintro ⟨⟨e1,e2⟩,e3⟩
   simp at e1 e2 e3
   exact ⟨List.eq_nil_of_length_eq_zero (by omega),List.eq_nil_of_length_eq_zero (by omega),List.eq_nil_of_length_eq_zero (by omega)⟩
 rw [hv]
 clear h hv
 obtain ⟨W,hW⟩:∃W,W=w.alloc (.cells #[.slice A1 n1 c1,.slice A2 n2 c2,.slice A3 n3 c3] 74):=⟨_,rfl⟩
 obtain ⟨g,hg⟩:∃g,g=w.heap.size:=⟨_,rfl⟩
 have kb:BlkS W g (.slice A1 n1 c1) (.slice A2 n2 c2) (.slice A3 n3 c3):=by rw [hW,hg];exact BlkS.new w _ _ _
 have x0:=kb.c0;have x1:=kb.c1;have x2:=kb.c2
 have HB:=Lib.hid (show Below w.heap.size w W by rw [hW];exact (Below.refl _ _).alloc (Nat.le_refl _) _)
 have HW:=Lib.hid hW;have HG:=Lib.hid hg
 have k1:=h1.symm;have k2:=h2.symm;have k3:=h3.symm
 clear h1 h2 h3 hW hg kb
 cases b1 <;> cases b2 <;>
  (
   go_enter Tryz.func89,Tryz.ntmps89
   go_wp2_with fail
   rw [←HW.out,←HG.out]
   go_wp2_with fail
   go_ret
   exact ⟨rfl,HB.out⟩)
set_option maxHeartbeats 4000000 in
theorem isNumber_any (x n:Int) (w:World):Calls Tryz.prog 90 #[.int .i64 x,.int .i64 n] w (Ret w (.bool (decide (0≤x∧x < n)))):=by
 by_cases h:0≤x
 ·have hv:decide (0≤x∧x < n)=decide (x < n):=by rw [decide_eq_decide];exact ⟨fun e=>e.2,fun e=>⟨h,e⟩⟩
  rw [hv]
  go_enter Tryz.func90,Tryz.ntmps90
  go_wp2_with fail
  go_ret
  exact ⟨rfl,Below.refl _ _⟩
 ·have hv:decide (0≤x∧x < n)=false:=decide_eq_false fun e=>h e.1
  rw [hv]
  have hd:decide (0≤x)=false:=decide_eq_false h
  go_enter Tryz.func90,Tryz.ntmps90
  go_wp2_with fail
  go_ret
  exact ⟨rfl,Below.refl _ _⟩
theorem okP_1 (n:Nat) (s:St) (x y:Int):okP n ⟨1,s,x,y⟩=decide (normS s=s∧x=0∧y=0):=rfl
theorem okP_2 (n:Nat) (s:St) (x y:Int):okP n ⟨2,s,x,y⟩=decide (s=none_∧0≤x∧x < n∧0≤y∧y < n):=rfl
theorem okP_3 (n:Nat) (s:St) (x y:Int):okP n ⟨3,s,x,y⟩=decide (s=none_∧0≤x∧x < n∧y=0):=rfl
theorem okP_x (n:Nat) {k:Int} (hk:k=4∨k=5∨k=6) (s:St) (x y:Int):okP n ⟨k,s,x,y⟩=decide (s=none_∧x=0∧y=0):=by
 rcases hk with rfl | rfl | rfl <;> rfl
theorem okP_no (n:Nat) {k:Int} (h1:k≠1) (h2:k≠2) (h3:k≠3) (hk:¬(k=4∨k=5∨k=6)) (s:St) (x y:Int):okP n ⟨k,s,x,y⟩=false:=by
 unfold okP
 rw [if_neg h1,if_neg h2,if_neg h3,if_neg hk]
set_option maxHeartbeats 16000000 in
theorem pfits_any {X1 X2 X3:Option Addr} {x1 y1 x2 y2 x3 y3:Nat} {vk vm vx:Int} {s:St} {w:World} (n:Nat) (h:Has3 w X1 x1 X2 x2 X3 x3 s) :
  Calls Tryz.prog 69 #[.agg #[.int .i64 vk,.slice X1 x1 y1,.slice X2 x2 y2,.slice X3 x3 y3,.int .i64 vm,.int .i64 vx],.int .i64 n] w (Ret w (.bool (okP n ⟨vk,s,vm,vx⟩))):=by
 obtain ⟨g,hg⟩:∃g,g=w.heap.size:=⟨_,rfl⟩
 obtain ⟨U,hU⟩:∃U,U=w.alloc (.cells #[.int .i64 vk,.slice X1 x1 y1,.slice X2 x2 y2,.slice X3 x3 y3,.int .i64 vm,.int .i64 vx] 76):=⟨_,rfl⟩
 have HBX:=Lib.hid (show Blk U g 76 [.int .i64 vk,.slice X1 x1 y1,.slice X2 x2 y2,.slice X3 x3 y3,.int .i64 vm,.int .i64 vx] from by rw [hU,hg];exact Blk.new w _ _)
 have HS:=Lib.hid (show Has3 U X1 x1 X2 x2 X3 x3 s from by rw [hU];exact h.next ((Below.refl _ _).alloc (Nat.le_refl _) _))
 have HB:=Lib.hid (show Below w.heap.size w U by rw [hU];exact (Below.refl _ _).alloc (Nat.le_refl _) _)
 have HU:=Lib.hid hU;have HG:=Lib.hid hg
 clear hU hg h
 obtain ⟨r,hr⟩:∃r,okP n ⟨vk,s,vm,vx⟩=r:=⟨_,rfl⟩
 rw [hr]
 have HR:=Lib.hid hr
 clear hr
 by_cases k1:vk=1
 ·subst k1
  by_cases c4:vm=0
  ·subst c4
   by_cases c5:vx=0
   ·subst c5
    have q0:=HBX.out.cell 0;have q1:=HBX.out.cell 1;have q2:=HBX.out.cell 2;have q3:=HBX.out.cell 3;have q4:=HBX.out.cell 4;have q5:=HBX.out.cell 5
    go_enter Tryz.func69,Tryz.ntmps69
    go_wp2_with fail
    rw [←HU.out,←HG.out]
    go_wp2_with fail
    refine (r_may _ _ _ HS.out rfl).mono ?_
    rintro e u ⟨rfl,hb⟩
    clear q0 q1 q2 q3 q4 q5
    replace HBX:=Lib.hid (HBX.out.below hb HBX.out.lt)
    replace HS:=Lib.hid (HS.out.next hb)
    replace HB:=Lib.hid (HB.out.trans (hb.mono HB.out.size))
    clear hb
    rw [show decide (normS s=s)=r from by rw [←HR.out,okP_1,decide_eq_decide];exact ⟨fun e=>⟨e,rfl,rfl⟩,fun e=>e.1⟩]
    go_wp2_with fail
    go_ret
    exact ⟨rfl,HB.out⟩
   ·have d5:(vx == 0)=false:=by rw [beq_eq_false_iff_ne];exact c5
    have q0:=HBX.out.cell 0;have q1:=HBX.out.cell 1;have q2:=HBX.out.cell 2;have q3:=HBX.out.cell 3;have q4:=HBX.out.cell 4;have q5:=HBX.out.cell 5
    go_enter Tryz.func69,Tryz.ntmps69
    go_wp2_with fail
    rw [←HU.out,←HG.out]
    obtain rfl:r=false:=by rw [←HR.out,okP_1];exact decide_eq_false (fun e=>c5 e.2.2)
    clear HR
    go_wp2_with fail
    go_ret
    exact ⟨rfl,HB.out⟩
  ·have d4:(vm == 0)=false:=by rw [beq_eq_false_iff_ne];exact c4
   have q0:=HBX.out.cell 0;have q1:=HBX.out.cell 1;have q2:=HBX.out.cell 2;have q3:=HBX.out.cell 3;have q4:=HBX.out.cell 4;have q5:=HBX.out.cell 5
   go_enter Tryz.func69,Tryz.ntmps69
   go_wp2_with fail
   rw [←HU.out,←HG.out]
   obtain rfl:r=false:=by rw [←HR.out,okP_1];exact decide_eq_false (fun e=>c4 e.2.1)
   clear HR
   go_wp2_with fail
   go_ret
   exact ⟨rfl,HB.out⟩
 ·by_cases k2:vk=2
  ·subst k2
   have q0:=HBX.out.cell 0;have q1:=HBX.out.cell 1;have q2:=HBX.out.cell 2;have q3:=HBX.out.cell 3;have q4:=HBX.out.cell 4;have q5:=HBX.out.cell 5
   go_enter Tryz.func69,Tryz.ntmps69
   go_wp2_with fail
   rw [←HU.out,←HG.out]
   go_wp2_with fail
   refine (pbare_any HS.out).mono ?_
   rintro e u ⟨rfl,hb⟩
   clear q0 q1 q2 q3 q4 q5
   replace HBX:=Lib.hid (HBX.out.below hb HBX.out.lt)
   replace HS:=Lib.hid (HS.out.next hb)
   replace HB:=Lib.hid (HB.out.trans (hb.mono HB.out.size))
   clear hb
   by_cases c:s=none_
   ·rw [decide_eq_true c]
    have q0:=HBX.out.cell 0;have q1:=HBX.out.cell 1;have q2:=HBX.out.cell 2;have q3:=HBX.out.cell 3;have q4:=HBX.out.cell 4;have q5:=HBX.out.cell 5
    go_wp2_with fail
    refine (isNumber_any vm n _).mono ?_
    rintro e u ⟨rfl,hb⟩
    clear q0 q1 q2 q3 q4 q5
    replace HBX:=Lib.hid (HBX.out.below hb HBX.out.lt)
    replace HS:=Lib.hid (HS.out.next hb)
    replace HB:=Lib.hid (HB.out.trans (hb.mono HB.out.size))
    clear hb
    by_cases cx:0≤vm∧vm < n
    ·rw [decide_eq_true cx]
     have q0:=HBX.out.cell 0;have q1:=HBX.out.cell 1;have q2:=HBX.out.cell 2;have q3:=HBX.out.cell 3;have q4:=HBX.out.cell 4;have q5:=HBX.out.cell 5
     go_wp2_with fail
     refine (isNumber_any vx n _).mono ?_
     rintro e u ⟨rfl,hb⟩
     clear q0 q1 q2 q3 q4 q5
     replace HBX:=Lib.hid (HBX.out.below hb HBX.out.lt)
     replace HS:=Lib.hid (HS.out.next hb)
     replace HB:=Lib.hid (HB.out.trans (hb.mono HB.out.size))
     clear hb
     rw [show decide (0≤vx∧vx < (n:Int))=r from by rw [←HR.out,okP_2,decide_eq_decide];exact ⟨fun e=>⟨c,cx.1,cx.2,e⟩,fun e=>e.2.2.2⟩]
     clear c cx
     go_wp2_with fail
     go_ret
     exact ⟨rfl,HB.out⟩
    ·rw [decide_eq_false cx]
     obtain rfl:r=false:=by rw [←HR.out,okP_2];exact decide_eq_false (fun e=>cx ⟨e.2.1,e.2.2.1⟩)
     clear HR
     go_wp2_with fail
     go_ret
     exact ⟨rfl,HB.out⟩
   ·rw [decide_eq_false c]
    obtain rfl:r=false:=by rw [←HR.out,okP_2];exact decide_eq_false (fun e=>c e.1)
    clear HR
    go_wp2_with fail
    go_ret
    exact ⟨rfl,HB.out⟩
  ·by_cases k3:vk=3
   ·subst k3
    have q0:=HBX.out.cell 0;have q1:=HBX.out.cell 1;have q2:=HBX.out.cell 2;have q3:=HBX.out.cell 3;have q4:=HBX.out.cell 4;have q5:=HBX.out.cell 5
    go_enter Tryz.func69,Tryz.ntmps69
    go_wp2_with fail
    rw [←HU.out,←HG.out]
    go_wp2_with fail
    refine (pbare_any HS.out).mono ?_
    rintro e u ⟨rfl,hb⟩
    clear q0 q1 q2 q3 q4 q5
    replace HBX:=Lib.hid (HBX.out.below hb HBX.out.lt)
    replace HS:=Lib.hid (HS.out.next hb)
    replace HB:=Lib.hid (HB.out.trans (hb.mono HB.out.size))
    clear hb
    by_cases c:s=none_
    ·rw [decide_eq_true c]
     have q0:=HBX.out.cell 0;have q1:=HBX.out.cell 1;have q2:=HBX.out.cell 2;have q3:=HBX.out.cell 3;have q4:=HBX.out.cell 4;have q5:=HBX.out.cell 5
     go_wp2_with fail
     refine (isNumber_any vm n _).mono ?_
     rintro e u ⟨rfl,hb⟩
     clear q0 q1 q2 q3 q4 q5
     replace HBX:=Lib.hid (HBX.out.below hb HBX.out.lt)
     replace HS:=Lib.hid (HS.out.next hb)
     replace HB:=Lib.hid (HB.out.trans (hb.mono HB.out.size))
     clear hb
     by_cases cx:0≤vm∧vm < n
     ·rw [decide_eq_true cx]
      have q0:=HBX.out.cell 0;have q1:=HBX.out.cell 1;have q2:=HBX.out.cell 2;have q3:=HBX.out.cell 3;have q4:=HBX.out.cell 4;have q5:=HBX.out.cell 5
      by_cases c5:vx=0
      ·subst c5
       obtain rfl:r=true:=by rw [←HR.out,okP_3];exact decide_eq_true ⟨c,cx.1,cx.2,rfl⟩
       clear HR
       go_wp2_with fail
       go_ret
       exact ⟨rfl,HB.out⟩
      ·have d5:(vx == 0)=false:=by rw [beq_eq_false_iff_ne];exact c5
       obtain rfl:r=false:=by rw [←HR.out,okP_3];exact decide_eq_false (fun e=>c5 e.2.2.2)
       clear HR
       go_wp2_with fail
       go_ret
       exact ⟨rfl,HB.out⟩
     ·rw [decide_eq_false cx]
      obtain rfl:r=false:=by rw [←HR.out,okP_3];exact decide_eq_false (fun e=>cx ⟨e.2.1,e.2.2.1⟩)
      clear HR
      go_wp2_with fail
      go_ret
      exact ⟨rfl,HB.out⟩
    ·rw [decide_eq_false c]
     obtain rfl:r=false:=by rw [←HR.out,okP_3];exact decide_eq_false (fun e=>c e.1)
     clear HR
     go_wp2_with fail
     go_ret
     exact ⟨rfl,HB.out⟩
   ·by_cases k4:vk=4
    ·subst k4
     have q0:=HBX.out.cell 0;have q1:=HBX.out.cell 1;have q2:=HBX.out.cell 2;have q3:=HBX.out.cell 3;have q4:=HBX.out.cell 4;have q5:=HBX.out.cell 5
     go_enter Tryz.func69,Tryz.ntmps69
     go_wp2_with fail
     rw [←HU.out,←HG.out]
     go_wp2_with fail
     refine (pbare_any HS.out).mono ?_
     rintro e u ⟨rfl,hb⟩
     clear q0 q1 q2 q3 q4 q5
     replace HBX:=Lib.hid (HBX.out.below hb HBX.out.lt)
     replace HS:=Lib.hid (HS.out.next hb)
     replace HB:=Lib.hid (HB.out.trans (hb.mono HB.out.size))
     clear hb
     by_cases c:s=none_
     ·rw [decide_eq_true c]
      have q0:=HBX.out.cell 0;have q1:=HBX.out.cell 1;have q2:=HBX.out.cell 2;have q3:=HBX.out.cell 3;have q4:=HBX.out.cell 4;have q5:=HBX.out.cell 5
      by_cases c4:vm=0
      ·subst c4
       by_cases c5:vx=0
       ·subst c5
        obtain rfl:r=true:=by rw [←HR.out,okP_x n (by decide)];exact decide_eq_true ⟨c,rfl,rfl⟩
        clear HR
        go_wp2_with fail
        go_ret
        exact ⟨rfl,HB.out⟩
       ·have d5:(vx == 0)=false:=by rw [beq_eq_false_iff_ne];exact c5
        obtain rfl:r=false:=by rw [←HR.out,okP_x n (by decide)];exact decide_eq_false (fun e=>c5 e.2.2)
        clear HR
        go_wp2_with fail
        go_ret
        exact ⟨rfl,HB.out⟩
      ·have d4:(vm == 0)=false:=by rw [beq_eq_false_iff_ne];exact c4
       obtain rfl:r=false:=by rw [←HR.out,okP_x n (by decide)];exact decide_eq_false (fun e=>c4 e.2.1)
       clear HR
       go_wp2_with fail
       go_ret
       exact ⟨rfl,HB.out⟩
     ·rw [decide_eq_false c]
      obtain rfl:r=false:=by rw [←HR.out,okP_x n (by decide)];exact decide_eq_false (fun e=>c e.1)
      clear HR
      go_wp2_with fail
      go_ret
      exact ⟨rfl,HB.out⟩
    ·by_cases k5:vk=5
     ·subst k5
      have q0:=HBX.out.cell 0;have q1:=HBX.out.cell 1;have q2:=HBX.out.cell 2;have q3:=HBX.out.cell 3;have q4:=HBX.out.cell 4;have q5:=HBX.out.cell 5
      go_enter Tryz.func69,Tryz.ntmps69
      go_wp2_with fail
      rw [←HU.out,←HG.out]
      go_wp2_with fail
      refine (pbare_any HS.out).mono ?_
      rintro e u ⟨rfl,hb⟩
      clear q0 q1 q2 q3 q4 q5
      replace HBX:=Lib.hid (HBX.out.below hb HBX.out.lt)
      replace HS:=Lib.hid (HS.out.next hb)
      replace HB:=Lib.hid (HB.out.trans (hb.mono HB.out.size))
      clear hb
      by_cases c:s=none_
      ·rw [decide_eq_true c]
       have q0:=HBX.out.cell 0;have q1:=HBX.out.cell 1;have q2:=HBX.out.cell 2;have q3:=HBX.out.cell 3;have q4:=HBX.out.cell 4;have q5:=HBX.out.cell 5
       by_cases c4:vm=0
       ·subst c4
        by_cases c5:vx=0
        ·subst c5
         obtain rfl:r=true:=by rw [←HR.out,okP_x n (by decide)];exact decide_eq_true ⟨c,rfl,rfl⟩
         clear HR
         go_wp2_with fail
         go_ret
         exact ⟨rfl,HB.out⟩
        ·have d5:(vx == 0)=false:=by rw [beq_eq_false_iff_ne];exact c5
         obtain rfl:r=false:=by rw [←HR.out,okP_x n (by decide)];exact decide_eq_false (fun e=>c5 e.2.2)
         clear HR
         go_wp2_with fail
         go_ret
         exact ⟨rfl,HB.out⟩
       ·have d4:(vm == 0)=false:=by rw [beq_eq_false_iff_ne];exact c4
        obtain rfl:r=false:=by rw [←HR.out,okP_x n (by decide)];exact decide_eq_false (fun e=>c4 e.2.1)
        clear HR
        go_wp2_with fail
        go_ret
        exact ⟨rfl,HB.out⟩
      ·rw [decide_eq_false c]
       obtain rfl:r=false:=by rw [←HR.out,okP_x n (by decide)];exact decide_eq_false (fun e=>c e.1)
       clear HR
       go_wp2_with fail
       go_ret
       exact ⟨rfl,HB.out⟩
     ·by_cases k6:vk=6
      ·subst k6
       have q0:=HBX.out.cell 0;have q1:=HBX.out.cell 1;have q2:=HBX.out.cell 2;have q3:=HBX.out.cell 3;have q4:=HBX.out.cell 4;have q5:=HBX.out.cell 5
       go_enter Tryz.func69,Tryz.ntmps69
       go_wp2_with fail
       rw [←HU.out,←HG.out]
       go_wp2_with fail
       refine (pbare_any HS.out).mono ?_
       rintro e u ⟨rfl,hb⟩
       clear q0 q1 q2 q3 q4 q5
       replace HBX:=Lib.hid (HBX.out.below hb HBX.out.lt)
       replace HS:=Lib.hid (HS.out.next hb)
       replace HB:=Lib.hid (HB.out.trans (hb.mono HB.out.size))
       clear hb
       by_cases c:s=none_
       ·rw [decide_eq_true c]
        have q0:=HBX.out.cell 0;have q1:=HBX.out.cell 1;have q2:=HBX.out.cell 2;have q3:=HBX.out.cell 3;have q4:=HBX.out.cell 4;have q5:=HBX.out.cell 5
        by_cases c4:vm=0
        ·subst c4
         by_cases c5:vx=0
         ·subst c5
          obtain rfl:r=true:=by rw [←HR.out,okP_x n (by decide)];exact decide_eq_true ⟨c,rfl,rfl⟩
          clear HR
          go_wp2_with fail
          go_ret
          exact ⟨rfl,HB.out⟩
         ·have d5:(vx == 0)=false:=by rw [beq_eq_false_iff_ne];exact c5
          obtain rfl:r=false:=by rw [←HR.out,okP_x n (by decide)];exact decide_eq_false (fun e=>c5 e.2.2)
          clear HR
          go_wp2_with fail
          go_ret
          exact ⟨rfl,HB.out⟩
        ·have d4:(vm == 0)=false:=by rw [beq_eq_false_iff_ne];exact c4
         obtain rfl:r=false:=by rw [←HR.out,okP_x n (by decide)];exact decide_eq_false (fun e=>c4 e.2.1)
         clear HR
         go_wp2_with fail
         go_ret
         exact ⟨rfl,HB.out⟩
       ·rw [decide_eq_false c]
        obtain rfl:r=false:=by rw [←HR.out,okP_x n (by decide)];exact decide_eq_false (fun e=>c e.1)
        clear HR
        go_wp2_with fail
        go_ret
        exact ⟨rfl,HB.out⟩
      ·obtain rfl:r=false:=by rw [←HR.out];exact okP_no n k1 k2 k3 (by omega) _ _ _
       clear HR
       have dd:(vk == 1)=false∧(vk == 2)=false∧(vk == 3)=false∧(vk == 4)=false∧(vk == 5)=false∧(vk == 6)=false:=by simp only [beq_eq_false_iff_ne];exact ⟨k1,k2,k3,k4,k5,k6⟩
       obtain ⟨e1,e2,e3,e4,e5,e6⟩:=dd
       clear k1 k2 k3 k4 k5 k6
       have q0:=HBX.out.cell 0;have q1:=HBX.out.cell 1;have q2:=HBX.out.cell 2;have q3:=HBX.out.cell 3;have q4:=HBX.out.cell 4;have q5:=HBX.out.cell 5
       go_enter Tryz.func69,Tryz.ntmps69
       go_wp2_with fail
       rw [←HU.out,←HG.out]
       go_wp2_with fail
       go_ret
       exact ⟨rfl,HB.out⟩
end Go.Proofs.YtegdbmbenjnacaaGreat.Prg
namespace Go.Proofs.YtegdbmbenjnacaaGreat.Prg
open Go.RowKit
open Utf (Rd Blk)
open Rset (Ret own_form ret_bool)
open Sset (St normS none_ Has3)
open Syn (Nd nd NV nvs nvs_len nv_form rd_nv Means ArgN)
set_option maxRecDepth 100000
set_option maxHeartbeats 4000000 in
theorem may1_any {X1 X2 X3:Option Addr} {x1 y1 x2 y2 x3 y3:Nat} {vk vm vx:Int} {s:St} {w:World} (n gb:Nat) (h:Has3 w X1 x1 X2 x2 X3 x3 s) (hc:w.cell? ⟨gb,0,none⟩=some (.int .i64 n)) (hg:gb < w.heap.size) :
  Calls Tryz.prog 68 #[.agg #[.int .i64 vk,.slice X1 x1 y1,.slice X2 x2 y2,.slice X3 x3 y3,.int .i64 vm,.int .i64 vx],.pointer (some ⟨gb,0,none⟩)] w (Ret w (.bool (!okP n ⟨vk,s,vm,vx⟩))):=by
 obtain ⟨U,hU⟩:∃U,U=w.alloc (.cells #[.int .i64 vk,.slice X1 x1 y1,.slice X2 x2 y2,.slice X3 x3 y3,.int .i64 vm,.int .i64 vx] 76):=⟨_,rfl⟩
 have HB:=Lib.hid (show Below w.heap.size w U by rw [hU];exact (Below.refl _ _).alloc (Nat.le_refl _) _)
 have HF:=Lib.hid (pfits_any (vk:=vk) (vm:=vm) (vx:=vx) (y1:=y1) (y2:=y2) (y3:=y3) n (h.next HB.out))
 have HU:=Lib.hid hU
 clear hU h
 obtain ⟨z,hz⟩:∃z,okP n ⟨vk,s,vm,vx⟩=z:=⟨_,rfl⟩
 rw [hz] at HF ⊢
 clear hz
 go_enter Tryz.func68,Tryz.ntmps68
 go_wp2_with fail
 rw [←HU.out]
 refine HF.out.mono ?_
 rintro e u ⟨rfl,hb⟩
 have HB2:=Lib.hid (HB.out.trans (hb.mono HB.out.size))
 clear hb
 go_wp2_with fail
 go_ret
 exact ⟨rfl,HB2.out⟩
theorem any_take (f:Nd→Bool) (l:List Nd) {k:Nat} (hk:k < l.length):(l.take (k+1)).any f=((l.take k).any f || f l[k]):=by
 rw [List.take_succ_eq_append_getElem hk,List.any_append,List.any_cons,List.any_nil,Bool.or_false]
def At (b:Bool) (w:World) (e:Ending) (w':World):Prop:=∃i:Int,e=.returned (.int .i64 i)∧decide (0≤i)=b∧Below w.heap.size w w'
set_option maxHeartbeats 4000000 in
theorem pindex_any (A:Option Addr) (V:List NV) (p:List Ins) (n c gb m:Nat) (w:World) (h:ArgN w A n V p) (hc:w.cell? ⟨gb,0,none⟩=some (.int .i64 m)) (hg:gb < w.heap.size) :
  Calls Tryz.prog 87 #[.slice A n c,.func (.func 68) #[] #[.pointer (some ⟨gb,0,none⟩)]] w (At (p.any fun i=>!okP m i) w):=by
 have eg:∀args w,(callFunc 68 args).run Tryz.prog w=.ok (.enter 68 args) w:=enters_of Tryz.func68 (by kernel_rfl) rfl
 have H:=Lib.hid h;have HC:=Lib.hid hc;have HG:=Lib.hid hg
 have hn1:=h.sm
 clear h hc hg
 go_enter Tryz.func87,Tryz.ntmps87
 go_wp2_with fail
 go_loopw [8] (fun i wr=>∃k:Nat,k≤n∧i=.int .i64 k∧Hid ((p.take k).any (fun i=>!okP m i)=false)∧Hid (Below w.heap.size w wr)) (fun i _=>n - (intOf i).toNat)
 case atStart=>exact ⟨0,Nat.zero_le _,rfl,Lib.hid rfl,Lib.hid (Below.refl _ _)⟩
 case round =>
  obtain ⟨k,hk,rfl,HT,HW⟩:=hrel
  by_cases hlt:k < n
  ·have ha:k < p.length:=by rw [H.out.len2];exact hlt
   have hv:k < V.length:=by rw [H.out.len];exact hlt
   have H1:=H.out.next HW.out
   obtain ⟨b,o,rfl,_⟩:=nv_form H1.rd (by omega)
   have HM:=Lib.hid (H1.means k hv ha)
   have HD:=rd_nv H1.rd hv
   have HTK:=Lib.hid (any_take (fun i=>!okP m i) p ha)
   have HON:=Lib.hid (show (!okP m p[k])=true→(p.any fun i=>!okP m i)=true from fun e=>by rw [List.any_eq_true];exact ⟨_,List.getElem_mem ha,e⟩)
   generalize V[k]=v at HM HD
   generalize p[k]=s at HM HTK HON
   clear ha hv H1
   have e1:=HM.out.k;have e3:=HM.out.mn;have e5:=HM.out.mx
   obtain ⟨vk,X1,x1,y1,X2,x2,y2,X3,x3,y3,vm,vx⟩:=v
   dsimp only at e1 e3 e5 HD
   obtain ⟨sk,ss,sm,sx⟩:=s
   dsimp only at e1 e3 e5
   subst e1 e3 e5
   obtain ⟨d0,d1,d2,d3,d4,d5⟩:=HD
   have HF:=Lib.hid (may1_any (vk:=vk) (vm:=vm) (vx:=vx) (y1:=y1) (y2:=y2) (y3:=y3) m gb HM.out.set ((HW.out.cell (p:=⟨gb,0,none⟩) HG.out).trans HC.out) (Nat.lt_of_lt_of_le HG.out HW.out.size))
   cases hb:(!okP m ⟨vk,ss,vm,vx⟩) with
   | true =>
    rw [hb] at HF
    have HE:=Lib.hid (HON.out hb)
    clear hb
    go_wp2_with (go_at_fn 68;refine HF.out.mono ?_;rintro e w1 ⟨rfl,hb1⟩;have HB1:=Lib.hid (HW.out.trans (hb1.mono HW.out.size));clear hb1)
    go_ret
    refine ⟨k,rfl,?_,HB1.out⟩
    rw [HE.out,decide_eq_true_eq];omega
   | false =>
    rw [hb] at HF
    have HE:=Lib.hid (show (p.take (k+1)).any (fun i=>!okP m i)=false by rw [HTK.out,HT.out,hb];rfl)
    clear hb
    go_wp2_with (go_at_fn 68;refine HF.out.mono ?_;rintro e w1 ⟨rfl,hb1⟩;have HB1:=Lib.hid (HW.out.trans (hb1.mono HW.out.size));clear hb1)
    go_roundw
    case rel=>exact ⟨k+1,by omega,by go_num,HE,HB1⟩
    case measure=>simp [intOf];omega
  ·have HE:=Lib.hid (show (p.any fun i=>!okP m i)=false by
    have:=HT.out
    rwa [List.take_of_length_le (by have:=H.out.len2;omega)] at this)
   go_wp2_with fail
   go_ret
   refine ⟨-1,rfl,?_,HW.out⟩
   rw [HE.out];rfl
theorem pcontains_any (A:Option Addr) (V:List NV) (p:List Ins) (n c gb m:Nat) (w:World) (h:ArgN w A n V p) (hc:w.cell? ⟨gb,0,none⟩=some (.int .i64 m)) (hg:gb < w.heap.size) :
  Calls Tryz.prog 67 #[.slice A n c,.func (.func 68) #[] #[.pointer (some ⟨gb,0,none⟩)]] w (Ret w (.bool (p.any fun i=>!okP m i))):=by
 have HI:=Lib.hid (pindex_any A V p n c gb m w h hc hg)
 clear h hc hg
 generalize (p.any fun i=>!okP m i)=z at HI ⊢
 go_enter Tryz.func67,Tryz.ntmps67
 go_wp2_with fail
 refine HI.out.mono ?_
 rintro e w1 ⟨i,rfl,hz,hb⟩
 have HB:=Lib.hid hb;have HZ:=Lib.hid hz
 clear hb hz HI
 go_wp2_with fail
 go_ret
 exact ⟨ret_bool HZ.out,HB.out⟩
theorem mayP_eq {p:List Ins} {n:Nat} (hn:p.length=n) (h1:0 < n) (h2:n≤4096) (hl:n - 1 < p.length) (h6:p[n - 1].kind=6):mayP p=!(p.any fun i=>!okP n i):=by
 unfold mayP
 have e:p.getLast?.map Nd.kind=some 6:=by
  rw [List.getLast?_eq_getElem?,hn,List.getElem?_eq_getElem hl]
  show some p[n - 1].kind=_
  rw [h6]
 rw [decide_eq_true ⟨by omega,e⟩,Bool.true_and,hn,List.all_eq_not_any_not]
theorem mayP_no {p:List Ins} {n:Nat} (hn:p.length=n) (h:¬n≤4096∨n=0∨∃hl:n - 1 < p.length,p[n - 1].kind≠6):mayP p=false:=by
 unfold mayP
 rw [decide_eq_false,Bool.false_and]
 rintro ⟨h1,h2⟩
 rcases h with h | h | ⟨hl,h⟩
 ·omega
 ·subst h;rw [List.eq_nil_of_length_eq_zero hn] at h2;cases h2
 ·rw [List.getLast?_eq_getElem?,hn,List.getElem?_eq_getElem hl] at h2
  injection h2 with h2
  exact h h2
set_option maxHeartbeats 8000000 in
theorem pmay_any (A:Option Addr) (V:List NV) (p:List Ins) (n c:Nat) (w:World) (h:ArgN w A n V p) :
  Calls Tryz.prog 45 #[.slice A n c] w (Ret w (.bool (mayP p))):=by
 obtain ⟨g,hg⟩:∃g,g=w.heap.size:=⟨_,rfl⟩
 obtain ⟨W,hW⟩:∃W,W=w.alloc (.cells #[.int .i64 n] 3):=⟨_,rfl⟩
 have hb:Below w.heap.size w W:=by rw [hW];exact (Below.refl _ _).alloc (Nat.le_refl _) _
 have hk:Blk W g 3 [.int .i64 n]:=by rw [hW,hg];exact Blk.new w _ _
 have H:=Lib.hid (h.next hb);have HB:=Lib.hid hb;have HK:=Lib.hid hk;have HW:=Lib.hid hW;have HG:=Lib.hid hg
 have hsm:=h.sm
 have HA:=Lib.hid h
 clear h hb hk hW hg
 by_cases h0:n=0
 ·have HE:=Lib.hid (mayP_no H.out.len2 (.inr (.inl h0)))
  rw [HE.out]
  subst h0
  go_enter Tryz.func45,Tryz.ntmps45
  go_wp2_with fail
  go_ret
  exact ⟨rfl,(Below.refl _ _).alloc (Nat.le_refl _) _⟩
 ·by_cases h1:n≤4096
  ·obtain ⟨k,rfl⟩:∃k,n=k+1:=⟨n - 1,by omega⟩
   have hl:k < p.length:=by rw [H.out.len2];omega
   have hv:k < V.length:=by rw [H.out.len];omega
   obtain ⟨b,o,rfl,hbl⟩:=nv_form HA.out.rd (by omega)
   have HM:=HA.out.means _ hv hl
   have d0:=(rd_nv HA.out.rd hv).1
   rw [HM.k] at d0
   clear HM hv
   by_cases h6:p[k].kind=6
   ·have HE:=Lib.hid (mayP_eq H.out.len2 (Nat.succ_pos k) h1 hl h6)
    have HC:=Lib.hid (pcontains_any _ V p (k+1) c g (k+1) W H.out (HK.out.cell 0) HK.out.lt)
    rw [HE.out]
    rw [h6] at d0
    clear h6 hl h0
    generalize (p.any fun i=>!okP (k+1) i)=z at HC ⊢
    go_enter Tryz.func45,Tryz.ntmps45
    have HW':=Lib.hid (show W=w.alloc (.cells #[.int .i64 ((k:Int)+1)] 3) from HW.out)
    go_wp2_with fail
    rw [←HW'.out,←HG.out]
    refine HC.out.mono ?_
    rintro e u ⟨rfl,hb⟩
    have HB2:=Lib.hid (HB.out.trans (hb.mono HB.out.size))
    clear hb
    go_wp2_with fail
    go_ret
    exact ⟨rfl,HB2.out⟩
   ·have HE:=Lib.hid (mayP_no H.out.len2 (.inr (.inr ⟨hl,h6⟩)))
    rw [HE.out]
    have hq:(p[k].kind != 6)=true:=by rw [bne_iff_ne];exact h6
    clear h6
    generalize p[k].kind=q at d0 hq
    clear hl h0
    go_enter Tryz.func45,Tryz.ntmps45
    go_wp2_with fail
    go_ret
    exact ⟨rfl,(Below.refl _ _).alloc (Nat.le_refl _) _⟩
  ·have HE:=Lib.hid (mayP_no H.out.len2 (.inl h1))
   rw [HE.out]
   have h2:(4096:Int) < (n:Int):=by omega
   clear h1
   go_enter Tryz.func45,Tryz.ntmps45
   go_wp2_with fail
   go_ret
   exact ⟨rfl,(Below.refl _ _).alloc (Nat.le_refl _) _⟩
end Go.Proofs.YtegdbmbenjnacaaGreat.Prg
namespace Go.Proofs.YtegdbmbenjnacaaGreat.Pike
open Go.RowKit Mem Sparse
open Prg (Ins ints mem_ints mayP nxt nexts nexts_iff nxt_lt Rch pmay_any)
open Sset (Tx ArgT Has3 hasS)
open Syn (Nd NV nvs rd_nv nv_form Means ArgN)
set_option maxRecDepth 100000
theorem Frt.base {B B' N:Nat} {w:World} {x:Fr} (h:Frt B N w x) (hB:B'≤B):Frt B' N w x:=⟨h.ss.base hB,h.row,Nat.le_trans hB h.le,h.ap⟩
theorem Run.new {w w1 w2 w3:World} {R:Rv} {x y:Fr} (h1:Below w.heap.size w w1) (hx:Frt w1.heap.size R.n w2 x) (h2:Below w1.heap.size w1 w2) (hy:Frt w2.heap.size R.n w3 y) (h3:Below w2.heap.size w2 w3) :
  Run w (w3.alloc (.cells (rcs R 0 x y 0).toArray 70)) w3.heap.size R 0 0 x y:=by
 have s1:=h1.size;have s2:=h2.size;have s3:=h3.size
 have hx3:=hx.next h3
 have ha:Below w3.heap.size w3 (w3.alloc (.cells (rcs R 0 x y 0).toArray 70)):=(Below.refl _ _).alloc (Nat.le_refl _) _
 exact ⟨Blk.new w3 _ _,(hx3.base (by omega)).next ha,(hy.base (by omega)).next ha,fun i hi hj=>by have:=(hx.hers hi).2;have:=(hy.hers hj).1;omega,fun hi=>by have:=(hx.hers hi).2;omega,fun hi=>by have:=(hy.hers hi).2;omega,by omega,
  h1.trans ((h2.mono s1).trans ((h3.mono (by omega)).trans (ha.mono (by omega))))⟩
def Begun (w:World) (R:Rv) (p:List Ins) (W:List Tx) (at_:Int) (e:Ending) (w':World):Prop :=
 if mayP p=true∧0≤at_∧at_≤R.m then ∃rb x y,e=.returned (.tuple #[.pointer (some ⟨rb,0,none⟩),.bool true])∧Run w w' rb R at_.toNat at_.toNat x y∧Side p W R.b R.f at_.toNat at_.toNat (at_.toNat+1) x.L x.F∧(∀k∈x.L,x.F k < at_.toNat+1)
 else e=.returned (.tuple #[.pointer none,.bool false])∧Below w.heap.size w w'
set_option maxHeartbeats 8000000 in
theorem begun_any (A U:Option Addr) (n c m d:Nat) (b f:Bool) (at_:Int) {V:List NV} {p:List Ins} {W:List Tx} (w:World) (hA:ArgN w A n V p) (hW:ArgT w U m W) :
  Calls Tryz.prog 22 #[.slice A n c,.slice U m d,.int .i64 at_,.bool b,.bool f] w (Begun w ⟨A,n,c,U,m,d,b,f⟩ p W at_):=by
 have HA:=Lib.hid hA;have HW:=Lib.hid hW
 have HM:=Lib.hid (pmay_any A V p n c w hA)
 have hm63:=hW.sm
 have hpl:=hA.len2
 have hwl:=hW.len
 have HWL:=Lib.hid hwl
 cases hm:mayP p with
 | false =>
  rw [hm] at HM
  have HE:=Lib.hid (show ¬(mayP p=true∧0≤at_∧at_≤((⟨A,n,c,U,m,d,b,f⟩:Rv).m:Int)) from fun h=>by rw [hm] at h;cases h.1)
  clear hA hW hm hpl hwl
  go_enter Tryz.func22,Tryz.ntmps22
  go_wp2_with (go_at_call 45;refine HM.out.mono ?_;rintro e1 w1 ⟨rfl,hb⟩;have HB:=Lib.hid hb;clear hb)
  go_ret2
  unfold Begun
  rw [if_neg HE.out]
  exact ⟨rfl,HB.out⟩
 | true =>
  rw [hm] at HM
  have HMY:=Lib.hid hm
  obtain ⟨hn0,hn4,_⟩:=Prg.may_last hm
  by_cases h0:at_ < 0
  ·have d0:decide (at_ < 0)=true:=decide_eq_true h0
   have HE:=Lib.hid (show ¬(mayP p=true∧0≤at_∧at_≤((⟨A,n,c,U,m,d,b,f⟩:Rv).m:Int)) from fun h=>by omega)
   clear hA hW hm hpl hwl hn0 hn4
   go_enter Tryz.func22,Tryz.ntmps22
   go_wp2_with (go_at_call 45;refine HM.out.mono ?_;rintro e1 w1 ⟨rfl,hb⟩;have HB:=Lib.hid hb;clear hb)
   go_ret2
   unfold Begun
   rw [if_neg HE.out]
   exact ⟨rfl,HB.out⟩
  ·have d0:decide (at_ < 0)=false:=decide_eq_false h0
   by_cases h1:(m:Int) < at_
   ·have d1:decide ((m:Int) < at_)=true:=decide_eq_true h1
    have HE:=Lib.hid (show ¬(mayP p=true∧0≤at_∧at_≤((⟨A,n,c,U,m,d,b,f⟩:Rv).m:Int)) from fun h=>by have:=h.2.2;dsimp only at this;omega)
    clear hA hW hm hpl hwl hn0 hn4
    go_enter Tryz.func22,Tryz.ntmps22
    go_wp2_with (go_at_call 45;refine HM.out.mono ?_;rintro e1 w1 ⟨rfl,hb⟩;have HB:=Lib.hid hb;clear hb)
    go_ret2
    unfold Begun
    rw [if_neg HE.out]
    exact ⟨rfl,HB.out⟩
   ·obtain ⟨s,rfl⟩:∃s:Nat,at_=s:=⟨at_.toNat,by omega⟩
    have d1:decide ((m:Int) < (s:Int))=false:=decide_eq_false h1
    have HE:=Lib.hid (show mayP p=true∧0≤(s:Int)∧(s:Int)≤((⟨A,n,c,U,m,d,b,f⟩:Rv).m:Int) from ⟨hm,by omega,by dsimp only;omega⟩)
    have HS:=Lib.hid (show Src w ⟨A,n,c,U,m,d,b,f⟩ V p W from ⟨hA,hW,hm⟩)
    have hN:0 < n:=by omega
    have hn65:n≤65536:=by omega
    clear hA hW hm hpl hwl hn0 hn4
    go_enter Tryz.func22,Tryz.ntmps22
    go_wp2_with (first
     | (go_at_call 45;refine HM.out.mono ?_;rintro e1 w1 ⟨rfl,hb⟩;have HB:=Lib.hid hb;clear hb)
     | (go_at_call 46;refine (newFront_any n w1 hn65).mono ?_;rintro e2 w2 ⟨x1,rfl,k1,k2,k3⟩;have X1:=Lib.hid k1;have X3:=Lib.hid k3;clear k1 k2 k3)
     | (go_at_call 46;refine (newFront_any n w2 hn65).mono ?_;rintro e3 w3 ⟨y1,rfl,k1,k2,k3⟩;have Y1:=Lib.hid (Run.new (R:=⟨A,n,c,U,m,d,b,f⟩) HB.out X1.out X3.out k1 k3);clear k1 k2 k3)
     | (go_at_call 47;refine (restart_any s Y1.out).mono ?_;rintro e4 w4 ⟨x4,rfl,k1,k2,k3⟩;have K1:=Lib.hid k1;have K3:=Lib.hid k3;clear k1 k2 k3)
     | (go_at_call 48;refine (join_any K1.out HS.out hN (by rw [K3.out];exact fun _ _ h=>by cases h)).mono ?_;rintro e5 w5 ⟨x5,rfl,k1,k2,k3⟩;have J1:=Lib.hid k1;have J3:=Lib.hid k3;clear k1 k2 k3))
    go_ret2
    unfold Begun
    rw [if_pos HE.out]
    have hj:=J3.out
    rw [K3.out] at hj
    obtain ⟨t1,t2⟩:=(side_nil (p:=p) (W:=W) (b:=b) (f:=f) (i:=s) (lo:=s) (hi:=s) (F:=x4.F) (Nat.le_refl _)).join cl_nil (Nat.le_refl _) (Nat.le_refl _) (by rw [HWL.out];exact hj)
    exact ⟨_,x5,y1,rfl,J1.out,t1,fun k hk=>Nat.lt_succ_of_le (t1.snd k hk).2.1⟩
end Go.Proofs.YtegdbmbenjnacaaGreat.Pike
namespace Go.Proofs.YtegdbmbenjnacaaGreat.Pike
open Go.RowKit Mem Sparse
open Prg (Ins ints mem_ints mayP nxt nexts nexts_iff nxt_lt Rch)
open Sset (Tx ArgT Has3 hasS)
open Syn (Nd NV nvs rd_nv nv_form Means ArgN)
set_option maxRecDepth 100000
section
variable {p:List Ins} {W:List Tx} {b f:Bool} {i s:Nat} {L:List Nat} {F:Nat→Nat}
theorem lone_none (h:∀k,k∈L↔R p W b f s i k) (hL:L=[]) (k:Nat):¬R p W b f s i k:=fun hr=>by have:=(h k).2 hr;rw [hL] at this;cases this
theorem long_end (h:∀k,k∈L↔R p W b f s i k) (hs:s≤i) (hn:i≤W.length) (he:i=W.length∨L=[]) :
  lastM p W b f s (W.length+1)=lastM p W b f s (i+1)∧stepsF p W b f s (W.length+1)=stepsF p W b f s (i+1)∧openF p W b f s=((firstOf p [1,5] L).isSome && !f):=by
 by_cases hi:i=W.length
 ·exact ⟨by rw [hi],by rw [hi],lone_open h hi⟩
 ·have hL:=he.resolve_left hi
  have hz:=lone_none h hL
  refine ⟨?_,?_,?_⟩
  ·rw [lastM_stop hs hz (show i≤W.length+1 by omega),lastM_stop (j:=i+1) hs hz (by omega)]
  ·rw [stepsF_stop hs hz (show i≤W.length+1 by omega),stepsF_stop (j:=i+1) hs hz (by omega)]
  ·rw [openF_stop hs hz hn,hL];rfl
end
noncomputable def longF (p:List Ins) (W:List Tx) (b f:Bool) (at_:Int):Int × Bool × Bool × Int :=
 if mayP p=true∧0≤at_∧at_≤W.length then (((lastM p W b f at_.toNat (W.length+1)).getD 0:Nat),(lastM p W b f at_.toNat (W.length+1)).isSome,openF p W b f at_.toNat,0) else (0,false,false,1)
def four (q:Int × Bool × Bool × Int):Value:=.tuple #[.int .i64 q.1,.bool q.2.1,.bool q.2.2.1,.int .i64 q.2.2.2]
def placeOf (w:World) (rb:Nat):Nat:=match w.cell? ⟨rb,4,none⟩ with
 | some (.int _ n)=>n.toNat
 | _=>0
theorem Run.place {w0 w:World} {rb pl lt:Nat} {R:Rv} {x y:Fr} (h:Run w0 w rb R pl lt x y):placeOf w rb=pl:=by unfold placeOf;rw [h.c4];exact Int.toNat_natCast _
theorem Run.first (p:List Ins) {w0 w:World} {rb pl lt:Nat} {R:Rv} {x y:Fr} {V:List NV} {W:List Tx} (h:Run w0 w rb R pl lt x y) (hs:Src w0 R V p W) (O:List Int) (n:Nat) (hn:O.length=n) (hn1:n≤5) :
  Calls Tryz.prog 24 #[.pointer (some ⟨rb,0,none⟩),.slice (some ⟨w.heap.size,0,none⟩) n n] (w.alloc (.cells (ks .i64 O).toArray 3)) (Tells (w.alloc (.cells (ks .i64 O).toArray 3)) (FirstV (firstOf p O x.L))) :=
 first_any (h.next ((Below.refl _ _).alloc (Nat.le_refl _) _)) hs _ O n n _ (rd_new w 3 (ks .i64 O) w.heap.size rfl) hn (by omega)
theorem results_tmp4 {fn:Func} {t u v x:Tmp} (h:fn.results=#[.tmp t,.tmp u,.tmp v,.tmp x]) (tmps:Array Value) (P:Program) (w:World) :
  (results fn tmps).run P w=.ok (.tuple #[tmps.getD t undef,tmps.getD u undef,tmps.getD v undef,tmps.getD x undef]) w:=by
 simp [results,h]
def isT (v:Value):Nat:=match v with
 | .bool true=>1
 | _=>0
set_option maxHeartbeats 8000000 in
theorem longest_any (A U:Option Addr) (n c m d:Nat) (b f:Bool) (at_:Int) {V:List NV} {p:List Ins} {W:List Tx} (w:World) (hA:ArgN w A n V p) (hW:ArgT w U m W) :
  Calls Tryz.prog 10 #[.slice A n c,.slice U m d,.int .i64 at_,.bool b,.bool f] w (Ret w (four (longF p W b f at_))):=by
 have HB:=Lib.hid (begun_any A U n c m d b f at_ w hA hW)
 have hwl:=hW.len
 have hm63:=hW.sm
 by_cases hc:mayP p=true∧0≤at_∧at_≤(m:Int)
 ·obtain ⟨s,rfl⟩:∃s:Nat,at_=s:=⟨at_.toNat,by omega⟩
  have HS:=Lib.hid (show Src w ⟨A,n,c,U,m,d,b,f⟩ V p W from ⟨hA,hW,hc.1⟩)
  have HLF:=Lib.hid (show longF p W b f s=((((lastM p W b f s (m+1)).getD 0:Nat):Int),(lastM p W b f s (m+1)).isSome,openF p W b f s,0) by
   unfold longF
   rw [if_pos (by rw [hwl];exact hc),hwl];rfl)
  have HWL:=Lib.hid hwl
  have hsm:s≤m:=by omega
  have HC:=Lib.hid hc
  clear hA hW hwl hc
  rw [HLF.out]
  generalize hres:lastM p W b f s (m+1)=res
  have HRES:=Lib.hid hres
  obtain ⟨op,hop⟩:∃o,o=openF p W b f s:=⟨_,rfl⟩
  rw [←hop]
  have HOP:=Lib.hid hop
  clear hres hop
  go_enter Tryz.func10,Tryz.ntmps10
  go_wp2_with (go_at_call 22;refine HB.out.mono ?_;intro e1 w1 hb;unfold Begun at hb;rw [if_pos HC.out] at hb;obtain ⟨rb,x,y,rfl,k1,k2,k3⟩:=hb;have K1:=Lib.hid k1;have K2:=Lib.hid k2;have K3:=Lib.hid k3;clear k1 k2 k3)
  have hfst:=fun (u:World) (x y:Fr) (i:Nat) (O:List Int) (n':Nat) (h:Run w u rb ⟨A,n,c,U,m,d,b,f⟩ i s x y) (hn:O.length=n') (hn1:n'≤5)=>h.first p HS.out O n' hn hn1
  have HFS:=Lib.hid hfst
  clear hfst
  go_loopw [10,11,16] (fun ev fv mv wr=>∃(i:Nat) (xr yr:Fr) (l:Option Nat),s≤i∧i≤m∧Hid (Run w wr rb ⟨A,n,c,U,m,d,b,f⟩ i s xr yr)∧Hid (Side p W b f i s (s+1) xr.L xr.F)∧Hid (∀k∈xr.L,xr.F k < s+1)∧ev=.int .i64 ((l.getD 0:Nat):Int)∧fv=.bool l.isSome ∧
    ((mv=.bool true∧Hid (lastM p W b f s i=l))∨(mv=.bool false∧Hid (lastM p W b f s (i+1)=l)∧Hid (i=m∨xr.L=[])))) (fun _ _ mv wr=>2*(m - placeOf wr rb)+isT mv)
  case atStart=>exact ⟨s,x,y,none,Nat.le_refl _,hsm,K1,K2,K3,rfl,rfl,.inl ⟨rfl,Lib.hid (lastM_early (Nat.le_refl _))⟩⟩
  case round =>
   obtain ⟨i,xr,yr,l,hi1,hi2,J1,J2,J3,rfl,rfl,hm⟩:=hrel
   clear K1 K2 K3
   have HLN:=Lib.hid (J2.out.lone J3.out)
   have HLL:=Lib.hid (lone_last HLN.out)
   rcases hm with ⟨rfl,HL⟩ | ⟨rfl,HL,HE⟩
   ·have HF:=Lib.hid (HFS.out wr xr yr i [6] 1 J1.out rfl (by omega))
    have HST:=Lib.hid (fun u (hu:Below wr.heap.size wr u)=>step_any s (J1.out.next hu) HS.out (by exact hi2) hi1 J2.out)
    have HPL:=Lib.hid J1.out.place
    cases hf:firstOf p [6] xr.L with
    | none =>
     rw [hf] at HF HLL
     have HF1:=Lib.hid (show Calls Tryz.prog 24 _ _ (Tells _ (.tuple #[.int .i64 0,.bool false])) from HF.out)
     have HL2:=Lib.hid (show lastM p W b f s (i+1)=l from HLL.out.trans HL.out)
     clear hf HF
     by_cases he:i=m∨xr.L=[]
     ·have HE:=Lib.hid he
      clear he
      go_wp2_with (first
       | (go_at_call 24;refine HF1.out.mono ?_;rintro e2 w2 ⟨rfl,rfl⟩)
       | (go_at_call 23;refine (HST.out _ ((Below.refl _ _).alloc (Nat.le_refl _) _)).mono ?_;intro e3 w3 h3;unfold Stepped at h3;rw [if_pos HE.out] at h3;obtain ⟨rfl,k1,k2⟩:=h3;have N1:=Lib.hid k1;clear k1 k2))
      go_roundw
      case rel=>exact ⟨i,xr,yr,l,hi1,hi2,N1,J2,J3,rfl,rfl,.inr ⟨rfl,HL2,HE⟩⟩
      case measure=>rw [HPL.out,N1.out.place];simp [isT]
     ·have HE:=Lib.hid he
      have him:i < m:=by omega
      clear he
      go_wp2_with (first
       | (go_at_call 24;refine HF1.out.mono ?_;rintro e2 w2 ⟨rfl,rfl⟩)
       | (go_at_call 23;refine (HST.out _ ((Below.refl _ _).alloc (Nat.le_refl _) _)).mono ?_;intro e3 w3 h3;unfold Stepped at h3;rw [if_neg HE.out] at h3;obtain ⟨x3,y3,rfl,k1,k2,k3,k4,k5⟩:=h3;have N1:=Lib.hid k1;have N3:=Lib.hid k3;have N4:=Lib.hid k4;clear k1 k2 k3 k4 k5))
      go_roundw
      case rel=>exact ⟨i+1,x3,y3,l,by omega,by omega,N1,N3,N4,rfl,rfl,.inl ⟨rfl,HL2⟩⟩
      case measure=>rw [HPL.out,N1.out.place];simp [isT];omega
    | some k =>
     rw [hf] at HF HLL
     have HF1:=Lib.hid (show Calls Tryz.prog 24 _ _ (Tells _ (.tuple #[.int .i64 (k:Int),.bool true])) from HF.out)
     have HL2:=Lib.hid (show lastM p W b f s (i+1)=some i from HLL.out)
     have c4:=(J1.out.next ((Below.refl _ _).alloc (Nat.le_refl _) (.cells (ks .i64 [6]).toArray 3))).c4
     clear hf HF
     by_cases he:i=m∨xr.L=[]
     ·have HE:=Lib.hid he
      clear he
      go_wp2_with (first
       | (go_at_call 24;refine HF1.out.mono ?_;rintro e2 w2 ⟨rfl,rfl⟩)
       | (go_at_call 23;refine (HST.out _ ((Below.refl _ _).alloc (Nat.le_refl _) _)).mono ?_;intro e3 w3 h3;unfold Stepped at h3;rw [if_pos HE.out] at h3;obtain ⟨rfl,k1,k2⟩:=h3;have N1:=Lib.hid k1;clear k1 k2))
      go_roundw
      case rel=>exact ⟨i,xr,yr,some i,hi1,hi2,N1,J2,J3,rfl,rfl,.inr ⟨rfl,HL2,HE⟩⟩
      case measure=>rw [HPL.out,N1.out.place];simp [isT]
     ·have HE:=Lib.hid he
      have him:i < m:=by omega
      clear he
      go_wp2_with (first
       | (go_at_call 24;refine HF1.out.mono ?_;rintro e2 w2 ⟨rfl,rfl⟩)
       | (go_at_call 23;refine (HST.out _ ((Below.refl _ _).alloc (Nat.le_refl _) _)).mono ?_;intro e3 w3 h3;unfold Stepped at h3;rw [if_neg HE.out] at h3;obtain ⟨x3,y3,rfl,k1,k2,k3,k4,k5⟩:=h3;have N1:=Lib.hid k1;have N3:=Lib.hid k3;have N4:=Lib.hid k4;clear k1 k2 k3 k4 k5))
      go_roundw
      case rel=>exact ⟨i+1,x3,y3,some i,by omega,by omega,N1,N3,N4,rfl,rfl,.inl ⟨rfl,HL2⟩⟩
      case measure=>rw [HPL.out,N1.out.place];simp [isT];omega
   ·obtain ⟨q1,q2,q3⟩:=long_end HLN.out hi1 (by rw [HWL.out];exact hi2) (by rw [HWL.out];exact HE.out)
    rw [HWL.out,HL.out,HRES.out] at q1
    rw [←HOP.out] at q3
    subst q1
    have HF:=Lib.hid (HFS.out wr xr yr i [1,5] 2 J1.out rfl (by omega))
    have HBL:=Lib.hid J1.out.bel
    generalize firstOf p [1,5] xr.L=r at q3 HF
    have HF1:=Lib.hid (show Calls Tryz.prog 24 _ _ (Tells _ (.tuple #[.int .i64 ((r.getD 0:Nat):Int),.bool r.isSome])) from HF.out)
    have HQ3:=Lib.hid q3
    clear q2 q3 HF
    generalize r.isSome=rs at HF1 HQ3
    generalize ((r.getD 0:Nat):Int)=rv at HF1
    cases rs
    all_goals cases f
    all_goals go_wp2_with (go_at_call 24;refine HF1.out.mono ?_;rintro e2 w2 ⟨rfl,rfl⟩)
    all_goals refine bodyPost_ret (results_tmp4 rfl _ _ _) rfl ?_
    all_goals refine ⟨?_,HBL.out.trans ((Below.refl _ _).alloc HBL.out.size _)⟩
    all_goals rw [HQ3.out]
    all_goals rfl
 ·have HC:=Lib.hid hc
  have HLF:=Lib.hid (show longF p W b f at_=(0,false,false,1) by unfold longF;rw [if_neg (by rw [hwl];exact hc)])
  clear hA hW hwl hc
  rw [HLF.out]
  go_enter Tryz.func10,Tryz.ntmps10
  go_wp2_with (go_at_call 22;refine HB.out.mono ?_;intro e1 w1 hb;unfold Begun at hb;rw [if_neg HC.out] at hb;obtain ⟨rfl,hb⟩:=hb;have HB2:=Lib.hid hb;clear hb)
  go_wp2_with fail
  refine bodyPost_ret (results_tmp4 rfl _ _ _) rfl ?_
  exact ⟨rfl,HB2.out⟩
noncomputable def wholeF (p:List Ins) (W:List Tx):Bool × Int:=((longF p W true true 0).2.1 && decide ((longF p W true true 0).1=W.length),(longF p W true true 0).2.2.2)
set_option maxHeartbeats 4000000 in
theorem whole_any (A U:Option Addr) (n c m d:Nat) {V:List NV} {p:List Ins} {W:List Tx} (w:World) (hA:ArgN w A n V p) (hW:ArgT w U m W) :
  Calls Tryz.prog 15 #[.slice A n c,.slice U m d] w (Ret w (.tuple #[.bool (wholeF p W).1,.int .i64 (wholeF p W).2])):=by
 have HL:=Lib.hid (longest_any A U n c m d true true 0 w hA hW)
 have hwl:=hW.len
 obtain ⟨q,hq⟩:∃q,q=longF p W true true 0:=⟨_,rfl⟩
 have HWF:=Lib.hid (show wholeF p W=(q.2.1 && decide (q.1=(m:Int)),q.2.2.2) by unfold wholeF;rw [←hq,hwl])
 rw [HWF.out]
 rw [←hq] at HL
 obtain ⟨e,fd,op,er⟩:=q
 clear hq hA hW hwl
 dsimp only
 cases fd with
 | false =>
  go_enter Tryz.func15,Tryz.ntmps15
  go_wp2_with (go_at_call 10;refine HL.out.mono ?_;rintro e1 w1 ⟨rfl,hb⟩;have HB:=Lib.hid hb;clear hb;dsimp only [four])
  go_ret2
  exact ⟨rfl,HB.out⟩
 | true =>
  obtain ⟨z,hz⟩:∃z,z=(e == (m:Int)):=⟨_,rfl⟩
  have HZ:=Lib.hid (show decide (e=(m:Int))=z by rw [hz];exact Bool.eq_iff_iff.2 (by rw [decide_eq_true_eq,beq_iff_eq]))
  rw [HZ.out]
  have hz2:=hz.symm
  clear hz
  go_enter Tryz.func15,Tryz.ntmps15
  go_wp2_with (go_at_call 10;refine HL.out.mono ?_;rintro e1 w1 ⟨rfl,hb⟩;have HB:=Lib.hid hb;clear hb;dsimp only [four])
  go_ret2
  exact ⟨rfl,HB.out⟩
noncomputable def stepsV (p:List Ins) (W:List Tx) (b f:Bool) (at_:Int):Nat:=if mayP p=true∧0≤at_∧at_≤W.length then stepsF p W b f at_.toNat (W.length+1) else 0
theorem stepsF_add {p:List Ins} {W:List Tx} {b f:Bool} {s i:Nat} {L:List Nat} (h:∀k,k∈L↔R p W b f s i k) (hn:L.Nodup) (hm:mayP p=true):stepsF p W b f s (i+1)=stepsF p W b f s i+L.length:=by
 show stepsF p W b f s i+cnt p.length (R p W b f s i)=_
 rw [lone_cnt h hn hm]
theorem stepsF_bound {p:List Ins} (W:List Tx) (b f:Bool) (hm:mayP p=true) {s i m:Nat} (hs:s≤i) (hi:i≤m) (hm2:m≤1073741824):stepsF p W b f s (i+1)≤4398046515200:=by
 have h:=stepsF_le (p:=p) (W:=W) (b:=b) (f:=f) (s:=s) (i+1 - s)
 rw [show s+(i+1 - s)=i+1 by omega] at h
 have h4:=(Prg.may_last hm).2.1
 exact Nat.le_trans h (Nat.le_trans (Nat.mul_le_mul h4 (show i+1 - s≤1073741825 by omega)) (by decide))
set_option maxHeartbeats 8000000 in
theorem steps_any (A U:Option Addr) (n c m d:Nat) (b f:Bool) (at_:Int) {V:List NV} {p:List Ins} {W:List Tx} (w:World) (hA:ArgN w A n V p) (hW:ArgT w U m W) :
  Calls Tryz.prog 11 #[.slice A n c,.slice U m d,.int .i64 at_,.bool b,.bool f] w (Ret w (.int .i64 (stepsV p W b f at_:Int))):=by
 have HB:=Lib.hid (begun_any A U n c m d b f at_ w hA hW)
 have hwl:=hW.len
 have hm63:=hW.sm
 by_cases hc:mayP p=true∧0≤at_∧at_≤(m:Int)
 ·obtain ⟨s,rfl⟩:∃s:Nat,at_=s:=⟨at_.toNat,by omega⟩
  have HS:=Lib.hid (show Src w ⟨A,n,c,U,m,d,b,f⟩ V p W from ⟨hA,hW,hc.1⟩)
  have HLF:=Lib.hid (show stepsV p W b f s=stepsF p W b f s (m+1) by
   unfold stepsV
   rw [if_pos (by rw [hwl];exact hc),hwl];rfl)
  have HWL:=Lib.hid hwl
  have hsm:s≤m:=by omega
  have HC:=Lib.hid hc
  clear hA hW hwl hc
  rw [HLF.out]
  generalize hres:stepsF p W b f s (m+1)=res
  have HRES:=Lib.hid hres
  clear hres
  go_enter Tryz.func11,Tryz.ntmps11
  go_wp2_with (go_at_call 22;refine HB.out.mono ?_;intro e1 w1 hb;unfold Begun at hb;rw [if_pos HC.out] at hb;obtain ⟨rb,x,y,rfl,k1,k2,k3⟩:=hb;have K1:=Lib.hid k1;have K2:=Lib.hid k2;have K3:=Lib.hid k3;clear k1 k2 k3)
  go_loopw [13,14] (fun ev mv wr=>∃(i:Nat) (xr yr:Fr) (l:Nat),s≤i∧i≤m∧Hid (Run w wr rb ⟨A,n,c,U,m,d,b,f⟩ i s xr yr)∧Hid (Side p W b f i s (s+1) xr.L xr.F)∧Hid (∀k∈xr.L,xr.F k < s+1)∧ev=.int .i64 (l:Int) ∧
    ((mv=.bool true∧Hid (stepsF p W b f s i=l))∨(mv=.bool false∧Hid (stepsF p W b f s (i+1)=l)∧Hid (i=m∨xr.L=[])))) (fun _ mv wr=>2*(m - placeOf wr rb)+isT mv)
  case atStart=>exact ⟨s,x,y,0,Nat.le_refl _,hsm,K1,K2,K3,rfl,.inl ⟨rfl,Lib.hid (stepsF_early (Nat.le_refl _))⟩⟩
  case round =>
   obtain ⟨i,xr,yr,l,hi1,hi2,J1,J2,J3,rfl,hm⟩:=hrel
   clear K1 K2 K3
   have HLN:=Lib.hid (J2.out.lone J3.out)
   have c5:=J1.out.c5
   rcases hm with ⟨rfl,HL⟩ | ⟨rfl,HL,HE⟩
   ·have HADD:=stepsF_add HLN.out J1.out.now.nod HC.out.1
    have hbd:=stepsF_bound W b f HC.out.1 hi1 hi2 hm63
    rw [HADD,HL.out] at hbd
    rw [HL.out] at HADD
    have HLEN:=Lib.hid J1.out.len
    have HST:=Lib.hid (step_any s J1.out HS.out (by exact hi2) hi1 J2.out)
    have HPL:=Lib.hid J1.out.place
    generalize hq:xr.L.length=q at HADD hbd HLEN
    have HQ:=Lib.hid hq
    have ew:IntKind.i64.wrap ((l:Int)+(q:Int))=((l+q:Nat):Int):=IntWalk.i64_in _ (by omega)
    have HA2:=Lib.hid HADD
    clear HADD hq
    by_cases he:i=m∨xr.L=[]
    ·have HE:=Lib.hid he
     clear he
     go_wp2_with (first
      | (go_at_call 25;refine HLEN.out.mono ?_;rintro e2 w2 ⟨rfl,rfl⟩)
      | (go_at_call 23;refine HST.out.mono ?_;intro e3 w3 h3;unfold Stepped at h3;rw [if_pos HE.out] at h3;obtain ⟨rfl,k1,k2⟩:=h3;have N1:=Lib.hid k1;clear k1 k2))
     go_roundw
     case rel=>exact ⟨i,xr,yr,l+q,hi1,hi2,N1,J2,J3,by go_num,.inr ⟨rfl,HA2,HE⟩⟩
     case measure=>rw [HPL.out,N1.out.place];simp [isT]
    ·have HE:=Lib.hid he
     have him:i < m:=by omega
     clear he
     go_wp2_with (first
      | (go_at_call 25;refine HLEN.out.mono ?_;rintro e2 w2 ⟨rfl,rfl⟩)
      | (go_at_call 23;refine HST.out.mono ?_;intro e3 w3 h3;unfold Stepped at h3;rw [if_neg HE.out] at h3;obtain ⟨x3,y3,rfl,k1,k2,k3,k4,k5⟩:=h3;have N1:=Lib.hid k1;have N3:=Lib.hid k3;have N4:=Lib.hid k4;clear k1 k2 k3 k4 k5))
     go_roundw
     case rel=>exact ⟨i+1,x3,y3,l+q,by omega,by omega,N1,N3,N4,by go_num,.inl ⟨rfl,HA2⟩⟩
     case measure=>rw [HPL.out,N1.out.place];simp [isT];omega
   ·obtain ⟨q1,q2,q3⟩:=long_end HLN.out hi1 (by rw [HWL.out];exact hi2) (by rw [HWL.out];exact HE.out)
    rw [HWL.out,HL.out,HRES.out] at q2
    subst q2
    have HBL:=Lib.hid J1.out.bel
    clear q1 q3
    go_wp2_with fail
    go_ret
    exact ⟨rfl,HBL.out⟩
 ·have HC:=Lib.hid hc
  have HLF:=Lib.hid (show stepsV p W b f at_=0 by unfold stepsV;rw [if_neg (by rw [hwl];exact hc)])
  clear hA hW hwl hc
  rw [HLF.out]
  go_enter Tryz.func11,Tryz.ntmps11
  go_wp2_with (go_at_call 22;refine HB.out.mono ?_;intro e1 w1 hb;unfold Begun at hb;rw [if_neg HC.out] at hb;obtain ⟨rfl,hb⟩:=hb;have HB2:=Lib.hid hb;clear hb)
  go_wp2_with fail
  go_ret
  exact ⟨rfl,HB2.out⟩
end Go.Proofs.YtegdbmbenjnacaaGreat.Pike
