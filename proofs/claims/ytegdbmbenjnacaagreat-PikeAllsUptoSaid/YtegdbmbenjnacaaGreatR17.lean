/-
  Texts of stage 7, part 17.
-/
import Derived.Lib.OwnKind
import Derived.Deep.RegionHeld3
import Derived.Deep.DeepCutAuto
import Derived.Deep.QuietTactic
import Derived.BigQuiet
import Derived.Test.YtegdbmbenjnacaaGreatR8
import Derived.Test.YtegdbmbenjnacaaGreatR16
namespace Go.Proofs.YtegdbmbenjnacaaGreat.Prg
open Go.RowKit
open Utf (Rd Blk own_ne)
open Rset (Ret own_form own_below rd_new)
open Syn (NV nvs nvs_len Means)
set_option maxRecDepth 100000
structure SV where
 A:Option Addr
 n:Nat
 c:Nat
 V:List NV
def SV.v (s:SV):Value:=.slice s.A s.n s.c
def svs (R:List SV):List Value:=R.map SV.v
theorem svs_len (R:List SV):(svs R).length=R.length:=List.length_map _
theorem svs_app (R T:List SV):svs (R++T)=svs R++svs T:=List.map_append
theorem svs_one (R:List SV):∀u∈svs R,u.oneCell'=true:=by intro u hu;simp only [svs,List.mem_map] at hu;obtain ⟨n,_,rfl⟩:=hu;rfl
theorem infoSl:(Tryz.prog.info? 22).map (fun i=>(i.zero,i.size,i.bytes))=some (some (.slice none 0 0),1,24):=by kernel_rfl
section
variable {w0 w w' u w2:World}
theorem own_two {B1 B2 s1 s2 n1 n2:Nat} {e1 e2:TypeId} {v1 v2:Value} {xs1 xs2:List Value} (h1:w.ownsRow B1 e1 s1 v1 n1 xs1) (h2:w.ownsRow B2 e2 s2 v2 n2 xs2) (hne:e1≠e2):v1.ownBlock=none∨v1.ownBlock≠v2.ownBlock:=by
 cases h:v1.ownBlock with
 | none=>exact .inl rfl
 | some g =>
  refine .inr fun e=>?_
  obtain ⟨c1,f1,k1⟩:=Go.Lib.ownsRow_kind h1 g h
  obtain ⟨c2,f2,k2⟩:=Go.Lib.ownsRow_kind h2 g e.symm
  rw [k1] at k2
  injection k2 with k2
  injection k2 with _ k2
  exact hne k2
def CS (w0 w:World):List SV→List (List Ins)→Prop
 | [],[]=>True
 | s :: R,l :: S=>(IR w0 w0 w s.v s.V l∧l.length=s.n)∧CS w0 w R S
 | _,_=>False
theorem CS.len:∀{R:List SV} {S:List (List Ins)},CS w0 w R S→R.length=S.length
 | [],[],_=>rfl
 | _ :: _,_ :: _,h=>by rw [List.length_cons,List.length_cons,CS.len h.2]
theorem CS.next (hb:Below w.heap.size w w'):∀{R:List SV} {S:List (List Ins)},CS w0 w R S→CS w0 w' R S
 | [],[],_=>trivial
 | _ :: _,_ :: _,h=>⟨⟨h.1.1.next hb,h.1.2⟩,CS.next hb h.2⟩
theorem IR.aside {v v0:Value} {V:List NV} {l:List Ins} {B n s:Nat} {e:TypeId} {xs:List Value} (h:IR w0 w0 w v V l) (ho:w.ownsRow B e s v0 n xs) (he:76≠e) (hB:w0.heap.size≤B) (hg:w.grownBy w' v0.ownBlock):IR w0 w0 w' v V l :=
 ⟨h.own.kept hg (own_two h.own ho he),h.ms,h.bel.grown hg h.bel.size fun g hg'=>Nat.le_trans hB (ho.lt g hg').1⟩
theorem CS.aside {v0:Value} {B n s:Nat} {e:TypeId} {xs:List Value} (ho:w.ownsRow B e s v0 n xs) (he:76≠e) (hB:w0.heap.size≤B) (hg:w.grownBy w' v0.ownBlock):∀{R:List SV} {S:List (List Ins)},CS w0 w R S→CS w0 w' R S
 | [],[],_=>trivial
 | _ :: _,_ :: _,h=>⟨⟨h.1.1.aside ho he hB hg,h.1.2⟩,CS.aside ho he hB hg h.2⟩
structure SR (w0 w:World) (v:Value) (R:List SV) (st:List (List Ins)):Prop where
 own:w.ownsRow w0.heap.size 22 1 v st.length (svs R.reverse)
 cs:CS w0 w R st
 bel:Below w0.heap.size w0 w
variable {v v2:Value} {R:List SV} {st:List (List Ins)} {s x:SV} {l m:List Ins}
theorem SR.next (h:SR w0 w v R st) (hb:Below w.heap.size w w'):SR w0 w' v R st:=⟨own_below h.own hb,h.cs.next hb,h.bel.trans (hb.mono h.bel.size)⟩
theorem SR.push (h:SR w0 w v R st) (hb:Below w.heap.size w u) (hx:IR w0 w0 u x.v x.V m) (hl:m.length=x.n) (hown:w2.ownsRow w0.heap.size 22 1 v2 (st.length+1) (svs R.reverse++[x.v])) (hgr:u.grownBy w2 v.ownBlock):SR w0 w2 v2 (x :: R) (m :: st):=by
 have h1:=h.next hb
 refine ⟨?_,⟨⟨hx.aside h1.own (by decide) (Nat.le_refl _) hgr,hl⟩,h1.cs.aside h1.own (by decide) (Nat.le_refl _) hgr⟩,h1.bel.grown hgr h1.bel.size fun g hg=>(h1.own.lt g hg).1⟩
 rw [List.reverse_cons,svs_app]
 exact hown
theorem SR.cut {g n c:Nat} (h:SR w0 w (.slice (some ⟨g,0,none⟩) (n+1) c) (s :: R) (l :: st)) (hn:st.length=n):SR w0 w (.slice (some ⟨g,0,none⟩) n c) R st:=by
 subst hn
 refine ⟨?_,h.cs.2,h.bel⟩
 have h1:=own_front (k:=st.length) h.own (Nat.le_succ _)
 rw [List.reverse_cons,svs_app,Nat.mul_one,List.take_left' (by rw [svs_len,List.length_reverse];exact h.cs.2.len)] at h1
 exact h1
theorem SR.put {g n c:Nat} (h:SR w0 w (.slice (some ⟨g,0,none⟩) n c) (s :: R) (l :: st)) (hx:IR w0 w0 w x.v x.V m) (hl:m.length=x.n):SR w0 (w.setCell ⟨g,st.length,none⟩ x.v) (.slice (some ⟨g,0,none⟩) n c) (x :: R) (m :: st):=by
 have hn:n=st.length+1:=by
  obtain ⟨_,_,e,_⟩:=own_form h.own
  injection e
 subst hn
 have hB:=h.own.lt g rfl
 obtain ⟨o1,g1⟩:=h.own.stored st.length x.v
 refine ⟨?_,⟨⟨hx.aside h.own (by decide) (Nat.le_refl _) g1,hl⟩,h.cs.2.aside h.own (by decide) (Nat.le_refl _) g1⟩,h.bel.setCell (p:=⟨g,st.length,none⟩) hB.1 _⟩
 have e1:(svs (s :: R).reverse).set st.length x.v=svs (x :: R).reverse:=by
  have hr:(svs R.reverse).length=st.length:=by rw [svs_len,List.length_reverse];exact h.cs.2.len
  rw [List.reverse_cons,List.reverse_cons,svs_app,svs_app,List.set_append_right _ _ (by omega),hr,Nat.sub_self]
  rfl
 rw [e1] at o1
 exact o1
theorem SR.c1 {g n c:Nat} (h:SR w0 w (.slice (some ⟨g,0,none⟩) n c) (s :: R) (l :: st)):w.cell? ⟨g,st.length,none⟩=some s.v∧w.frozen? ⟨g,st.length,none⟩=false:=by
 have hn:n=st.length+1:=by
  obtain ⟨_,_,e,_⟩:=own_form h.own
  injection e
 subst hn
 have hr:(svs R.reverse).length=st.length:=by rw [svs_len,List.length_reverse];exact h.cs.2.len
 refine ⟨?_,h.own.frozenAt _⟩
 rw [h.own.cellAt st.length (by omega),List.reverse_cons,svs_app,List.getElem?_append_right (by omega),hr,Nat.sub_self]
 rfl
theorem SR.addr (h:SR w0 w v (s :: R) (l :: st)):∃g c,v=.slice (some ⟨g,0,none⟩) (st.length+1) c∧st.length+1≤c∧c≤9223372036854775807∧w0.heap.size≤g∧g < w.heap.size:=own_addr h.own (Nat.succ_pos _)
theorem own_lit {e:TypeId} {B size:Nat} (w:World) (cs:List Value) (hB:B≤w.heap.size) (hl:cs.length=size):(w.alloc (.cells cs.toArray e)).ownsRow B e size (.slice (some ⟨w.heap.size,0,none⟩) 1 1) 1 cs :=
 ⟨by omega,.inr ⟨w.heap.size,1,cs.toArray,rfl,hB,heap_alloc_new w _,Nat.le_refl _,by unfold maxLen;omega,by rw [List.size_toArray];omega,by rw [Nat.one_mul,List.toList_toArray,←hl,List.take_length]⟩⟩
theorem IR.lit {wb:World} {y:NV} {i:Ins} (hb:Below wb.heap.size wb w) (hm:Means w0 y i):IR w0 wb (w.alloc (.cells y.row.toArray 76)) (.slice (some ⟨w.heap.size,0,none⟩) 1 1) [y] [i] :=
 ⟨by have:=own_lit (e:=76) w y.row hb.size (size:=6) rfl;rwa [show nvs [y]=y.row from List.append_nil _],Ms.one hm,hb.alloc hb.size _⟩
end
end Go.Proofs.YtegdbmbenjnacaaGreat.Prg
namespace Go.Proofs.YtegdbmbenjnacaaGreat.Prg
open Go.RowKit
open Utf (Rd Blk own_ne wpList_append_rd)
open Rset (Ret own_form own_below rd_new)
open Sset (St normS none_ Has3 has3_none)
open Syn (Nd nd NV nvs nvs_len nvs_get nvs_snoc nv_one nv_form rd_nv Means ArgN mayStep mayL mayF mayL_take)
set_option maxRecDepth 100000
def CodeT (w0 w:World) (x:Option (List (List Ins))) (e:Ending) (w':World):Prop :=
 (∃s p,x=some [p]∧e=.returned (.tuple #[SV.v s,.bool true])∧IR w0 w0 w' s.v s.V p∧p.length=s.n∧Below w.heap.size w w')∨(x=none∧e=.returned (.tuple #[.slice none 0 0,.bool false])∧Below w.heap.size w w')
structure StI (l:List Nd) (k:Nat) (st:List (List Ins)):Prop where
 may:mayL (some 0) (l.take k)=some (st.length:Int)
 code:codeF (l.take k) []=some st
 cd:CdS st
 le:st.length≤k
theorem codeF_take {l:List Nd} {k:Nat} (hk:k < l.length) {st:List (List Ins)} (e:codeF (l.take k) []=some st):codeF (l.take (k+1)) []=stepC l[k] st:=by
 rw [List.take_succ_eq_append_getElem hk,codeF_append,e]
 show (stepC l[k] st).bind (codeF [])=_
 cases stepC l[k] st <;> rfl
theorem codeF_stop {l:List Nd} {k:Nat} (hk:k < l.length) {st:List (List Ins)} (e:codeF (l.take k) []=some st) (hs:stepC l[k] st=none):codeF l []=none:=by
 have h:=codeF_take hk e
 rw [hs] at h
 rw [←List.take_append_drop (k+1) l,codeF_append,h];rfl
theorem may_some {l:List Nd} (h:mayF l=true) {k:Nat} (hk:k < l.length) {x:Int} (e:mayL (some 0) (l.take k)=some x):∃y,mayStep x l[k]=some y:=by
 cases hs:mayStep x l[k] with
 | some y=>exact ⟨y,rfl⟩
 | none=>have:=Syn.may_stop hk e hs;rw [h] at this;cases this
theorem StI.next {l:List Nd} {k:Nat} {st st':List (List Ins)} (h:StI l k st) (hk:k < l.length) {y:Int} (hm:mayStep (st.length:Int) l[k]=some y) (hs:stepC l[k] st=some st'):StI l (k+1) st':=by
 obtain ⟨h1,h2⟩:=stepC_cd hm h.cd hs
 have h3:=mayL_take hk h.may
 refine ⟨by rw [h3,hm,h1],by rw [codeF_take hk h.code,hs],h2,?_⟩
 have:=(may_step (Int.natCast_nonneg _) hm).2.2.1
 have:=h.le
 omega
set_option maxHeartbeats 32000000 in
theorem rcode_any {w:World} {V:List NV} {l:List Nd} {A:Option Addr} {n c:Nat} (h:ArgN w A n V l) (hm:mayF l=true) (hsm:n≤1073741824) :
  Calls Tryz.prog 38 #[.slice A n c] w (CodeT w w (codeF l [])):=by
 obtain ⟨i0,hi0,hz0,hz1,hz2⟩:=info_parts infoSl
 obtain ⟨i1,hj0,hy0,hy1,hy2⟩:=info_parts infoIns
 have H:=Lib.hid h;have HMY:=Lib.hid hm
 clear h hm
 go_enter Tryz.func38,Tryz.ntmps38
 go_wp2_with fail
 go_loopw [4,5] (fun s i wr=>∃(k:Nat) (R:List SV) (st:List (List Ins)),k≤n∧i=.int .i64 k∧Hid (StI l k st)∧Hid (SR w wr s R st)) (fun _ i _=>n - (intOf i).toNat)
 case atStart=>exact ⟨0,[],[],Nat.zero_le _,rfl,Lib.hid ⟨rfl,rfl,cdS_nil,Nat.le_refl _⟩,Lib.hid ⟨World.ownsRow_nil _ _ _ _,trivial,Below.refl _ _⟩⟩
 case round =>
  obtain ⟨k,R,st,hk,rfl,HI,HS⟩:=hrel
  obtain ⟨SA,sc,rfl,hs1,hs2,_⟩:=own_form HS.out.own
  by_cases hlt:k < n
  ·have ha:k < l.length:=by rw [H.out.len2];exact hlt
   have hv:k < V.length:=by rw [H.out.len];exact hlt
   have H1:=H.out.next HS.out.bel
   obtain ⟨p,o,rfl,_⟩:=nv_form H1.rd (by omega)
   have HM:=Lib.hid (H.out.means k hv ha)
   have HD:=rd_nv H1.rd hv
   obtain ⟨y,hy⟩:=may_some HMY.out ha HI.out.may
   have HNX:=Lib.hid (fun st' (hs:stepC l[k] st=some st')=>HI.out.next ha hy hs)
   have HNO:=Lib.hid (fun (hs:stepC l[k] st=none)=>codeF_stop ha HI.out.code hs)
   have HMC:=Lib.hid (mayStep_cases hy)
   have HCD:=Lib.hid HI.out.cd
   have HM7:=Lib.hid (fun hk=>mayStep_7 hy hk)
   have HLE:=Lib.hid HI.out.le
   generalize V[k]=v at HM HD
   generalize l[k]=s at HM HNX HNO HMC HM7
   clear ha hv H1 hy HI
   have e1:=HM.out.k;have e3:=HM.out.mn;have e5:=HM.out.mx
   obtain ⟨vk,X1,x1,y1,X2,x2,y2,X3,x3,y3,vm,vx⟩:=v
   dsimp only at e1 e3 e5 HD
   obtain ⟨sk,ss,sm,sx⟩:=s
   dsimp only at e1 e3 e5 HMC HM7
   subst e1 e3 e5
   obtain ⟨d0,d1,d2,d3,d4,d5⟩:=HD
   obtain ⟨q,hq⟩:∃q,q=st.length:=⟨_,rfl⟩
   have HQ:=Lib.hid hq
   have HOW:=Lib.hid (show wr.ownsRow w.heap.size 22 1 (.slice SA q sc) q (svs R.reverse) from by have h:=HS.out.own;rwa [←hq] at h)
   have HS2:=Lib.hid (show SR w wr (.slice SA q sc) R st from by have h:=HS.out;rwa [←hq] at h)
   have HSZ:=Lib.hid HS.out.bel.size
   have hqk:q≤k:=by have:=HLE.out;omega
   rw [←hq] at hs1 ⊢
   clear hq HS
   by_cases k1:vk=1
   ·subst k1
    have HB1:=Lib.hid (show Below wr.heap.size wr ((wr.alloc (.cells #[.int .i64 1,.slice X1 x1 y1,.slice X2 x2 y2,.slice X3 x3 y3,.int .i64 vm,.int .i64 vx] 100)).alloc (.cells #[.slice none 0 0] 22)) from ((Below.refl _ _).alloc (Nat.le_refl _) _).alloc (by simp) _)
    have HIR:=Lib.hid (show IR w w ((wr.alloc (.cells #[.int .i64 1,.slice X1 x1 y1,.slice X2 x2 y2,.slice X3 x3 y3,.int .i64 vm,.int .i64 vx] 100)).alloc (.cells #[.slice none 0 0] 22)) (SV.v ⟨none,0,0,[]⟩) [] [] from IR.nil (HS2.out.bel.trans (HB1.out.mono HS2.out.bel.size)))
    have HNI:=Lib.hid (HNX.out _ (stepC_1 rfl _))
    go_wp2_with (at_builtin;(refine wpList_append_rd _ rfl (.tmp 31) (.tmp 32) _ rfl w.heap.size 22 i0 _ 1 24 Tryz.underlying128 hi0 hz0 hz1 hz2 rfl (by decide) (.slice SA q sc) q (svs R.reverse) rfl (own_below HOW.out HB1.out) _ (some ⟨wr.heap.size+1,0,none⟩) 1 1 [.slice none 0 0] rfl rfl (rd_new _ _ _ _ (by simp)) (svs_one [⟨none,0,0,[]⟩]) (by unfold maxLen;omega) (by omega) (by simp;have:=HSZ.out;omega) ?_))
    intro v2 w2 hown hgr _
    have HN:=Lib.hid (HS2.out.push (x:=⟨none,0,0,[]⟩) (m:=[]) HB1.out HIR.out rfl (by rw [←HQ.out];exact hown) hgr)
    obtain ⟨A2,c2,rfl,_⟩:=own_form hown
    clear hown hgr
    go_wp2_with fail
    go_roundw
    case rel=>exact ⟨k+1,_,_,by omega,by go_num,HNI,HN⟩
    case measure=>simp [intOf];omega
   ·by_cases k2:vk=2
    ·subst k2
     have HBX:=Lib.hid (show Below wr.heap.size wr (wr.alloc (.cells #[.int .i64 2,.slice X1 x1 y1,.slice X2 x2 y2,.slice X3 x3 y3,.int .i64 vm,.int .i64 vx] 100)) from (Below.refl _ _).alloc (Nat.le_refl _) _)
     have HMY:=Lib.hid (show Means w ⟨1,X1,x1,y1,X2,x2,y2,X3,x3,y3,0,0⟩ (iS ss) from ⟨rfl,rfl,rfl,HM.out.set⟩)
     have HB1:=Lib.hid (show Below wr.heap.size wr (((wr.alloc (.cells #[.int .i64 2,.slice X1 x1 y1,.slice X2 x2 y2,.slice X3 x3 y3,.int .i64 vm,.int .i64 vx] 100)).alloc (.cells #[.int .i64 1,.slice X1 x1 y1,.slice X2 x2 y2,.slice X3 x3 y3,.int .i64 0,.int .i64 0] 76)).alloc (.cells #[.slice (some ⟨wr.heap.size+1,0,none⟩) 1 1] 22)) from (HBX.out.alloc (by simp) _).alloc (by simp;omega) _)
     have HIR:=Lib.hid (show IR w w (((wr.alloc (.cells #[.int .i64 2,.slice X1 x1 y1,.slice X2 x2 y2,.slice X3 x3 y3,.int .i64 vm,.int .i64 vx] 100)).alloc (.cells #[.int .i64 1,.slice X1 x1 y1,.slice X2 x2 y2,.slice X3 x3 y3,.int .i64 0,.int .i64 0] 76)).alloc (.cells #[.slice (some ⟨wr.heap.size+1,0,none⟩) 1 1] 22)) (SV.v ⟨some ⟨wr.heap.size+1,0,none⟩,1,1,[⟨1,X1,x1,y1,X2,x2,y2,X3,x3,y3,0,0⟩]⟩) [⟨1,X1,x1,y1,X2,x2,y2,X3,x3,y3,0,0⟩] [(iS ss)] from by
      have h:=(IR.lit (HS2.out.bel.trans (HBX.out.mono HS2.out.bel.size)) HMY.out).next ((Below.refl _ _).alloc (Nat.le_refl _) (.cells #[.slice (some ⟨wr.heap.size+1,0,none⟩) 1 1] 22))
      rw [World.size_alloc] at h
      exact h)
     have HNI:=Lib.hid (HNX.out _ (stepC_2 rfl _))
     go_wp2_with (at_builtin;(refine wpList_append_rd _ rfl (.tmp 36) (.tmp 41) _ rfl w.heap.size 22 i0 _ 1 24 Tryz.underlying128 hi0 hz0 hz1 hz2 rfl (by decide) (.slice SA q sc) q (svs R.reverse) rfl (own_below HOW.out HB1.out) _ (some ⟨wr.heap.size+1+1,0,none⟩) 1 1 [.slice (some ⟨wr.heap.size+1,0,none⟩) 1 1] rfl rfl (rd_new _ _ _ _ (by simp)) (svs_one [⟨some ⟨wr.heap.size+1,0,none⟩,1,1,[⟨1,X1,x1,y1,X2,x2,y2,X3,x3,y3,0,0⟩]⟩]) (by unfold maxLen;omega) (by omega) (by simp;have:=HSZ.out;omega) ?_))
     intro v2 w2 hown hgr _
     have HN:=Lib.hid (HS2.out.push (x:=⟨some ⟨wr.heap.size+1,0,none⟩,1,1,[⟨1,X1,x1,y1,X2,x2,y2,X3,x3,y3,0,0⟩]⟩) (m:=[(iS ss)]) HB1.out HIR.out rfl (by rw [←HQ.out];exact hown) hgr)
     obtain ⟨A2,c2,rfl,_⟩:=own_form hown
     clear hown hgr
     go_wp2_with fail
     go_roundw
     case rel=>exact ⟨k+1,_,_,by omega,by go_num,HNI,HN⟩
     case measure=>simp [intOf];omega
    ·by_cases k3:vk=3
     ·subst k3
      have HBX:=Lib.hid (show Below wr.heap.size wr (wr.alloc (.cells #[.int .i64 3,.slice X1 x1 y1,.slice X2 x2 y2,.slice X3 x3 y3,.int .i64 vm,.int .i64 vx] 100)) from (Below.refl _ _).alloc (Nat.le_refl _) _)
      have HMY:=Lib.hid (show Means w ⟨4,none,0,0,none,0,0,none,0,0,0,0⟩ (iO 4) from means_op w 4 0 0)
      have HB1:=Lib.hid (show Below wr.heap.size wr (((wr.alloc (.cells #[.int .i64 3,.slice X1 x1 y1,.slice X2 x2 y2,.slice X3 x3 y3,.int .i64 vm,.int .i64 vx] 100)).alloc (.cells #[.int .i64 4,.slice none 0 0,.slice none 0 0,.slice none 0 0,.int .i64 0,.int .i64 0] 76)).alloc (.cells #[.slice (some ⟨wr.heap.size+1,0,none⟩) 1 1] 22)) from (HBX.out.alloc (by simp) _).alloc (by simp;omega) _)
      have HIR:=Lib.hid (show IR w w (((wr.alloc (.cells #[.int .i64 3,.slice X1 x1 y1,.slice X2 x2 y2,.slice X3 x3 y3,.int .i64 vm,.int .i64 vx] 100)).alloc (.cells #[.int .i64 4,.slice none 0 0,.slice none 0 0,.slice none 0 0,.int .i64 0,.int .i64 0] 76)).alloc (.cells #[.slice (some ⟨wr.heap.size+1,0,none⟩) 1 1] 22)) (SV.v ⟨some ⟨wr.heap.size+1,0,none⟩,1,1,[⟨4,none,0,0,none,0,0,none,0,0,0,0⟩]⟩) [⟨4,none,0,0,none,0,0,none,0,0,0,0⟩] [(iO 4)] from by
       have h:=(IR.lit (HS2.out.bel.trans (HBX.out.mono HS2.out.bel.size)) HMY.out).next ((Below.refl _ _).alloc (Nat.le_refl _) (.cells #[.slice (some ⟨wr.heap.size+1,0,none⟩) 1 1] 22))
       rw [World.size_alloc] at h
       exact h)
      have HNI:=Lib.hid (HNX.out _ (stepC_3 rfl _))
      go_wp2_with (at_builtin;(refine wpList_append_rd _ rfl (.tmp 45) (.tmp 48) _ rfl w.heap.size 22 i0 _ 1 24 Tryz.underlying128 hi0 hz0 hz1 hz2 rfl (by decide) (.slice SA q sc) q (svs R.reverse) rfl (own_below HOW.out HB1.out) _ (some ⟨wr.heap.size+1+1,0,none⟩) 1 1 [.slice (some ⟨wr.heap.size+1,0,none⟩) 1 1] rfl rfl (rd_new _ _ _ _ (by simp)) (svs_one [⟨some ⟨wr.heap.size+1,0,none⟩,1,1,[⟨4,none,0,0,none,0,0,none,0,0,0,0⟩]⟩]) (by unfold maxLen;omega) (by omega) (by simp;have:=HSZ.out;omega) ?_))
      intro v2 w2 hown hgr _
      have HN:=Lib.hid (HS2.out.push (x:=⟨some ⟨wr.heap.size+1,0,none⟩,1,1,[⟨4,none,0,0,none,0,0,none,0,0,0,0⟩]⟩) (m:=[(iO 4)]) HB1.out HIR.out rfl (by rw [←HQ.out];exact hown) hgr)
      obtain ⟨A2,c2,rfl,_⟩:=own_form hown
      clear hown hgr
      go_wp2_with fail
      go_roundw
      case rel=>exact ⟨k+1,_,_,by omega,by go_num,HNI,HN⟩
      case measure=>simp [intOf];omega
     ·by_cases k4:vk=4
      ·subst k4
       have HBX:=Lib.hid (show Below wr.heap.size wr (wr.alloc (.cells #[.int .i64 4,.slice X1 x1 y1,.slice X2 x2 y2,.slice X3 x3 y3,.int .i64 vm,.int .i64 vx] 100)) from (Below.refl _ _).alloc (Nat.le_refl _) _)
       have HMY:=Lib.hid (show Means w ⟨5,none,0,0,none,0,0,none,0,0,0,0⟩ (iO 5) from means_op w 5 0 0)
       have HB1:=Lib.hid (show Below wr.heap.size wr (((wr.alloc (.cells #[.int .i64 4,.slice X1 x1 y1,.slice X2 x2 y2,.slice X3 x3 y3,.int .i64 vm,.int .i64 vx] 100)).alloc (.cells #[.int .i64 5,.slice none 0 0,.slice none 0 0,.slice none 0 0,.int .i64 0,.int .i64 0] 76)).alloc (.cells #[.slice (some ⟨wr.heap.size+1,0,none⟩) 1 1] 22)) from (HBX.out.alloc (by simp) _).alloc (by simp;omega) _)
       have HIR:=Lib.hid (show IR w w (((wr.alloc (.cells #[.int .i64 4,.slice X1 x1 y1,.slice X2 x2 y2,.slice X3 x3 y3,.int .i64 vm,.int .i64 vx] 100)).alloc (.cells #[.int .i64 5,.slice none 0 0,.slice none 0 0,.slice none 0 0,.int .i64 0,.int .i64 0] 76)).alloc (.cells #[.slice (some ⟨wr.heap.size+1,0,none⟩) 1 1] 22)) (SV.v ⟨some ⟨wr.heap.size+1,0,none⟩,1,1,[⟨5,none,0,0,none,0,0,none,0,0,0,0⟩]⟩) [⟨5,none,0,0,none,0,0,none,0,0,0,0⟩] [(iO 5)] from by
        have h:=(IR.lit (HS2.out.bel.trans (HBX.out.mono HS2.out.bel.size)) HMY.out).next ((Below.refl _ _).alloc (Nat.le_refl _) (.cells #[.slice (some ⟨wr.heap.size+1,0,none⟩) 1 1] 22))
        rw [World.size_alloc] at h
        exact h)
       have HNI:=Lib.hid (HNX.out _ (stepC_4 rfl _))
       go_wp2_with (at_builtin;(refine wpList_append_rd _ rfl (.tmp 52) (.tmp 55) _ rfl w.heap.size 22 i0 _ 1 24 Tryz.underlying128 hi0 hz0 hz1 hz2 rfl (by decide) (.slice SA q sc) q (svs R.reverse) rfl (own_below HOW.out HB1.out) _ (some ⟨wr.heap.size+1+1,0,none⟩) 1 1 [.slice (some ⟨wr.heap.size+1,0,none⟩) 1 1] rfl rfl (rd_new _ _ _ _ (by simp)) (svs_one [⟨some ⟨wr.heap.size+1,0,none⟩,1,1,[⟨5,none,0,0,none,0,0,none,0,0,0,0⟩]⟩]) (by unfold maxLen;omega) (by omega) (by simp;have:=HSZ.out;omega) ?_))
       intro v2 w2 hown hgr _
       have HN:=Lib.hid (HS2.out.push (x:=⟨some ⟨wr.heap.size+1,0,none⟩,1,1,[⟨5,none,0,0,none,0,0,none,0,0,0,0⟩]⟩) (m:=[(iO 5)]) HB1.out HIR.out rfl (by rw [←HQ.out];exact hown) hgr)
       obtain ⟨A2,c2,rfl,_⟩:=own_form hown
       clear hown hgr
       go_wp2_with fail
       go_roundw
       case rel=>exact ⟨k+1,_,_,by omega,by go_num,HNI,HN⟩
       case measure=>simp [intOf];omega
      ·by_cases k5:vk=5
       ·subst k5
        obtain ⟨b,a,r,rfl⟩:=two_of (st:=st) (by rcases HMC.out with ⟨h,_⟩ | ⟨h,_⟩ | ⟨⟨h,_⟩ | h,_⟩ | ⟨_,h,_⟩ <;> first | omega | exact h)
        obtain ⟨sb,sa,Rr,rfl⟩:∃sb sa Rr,R=sb :: sa :: Rr:=by
         have h:=HS2.out.cs.len
         match R,h with
         | sb :: sa :: Rr,_=>exact ⟨_,_,_,rfl⟩
         | [],h=>simp at h
         | [_],h=>simp at h
        obtain ⟨g,c0,e0,hc1,hc2,hg1,hg2⟩:=HS2.out.addr
        obtain ⟨rl,hrl⟩:∃rl,rl=r.length:=⟨_,rfl⟩
        obtain rfl:q=rl+2:=by rw [HQ.out,hrl];rfl
        have e0':=e0
        simp only [Value.slice.injEq] at e0'
        obtain ⟨rfl,e9,rfl⟩:=e0'
        clear e0 e9
        obtain ⟨gb,hgb⟩:∃gb,gb=wr.heap.size:=⟨_,rfl⟩
        obtain ⟨W,hW⟩:∃W,W=wr.alloc (.cells #[.int .i64 5,.slice X1 x1 y1,.slice X2 x2 y2,.slice X3 x3 y3,.int .i64 vm,.int .i64 vx] 100):=⟨_,rfl⟩
        have hbW:Below wr.heap.size wr W:=by rw [hW];exact (Below.refl _ _).alloc (Nat.le_refl _) _
        have HS3:=Lib.hid (HS2.out.next hbW)
        have HBW:=Lib.hid (HS2.out.bel.trans (hbW.mono HS2.out.bel.size))
        have HBX:=Lib.hid (show Blk W gb 100 [.int .i64 5,.slice X1 x1 y1,.slice X2 x2 y2,.slice X3 x3 y3,.int .i64 vm,.int .i64 vx] from by rw [hW,hgb];exact Blk.new wr _ _)
        have HW:=Lib.hid hW;have HG:=Lib.hid hgb
        have HRL:=Lib.hid hrl
        have x1':=HS3.out.c1.1
        have hcut:=HS3.out.cut (n:=rl+1) (by simp [hrl])
        have x2':=hcut.c1.1
        rw [List.length_cons,←hrl] at x1'
        rw [←hrl] at x2'
        have HCB:=Lib.hid (HCD.out b List.mem_cons_self);have HCA:=Lib.hid (HCD.out a (List.mem_cons_of_mem _ List.mem_cons_self))
        have HIB:=Lib.hid HS3.out.cs.1;have HIA:=Lib.hid hcut.cs.1
        have HCT:=Lib.hid hcut
        obtain ⟨Ab,nb,cb,Vb⟩:=sb
        obtain ⟨Aa,na,ca,Va⟩:=sa
        dsimp only [SV.v] at x1' x2' HIB HIA
        have hna:na≤4095:=by have h:=HIA.out.2;have:=HCA.out.2;rw [h] at this;exact this
        have hnb:nb≤4095:=by have h:=HIB.out.2;have:=HCB.out.2;rw [h] at this;exact this
        have hgW:g < W.heap.size:=Nat.lt_of_lt_of_le hg2 hbW.size
        clear hrl hW hgb hbW hcut
        go_wp2_with fail
        rw [←HW.out,←HG.out]
        go_region
        have HD:=Lib.hid (show Below W.heap.size W W.drew from (Below.refl _ _).drew)
        by_cases hb:4095 < na+nb
        ·have HZ:=Lib.hid (HNO.out (by
          rw [stepC_5 rfl]
          unfold fits
          rw [if_neg (by rw [put_len,HIA.out.2,HIB.out.2];omega)];rfl))
         go_wp2_with fail
         go_ret2
         exact .inr ⟨HZ.out,rfl,HBW.out.trans (HD.out.mono HBW.out.size)⟩
        ·have HNI:=Lib.hid (HNX.out (put a b :: r) (by
          rw [stepC_5 rfl]
          unfold fits
          rw [if_pos (by rw [put_len,HIA.out.2,HIB.out.2];omega)];rfl))
         have HGA:=Lib.hid ((HIA.out.1.arg HIA.out.2).next HD.out);have HGB:=Lib.hid ((HIB.out.1.arg HIB.out.2).next HD.out)
         have HCT2:=Lib.hid (HCT.out.next HD.out)
         have HBW2:=Lib.hid (HBW.out.trans (HD.out.mono HBW.out.size))
         clear x1' x2'
         generalize W.drew=W2 at *
         go_wp2_with fail
         refine (rput_any (w0:=w) (wb:=W2) (IR.nil (Below.refl _ _)) HGA.out HCA.out.1 (Nat.zero_le _) hna).mono ?_
         rintro e w1 ⟨v1,V1,rfl,h1⟩
         rw [put_nil] at h1
         obtain ⟨A1,c1,rfl,_⟩:=h1.form
         have HP1:=Lib.hid h1
         clear h1
         go_wp2_with fail
         refine (rput_any HP1.out HGB.out HCB.out.1 (by have:=HIA.out.2;omega) hnb).mono ?_
         rintro e w2 ⟨v2,V2,rfl,h2⟩
         obtain ⟨A2,c2,rfl,_⟩:=h2.form
         have hL:(put a b).length=na+nb:=by rw [put_len,HIA.out.2,HIB.out.2]
         rw [hL] at h2 ⊢
         have h3:=HCT2.out.next h2.bel
         have hc1:=h3.c1.1;have hf1:=h3.c1.2
         rw [←HRL.out] at hc1 hf1
         have HN:=Lib.hid (h3.put (x:=⟨A2,na+nb,c2,V2⟩) (h2.up HBW2.out) hL)
         rw [←HRL.out] at HN
         clear h2 h3 hL
         dsimp only [SV.v] at hc1 HN
         go_wp2_with fail
         go_roundw
         case rel=>exact ⟨k+1,_,_,by omega,by go_num,HNI,HN⟩
         case measure=>simp [intOf];omega
       ·by_cases k6:vk=6
        ·subst k6
         obtain ⟨b,a,r,rfl⟩:=two_of (st:=st) (by rcases HMC.out with ⟨h,_⟩ | ⟨h,_⟩ | ⟨⟨h,_⟩ | h,_⟩ | ⟨_,h,_⟩ <;> first | omega | exact h)
         obtain ⟨sb,sa,Rr,rfl⟩:∃sb sa Rr,R=sb :: sa :: Rr:=by
          have h:=HS2.out.cs.len
          match R,h with
          | sb :: sa :: Rr,_=>exact ⟨_,_,_,rfl⟩
          | [],h=>simp at h
          | [_],h=>simp at h
         obtain ⟨g,c0,e0,hc1,hc2,hg1,hg2⟩:=HS2.out.addr
         obtain ⟨rl,hrl⟩:∃rl,rl=r.length:=⟨_,rfl⟩
         obtain rfl:q=rl+2:=by rw [HQ.out,hrl];rfl
         have e0':=e0
         simp only [Value.slice.injEq] at e0'
         obtain ⟨rfl,e9,rfl⟩:=e0'
         clear e0 e9
         obtain ⟨gb,hgb⟩:∃gb,gb=wr.heap.size:=⟨_,rfl⟩
         obtain ⟨W,hW⟩:∃W,W=wr.alloc (.cells #[.int .i64 6,.slice X1 x1 y1,.slice X2 x2 y2,.slice X3 x3 y3,.int .i64 vm,.int .i64 vx] 100):=⟨_,rfl⟩
         have hbW:Below wr.heap.size wr W:=by rw [hW];exact (Below.refl _ _).alloc (Nat.le_refl _) _
         have HS3:=Lib.hid (HS2.out.next hbW)
         have HBW:=Lib.hid (HS2.out.bel.trans (hbW.mono HS2.out.bel.size))
         have HBX:=Lib.hid (show Blk W gb 100 [.int .i64 6,.slice X1 x1 y1,.slice X2 x2 y2,.slice X3 x3 y3,.int .i64 vm,.int .i64 vx] from by rw [hW,hgb];exact Blk.new wr _ _)
         have HW:=Lib.hid hW;have HG:=Lib.hid hgb
         have HRL:=Lib.hid hrl
         have x1':=HS3.out.c1.1
         have hcut:=HS3.out.cut (n:=rl+1) (by simp [hrl])
         have x2':=hcut.c1.1
         rw [List.length_cons,←hrl] at x1'
         rw [←hrl] at x2'
         have HCB:=Lib.hid (HCD.out b List.mem_cons_self);have HCA:=Lib.hid (HCD.out a (List.mem_cons_of_mem _ List.mem_cons_self))
         have HIB:=Lib.hid HS3.out.cs.1;have HIA:=Lib.hid hcut.cs.1
         have HCT:=Lib.hid hcut
         obtain ⟨Ab,nb,cb,Vb⟩:=sb
         obtain ⟨Aa,na,ca,Va⟩:=sa
         dsimp only [SV.v] at x1' x2' HIB HIA
         have hna:na≤4095:=by have h:=HIA.out.2;have:=HCA.out.2;rw [h] at this;exact this
         have hnb:nb≤4095:=by have h:=HIB.out.2;have:=HCB.out.2;rw [h] at this;exact this
         have hgW:g < W.heap.size:=Nat.lt_of_lt_of_le hg2 hbW.size
         clear hrl hW hgb hbW hcut
         go_wp2_with fail
         rw [←HW.out,←HG.out]
         go_region
         have HD:=Lib.hid (show Below W.heap.size W W.drew from (Below.refl _ _).drew)
         by_cases hb:4095 < na+nb+2
         ·have HZ:=Lib.hid (HNO.out (by
           rw [stepC_6 rfl]
           unfold fits
           rw [if_neg (by rw [orL_len,HIA.out.2,HIB.out.2];omega)];rfl))
          go_wp2_with fail
          go_ret2
          exact .inr ⟨HZ.out,rfl,HBW.out.trans (HD.out.mono HBW.out.size)⟩
         ·have HNI:=Lib.hid (HNX.out (orL a b :: r) (by
           rw [stepC_6 rfl]
           unfold fits
           rw [if_pos (by rw [orL_len,HIA.out.2,HIB.out.2];omega)];rfl))
          have HGA:=Lib.hid ((HIA.out.1.arg HIA.out.2).next HD.out);have HGB:=Lib.hid ((HIB.out.1.arg HIB.out.2).next HD.out)
          have HCT2:=Lib.hid (HCT.out.next HD.out)
          have HBW2:=Lib.hid (HBW.out.trans (HD.out.mono HBW.out.size))
          have HOR:=Lib.hid (show orL a b=put (put [iSp 1 (na+2)] a++[iJ (na+nb+2)]) b from by unfold orL;rw [HIA.out.2,HIB.out.2])
          clear x1' x2'
          generalize W.drew=W2 at *
          have HLT:=Lib.hid (IR.lit (w0:=w) (wb:=W2) (w:=W2) (Below.refl _ _) (means_op w 2 1 (na+2)))
          go_wp2_with fail
          refine (rput_any HLT.out HGA.out HCA.out.1 (by simp) hna).mono ?_
          rintro e w1 ⟨v1,V1,rfl,h1⟩
          have HL1:=Lib.hid (show (put [(⟨2,none_,1,na+2⟩:Ins)] a).length=na+1 from by rw [put_len,HIA.out.2,List.length_singleton];omega)
          have HOR2:=Lib.hid (show orL a b=put (put [(⟨2,none_,1,na+2⟩:Ins)] a++[iJ (na+nb+2)]) b from HOR.out)
          generalize put [(⟨2,none_,1,na+2⟩:Ins)] a=L1 at *
          obtain ⟨A1,c1,rfl,_⟩:=h1.form
          rw [HL1.out] at h1 ⊢
          have HP1:=Lib.hid h1
          have HO1:=Lib.hid (show w1.ownsRow W2.heap.size 76 6 (.slice A1 (na+1) c1) (na+1) (nvs V1) from by have h:=h1.own;rwa [HL1.out] at h)
          have HS1:=Lib.hid h1.bel.size
          clear h1 HLT HOR
          go_wp2_with (at_builtin;(refine wpList_append_rd _ rfl (.tmp 113) (.tmp 121) _ rfl W2.heap.size 76 i1 _ 6 96 Tryz.underlying22 hj0 hy0 hy1 hy2 rfl (by decide) (.slice A1 (na+1) c1) (na+1) (nvs V1) rfl (own_below HO1.out ((Below.refl _ _).alloc (Nat.le_refl _) _)) _ (some ⟨w1.heap.size,0,none⟩) 1 1 [.int .i64 3,.slice none 0 0,.slice none 0 0,.slice none 0 0,.int .i64 (na+nb+2),.int .i64 0] rfl rfl (rd_new _ _ _ _ rfl) (nv_one ⟨3,none,0,0,none,0,0,none,0,0,na+nb+2,0⟩) (by unfold maxLen;omega) (by omega) (by simp;have:=HS1.out;omega) ?_))
          intro v2 w2 hown hgr _
          have HP2:=Lib.hid (show IR w W2 w2 v2 (V1++[⟨3,none,0,0,none,0,0,none,0,0,na+nb+2,0⟩]) (L1++[iJ (na+nb+2)]) from
           HP1.out.snoc (means_op w 3 _ _) ((Below.refl _ _).alloc (Nat.le_refl _) _) (by rw [HL1.out];exact hown) hgr)
          obtain ⟨A2,c2,rfl,_⟩:=own_form hown
          clear hown hgr
          go_wp2_with fail
          refine (rput_any HP2.out HGB.out HCB.out.1 (by rw [List.length_append,HL1.out];simp;omega) hnb).mono ?_
          rintro e w3 ⟨v3,V3,rfl,h3⟩
          rw [←HOR2.out] at h3
          obtain ⟨A3,c3,rfl,_⟩:=h3.form
          have hL:(orL a b).length=na+nb+2:=by rw [orL_len,HIA.out.2,HIB.out.2]
          rw [hL] at h3 ⊢
          have h4:=HCT2.out.next h3.bel
          have hc1:=h4.c1.1;have hf1:=h4.c1.2
          rw [←HRL.out] at hc1 hf1
          have HN:=Lib.hid (h4.put (x:=⟨A3,na+nb+2,c3,V3⟩) (h3.up HBW2.out) hL)
          rw [←HRL.out] at HN
          clear h3 h4
          clear hL
          dsimp only [SV.v] at hc1 HN
          go_wp2_with fail
          go_roundw
          case rel=>exact ⟨k+1,_,_,by omega,by go_num,HNI,HN⟩
          case measure=>simp [intOf];omega
        ·by_cases k7:vk=7
         ·subst k7
          obtain ⟨a,r,rfl⟩:=one_of (st:=st) (by rcases HMC.out with ⟨_,h,_⟩ | ⟨h,_⟩ | ⟨⟨h,_⟩ | h,_⟩ | ⟨h | h,_⟩ <;> first | exact h | omega)
          obtain ⟨sa,Rr,rfl⟩:∃sa Rr,R=sa :: Rr:=by
           have h:=HS2.out.cs.len
           match R,h with
           | sa :: Rr,_=>exact ⟨_,_,rfl⟩
           | [],h=>simp at h
          obtain ⟨h7a,h7b⟩:0≤vm∧(vm≤vx∨vx=-1):=by rcases HMC.out with ⟨_,_,_,h1,h2⟩ | ⟨h,_⟩ | ⟨⟨h,_⟩ | h,_⟩ | ⟨h | h,_⟩ <;> first | exact ⟨h1,h2⟩ | omega
          obtain ⟨h7c,h7d⟩:=HM7.out rfl
          obtain ⟨lo,hlo⟩:=Int.eq_ofNat_of_zero_le h7a
          subst hlo
          obtain ⟨g,c0,e0,hc1,hc2,hg1,hg2⟩:=HS2.out.addr
          obtain ⟨rl,hrl⟩:∃rl,rl=r.length:=⟨_,rfl⟩
          obtain rfl:q=rl+1:=by rw [HQ.out,hrl];rfl
          have e0':=e0
          simp only [Value.slice.injEq] at e0'
          obtain ⟨rfl,e9,rfl⟩:=e0'
          clear e0 e9
          obtain ⟨gb,hgb⟩:∃gb,gb=wr.heap.size:=⟨_,rfl⟩
          obtain ⟨W,hW⟩:∃W,W=wr.alloc (.cells #[.int .i64 7,.slice X1 x1 y1,.slice X2 x2 y2,.slice X3 x3 y3,.int .i64 (lo:Int),.int .i64 vx] 100):=⟨_,rfl⟩
          have hbW:Below wr.heap.size wr W:=by rw [hW];exact (Below.refl _ _).alloc (Nat.le_refl _) _
          have HS3:=Lib.hid (HS2.out.next hbW)
          have HBW:=Lib.hid (HS2.out.bel.trans (hbW.mono HS2.out.bel.size))
          have HBX:=Lib.hid (show Blk W gb 100 [.int .i64 7,.slice X1 x1 y1,.slice X2 x2 y2,.slice X3 x3 y3,.int .i64 (lo:Int),.int .i64 vx] from by rw [hW,hgb];exact Blk.new wr _ _)
          have HW:=Lib.hid hW;have HG:=Lib.hid hgb
          have HRL:=Lib.hid hrl
          have HCA:=Lib.hid (HCD.out a List.mem_cons_self)
          have HIA:=Lib.hid HS3.out.cs.1
          obtain ⟨Aa,na,ca,Va⟩:=sa
          dsimp only [SV.v] at HIA
          have HSW:=Lib.hid (show ∀u,Below W.heap.size W u→u.cell? ⟨g,rl,none⟩=some (.slice Aa na ca)∧u.cell? ⟨gb,4,none⟩=some (.int .i64 (lo:Int))∧u.cell? ⟨gb,5,none⟩=some (.int .i64 vx) from fun u hu =>
           ⟨by rw [hrl];exact (HS3.out.next hu).c1.1,(HBX.out.below hu HBX.out.lt).cell 4,(HBX.out.below hu HBX.out.lt).cell 5⟩)
          have hna:na≤4095:=by have h:=HIA.out.2;have:=HCA.out.2;rw [h] at this;exact this
          have hx1:IntKind.i64.wrap (rl:Int)=(rl:Int):=by rw [IntKind.wrap_i64];omega
          have hx2:(rl:Int) < (rl:Int)+1:=by omega
          clear hrl hW hgb hbW
          go_wp2_with fail
          rw [←HW.out,←HG.out]
          refine wp_region_held_drew (S:=fun u=>u.cell? ⟨g,rl,none⟩=some (.slice Aa na ca)∧u.cell? ⟨gb,4,none⟩=some (.int .i64 (lo:Int))∧u.cell? ⟨gb,5,none⟩=some (.int .i64 vx)) (by kernel_rfl) (HSW.out _ (Below.refl _ _).drew) (fun hHeld=>?_)
          refine wpAnyH_take (i:=0) (oi:=_) (v:=?_) rfl (by kernel_rfl) (by kernel_rfl) (by kernel_rfl) (fun _ _ _ h=>h) (Or.inl ⟨by rfl,?_⟩) (by assumption) ?_
          rotate_left
          ·(intro w hSw;(try dsimp only at hSw);(try obtain ⟨s1_,s2_,s3_⟩:=hSw);go_simp <;> with_reducible rfl)
          simp only [List.getElem_toArray,List.getElem_cons_zero,Act.put,List.setIfInBounds_toArray,List.set_cons_zero,List.set_cons_succ]
          refine wpAnyH_take (i:=1) (oi:=_) (v:=?_) rfl (by kernel_rfl) (by kernel_rfl) (by kernel_rfl) (fun _ _ _ h=>h) (Or.inl ⟨by rfl,?_⟩) (by assumption) ?_
          rotate_left
          ·(intro w hSw;(try dsimp only at hSw);(try obtain ⟨s1_,s2_,s3_⟩:=hSw);go_simp <;> with_reducible rfl)
          simp only [List.getElem_toArray,List.getElem_cons_succ,List.getElem_cons_zero,Act.put,List.setIfInBounds_toArray,List.set_cons_zero,List.set_cons_succ]
          refine wpAnyH_take (i:=2) (oi:=_) (v:=?_) rfl (by kernel_rfl) (by kernel_rfl) (by kernel_rfl) (fun _ _ _ h=>h) (Or.inl ⟨by rfl,?_⟩) (by assumption) ?_
          rotate_left
          ·(intro w hSw;(try dsimp only at hSw);(try obtain ⟨s1_,s2_,s3_⟩:=hSw);go_simp <;> with_reducible rfl)
          simp only [List.getElem_toArray,List.getElem_cons_succ,List.getElem_cons_zero,Act.put,List.setIfInBounds_toArray,List.set_cons_zero,List.set_cons_succ]
          refine wpAnyH_take (i:=3) (oi:=_) (v:=?_) rfl (by kernel_rfl) (by kernel_rfl) (by kernel_rfl) (fun _ _ _ h=>h) (Or.inl ⟨by rfl,?_⟩) (by assumption) ?_
          rotate_left
          ·(intro w hSw;(try dsimp only at hSw);(try obtain ⟨s1_,s2_,s3_⟩:=hSw);go_simp <;> with_reducible rfl)
          simp only [List.getElem_toArray,List.getElem_cons_succ,List.getElem_cons_zero,Act.put,List.setIfInBounds_toArray,List.set_cons_zero,List.set_cons_succ]
          refine wpAnyH_take (i:=4) (oi:=_) (v:=?_) rfl (by kernel_rfl) (by kernel_rfl) (by kernel_rfl) (fun _ _ _ h=>h) (Or.inl ⟨by rfl,?_⟩) (by assumption) ?_
          rotate_left
          ·(intro w hSw;(try dsimp only at hSw);(try obtain ⟨s1_,s2_,s3_⟩:=hSw);go_simp <;> with_reducible rfl)
          simp only [List.getElem_toArray,List.getElem_cons_succ,List.getElem_cons_zero,Act.put,List.setIfInBounds_toArray,List.set_cons_zero,List.set_cons_succ]
          refine wpAnyH_take (i:=5) (oi:=_) (v:=?_) rfl (by kernel_rfl) (by kernel_rfl) (by kernel_rfl) (fun _ _ _ h=>h) (Or.inl ⟨by rfl,?_⟩) (by assumption) ?_
          rotate_left
          ·(intro w hSw;(try dsimp only at hSw);(try obtain ⟨s1_,s2_,s3_⟩:=hSw);go_simp <;> with_reducible rfl)
          simp only [List.getElem_toArray,List.getElem_cons_succ,List.getElem_cons_zero,Act.put,List.setIfInBounds_toArray,List.set_cons_zero,List.set_cons_succ]
          refine wpAnyH_take (i:=6) (oi:=_) (v:=?_) rfl (by kernel_rfl) (by kernel_rfl) (by kernel_rfl) (fun _ _ _ h=>h) (Or.inl ⟨by rfl,?_⟩) (by assumption) ?_
          rotate_left
          ·(intro w hSw;(try dsimp only at hSw);(try obtain ⟨s1_,s2_,s3_⟩:=hSw);go_simp <;> with_reducible rfl)
          simp only [List.getElem_toArray,List.getElem_cons_succ,List.getElem_cons_zero,Act.put,List.setIfInBounds_toArray,List.set_cons_zero,List.set_cons_succ]
          refine wpAnyH_take (i:=7) (oi:=_) (v:=?_) rfl (by kernel_rfl) (by kernel_rfl) (by kernel_rfl) (fun _ _ _ h=>h) (Or.inl ⟨by rfl,?_⟩) (by assumption) ?_
          rotate_left
          ·(intro w hSw;(try dsimp only at hSw);(try obtain ⟨s1_,s2_,s3_⟩:=hSw);go_simp <;> with_reducible rfl)
          simp only [List.getElem_toArray,List.getElem_cons_succ,List.getElem_cons_zero,Act.put,List.setIfInBounds_toArray,List.set_cons_zero,List.set_cons_succ]
          refine wpAnyH_take (i:=8) (oi:=_) (v:=?_) rfl (by kernel_rfl) (by kernel_rfl) (by kernel_rfl) (fun _ _ _ h=>h) (Or.inl ⟨by rfl,?_⟩) (by assumption) ?_
          rotate_left
          ·(intro w hSw;(try dsimp only at hSw);(try obtain ⟨s1_,s2_,s3_⟩:=hSw);go_simp <;> with_reducible rfl)
          simp only [List.getElem_toArray,List.getElem_cons_succ,List.getElem_cons_zero,Act.put,List.setIfInBounds_toArray,List.set_cons_zero,List.set_cons_succ]
          refine wpAnyH_ready (rs:=[9]) (by kernel_rfl) (by simp) (AllReadyH.cons rfl (fun K hK=>?_) AllReadyH.nil)
          go_simp
          refine (rrepeat_any (w0:=w) (w:=W.drew) ((HIA.out.1.arg HIA.out.2).next (Below.refl _ _).drew) HCA.out.1 hna lo vx (by omega) h7d h7b).mono ?_
          rintro e w1 (⟨hle,v1,V1,rfl,h1⟩ | ⟨hgt,rfl,hb1⟩)
          ·have HNI:=Lib.hid (HNX.out (repC a lo vx :: r) (by
            rw [stepC_7 rfl]
            unfold fits
            rw [if_pos hle];rfl))
           have HB1:=Lib.hid (show Below W.heap.size W w1 from (Below.refl _ _).drew.trans h1.bel)
           obtain ⟨A1,c1,rfl,_⟩:=h1.form
           generalize repC a lo vx=L at *
           have HN:=Lib.hid ((HS3.out.next HB1.out).put (x:=⟨A1,L.length,c1,V1⟩) (h1.up (HBW.out.trans ((Below.refl _ _).drew.mono HBW.out.size))) rfl)
           have HCF:=Lib.hid (HS3.out.next HB1.out).c1
           rw [←HRL.out] at HN HCF
           clear h1 hle
           refine hK.out _ _ (HSW.out _ HB1.out) (fun hHeld2=>?_)
           clear hK K hHeld
           have hHeld:=hHeld2
           clear hHeld2
           refine wpAnyH_take (i:=10) (oi:=_) (v:=?_) rfl (by kernel_rfl) (by kernel_rfl) (by kernel_rfl) (fun _ _ _ h=>h) (Or.inl ⟨by rfl,?_⟩) (by assumption) ?_
           rotate_left
           ·(intro w hSw;(try dsimp only at hSw);(try obtain ⟨s1_,s2_,s3_⟩:=hSw);go_simp <;> with_reducible rfl)
           simp only [List.getElem_toArray,List.getElem_cons_succ,List.getElem_cons_zero,Act.put,List.setIfInBounds_toArray,List.set_cons_zero,List.set_cons_succ]
           refine wpAnyH_take (i:=11) (oi:=_) (v:=?_) rfl (by kernel_rfl) (by kernel_rfl) (by kernel_rfl) (fun _ _ _ h=>h) (Or.inl ⟨by rfl,?_⟩) (by assumption) ?_
           rotate_left
           ·(intro w hSw;(try dsimp only at hSw);(try obtain ⟨s1_,s2_,s3_⟩:=hSw);go_simp <;> with_reducible rfl)
           simp only [List.getElem_toArray,List.getElem_cons_succ,List.getElem_cons_zero,Act.put,List.setIfInBounds_toArray,List.set_cons_zero,List.set_cons_succ]
           refine wpAnyH_take (i:=12) (oi:=_) (v:=?_) rfl (by kernel_rfl) (by kernel_rfl) (by kernel_rfl) (fun _ _ _ h=>h) (Or.inl ⟨by rfl,?_⟩) (by assumption) ?_
           rotate_left
           ·(intro w hSw;(try dsimp only at hSw);(try obtain ⟨s1_,s2_,s3_⟩:=hSw);go_simp <;> with_reducible rfl)
           simp only [List.getElem_toArray,List.getElem_cons_succ,List.getElem_cons_zero,Act.put,List.setIfInBounds_toArray,List.set_cons_zero,List.set_cons_succ]
           refine wpAnyH_take (i:=13) (oi:=_) (v:=?_) rfl (by kernel_rfl) (by kernel_rfl) (by kernel_rfl) (fun _ _ _ h=>h) (Or.inl ⟨by rfl,?_⟩) (by assumption) ?_
           rotate_left
           ·(intro w hSw;(try dsimp only at hSw);(try obtain ⟨s1_,s2_,s3_⟩:=hSw);go_simp <;> with_reducible rfl)
           simp only [List.getElem_toArray,List.getElem_cons_succ,List.getElem_cons_zero,Act.put,List.setIfInBounds_toArray,List.set_cons_zero,List.set_cons_succ]
           refine wpAnyH_take (i:=14) (oi:=_) (v:=?_) rfl (by kernel_rfl) (by kernel_rfl) (by kernel_rfl) (fun _ _ _ h=>h) (Or.inl ⟨by rfl,?_⟩) (by assumption) ?_
           rotate_left
           ·(intro w hSw;(try dsimp only at hSw);(try obtain ⟨s1_,s2_,s3_⟩:=hSw);go_simp <;> with_reducible rfl)
           simp only [List.getElem_toArray,List.getElem_cons_succ,List.getElem_cons_zero,Act.put,List.setIfInBounds_toArray,List.set_cons_zero,List.set_cons_succ]
           refine wpAnyH_done (by kernel_rfl) ?_ _
           have hc1:=HCF.out.1;have hf1:=HCF.out.2
           dsimp only [SV.v] at hc1 HN
           go_wp2_with fail
           go_roundw
           case rel=>exact ⟨k+1,_,_,by omega,by go_num,HNI,HN⟩
           case measure=>simp [intOf];omega
          ·have HZ:=Lib.hid (HNO.out (by
            rw [stepC_7 rfl]
            unfold fits
            rw [if_neg (Nat.not_le_of_lt hgt)];rfl))
           have HB1:=Lib.hid (show Below W.heap.size W w1 from (Below.refl _ _).drew.trans hb1)
           clear hb1 hgt
           refine hK.out _ _ (HSW.out _ HB1.out) (fun hHeld2=>?_)
           clear hK K hHeld
           have hHeld:=hHeld2
           clear hHeld2
           refine wpAnyH_take (i:=10) (oi:=_) (v:=?_) rfl (by kernel_rfl) (by kernel_rfl) (by kernel_rfl) (fun _ _ _ h=>h) (Or.inl ⟨by rfl,?_⟩) (by assumption) ?_
           rotate_left
           ·(intro w hSw;(try dsimp only at hSw);(try obtain ⟨s1_,s2_,s3_⟩:=hSw);go_simp <;> with_reducible rfl)
           simp only [List.getElem_toArray,List.getElem_cons_succ,List.getElem_cons_zero,Act.put,List.setIfInBounds_toArray,List.set_cons_zero,List.set_cons_succ]
           refine wpAnyH_take (i:=11) (oi:=_) (v:=?_) rfl (by kernel_rfl) (by kernel_rfl) (by kernel_rfl) (fun _ _ _ h=>h) (Or.inl ⟨by rfl,?_⟩) (by assumption) ?_
           rotate_left
           ·(intro w hSw;(try dsimp only at hSw);(try obtain ⟨s1_,s2_,s3_⟩:=hSw);go_simp <;> with_reducible rfl)
           simp only [List.getElem_toArray,List.getElem_cons_succ,List.getElem_cons_zero,Act.put,List.setIfInBounds_toArray,List.set_cons_zero,List.set_cons_succ]
           refine wpAnyH_take (i:=12) (oi:=_) (v:=?_) rfl (by kernel_rfl) (by kernel_rfl) (by kernel_rfl) (fun _ _ _ h=>h) (Or.inl ⟨by rfl,?_⟩) (by assumption) ?_
           rotate_left
           ·(intro w hSw;(try dsimp only at hSw);(try obtain ⟨s1_,s2_,s3_⟩:=hSw);go_simp <;> with_reducible rfl)
           simp only [List.getElem_toArray,List.getElem_cons_succ,List.getElem_cons_zero,Act.put,List.setIfInBounds_toArray,List.set_cons_zero,List.set_cons_succ]
           refine wpAnyH_take (i:=13) (oi:=_) (v:=?_) rfl (by kernel_rfl) (by kernel_rfl) (by kernel_rfl) (fun _ _ _ h=>h) (Or.inl ⟨by rfl,?_⟩) (by assumption) ?_
           rotate_left
           ·(intro w hSw;(try dsimp only at hSw);(try obtain ⟨s1_,s2_,s3_⟩:=hSw);go_simp <;> with_reducible rfl)
           simp only [List.getElem_toArray,List.getElem_cons_succ,List.getElem_cons_zero,Act.put,List.setIfInBounds_toArray,List.set_cons_zero,List.set_cons_succ]
           refine wpAnyH_take (i:=14) (oi:=_) (v:=?_) rfl (by kernel_rfl) (by kernel_rfl) (by kernel_rfl) (fun _ _ _ h=>h) (Or.inl ⟨by rfl,?_⟩) (by assumption) ?_
           rotate_left
           ·(intro w hSw;(try dsimp only at hSw);(try obtain ⟨s1_,s2_,s3_⟩:=hSw);go_simp <;> with_reducible rfl)
           simp only [List.getElem_toArray,List.getElem_cons_succ,List.getElem_cons_zero,Act.put,List.setIfInBounds_toArray,List.set_cons_zero,List.set_cons_succ]
           refine wpAnyH_done (by kernel_rfl) ?_ _
           go_wp2_with fail
           go_ret2
           exact .inr ⟨HZ.out,rfl,HBW.out.trans (HB1.out.mono HBW.out.size)⟩
         ·exfalso;rcases HMC.out with ⟨h,_⟩ | ⟨h,_⟩ | ⟨h,_⟩ | ⟨h,_⟩ <;> omega
  ·obtain rfl:k=n:=by omega
   have hI:=HI.out
   have hcode:=hI.code
   have hmay:=hI.may
   rw [List.take_of_length_le (by rw [H.out.len2];exact Nat.le_refl _)] at hcode hmay
   rw [may_L HMY.out] at hmay
   have h1:st.length=1:=by injection hmay with e;omega
   obtain ⟨a,rfl⟩:∃a,st=[a]:=by
    match st,h1 with
    | [a],_=>exact ⟨a,rfl⟩
   obtain ⟨s,rfl⟩:∃s,R=[s]:=by
    have h:=HS.out.cs.len
    match R,h with
    | [s],_=>exact ⟨_,rfl⟩
    | [],h=>simp at h
    | _ :: _ :: _,h=>simp at h
   obtain ⟨g,c0,e0,hc1,hc2,hg1,hg2⟩:=HS.out.addr
   simp only [Value.slice.injEq] at e0
   obtain ⟨rfl,e9,rfl⟩:=e0
   have hcl:wr.cell? ⟨g,0,none⟩=_:=HS.out.c1.1
   have HCS:=Lib.hid HS.out.cs.1
   have HB:=Lib.hid HS.out.bel
   have HCO:=Lib.hid hcode
   obtain ⟨sA,sn,sc2,sV⟩:=s
   dsimp only [SV.v] at hcl HCS
   clear hI hcode hmay e9 h1
   rw [show ([a]:List (List Ins)).length=1 from rfl]
   go_wp2_with fail
   go_ret2
   exact .inl ⟨⟨sA,sn,sc2,sV⟩,a,HCO.out,rfl,HCS.out.1,HCS.out.2,HB.out⟩
end Go.Proofs.YtegdbmbenjnacaaGreat.Prg
namespace Go.Proofs.YtegdbmbenjnacaaGreat.Prg
open Go.RowKit
open Utf (Rd Blk own_ne wpList_append_rd)
open Rset (Ret own_form own_below rd_new)
open Syn (Nd nd NV nvs nvs_snoc nv_one Means ArgN mayF rmay_any)
set_option maxRecDepth 100000
structure PR (B:Nat) (w:World) (v:Value) (V:List NV) (l:List Ins):Prop where
 own:w.ownsRow B 76 6 v l.length (nvs V)
 ms:Ms w V l
section
variable {B:Nat} {w0 wb w w':World} {v:Value} {V:List NV} {l:List Ins}
theorem IR.pr (h:IR w0 wb w v V l) (hb:Below w0.heap.size w0 w) (hB:B≤wb.heap.size):PR B w v V l:=⟨Rset.own_mono h.own hB,h.ms.next hb⟩
theorem PR.arg (h:PR B w v V l) (hs:l.length≤1099511627776):∃A c,v=.slice A l.length c∧l.length≤c∧ArgN w A l.length V l:=by
 obtain ⟨A,c,rfl,hc,_,hr⟩:=own_form h.own
 exact ⟨A,c,rfl,hc,h.ms.arg hr rfl hs⟩
end
theorem compile_some {l:List Nd} (hm:mayF l=true) {p:List Ins} (e:codeF l []=some [p]):compileF l=.ok (p++[iO 6])∧Cd p∧p.length≤4095:=by
 refine ⟨by unfold compileF;rw [if_pos hm,e],?_⟩
 rcases codeF_one hm with h | ⟨a,h,h2,h3⟩
 ·rw [h] at e;cases e
 ·rw [h] at e;injection e with e;injection e with e;subst e;exact ⟨h2,h3⟩
theorem compile_none {l:List Nd} (hm:mayF l=true) (e:codeF l []=none):compileF l=.error 5:=by unfold compileF;rw [if_pos hm,e]
def CompT (w:World) (x:Except Nat (List Ins)) (e:Ending) (w':World):Prop:=match x with
 | .ok p=>∃v V,e=.returned (.tuple #[v,.int .i64 0])∧PR w.heap.size w' v V p∧Below w.heap.size w w'
 | .error k=>e=.returned (.tuple #[.slice none 0 0,.int .i64 (k:Int)])∧Below w.heap.size w w'
set_option maxHeartbeats 8000000 in
theorem rcompile_any {A:Option Addr} {V:List NV} {l:List Nd} {n c:Nat} {w:World} (h:ArgN w A n V l) (hsm:n≤1073741824) :
  Calls Tryz.prog 19 #[.slice A n c] w (CompT w (compileF l)):=by
 obtain ⟨i1,hj0,hy0,hy1,hy2⟩:=info_parts infoIns
 have H:=Lib.hid h
 have HM:=Lib.hid (rmay_any A V l n c w h)
 clear h
 go_enter Tryz.func19,Tryz.ntmps19
 go_wp2_with fail
 refine HM.out.mono ?_
 rintro e w1 ⟨rfl,hb1⟩
 have HB1:=Lib.hid hb1
 have H1:=Lib.hid (H.out.next hb1)
 clear hb1
 cases hm:mayF l with
 | false =>
  have HC:=Lib.hid (compile_no hm)
  go_wp2_with fail
  go_ret2
  rw [HC.out]
  exact ⟨rfl,HB1.out⟩
 | true =>
  have HMT:=Lib.hid hm
  have HRC:=Lib.hid (rcode_any (c:=c) H1.out hm hsm)
  clear hm
  go_wp2_with fail
  refine HRC.out.mono ?_
  rintro e w2 (⟨s,p,hx,rfl,hi,hl,hb⟩ | ⟨hx,rfl,hb⟩)
  ·have HB2:=Lib.hid (HB1.out.trans (hb.mono HB1.out.size))
   obtain ⟨hcc,hcd,hle⟩:=compile_some HMT.out hx
   have HC:=Lib.hid hcc
   have HAI:=Lib.hid (hi.arg hl)
   have HB12:=Lib.hid hb
   have HCP:=Lib.hid hcd
   obtain ⟨sA,sn,sc,sV⟩:=s
   dsimp only at hl HAI
   subst hl
   dsimp only [SV.v]
   clear hx hi hb hcd HRC HM hcc
   go_wp2_with fail
   refine (rput_any (w0:=w1) (wb:=w2) (IR.nil (Below.refl _ _)) HAI.out HCP.out (Nat.zero_le _) hle).mono ?_
   rintro e w3 ⟨v3,V3,rfl,h3⟩
   rw [put_nil] at h3
   obtain ⟨A3,c3,rfl,_⟩:=h3.form
   have HP3:=Lib.hid h3
   have HO3:=Lib.hid h3.own
   have HS3:=Lib.hid h3.bel.size
   clear h3
   obtain ⟨m,hm⟩:∃m,p.length=m:=⟨_,rfl⟩
   have HPL:=Lib.hid hm
   rw [hm] at HO3 hle ⊢
   clear hm
   go_wp2_with (at_builtin;(refine wpList_append_rd _ rfl (.tmp 17) (.tmp 19) _ rfl w2.heap.size 76 i1 _ 6 96 Tryz.underlying22 hj0 hy0 hy1 hy2 rfl (by decide) (.slice A3 m c3) m (nvs V3) rfl (own_below HO3.out ((Below.refl _ _).alloc (Nat.le_refl _) _)) _ (some ⟨w3.heap.size,0,none⟩) 1 1 [.int .i64 6,.slice none 0 0,.slice none 0 0,.slice none 0 0,.int .i64 0,.int .i64 0] rfl rfl (rd_new _ _ _ _ rfl) (nv_one ⟨6,none,0,0,none,0,0,none,0,0,0,0⟩) (by unfold maxLen;omega) (by omega) (by simp;have:=HS3.out;omega) ?_))
   intro v4 w4 hown hgr _
   have HN:=Lib.hid (show IR w1 w2 w4 v4 (V3++[⟨6,none,0,0,none,0,0,none,0,0,0,0⟩]) (p++[iO 6]) from
    HP3.out.snoc (means_op w1 6 0 0) ((Below.refl _ _).alloc (Nat.le_refl _) _) (by rw [HPL.out];exact hown) (by rw [HPL.out];exact hgr))
   obtain ⟨A4,c4,rfl,_⟩:=own_form hown
   have HB4:=Lib.hid (show Below w1.heap.size w1 w4 from HB12.out.trans (HN.out.bel.mono HB12.out.size))
   clear hown hgr
   go_wp2_with fail
   go_ret2
   rw [HC.out]
   exact ⟨_,_,rfl,HN.out.pr HB4.out (Nat.le_trans HB1.out.size HB12.out.size),HB1.out.trans (HB4.out.mono HB1.out.size)⟩
  ·have HB2:=Lib.hid (HB1.out.trans (hb.mono HB1.out.size))
   have HC:=Lib.hid (compile_none HMT.out hx)
   clear hx hb
   go_wp2_with fail
   go_ret2
   rw [HC.out]
   exact ⟨rfl,HB2.out⟩
end Go.Proofs.YtegdbmbenjnacaaGreat.Prg
namespace Go.Proofs.YtegdbmbenjnacaaGreat.Pike
open Go.RowKit Mem
open Sset (St Tx Has3 NmS Short txs ofS ofS_nm OwnS argR_own argT_own has3_none none_ rd_tx rd_form_tx none_nm)
open Rset (rgs)
open Syn (Nd nd ndS ndR NV nvs nvs_len nvs_get nvs_snoc nv_one rd_nv nv_form Means ArgN)
set_option maxRecDepth 100000
structure Hd (w:World) (v:NV) (n:Nd):Prop where
 k:v.k=n.kind
 mn:v.mn=n.mn
 mx:v.mx=n.mx
 nm:NmS n.set
 short:Short n.set.o
 sm:n.set.o.length≤1073741824
 l1:n.set.s.length=v.n1
 l2:n.set.m.length=v.n2
 l3:n.set.o.length=v.n3
 o1:w.ownsRow 0 141 2 (.slice v.A1 v.n1 v.c1) n.set.s.length (rgs n.set.s)
 o2:w.ownsRow 0 141 2 (.slice v.A2 v.n2 v.c2) n.set.m.length (rgs n.set.m)
 o3:w.ownsRow 0 9 1 (.slice v.A3 v.n3 v.c3) n.set.o.length (txs n.set.o)
section
variable {w w':World} {v:NV} {n:Nd}
theorem Hd.has (h:Hd w v n):Has3 w v.A1 v.n1 v.A2 v.n2 v.A3 v.n3 n.set:=by
 have o1:=h.o1;have o2:=h.o2;have o3:=h.o3
 rw [h.l1] at o1;rw [h.l2] at o2;rw [h.l3] at o3
 obtain ⟨A1,c1,e1,k1⟩:=argR_own o1 h.l1 h.nm.s
 obtain ⟨A2,c2,e2,k2⟩:=argR_own o2 h.l2 h.nm.m
 obtain ⟨A3,c3,e3,k3⟩:=argT_own o3 h.l3 h.short (by have:=h.sm;have:=h.l3;omega)
 injection e1 with e1;injection e2 with e2;injection e3 with e3
 subst e1 e2 e3
 exact ⟨k1,k2,k3⟩
theorem Hd.means (h:Hd w v n):Means w v n:=⟨h.k,h.mn,h.mx,h.has⟩
theorem Hd.next (h:Hd w v n) (hb:Below w.heap.size w w'):Hd w' v n:=⟨h.k,h.mn,h.mx,h.nm,h.short,h.sm,h.l1,h.l2,h.l3,own_below h.o1 hb,own_below h.o2 hb,own_below h.o3 hb⟩
theorem Hd.blk (h:Hd w v n) {g:Nat} {t:TypeId} {cs:List Value} (hb:Blk w g t cs) (h1:141≠t) (h2:9≠t) (hc:Chg w w' (fun i=>i=g)):Hd w' v n :=
 have f:∀{e:TypeId} {s m:Nat} {u:Value} {xs:List Value},w.ownsRow 0 e s u m xs→e≠t→∀k,u.ownBlock=some k→¬k=g:=fun ho he _ hk e=>own_ne ho hb he (e ▸ hk)
 ⟨h.k,h.mn,h.mx,h.nm,h.short,h.sm,h.l1,h.l2,h.l3,own_keep h.o1 hc (f h.o1 h1),own_keep h.o2 hc (f h.o2 h1),own_keep h.o3 hc (f h.o3 h2)⟩
theorem Hd.row (h:Hd w v n) {B s m:Nat} {e:TypeId} {u:Value} {xs:List Value} (ho:w.ownsRow B e s u m xs) (h1:141≠e) (h2:9≠e) (hg:w.grownBy w' u.ownBlock):Hd w' v n:=by
 have hc:Chg w w' (fun i=>u.ownBlock=some i):=(Chg.refl w _).grown hg fun i _ e=>e
 exact ⟨h.k,h.mn,h.mx,h.nm,h.short,h.sm,h.l1,h.l2,h.l3,own_keep h.o1 hc fun k hk e=>own_apart h.o1 ho h1 k hk e,own_keep h.o2 hc fun k hk e=>own_apart h.o2 ho h1 k hk e,own_keep h.o3 hc fun k hk e=>own_apart h.o3 ho h2 k hk e⟩
end
def pv (k x y:Int):NV:=⟨k,none,0,0,none,0,0,none,0,0,x,y⟩
theorem hd_plain (w:World) (k x y:Int):Hd w (pv k x y) ⟨k,none_,x,y⟩ :=
 ⟨rfl,rfl,rfl,none_nm,fun t h=>by simp [none_] at h,by simp [none_],rfl,rfl,rfl,World.ownsRow_nil _ _ _ _,World.ownsRow_nil _ _ _ _,World.ownsRow_nil _ _ _ _⟩
structure Nr (w:World) (B:Nat) (v:Value) (V:List NV) (N:List Nd):Prop where
 own:w.ownsRow B 100 6 v N.length (nvs V)
 len:V.length=N.length
 hd:∀(i:Nat) (h1:i < V.length) (h2:i < N.length),Hd w V[i] N[i]
section
variable {w w':World} {B B':Nat} {v v':Value} {V U:List NV} {N M:List Nd}
theorem Nr.next (h:Nr w B v V N) (hb:Below w.heap.size w w'):Nr w' B v V N:=⟨own_below h.own hb,h.len,fun i h1 h2=>(h.hd i h1 h2).next hb⟩
theorem Nr.base (h:Nr w B v V N) (hB:B'≤B):Nr w B' v V N:=⟨own_mono h.own hB,h.len,h.hd⟩
theorem Nr.nil (w:World) (B:Nat):Nr w B (.slice none 0 0) [] []:=⟨World.ownsRow_nil _ _ _ _,rfl,fun _ h=>absurd h (Nat.not_lt_zero _)⟩
theorem Nr.blk (h:Nr w B v V N) {g:Nat} {t:TypeId} {cs:List Value} (hb:Blk w g t cs) (h1:141≠t) (h2:9≠t) (h3:100≠t) (hc:Chg w w' (fun i=>i=g)):Nr w' B v V N :=
 ⟨own_keep h.own hc fun _ hk e=>own_ne h.own hb h3 (e ▸ hk),h.len,fun i g1 g2=>(h.hd i g1 g2).blk hb h1 h2 hc⟩
theorem Nr.form (h:Nr w B v V N):∃A c,v=.slice A N.length c∧N.length≤c∧c≤9223372036854775807∧Rd w w.heap.size A (nvs V):=own_form h.own
theorem Nr.arg (h:Nr w B v V N) {n:Nat} (hn:N.length=n) (hs:n≤1099511627776):∃A c,v=.slice A n c∧ArgN w A n V N:=by
 obtain ⟨A,c,rfl,_,_,hr⟩:=h.form
 rw [hn]
 exact ⟨A,c,rfl,hr,h.len.trans hn,hn,fun i h1 h2=>(h.hd i h1 h2).means,hs⟩
theorem Nr.snoc (h:Nr w B v V N) {x:NV} {y:Nd} (hx:Hd w x y) (ho:w'.ownsRow B 100 6 v' (N.length+1) (nvs V++x.row)) (hg:w.grownBy w' v.ownBlock):Nr w' B v' (V++[x]) (N++[y]):=by
 refine ⟨by rw [List.length_append,←nvs_snoc];exact ho,by rw [List.length_append,List.length_append,h.len];rfl,fun i h1 h2=>?_⟩
 have hl:=h.len
 by_cases hi:i < N.length
 ·rw [List.getElem_append_left (by omega),List.getElem_append_left hi]
  exact (h.hd i (by omega) hi).row h.own (by decide) (by decide) hg
 ·rw [List.length_append,List.length_singleton] at h2
  obtain rfl:i=N.length:=by omega
  rw [List.getElem_append_right (by omega),List.getElem_append_right (Nat.le_refl _)]
  simp only [hl,Nat.sub_self,List.getElem_cons_zero]
  exact hx.row h.own (by decide) (by decide) hg
theorem Nr.aside (h:Nr w B v V N) {B2 m:Nat} {u:Value} {U:List NV} (ho:w.ownsRow B2 100 6 u m (nvs U)) (ha:∀i,v.ownBlock=some i→u.ownBlock≠some i) (hg:w.grownBy w' u.ownBlock):Nr w' B v V N :=
 ⟨own_keep (S:=fun i=>u.ownBlock=some i) h.own ((Chg.refl w _).grown hg fun i _ e=>e) fun k hk e=>ha k hk e,h.len,fun i h1 h2=>(h.hd i h1 h2).row ho (by decide) (by decide) hg⟩
end
theorem own_row6 (w:World) (v:NV):(w.alloc (.cells v.row.toArray 100)).ownsRow w.heap.size 100 6 (.slice (some ⟨w.heap.size,0,none⟩) 1 1) 1 (nvs [v]) :=
 ⟨rfl,.inr ⟨w.heap.size,1,v.row.toArray,rfl,Nat.le_refl _,heap_alloc_new w _,Nat.le_refl _,by unfold maxLen;omega,rfl,by simp [nvs,NV.row]⟩⟩
theorem nr_one {w:World} {v:NV} {n:Nd} (h:Hd w v n):Nr (w.alloc (.cells v.row.toArray 100)) w.heap.size (.slice (some ⟨w.heap.size,0,none⟩) 1 1) [v] [n] :=
 ⟨own_row6 w v,rfl,fun i h1 h2=>by
  have:i=0:=by simp at h1;omega
  subst this
  exact h.next ((Below.refl _ _).alloc (Nat.le_refl _) _)⟩
theorem infoNode:(Tryz.prog.info? 100).map (fun i=>(i.zero,i.size,i.bytes))=some (some (.agg #[.int .i64 0,.slice none 0 0,.slice none 0 0,.slice none 0 0,.int .i64 0,.int .i64 0]),6,96):=by kernel_rfl
def Joined (w:World) (B:Nat) (va:Value) (Va Vb:List NV) (Na Nb:List Nd) (e:Ending) (w':World):Prop :=
 ∃v,e=.returned v∧Nr w' B v (Va++Vb) (Na++Nb)∧Chg w w' (fun i=>va.ownBlock=some i)∧(∀i,v.ownBlock=some i→va.ownBlock=some i∨w.heap.size≤i)
set_option maxHeartbeats 8000000 in
theorem join2_any {w:World} {B B2 na nb ca cb:Nat} {Aa Ab:Option Addr} {Va Vb:List NV} {Na Nb:List Nd} (ha:Nr w B (.slice Aa na ca) Va Na) (hb:Nr w B2 (.slice Ab nb cb) Vb Nb) (hap:∀i,(Value.slice Ab nb cb).ownBlock=some i→(Value.slice Aa na ca).ownBlock≠some i)
  (hna:Na.length=na) (hnb:Nb.length=nb) (hsm:na+nb≤1073741824) (hB:B≤w.heap.size) :
  Calls Tryz.prog 64 #[.slice Aa na ca,.slice Ab nb cb] w (Joined w B (.slice Aa na ca) Va Vb Na Nb):=by
 obtain ⟨i0,hi,hz0,hz1,hz2⟩:=info_parts infoNode
 have HNA:=Lib.hid hna;have HNB:=Lib.hid hnb
 have HBV:=Lib.hid (show Vb.length=nb from hb.len.trans hnb)
 have H0:=Lib.hid (show Nr w B (.slice Aa na ca) (Va++Vb.take 0) (Na++Nb.take 0) by simpa using ha)
 have HB0:=Lib.hid hb;have HAP:=Lib.hid hap
 clear ha hb hna hnb hap
 go_enter Tryz.func64,Tryz.ntmps64
 go_wp2_with fail
 go_loopw [0,5] (fun v iv wr=>∃k:Nat,k≤nb∧iv=.int .i64 (k:Int)∧Hid (Nr wr B v (Va++Vb.take k) (Na++Nb.take k))∧Hid (Nr wr B2 (.slice Ab nb cb) Vb Nb)∧Hid (Chg w wr (fun i=>(Value.slice Aa na ca).ownBlock=some i))∧Hid (∀i,v.ownBlock=some i→(Value.slice Aa na ca).ownBlock=some i∨w.heap.size≤i)) (fun _ iv _=>nb - (intOf iv).toNat)
 case atStart=>exact ⟨0,Nat.zero_le _,rfl,H0,HB0,Lib.hid (Chg.refl _ _),Lib.hid fun i hi=>.inl hi⟩
 case round =>
  obtain ⟨k,hk,rfl,J1,J2,J3,J4⟩:=hrel
  clear H0
  by_cases hlt:k < nb
  ·have hkv:k < Vb.length:=by rw [HBV.out];exact hlt
   have hkn:k < Nb.length:=by rw [HNB.out];exact hlt
   obtain ⟨A',c',e',_,_,hrd⟩:=J2.out.form
   injection e' with e1 e2 e3
   subst e1
   obtain ⟨b,o,rfl,_⟩:=nv_form hrd (by omega)
   obtain ⟨d0,d1,d2,d3,d4,d5⟩:=rd_nv hrd hkv
   have HX:=Lib.hid (J2.out.hd k hkv hkn)
   have HTV:=Lib.hid (show Va++Vb.take (k+1)=(Va++Vb.take k)++[Vb[k]] by rw [List.take_succ_eq_append_getElem hkv,List.append_assoc])
   have HTN:=Lib.hid (show Na++Nb.take (k+1)=(Na++Nb.take k)++[Nb[k]] by rw [List.take_succ_eq_append_getElem hkn,List.append_assoc])
   have hln:(Na++Nb.take k).length=na+k:=by rw [List.length_append,HNA.out,List.length_take];omega
   generalize Na++Nb.take k=Nk at J1 HTN hln
   generalize Va++Vb.take k=Vk at J1 HTV
   generalize Vb[k]=x at *
   generalize Nb[k]=y at *
   have hown:=J1.out.own
   rw [hln] at hown
   obtain ⟨q,hq⟩:∃q,q=na+k:=⟨_,rfl⟩
   rw [←hq] at hown
   have HLN:=Lib.hid (hln.trans hq.symm)
   have hq3:q≤1073741824:=by omega
   obtain ⟨A3,c3,rfl,_,_,_⟩:=own_form hown
   have HO:=Lib.hid hown
   have hBw:B≤wr.heap.size:=Nat.le_trans hB J3.out.size
   obtain ⟨xk,x1,xn1,xc1,x2,xn2,xc2,x3,xn3,xc3,xm,xx⟩:=x
   dsimp only at d0 d1 d2 d3 d4 d5
   clear hown hln hkv hkn hrd e2 e3 hq
   go_wp2_with (at_builtin;refine wpList_append_rd _ rfl (.tmp 12) (.tmp 17) _ rfl B 100 i0 _ 6 96 Tryz.underlying43 hi hz0 hz1 hz2 rfl (by decide) (.slice A3 q c3) q (nvs Vk) rfl (own_below HO.out ((Below.refl _ _).alloc (Nat.le_refl _) _)) _ (some ⟨wr.heap.size,0,none⟩) 1 1 [.int .i64 xk,.slice x1 xn1 xc1,.slice x2 xn2 xc2,.slice x3 xn3 xc3,.int .i64 xm,.int .i64 xx] rfl rfl (rd_new wr _ [.int .i64 xk,.slice x1 xn1 xc1,.slice x2 xn2 xc2,.slice x3 xn3 xc3,.int .i64 xm,.int .i64 xx] _ rfl) (nv_one ⟨xk,x1,xn1,xc1,x2,xn2,xc2,x3,xn3,xc3,xm,xx⟩) (by unfold maxLen;omega) (by omega) (by simp;omega) ?_;intro v6 w6 hown6 hgr6 hat6;have hb6:Below wr.heap.size wr (wr.alloc (.cells #[.int .i64 xk,.slice x1 xn1 xc1,.slice x2 xn2 xc2,.slice x3 xn3 xc3,.int .i64 xm,.int .i64 xx] 100)):=(Below.refl _ _).alloc (Nat.le_refl _) _;have M1:=Lib.hid ((J1.out.next hb6).snoc (HX.out.next hb6) (by rw [HLN.out];exact hown6) hgr6);have M2:=Lib.hid ((J2.out.next hb6).aside (own_below J1.out.own hb6) (fun i hi e=>(J4.out i e).elim (HAP.out i hi) fun hge=>by have:=(HB0.out.own.lt i hi).2;omega) hgr6);have M3:=Lib.hid ((J3.out.and_below hb6).grown hgr6 fun i hi e=>(J4.out i e).elim id fun hge=>by omega);have M4:=Lib.hid (show ∀i,v6.ownBlock=some i→(Value.slice Aa na ca).ownBlock=some i∨w.heap.size≤i from fun i hi=>hat6.elim (fun e=>J4.out i (e ▸ hi)) fun e=>.inr (by rw [e] at hi;injection hi with hi;have:=J3.out.size;simp at hi;omega));clear hown6 hgr6 hat6 hb6)
   go_roundw
   case rel=>exact ⟨k+1,by omega,by go_num,by rw [HTV.out,HTN.out];exact M1,M2,M3,M4⟩
   case measure=>simp [intOf];omega
  ·have e1:Vb.take k=Vb:=List.take_of_length_le (by rw [HBV.out];omega)
   have e2:Nb.take k=Nb:=List.take_of_length_le (by rw [HNB.out];omega)
   rw [e1,e2] at J1
   clear e1 e2
   go_wp2_with fail
   go_ret
   exact ⟨_,rfl,J1.out,J3.out,J4.out⟩
end Go.Proofs.YtegdbmbenjnacaaGreat.Pike
namespace Go.Proofs.YtegdbmbenjnacaaGreat.Pike
open Go.RowKit Mem
open Sset (St Tx Has3 NmS Short txs ofS ofS_nm OwnS argR_own argT_own has3_none none_ rd_tx rd_form_tx none_nm rof_any mk_toList)
open Rset (rgs)
open Syn (Nd nd ndS ndR NV nvs nvs_len nvs_get nvs_snoc nv_one rd_nv nv_form Means ArgN)
set_option maxRecDepth 100000
inductive Job
 | choice (d i:Nat)
 | more (d i:Nat) (acc:List Nd)
 | row (d i k:Nat) (acc:List Nd)
 | part (d i:Nat)
 | atom (d i:Nat)
noncomputable def read (T:List Tx):Nat→Job→Option (List Nd × Nat)
 | 0,_=>none
 | f+1,.choice d i=>match read T f (.row d i 0 []) with
  | some (N,j)=>read T f (.more d j N)
  | none=>none
 | f+1,.more d i acc=>if T.getD i []=[124] then (match read T f (.row d (i+1) 0 []) with
   | some (N,j)=>read T f (.more d j (acc++N++[nd 6]))
   | none=>none) else some (acc,i)
 | f+1,.row d i k acc=>if T.getD i []=[]∨T.getD i []=[124]∨T.getD i []=[41] then some (if k=0 then [nd 1] else acc,i) else
   match read T f (.part d i) with
   | some (N,j)=>read T f (.row d j (k+1) (acc++N++(if k=0 then [] else [nd 5])))
   | none=>none
 | f+1,.part d i=>match read T f (.atom d i) with
   | some (N,j)=>if T.getD j []=[42] then some (N++[ndR 0 (-1)],j+1) else some (N,j)
   | none=>none
 | f+1,.atom d i=>if T.getD i []=[40] then (if d=32 then none else match read T f (.choice (d+1) (i+1)) with
   | some (N,j)=>if T.getD j []=[41] then some (N,j+1) else none
   | none=>none)
  else if T.getD i []=[97]∨T.getD i []=[98] then some ([ndS (ofS (T.getD i []))],i+1) else none
def Few (T:List Tx):Prop:=∀i,T.getD i []=[]∨T.getD i []=[97]∨T.getD i []=[98]∨T.getD i []=[124]∨T.getD i []=[42]∨T.getD i []=[40]∨T.getD i []=[41]
def Job.at_:Job→Nat
 | .choice _ i=>i
 | .more _ i _=>i
 | .row _ i _ _=>i
 | .part _ i=>i
 | .atom _ i=>i
def Job.least:Job→Nat
 | .choice _ i=>i
 | .more _ i _=>i
 | .row _ i _ _=>i
 | .part _ i=>i+1
 | .atom _ i=>i+1
theorem read_ge (T:List Tx):∀(f:Nat) (J:Job) {N:List Nd} {j:Nat},read T f J=some (N,j)→J.least≤j
 | 0,J,N,j,h=>by unfold read at h;cases h
 | f+1,.choice d i,N,j,h=>by
  unfold read at h
  split at h
  ·rename_i M k hk
   have h1:=read_ge T f _ hk
   have h2:=read_ge T f _ h
   exact Nat.le_trans h1 h2
  ·cases h
 | f+1,.more d i acc,N,j,h=>by
  unfold read at h
  split at h
  ·split at h
   ·rename_i M k hk
    have h1:=read_ge T f _ hk
    have h2:=read_ge T f _ h
    show i≤j
    have h3:i+1≤k:=h1
    have h4:k≤j:=h2
    omega
   ·cases h
  ·injection h with h;injection h with h1 h2
   exact Nat.le_of_eq h2
 | f+1,.row d i k acc,N,j,h=>by
  unfold read at h
  split at h
  ·injection h with h;injection h with h1 h2
   exact Nat.le_of_eq h2
  ·split at h
   ·rename_i M l hl
    have h1:=read_ge T f _ hl
    have h2:=read_ge T f _ h
    show i≤j
    have h3:i+1≤l:=h1
    have h4:l≤j:=h2
    omega
   ·cases h
 | f+1,.part d i,N,j,h=>by
  unfold read at h
  split at h
  ·rename_i M l hl
   have h1:=read_ge T f _ hl
   split at h
   ·injection h with h;injection h with h2 h3
    show i+1≤j
    have h4:i+1≤l:=h1
    omega
   ·injection h with h;injection h with h2 h3
    show i+1≤j
    have h4:i+1≤l:=h1
    omega
  ·cases h
 | f+1,.atom d i,N,j,h=>by
  unfold read at h
  split at h
  ·split at h
   ·cases h
   ·split at h
    ·rename_i M l hl
     have h1:=read_ge T f _ hl
     split at h
     ·injection h with h;injection h with h2 h3
      show i+1≤j
      have h4:i+1≤l:=h1
      omega
     ·cases h
    ·cases h
  ·split at h
   ·injection h with h;injection h with h2 h3
    exact Nat.le_of_eq h3
   ·cases h
theorem few_of (T:List Tx) (h:∀t∈T,t=[97]∨t=[98]∨t=[124]∨t=[42]∨t=[40]∨t=[41]):Few T:=fun i=>by
 by_cases hi:i < T.length
 ·rw [show T.getD i []=T[i] by simp [List.getD,List.getElem?_eq_getElem hi]]
  exact .inr (h _ (List.getElem_mem hi))
 ·left;simp [List.getD,List.getElem?_eq_none (Nat.le_of_not_lt hi)]
structure Ps (w0 w:World) (sb:Nat) (A:Option Addr) (n c j:Nat):Prop where
 blk:Blk w sb 91 [.slice A n c,.int .i64 (j:Int),.int .i64 0,.int .i64 0]
 le:w0.heap.size≤sb
 bel:Below w0.heap.size w0 w
section
variable {w0 w w':World} {sb n c j:Nat} {A:Option Addr}
theorem Ps.next (h:Ps w0 w sb A n c j) (hb:Below w.heap.size w w'):Ps w0 w' sb A n c j:=⟨h.blk.below hb h.blk.lt,h.le,h.bel.trans (hb.mono h.bel.size)⟩
theorem Ps.go (h:Ps w0 w sb A n c j) (k:Nat):Ps w0 (w.setCell ⟨sb,1,none⟩ (.int .i64 (k:Int))) sb A n c k∧Chg w (w.setCell ⟨sb,1,none⟩ (.int .i64 (k:Int))) (fun i=>i=sb):=by
 have hc:Chg w (w.setCell ⟨sb,1,none⟩ (.int .i64 (k:Int))) (fun i=>i=sb):=(Chg.refl w _).setCell (p:=⟨sb,1,none⟩) _ rfl
 exact ⟨⟨h.blk.set_ 1 _,h.le,h.bel.trans (hc.below h.bel.size fun i hi e=>by have:=h.le;omega)⟩,hc⟩
theorem Ps.c0 (h:Ps w0 w sb A n c j):w.cell? ⟨sb,0,none⟩=some (.slice A n c):=h.blk.cell 0
theorem Ps.c1 (h:Ps w0 w sb A n c j):w.cell? ⟨sb,1,none⟩=some (.int .i64 (j:Int)):=h.blk.cell 1
theorem Ps.c2 (h:Ps w0 w sb A n c j):w.cell? ⟨sb,2,none⟩=some (.int .i64 0):=h.blk.cell 2
theorem Ps.fr (h:Ps w0 w sb A n c j) (i:Nat):w.frozen? ⟨sb,i,none⟩=false:=h.blk.frozen i
end
structure Tz (w0:World) (A:Option Addr) (n:Nat) (T:List Tx):Prop where
 rd:Rd w0 w0.heap.size A (txs T)
 len:T.length=n
 few:Few T
 sm:n≤4096
theorem drewN_two (w:World) (a b:Nat):(w.drewN a).drewN b=w.drewN (a+b):=by unfold World.drewN;simp [Nat.add_assoc]
set_option maxHeartbeats 4000000 in
theorem here_any {w0 w:World} {sb n c j:Nat} {A:Option Addr} {T:List Tx} (h:Ps w0 w sb A n c j) (hT:Tz w0 A n T) :
  Calls Tryz.prog 63 #[.pointer (some ⟨sb,0,none⟩)] w (fun e w'=>e=.returned (.string ⟨(T.getD j []).toArray⟩)∧∃k,w'=w.drewN k):=by
 have c0:=h.c0;have c1:=h.c1;have c2:=h.c2
 have hn:=hT.sm
 by_cases hl:j < n
 ·have hlt:j < T.length:=by rw [hT.len];exact hl
  obtain ⟨b,o,rfl,_⟩:=rd_form_tx (show Utf.Rd _ _ _ _ from hT.rd) (by omega)
  have ct:=rd_tx (show Utf.Rd _ _ _ _ from hT.rd.below h.bel) hlt
  rw [show T.getD j []=T[j] by simp [List.getD,List.getElem?_eq_getElem hlt]]
  generalize T[j]=t at *
  change w.cell? _=some (.string ⟨t.toArray⟩) at ct
  have d1:¬(n:Int)≤j:=by omega
  have d2:decide ((n:Int)≤(j:Int))=false:=decide_eq_false d1
  have d3:(j:Int) < n:=by omega
  clear h hT hlt
  go_enter Tryz.func63,Tryz.ntmps63
  go_wp2_with fail
  go_quiet (fail)
  go_wp2_with fail
  go_quiet (fail)
  go_wp2_with fail
  go_ret
  exact ⟨rfl,_,drewN_two _ _ _⟩
 ·rw [show T.getD j []=[] by simp [List.getD,List.getElem?_eq_none (show T.length≤j by rw [hT.len];omega)]]
  have d1:(n:Int)≤j:=by omega
  have d2:decide ((n:Int)≤(j:Int))=true:=decide_eq_true d1
  clear h hT
  go_enter Tryz.func63,Tryz.ntmps63
  go_wp2_with fail
  go_quiet (fail)
  go_wp2_with fail
  go_ret
  exact ⟨rfl,_,rfl⟩
theorem hd_set {w:World} {a:St} {v1 v2 v3:Value} (hN:NmS a) (hS:Short a.o) (hsm:a.o.length≤1073741824) {B:Nat} (h1:w.ownsRow B 141 2 v1 a.s.length (rgs a.s)) (h2:w.ownsRow B 141 2 v2 a.m.length (rgs a.m)) (h3:w.ownsRow B 9 1 v3 a.o.length (txs a.o)) :
  ∃A1 n1 c1 A2 n2 c2 A3 n3 c3,v1=.slice A1 n1 c1∧v2=.slice A2 n2 c2∧v3=.slice A3 n3 c3∧Hd w ⟨2,A1,n1,c1,A2,n2,c2,A3,n3,c3,0,0⟩ (ndS a):=by
 obtain ⟨A1,c1,rfl,_,_,_⟩:=own_form h1
 obtain ⟨A2,c2,rfl,_,_,_⟩:=own_form h2
 obtain ⟨A3,c3,rfl,_,_,_⟩:=own_form h3
 exact ⟨A1,_,c1,A2,_,c2,A3,_,c3,rfl,rfl,rfl,rfl,rfl,rfl,hN,hS,hsm,rfl,rfl,rfl,own_mono h1 (Nat.zero_le _),own_mono h2 (Nat.zero_le _),own_mono h3 (Nat.zero_le _)⟩
set_option maxHeartbeats 4000000 in
theorem set_any {w:World} {A1 A2 A3:Option Addr} {n1 c1 n2 c2 n3 c3:Nat} {a:St} (h:Hd w ⟨2,A1,n1,c1,A2,n2,c2,A3,n3,c3,0,0⟩ (ndS a)) :
  Calls Tryz.prog 116 #[.agg #[.slice A1 n1 c1,.slice A2 n2 c2,.slice A3 n3 c3]] w (fun e w'=>∃v V,e=.returned v∧Nr w' w.heap.size v V [ndS a]∧Below w.heap.size w w'):=by
 obtain ⟨u,hu⟩:∃u,u=w.alloc (.cells #[.slice A1 n1 c1,.slice A2 n2 c2,.slice A3 n3 c3] 74):=⟨_,rfl⟩
 have hb:Below w.heap.size w u:=by rw [hu];exact (Below.refl _ _).alloc (Nat.le_refl _) _
 have H1:=Lib.hid (nr_one (h.next hb))
 have hus:u.heap.size=w.heap.size+1:=by rw [hu];simp
 rw [hus] at H1
 have HB:=Lib.hid hb;have HU:=Lib.hid hu
 clear h hb hu hus
 go_enter Tryz.func116,Tryz.ntmps116
 go_wp2_with fail
 rw [←HU.out]
 go_ret
 exact ⟨_,_,rfl,H1.out.base (Nat.le_succ _),HB.out.alloc HB.out.size _⟩
end Go.Proofs.YtegdbmbenjnacaaGreat.Pike
namespace Go.Proofs.YtegdbmbenjnacaaGreat.Pike
open Go.RowKit Mem
open Sset (St Tx Has3 NmS Short txs ofS ofS_nm OwnS argR_own argT_own has3_none none_ rd_tx rd_form_tx none_nm rof_any mk_toList)
open Rset (rgs)
open Syn (Nd nd ndS ndR NV nvs nvs_len nvs_get nvs_snoc nv_one rd_nv nv_form Means ArgN rsign_any)
set_option maxRecDepth 100000
def Red (w0 w:World) (sb:Nat) (A:Option Addr) (n c j:Nat) (N:List Nd) (e:Ending) (w':World):Prop :=
 ∃v V,e=.returned v∧Nr w' w.heap.size v V N∧Ps w0 w' sb A n c j∧Chg w w' (fun i=>i=sb)
theorem sts {w w':World} {B:Nat} {v:Value} {V:List NV} {N:List Nd} {sb:Nat} {w0:World} {A:Option Addr} {n c j:Nat} (h:Nr w B v V N) (k:Ps w0 w sb A n c j) (hc:Chg w w' (fun i=>i=sb)):Nr w' B v V N:=h.blk k.blk (by decide) (by decide) (by decide) hc
theorem drewN_chg {w w':World} {S:Nat→Prop} {k:Nat} (h:Chg (w.drewN k) w' S):Chg w w' S:=⟨h.os,h.tape,h.output,h.size,h.block⟩
theorem red_app {w0 w w5 wA w6:World} {sb n c j m:Nat} {A:Option Addr} {v v6:Value} {V:List NV} {N:List Nd} {x:NV} {y:Nd} (h5:Nr w5 w.heap.size v V N) (p5:Ps w0 w5 sb A n c j) (c5:Chg w w5 (fun i=>i=sb)) (hw0:w0.heap.size≤w.heap.size) (hb:Below w5.heap.size w5 wA) (hx:Hd w5 x y) (hm:N.length=m)
  (ho:w6.ownsRow w.heap.size 100 6 v6 (m+1) (nvs V++x.row)) (hg:wA.grownBy w6 v.ownBlock):Nr w6 w.heap.size v6 (V++[x]) (N++[y])∧Ps w0 w6 sb A n c j∧Chg w w6 (fun i=>i=sb):=by
 subst hm
 have hA:=h5.next hb
 have pA:=p5.next hb
 have cr:Chg wA w6 (fun i=>v.ownBlock=some i):=(Chg.refl wA _).grown hg fun i _ e=>e
 refine ⟨hA.snoc (hx.next hb) ho hg,⟨blk_keep pA.blk cr fun e=>own_ne hA.own pA.blk (by decide) e,pA.le,pA.bel.trans (cr.below pA.bel.size fun i hi e=>by have:=(hA.own.lt i e).1;omega)⟩,((c5.and_below hb).grown hg fun i hi e=>by have:=(hA.own.lt i e).1;omega)⟩
set_option maxHeartbeats 8000000 in
theorem part_step {w0 w:World} {sb n c i l:Nat} {A:Option Addr} {T:List Tx} {d:Nat} {N:List Nd} (hT:Tz w0 A n T) (h:Ps w0 w sb A n c i) (hi:T.getD i []=[97]∨T.getD i []=[98]∨T.getD i []=[40]) (hN:N.length≤1000000) (hl:l≤n)
  (ha:∀w,Ps w0 w sb A n c i→Calls Tryz.prog 100 #[.pointer (some ⟨sb,0,none⟩),.int .i64 (d:Int)] w (Red w0 w sb A n c l N)) :
  Calls Tryz.prog 86 #[.pointer (some ⟨sb,0,none⟩),.int .i64 (d:Int)] w (Red w0 w sb A n c (if T.getD l []=[42] then l+1 else l) (if T.getD l []=[42] then N++[ndR 0 (-1)] else N)):=by
 obtain ⟨i0,hif,hz0,hz1,hz2⟩:=info_parts infoNode
 have HT:=Lib.hid hT;have H:=Lib.hid h;have HA:=Lib.hid ha
 have hsm:=hT.sm
 have HH:=Lib.hid (fun (u:World) (k:Ps w0 u sb A n c i)=>here_any k HT.out)
 have hnl:=hT.few l
 clear hT h ha
 by_cases hs:T.getD l []=[42]
 ·rw [if_pos hs,if_pos hs]
  have HS:=Lib.hid hs
  clear hnl hs
  rcases hi with hi | hi | hi
  all_goals
   rw [hi] at HH
   go_enter Tryz.func86,Tryz.ntmps86
   go_upto_region 8 with (first
    | (go_at_call 63;refine (HH.out _ (H.out.next (by first | exact Below.refl _ _ | exact below_drewN (Below.refl _ _) _))).mono ?_;rintro e1 w1 ⟨rfl,k1,rfl⟩)
    | (go_at_call 100;refine (HA.out _ (H.out.next (by first | exact Below.refl _ _ | exact below_drewN (Below.refl _ _) _ | (rw [drewN_two];exact below_drewN (Below.refl _ _) _)))).mono ?_;rintro e3 w3 ⟨v3,V3,rfl,m1,m2,m3⟩;have M1:=Lib.hid m1;have M2:=Lib.hid m2;have M3:=Lib.hid m3;have HH3:=Lib.hid (here_any m2 HT.out);clear m1 m2 m3))
   rw [HS.out] at HH3
   go_upto_region 9 with (go_at_call 63;refine HH3.out.mono ?_;rintro e4 w4 ⟨rfl,k4,rfl⟩)
   obtain ⟨p1,p2⟩:=(M2.out.next (below_drewN (Below.refl _ _) k4)).go (l+1)
   have q1:=M2.out.c1;have f1:=M2.out.fr 1
   obtain ⟨u5,hu5⟩:∃u5,u5=(w3.drewN k4).setCell ⟨sb,1,none⟩ (.int .i64 ((l+1:Nat):Int)):=⟨_,rfl⟩
   rw [←hu5] at p1 p2
   rw [show ((l+1:Nat):Int)=(l:Int)+1 from rfl] at hu5
   have HU5:=Lib.hid hu5
   have P1:=Lib.hid p1
   have N5:=Lib.hid (sts (M1.out.next (below_drewN (Below.refl _ _) k4)) (M2.out.next (below_drewN (Below.refl _ _) k4)) p2)
   have C5:=Lib.hid ((drewN_chg M3.out).trans (drewN_chg p2) fun i _ e=>e)
   clear p1 p2 hu5
   have ew:IntKind.i64.wrap ((l:Int)+1)=((l+1:Nat):Int):=IntWalk.i64_in _ (by omega)
   go_upto_region 11 with fail
   rw [←HU5.out]
   have hown:u5.ownsRow w.heap.size 100 6 v3 N.length (nvs V3):=N5.out.own
   obtain ⟨q,hq⟩:∃q,N.length=q:=⟨_,rfl⟩
   rw [hq] at hown hN
   have HQ:=Lib.hid hq
   obtain ⟨A3,c3,rfl,_,_,_⟩:=own_form hown
   have HO:=Lib.hid hown
   have hwz:=Lib.hid (show w0.heap.size≤w.heap.size from H.out.bel.size)
   have hwu:=Lib.hid (show w.heap.size≤u5.heap.size from C5.out.size)
   clear hown hq q1 f1 ew
   go_wp2_with (at_builtin;refine wpList_append_rd _ rfl (.tmp 44) (.tmp 46) _ rfl w.heap.size 100 i0 _ 6 96 Tryz.underlying43 hif hz0 hz1 hz2 rfl (by decide) (.slice A3 q c3) q (nvs V3) rfl (own_below HO.out ((Below.refl _ _).alloc (Nat.le_refl _) _)) _ (some ⟨u5.heap.size,0,none⟩) 1 1 (pv 7 0 (-1)).row rfl rfl (rd_new u5 _ (pv 7 0 (-1)).row _ rfl) (nv_one (pv 7 0 (-1))) (by unfold maxLen;omega) (by omega) (by have:=hwu.out;simp;omega) ?_;intro v6 w6 hown6 hgr6 hat6;have M6:=Lib.hid (red_app (w:=w) N5.out P1.out C5.out hwz.out ((Below.refl _ _).alloc (Nat.le_refl _) _) (hd_plain u5 7 0 (-1)) HQ.out hown6 hgr6);clear hown6 hgr6 hat6)
   go_ret
   exact ⟨_,_,rfl,M6.out.1,M6.out.2.1,M6.out.2.2⟩
 ·rw [if_neg hs,if_neg hs]
  have hnl2:T.getD l []=[]∨T.getD l []=[97]∨T.getD l []=[98]∨T.getD l []=[124]∨T.getD l []=[40]∨T.getD l []=[41]:=by
   rcases hnl with h | h | h | h | h | h | h
   ·exact .inl h
   ·exact .inr (.inl h)
   ·exact .inr (.inr (.inl h))
   ·exact .inr (.inr (.inr (.inl h)))
   ·exact absurd h hs
   ·exact .inr (.inr (.inr (.inr (.inl h))))
   ·exact .inr (.inr (.inr (.inr (.inr h))))
  have HNL:=Lib.hid hnl2
  clear hnl hs hnl2
  rcases hi with hi | hi | hi
  all_goals
   rw [hi] at HH
   go_enter Tryz.func86,Tryz.ntmps86
   go_upto_region 8 with (first
    | (go_at_call 63;refine (HH.out _ (H.out.next (by first | exact Below.refl _ _ | exact below_drewN (Below.refl _ _) _))).mono ?_;rintro e1 w1 ⟨rfl,k1,rfl⟩)
    | (go_at_call 100;refine (HA.out _ (H.out.next (by first | exact Below.refl _ _ | exact below_drewN (Below.refl _ _) _ | (rw [drewN_two];exact below_drewN (Below.refl _ _) _)))).mono ?_;rintro e3 w3 ⟨v3,V3,rfl,m1,m2,m3⟩;have M1:=Lib.hid m1;have M2:=Lib.hid m2;have M3:=Lib.hid m3;have HH3:=Lib.hid (here_any m2 HT.out);clear m1 m2 m3))
   rcases HNL.out with h | h | h | h | h | h
   all_goals
    rw [h] at HH3
    clear h
    go_wp2_with (go_at_call 63;refine HH3.out.mono ?_;rintro e4 w4 ⟨rfl,k4,rfl⟩)
    go_ret
    exact ⟨_,_,rfl,M1.out.next (below_drewN (Below.refl _ _) k4),M2.out.next (below_drewN (Below.refl _ _) k4),(drewN_chg M3.out).and_below (below_drewN (Below.refl _ _) k4)⟩
theorem ofS_odd (t:Tx):∀x∈(ofS t).o,x=t:=by
 intro x hx
 unfold ofS at hx
 split at hx
 ·simp [Sset.onesS] at hx
 ·have:=(List.mem_filter.1 hx).1
  rw [Sset.rise_mem] at this
  simpa using this
theorem short_of {t:Tx} (h:t.length≤1073741824):Short (ofS t).o:=fun x hx=>by rw [ofS_odd t x hx];exact h
theorem ofS_len (t:Tx):(ofS t).o.length≤1073741824:=by
 unfold ofS
 split
 ·simp [Sset.onesS]
 ·exact Nat.le_trans (Sset.normS_len _) (by simp)
theorem sgn_a:Syn.sgn [97]=false:=by decide
theorem sgn_b:Syn.sgn [98]=false:=by decide
set_option maxHeartbeats 8000000 in
theorem atom_letter {w0 w:World} {sb n c i:Nat} {A:Option Addr} {T:List Tx} {d:Nat} (hT:Tz w0 A n T) (h:Ps w0 w sb A n c i) (hi:T.getD i []=[97]∨T.getD i []=[98]) (hin:i < n) :
  Calls Tryz.prog 100 #[.pointer (some ⟨sb,0,none⟩),.int .i64 (d:Int)] w (Red w0 w sb A n c (i+1) [ndS (ofS (T.getD i []))]):=by
 have HH:=Lib.hid (fun (u:World) (k:Ps w0 u sb A n c i)=>here_any k hT)
 have H:=Lib.hid h
 have c1:=h.c1
 have hsm:=hT.sm
 have ew:IntKind.i64.wrap ((i:Int)+1)=(i:Int)+1:=IntWalk.i64_in _ (by omega)
 clear h hT
 obtain ⟨t,ht⟩:∃t,t=T.getD i []:=⟨_,rfl⟩
 obtain ⟨a,ha⟩:∃a,a=ofS t:=⟨_,rfl⟩
 have htl:t.length≤1073741824:=by rw [ht];rcases hi with hi | hi <;> rw [hi] <;> simp
 have hN:NmS a:=by rw [ha];exact ofS_nm _
 have hS:Short a.o:=by rw [ha];exact short_of htl
 have hL:a.o.length≤1073741824:=by rw [ha];exact ofS_len _
 have HOF:=Lib.hid (fun u=>show Calls Tryz.prog 120 #[.string ⟨t.toArray⟩] u (OwnS u a) by rw [ha];exact rof_any _ t (mk_toList t) htl u)
 have HSG:=Lib.hid (fun u=>show Calls Tryz.prog 122 #[.string ⟨t.toArray⟩] u (fun e w'=>e=.returned (.bool false)∧w'=u) by
  have hf:Syn.sgn t=false:=by rw [ht];rcases hi with hi | hi <;> rw [hi];exact sgn_a;exact sgn_b
  rw [←hf];exact rsign_any _ t (mk_toList t) u)
 rw [←ht] at HH hi ⊢
 rw [←ha]
 have HN:=Lib.hid hN;have HSH:=Lib.hid hS;have HL:=Lib.hid hL
 clear hN hS hL htl ha ht
 rcases hi with rfl | rfl
 all_goals
  go_enter Tryz.func100,Tryz.ntmps100
  go_wp2_with fail
  go_quiet (first | (go_at_call 63;exact Calls.quiet_of (HH.out _ (H.out.next (below_drewN (Below.refl _ _) _)))))
  obtain ⟨p1,p2⟩:=(H.out.next (below_drewN (Below.refl _ _) nq)).go (i+1)
  have q1:=H.out.c1;have f1:=H.out.fr 1
  obtain ⟨u5,hu5⟩:∃u5,u5=(w.drewN nq).setCell ⟨sb,1,none⟩ (.int .i64 ((i+1:Nat):Int)):=⟨_,rfl⟩
  rw [←hu5] at p1 p2
  rw [show ((i+1:Nat):Int)=(i:Int)+1 from rfl] at hu5
  have HU5:=Lib.hid hu5
  have P1:=Lib.hid p1
  have C5:=Lib.hid (drewN_chg p2)
  clear p1 p2 hu5
  go_upto_region 3 with fail
  rw [←HU5.out]
  clear q1 f1 c1 ew
  go_wp2_with (first
   | (go_at_call 122;refine (HSG.out _).mono ?_;rintro e2 w2 ⟨rfl,rfl⟩)
   | (go_at_call 120;refine (HOF.out _).mono ?_;rintro e3 w3 ⟨v1,v2,v3,rfl,o1,o2,o3,hb3⟩;obtain ⟨A1,n1,a1,A2,n2,a2,A3,n3,a3,rfl,rfl,rfl,hh⟩:=hd_set HN.out HSH.out HL.out o1 o2 o3;have HHD:=Lib.hid hh;have HB3:=Lib.hid hb3;clear o1 o2 o3 hb3 hh)
   | (go_at_call 116;refine (set_any HHD.out).mono ?_;rintro e4 w4 ⟨v4,V4,rfl,k1,k2⟩;have K1:=Lib.hid k1;have K2:=Lib.hid (HB3.out.trans (k2.mono HB3.out.size));clear k1 k2))
  go_ret
  exact ⟨_,_,rfl,K1.out.base (Nat.le_trans C5.out.size HB3.out.size),P1.out.next K2.out,C5.out.and_below K2.out⟩
end Go.Proofs.YtegdbmbenjnacaaGreat.Pike
