/-
  Texts of stage 7, part 34.
-/
import Derived.Deep.Strs
import Derived.WideKeyPair
import Derived.Test.YtegdbmbenjnacaaGreatR28
import Derived.Test.YtegdbmbenjnacaaGreatR32
import Derived.Test.YtegdbmbenjnacaaGreatR33
namespace Go.Proofs.YtegdbmbenjnacaaGreat.Pike
open Go.ChangeShapes Go.WideShapes Go.ChangeAt Go.RowKit Go.Deep
open Mem hiding Rd Blk
open Utf (Rd)
open Rset (open_rgs rgs)
open Sset (St Tx Has3 ArgT ArgR txs txs_len txs_get Short)
open Syn (Nd NV nvs nvs_len Means ArgN)
set_option maxRecDepth 100000
theorem bulk_mem {H:Type} {l:List (DataW H)} {d:DataW H} (h:d∈l):Rows.uptoBulk d≤Rows.uptoBulkAll l:=by
 induction l with
 | nil=>simp at h
 | cons x r ih =>
  simp only [Rows.uptoBulkAll]
  rcases List.mem_cons.1 h with rfl | h
  ·omega
  ·have:=ih h;omega
theorem open_texts {H:Type} {enc:TypeId × Value→H} {W:World} {a0:Option Addr} {len cap:Nat} {d:DataW H} {p:List MemPlace}
  (h:DataW.Trod enc Tryz.prog W 0 (fun _=>true) true 23 (.slice a0 len cap) d p) :
  ∃l:List Tx,l.length=len∧len≤cap∧cap≤9223372036854775807∧Rd W W.heap.size a0 (txs l)∧(∀t∈l,t.length≤Rows.uptoBulk d)∧len≤Rows.uptoBulk d:=by
 obtain ⟨fuel,hf⟩:=h
 rcases open_strs Tryz.underlying23 Tryz.underlying9 (by kernel_rfl) hf with ⟨hcs,hx⟩ | ⟨x,l,c,m,Sx,hcs,_,hl,hm,hmm,hx,hi⟩
 ·simp [Value.cells] at hcs
  obtain ⟨rfl,rfl,rfl⟩:=hcs
  exact ⟨[],rfl,Nat.le_refl _,by omega,Utf.Rd.empty _ _ _,fun _ h=>by simp at h,Nat.zero_le _⟩
 ·simp [Value.cells] at hcs
  obtain ⟨rfl,rfl,rfl⟩:=hcs
  simp only [if_true] at hmm
  simp only [Prod.mk.injEq] at hx
  have hlen:((List.range len).map fun i=>(Sx i).data.toList).length=len:=by simp
  refine ⟨(List.range len).map fun i=>(Sx i).data.toList,hlen,hl,by simpa [maxLen] using hm,fun hne=>?_,fun t ht=>?_,?_⟩
  ·have h0:0 < len:=by
    rcases Nat.eq_zero_or_pos len with h | h
    ·subst h;exact absurd rfl hne
    ·exact h
   obtain ⟨b,o,spot⟩:=x
   have hc0:=(hi 0 (by omega)).1
   have hspot:spot=none:=by simpa [Addr.add] using World.cell?_spot hc0
   subst hspot
   have hc0':W.cell? ⟨b,o,none⟩=some (.string (Sx 0)):=by simpa [Addr.add] using hc0
   refine ⟨b,o,rfl,World.block_lt_of_cell? W _ hc0',fun j u hj=>?_⟩
   have hjl:j < len:=by have:=(List.getElem?_eq_some_iff.1 hj).1;rw [txs_len,hlen] at this;exact this
   have hcj:=(hi j (by omega)).1
   rw [add_lit] at hcj
   rw [hcj,←hj,txs_get (by rw [hlen];exact hjl)]
   simp
  ·obtain ⟨i,hi2,rfl⟩:=List.mem_map.1 ht
   have hm2:DataW.lit (H:=H) (.string (Sx i).data.toList)∈(List.range len).map fun i=>DataW.lit (.string (Sx i).data.toList):=List.mem_map.2 ⟨i,hi2,rfl⟩
   have:=bulk_mem hm2
   rw [hx.1]
   simp only [Rows.uptoBulk] at this ⊢
   omega
  ·rw [hx.1]
   have:=bulk_len ((List.range len).map fun i=>DataW.lit (H:=H) (.string (Sx i).data.toList))
   rw [List.length_map,List.length_range] at this
   simp only [Rows.uptoBulk]
   omega
theorem setFields:Tryz.prog.underlying 74=some (.struct (Tryz.prog.fieldsOf 74)):=by kernel_rfl
theorem argT_texts {W:World} {a0:Option Addr} {len:Nat} {l:List Tx} {B:Nat} (hl:l.length=len) (hr:Rd W W.heap.size a0 (txs l)) (ht:∀t∈l,t.length≤B) (hn:len≤B) (hb:B≤1048576):ArgT W a0 len l:=⟨hr,hl,fun t h=>by have:=ht t h;omega,by omega⟩
theorem instrFields:Tryz.prog.underlying 76=some (.struct (Tryz.prog.fieldsOf 76)):=by kernel_rfl
theorem slice_pairs_form {H:Type} {enc:TypeId × Value→H} {W:World} {fuel:Nat} {v:Value} {y:DataW H × List MemPlace} (t0:DataW.trod enc Tryz.prog W 0 (fun _=>true) true fuel 72 [v]=some y):∃A1 n1 c1,v=.slice A1 n1 c1:=by
 rcases open_slice_pairs Tryz.underlying72 Tryz.underlying141 (by kernel_rfl) rfl rfl (by kernel_rfl) (by kernel_rfl) t0 with ⟨hcs,_⟩ | ⟨x,l,c,_,_,_,_,_,_,_,_,hcs,_⟩
 ·simp at hcs;exact ⟨_,_,_,hcs⟩
 ·simp at hcs;exact ⟨_,_,_,hcs⟩
theorem slice_strs_form {H:Type} {enc:TypeId × Value→H} {W:World} {fuel:Nat} {v:Value} {y:DataW H × List MemPlace} (t0:DataW.trod enc Tryz.prog W 0 (fun _=>true) true fuel 23 [v]=some y):∃A1 n1 c1,v=.slice A1 n1 c1:=by
 rcases open_strs Tryz.underlying23 Tryz.underlying9 (by kernel_rfl) t0 with ⟨hcs,_⟩ | ⟨x,l,c,_,_,hcs,_⟩
 ·simp at hcs;exact ⟨_,_,_,hcs⟩
 ·simp at hcs;exact ⟨_,_,_,hcs⟩
theorem open_instr {H:Type} {enc:TypeId × Value→H} {W:World} {fuel:Nat} {cs:List Value} {y:DataW H × List MemPlace} (h:DataW.trod enc Tryz.prog W 0 (fun _=>true) true fuel 76 cs=some y) (hb:Rows.uptoBulk y.1≤1048576) :
  ∃v n,cs=[.int .i64 v.k,.slice v.A1 v.n1 v.c1,.slice v.A2 v.n2 v.c2,.slice v.A3 v.n3 v.c3,.int .i64 v.mn,.int .i64 v.mx]∧Means W v n:=by
 obtain ⟨xs,k,rfl,rfl,hlen,hxl,hf⟩:=DataW.trod_struct instrFields h
 rw [show Tryz.prog.cellsOf 76=6 by kernel_rfl] at hlen
 rw [show (Tryz.prog.fieldsOf 76).size=4 by kernel_rfl] at hxl
 match cs,hlen,xs,hxl with
 | [v0,v1,v2,v3,v4,v5],_,[y0,y1,y2,y3],_ =>
  have g0:DataW.trod enc Tryz.prog W 0 (fun _=>true) true k 3 [v0]=some y0:=hf 0 _ (show (Tryz.prog.fieldsOf 76)[0]? = some ((Tryz.prog.fieldsOf 76).getD 0 default) by kernel_rfl)
  have g1:DataW.trod enc Tryz.prog W 0 (fun _=>true) true k 74 [v1,v2,v3]=some y1:=hf 1 _ (show (Tryz.prog.fieldsOf 76)[1]? = some ((Tryz.prog.fieldsOf 76).getD 1 default) by kernel_rfl)
  have g2:DataW.trod enc Tryz.prog W 0 (fun _=>true) true k 3 [v4]=some y2:=hf 2 _ (show (Tryz.prog.fieldsOf 76)[2]? = some ((Tryz.prog.fieldsOf 76).getD 2 default) by kernel_rfl)
  have g3:DataW.trod enc Tryz.prog W 0 (fun _=>true) true k 3 [v5]=some y3:=hf 3 _ (show (Tryz.prog.fieldsOf 76)[3]? = some ((Tryz.prog.fieldsOf 76).getD 3 default) by kernel_rfl)
  obtain ⟨z0,e0,_,w0⟩:=DataW.trod_int Tryz.underlying3 g0
  obtain ⟨z2,e2,_,w2⟩:=DataW.trod_int Tryz.underlying3 g2
  obtain ⟨z3,e3,_,w3⟩:=DataW.trod_int Tryz.underlying3 g3
  simp only [List.cons.injEq,and_true] at e0 e2 e3
  subst e0 e2 e3
  obtain ⟨ys,k',rfl,hy,hl2,hyl,hg⟩:=DataW.trod_struct setFields g1
  rw [show (Tryz.prog.fieldsOf 74).size=3 by kernel_rfl] at hyl
  match ys,hyl with
  | [u0,u1,u2],_ =>
   have t0:DataW.trod enc Tryz.prog W 0 (fun _=>true) true k' 72 [v1]=some u0:=hg 0 _ (show (Tryz.prog.fieldsOf 74)[0]? = some ((Tryz.prog.fieldsOf 74).getD 0 default) by kernel_rfl)
   have t1:DataW.trod enc Tryz.prog W 0 (fun _=>true) true k' 72 [v2]=some u1:=hg 1 _ (show (Tryz.prog.fieldsOf 74)[1]? = some ((Tryz.prog.fieldsOf 74).getD 1 default) by kernel_rfl)
   have t2:DataW.trod enc Tryz.prog W 0 (fun _=>true) true k' 23 [v3]=some u2:=hg 2 _ (show (Tryz.prog.fieldsOf 74)[2]? = some ((Tryz.prog.fieldsOf 74).getD 2 default) by kernel_rfl)
   obtain ⟨A1,n1,c1,rfl⟩:=slice_pairs_form t0
   obtain ⟨A2,n2,c2,rfl⟩:=slice_pairs_form t1
   obtain ⟨A3,n3,c3,rfl⟩:=slice_strs_form t2
   obtain ⟨l1,e1,_,_,f1,r1,k1⟩:=open_rgs (d:=u0.1) (p:=u0.2) ⟨k',by simpa [Value.cells] using t0⟩
   obtain ⟨l2,e2,_,_,f2,r2,k2⟩:=open_rgs (d:=u1.1) (p:=u1.2) ⟨k',by simpa [Value.cells] using t1⟩
   obtain ⟨l3,e3,_,_,r3,f3,k3⟩:=open_texts (d:=u2.1) (p:=u2.2) ⟨k',by simpa [Value.cells] using t2⟩
   have hy1:y1.1=.agg [u0.1,u1.1,u2.1]:=by rw [hy];rfl
   simp only [List.map_cons,List.map_nil,Rows.uptoBulk,Rows.uptoBulkAll,hy1] at hb
   exact ⟨⟨z0,A1,n1,c1,A2,n2,c2,A3,n3,c3,z2,z3⟩,⟨z0,⟨l1,l2,l3⟩,z2,z3⟩,rfl,rfl,rfl,rfl,
    ⟨⟨r1,e1,f1,show n1≤_ by omega⟩,⟨r2,e2,f2,show n2≤_ by omega⟩,⟨r3,e3,fun t ht=>by have:=f3 t ht;omega,show n3≤_ by omega⟩⟩⟩
theorem open_code {H:Type} {enc:TypeId × Value→H} {W:World} {a0:Option Addr} {len cap:Nat} {d:DataW H} {p:List MemPlace}
  (h:DataW.Trod enc Tryz.prog W 0 (fun _=>true) true 22 (.slice a0 len cap) d p) (hb:Rows.uptoBulk d≤1048576) :
  ∃V l,ArgN W a0 len V l:=by
 obtain ⟨fuel,hf⟩:=h
 rcases open_slice Tryz.underlying22 hf with ⟨hcs,hx⟩ | ⟨a,len',cap',m,n,D,Pl,hcs,_,hl,hm,hmm,hx,hi⟩
 ·simp [Value.cells] at hcs
  obtain ⟨rfl,rfl,rfl⟩:=hcs
  exact ⟨[],[],fun h=>absurd rfl h,rfl,rfl,fun i h=>absurd h (Nat.not_lt_zero _),by decide⟩
 ·simp [Value.cells] at hcs
  obtain ⟨rfl,rfl,rfl⟩:=hcs
  simp only [if_true] at hmm
  simp only [Prod.mk.injEq] at hx
  rw [hx.1] at hb
  simp only [Rows.uptoBulk] at hb
  have hc6:Tryz.prog.cellsOf 76=6:=by kernel_rfl
  have each:∀i,i < len→∃v n,Means W v n∧∀(j:Nat) (u:Value),[Value.int .i64 v.k,.slice v.A1 v.n1 v.c1,.slice v.A2 v.n2 v.c2,.slice v.A3 v.n3 v.c3,.int .i64 v.mn,.int .i64 v.mx][j]? = some u→W.cell? (a.add (i*6+j))=some u:=by
   intro i him
   obtain ⟨cs,h1,h2⟩:=hi i (by omega)
   rw [hc6] at h1
   obtain ⟨_,hlen,hcell⟩:=World.cells?_some h1
   have hm2:D i∈(List.range len).map D:=List.mem_map.2 ⟨i,List.mem_range.2 him,rfl⟩
   have:=bulk_mem hm2
   obtain ⟨v,n,rfl,hm⟩:=open_instr h2 (by show Rows.uptoBulk (D i)≤_;omega)
   refine ⟨v,n,hm,fun j u hu=>?_⟩
   have hj:j < 6:=(List.getElem?_eq_some_iff.1 hu).1
   have:=hcell j hj
   rw [add_add] at this
   rw [this,hu]
  have ex:∀k,k≤len→∃(V:List NV) (l:List Nd),V.length=k∧l.length=k∧(∀(i:Nat) (h1:i < V.length) (h2:i < l.length),Means W V[i] l[i])∧∀(j:Nat) (u:Value),(nvs V)[j]? = some u→W.cell? (a.add j)=some u:=by
   intro k
   induction k with
   | zero=>intro _;exact ⟨[],[],rfl,rfl,fun i h=>absurd h (Nat.not_lt_zero _),fun j u h=>by simp [nvs] at h⟩
   | succ k ih =>
    intro hk
    obtain ⟨V,l,h1,h2,h3,h4⟩:=ih (by omega)
    obtain ⟨v,n,hm,hc⟩:=each k (by omega)
    refine ⟨V++[v],l++[n],by rw [List.length_append,h1];rfl,by rw [List.length_append,h2];rfl,fun i g1 g2=>?_,fun j u hj=>?_⟩
    ·by_cases hlt:i < k
     ·rw [List.getElem_append_left (by omega),List.getElem_append_left (by omega)];exact h3 i (by omega) (by omega)
     ·have:i=k:=by rw [List.length_append,h1] at g1;simp at g1;omega
      subst this
      simp only [List.getElem_append_right (show V.length≤i by omega),List.getElem_append_right (show l.length≤i by omega),h1,h2,Nat.sub_self,List.getElem_cons_zero]
      exact hm
    ·rw [show nvs (V++[v])=nvs V++v.row from by unfold nvs;rw [List.flatMap_append];simp] at hj
     by_cases hlt:j < (nvs V).length
     ·rw [List.getElem?_append_left hlt] at hj;exact h4 j u hj
     ·rw [List.getElem?_append_right (by omega),nvs_len,h1] at hj
      have:=hc (j - k*6) u hj
      rw [nvs_len,h1] at hlt
      rwa [show k*6+(j - k*6)=j by omega] at this
  obtain ⟨V,l,h1,h2,h3,h4⟩:=ex len (Nat.le_refl _)
  have hlen:len≤1048576:=by
   have:=bulk_len ((List.range len).map D)
   rw [List.length_map,List.length_range] at this
   omega
  refine ⟨V,l,fun hne=>?_,h1,h2,h3,by omega⟩
  obtain ⟨u0,hu0⟩:∃u,(nvs V)[0]? = some u:=by
   cases hn:nvs V with
   | nil=>exact absurd hn hne
   | cons x r=>exact ⟨x,rfl⟩
  obtain ⟨b,o,spot⟩:=a
  have hc0:=h4 0 u0 hu0
  have hspot:spot=none:=by simpa [Addr.add] using World.cell?_spot hc0
  subst hspot
  have hc0':W.cell? ⟨b,o,none⟩=some u0:=by simpa [Addr.add] using hc0
  refine ⟨b,o,rfl,World.block_lt_of_cell? W _ hc0',fun j u hj=>?_⟩
  have:=h4 j u hj
  rwa [add_lit] at this
end Go.Proofs.YtegdbmbenjnacaaGreat.Pike
namespace Go.Proofs.YtegdbmbenjnacaaGreat.Pike
open Go.RowKit
set_option maxRecDepth 100000
theorem arr3:Tryz.prog.underlying 24=some (.array 3 3)∧Tryz.prog.cellsOf 24=3∧Tryz.prog.cellsOf 3=1:=⟨Tryz.underlying24,by kernel_rfl,by kernel_rfl⟩
theorem open_three {H:Type} {enc:TypeId × Value→H} {W:World} {b0:Nat} {v:Value} {d:DataW H} {p:List MemPlace} (hv:Value.okWide Tryz.prog W .any b0 24 v)
  (h:DataW.Trod enc Tryz.prog W 0 (fun _=>true) true 24 v d p):∃a b c:Int,v=.agg #[.int .i64 a,.int .i64 b,.int .i64 c]∧d=.agg [.lit (.int .i64 a),.lit (.int .i64 b),.lit (.int .i64 c)]∧p=[]∧(Lit.int .i64 a).wf=true∧(Lit.int .i64 b).wf=true∧(Lit.int .i64 c).wf=true:=by
 obtain ⟨hu,hsz,hone⟩:=arr3
 simp only [Value.okWide,hu] at hv
 obtain ⟨cs,rfl,h2,_⟩:=hv
 rw [hsz] at h2
 obtain ⟨l⟩:=cs
 match l,h2 with
 | [c0,c1,c2],_ =>
  obtain ⟨fuel,hf⟩:=h
  obtain ⟨xs,m,rfl,hx,hx2,hl,hel⟩:=DataW.trod_array hu hf
  match xs,hl with
  | [y0,y1,y2],_ =>
   have t0:DataW.trod enc Tryz.prog W 0 (fun _=>true) true m 3 [c0]=some y0:=by have:=hel 0 (by decide);rw [hone] at this;exact this
   have t1:DataW.trod enc Tryz.prog W 0 (fun _=>true) true m 3 [c1]=some y1:=by have:=hel 1 (by decide);rw [hone] at this;exact this
   have t2:DataW.trod enc Tryz.prog W 0 (fun _=>true) true m 3 [c2]=some y2:=by have:=hel 2 (by decide);rw [hone] at this;exact this
   obtain ⟨a,ea,rfl,wa⟩:=DataW.trod_int Tryz.underlying3 t0
   obtain ⟨b,eb,rfl,wb⟩:=DataW.trod_int Tryz.underlying3 t1
   obtain ⟨c,ec,rfl,wc⟩:=DataW.trod_int Tryz.underlying3 t2
   simp at ea eb ec
   subst ea eb ec
   simp only [Prod.mk.injEq] at hx
   exact ⟨a,b,c,rfl,hx.1.trans rfl,hx.2.trans rfl,wa,wb,wc⟩
theorem shut_three {H:Type} {enc:TypeId × Value→H} {W:World} {sp:Nat→Bool} {held:Bool} {a b c:Int} (wa:(Lit.int .i64 a).wf=true) (wb:(Lit.int .i64 b).wf=true) (wc:(Lit.int .i64 c).wf=true) :
  DataW.Trod enc Tryz.prog W 0 sp held 24 (.agg #[.int .i64 a,.int .i64 b,.int .i64 c]) (.agg [.lit (.int .i64 a),.lit (.int .i64 b),.lit (.int .i64 c)]) []:=by
 obtain ⟨hu,hsz,hone⟩:=arr3
 refine ⟨2,?_⟩
 show DataW.trod enc Tryz.prog W 0 sp held (1+1) 24 [.int .i64 a,.int .i64 b,.int .i64 c]=_
 have hr:List.range 3=[0,1,2]:=rfl
 simp [hu,hsz,hone,hr,DataW.trod,Tryz.underlying3,wa,wb,wc]
end Go.Proofs.YtegdbmbenjnacaaGreat.Pike
