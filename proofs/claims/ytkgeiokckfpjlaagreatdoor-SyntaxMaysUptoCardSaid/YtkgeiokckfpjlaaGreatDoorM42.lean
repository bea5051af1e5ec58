/-
  Texts of stage 7, part 42.
-/
import Derived.Test.YtkgeiokckfpjlaaGreatDoorCards
import Derived.Test.YtkgeiokckfpjlaaGreatDoorTie
import Derived.Deep.DeepHandedRow
import Derived.Lib.LaidTab
import Derived.Lay
import Derived.MakeChecks
import Derived.Test.YtkgeiokckfpjlaaGreatDoorM7
import Derived.Test.YtkgeiokckfpjlaaGreatDoorM9
import Derived.Test.YtkgeiokckfpjlaaGreatDoorM19
import Derived.Test.YtkgeiokckfpjlaaGreatDoorM41
namespace Go.Proofs.YtkgeiokckfpjlaaGreatDoor.Syn
open Go.ChangeShapes Go.WideShapes Go.ChangeAt Go.RowKit Go.Deep
open Utf (Rd Blk bys bulk_len laidOut own bulk_bound)
open Ucd (Tbl Laid c3 clsRows lowRows highRows listRows markList)
open Utf (nums)
open Sset (St Tx Has3 ArgT ArgR open_texts bulk_mem)
open Rset (open_rgs add_lit)
set_option maxRecDepth 100000
def Reads (w:World) (n:String) (d:DataW Unit):Prop :=
 ∃g t cs fuel p,Tryz.prog.globalNamed n=some g∧(Tryz.prog.globals[g]?).map (·.type)=some t∧w.var? Tryz.prog n=some cs∧DataW.trod (fun _=>()) Tryz.prog w 0 (fun _=>true) false fuel t cs.toList=some (d,p)
theorem vars_reads {w:World}:∀{l:List (String × DataW Unit)} {ps:List MemPlace},DataW.LaidVars Tryz.prog w l ps→∀n d,(n,d)∈l→Reads w n d
 | [],_,_,_,_,hm=>by cases hm
 | (n',d') :: r,ps,h,n,d,hm=>by
  obtain ⟨g,t,cs,fuel,p,q,h1,h2,h3,h4,h5,_⟩:=h
  rcases List.mem_cons.1 hm with e | e
  ·cases e
   exact ⟨g,t,cs,fuel,p,h1,h2,h3,h4⟩
  ·exact vars_reads h5 n d e
theorem var_heap {P:Program} {w:World} {n:String} {g:Nat} {cs:Array Value} (hg:P.globalNamed n=some g) (h:w.var? P n=some cs):∃t fr,w.heap[g]? = some (.cells cs t fr):=by
 simp only [World.var?,hg,Option.bind_some] at h
 split at h
 ·rename_i c t fr he
  cases h
  exact ⟨t,fr,he⟩
 ·cases h
theorem chunks {α:Type} (flat:α→List Value) (sz:Nat):∀(xs:List α) (cs:List Value),cs.length=xs.length*sz→(∀(i:Nat) (h:i < xs.length),(cs.drop (i*sz)).take sz=flat xs[i])→cs=xs.flatMap flat
 | [],cs,hl,_=>by simpa using hl
 | x :: t,cs,hl,h=>by
  have h0:=h 0 (by simp)
  rw [Nat.zero_mul,List.drop_zero] at h0
  have hr:=chunks flat sz t (cs.drop sz) (by rw [List.length_drop,hl,List.length_cons,Nat.succ_mul];omega) (fun i hi=>by
   have:=h (i+1) (by simpa using hi)
   rw [List.drop_drop,show sz+i*sz=(i+1)*sz from by rw [Nat.succ_mul];omega]
   simpa using this)
  rw [List.flatMap_cons]
  have e:flat x=flat (x :: t)[0]:=rfl
  rw [e,←h0,←hr,List.take_append_drop]
theorem cells_of_rows {α:Type} {w:World} {fuel:Nat} {t e:TypeId} {n sz:Nat} {cs:List Value} {p:List MemPlace} (enc:α→DataW Unit) (flat:α→List Value) (xs:List α)
  (ht:Tryz.prog.underlying t=some (.array n e)) (hce:Tryz.prog.cellsOf e=sz) (hct:Tryz.prog.cellsOf t=n*sz)
  (inner:∀(fuel:Nat) (c:List Value) (x:α) (p:List MemPlace),DataW.trod (fun _=>()) Tryz.prog w 0 (fun _=>true) false fuel e c=some (enc x,p)→c=flat x)
  (h:DataW.trod (fun _=>()) Tryz.prog w 0 (fun _=>true) false fuel t cs=some (.agg (xs.map enc),p)):cs=xs.flatMap flat:=by
 cases fuel with
 | zero=>simp [DataW.trod] at h
 | succ fuel =>
  simp only [DataW.trod,ht,hce,hct] at h
  split at h
  ·rename_i hl
   obtain ⟨ys,hm,hx⟩:=Option.map_eq_some_iff.1 h
   have hxs:ys.map (·.1)=xs.map enc:=by
    have:=congrArg Prod.fst hx
    simpa using this
   have hyl:ys.length=n:=by simpa using Lib.mapM_length hm
   have hxl:xs.length=n:=by
    have:=congrArg List.length hxs
    simp at this
    omega
   refine chunks flat sz xs cs (by rw [hl,hxl]) fun i hi=>?_
   obtain ⟨b,hb,hf⟩:=Lib.mapM_at hm i i (List.getElem?_range (by omega))
   have h2:(ys.map (·.1))[i]? = some b.1:=by simp [hb]
   rw [hxs,List.getElem?_map,List.getElem?_eq_getElem hi,Option.map_some,Option.some.injEq] at h2
   obtain ⟨bd,bp⟩:=b
   exact inner fuel _ _ bp (by rw [hf];exact congrArg some (Prod.ext h2.symm rfl))
  ·cases h
def d3 (x:Int × Int × Int):DataW Unit:=.agg [.lit (.int .i32 x.1),.lit (.int .i32 x.2.1),.lit (.int .i32 x.2.2)]
theorem cells32:Tryz.prog.cellsOf 21=1:=by kernel_rfl
theorem cellsStretch:Tryz.prog.cellsOf 251=3:=by kernel_rfl
theorem cellsPair:Tryz.prog.cellsOf 248=3:=by kernel_rfl
theorem first_of {cs:List Value} {k:Nat} {v:Value} (h:(cs.drop k).take 1=[v]):cs[k]? = some v:=by
 have:=congrArg (·[0]?) h
 simpa [List.getElem?_take,List.getElem?_drop] using this
theorem three_of {cs:List Value} {a b c:Value} (hl:cs.length=3) (h0:cs[0]? = some a) (h1:cs[1]? = some b) (h2:cs[2]? = some c):cs=[a,b,c]:=by
 match cs,hl with
 | [x,y,z],_=>simp at h0 h1 h2;rw [h0,h1,h2]
theorem int_cell {w:World} {fuel:Nat} {c:List Value} {n:Int} {p:List MemPlace} (h:DataW.trod (fun _=>()) Tryz.prog w 0 (fun _=>true) false fuel 21 c=some (.lit (.int .i32 n),p)):c=[.int .i32 n]:=by
 obtain ⟨m,hc,hx,_⟩:=DataW.trod_int Tryz.underlying21 h
 cases hx
 exact hc
theorem part_at {α β:Type} {f:α→Option (DataW Unit × β)} {l:List α} {ys:List (DataW Unit × β)} {ds:List (DataW Unit)} (hm:l.mapM f=some ys) (hx:ys.map (·.1)=ds) (i:Nat) (a:α) (d:DataW Unit) (ha:l[i]? = some a) (hd:ds[i]? = some d):∃q,f a=some (d,q):=by
 obtain ⟨b,hb,hf⟩:=Lib.mapM_at hm i a ha
 have h2:(ys.map (·.1))[i]? = some b.1:=by simp [hb]
 rw [hx,hd,Option.some.injEq] at h2
 exact ⟨b.2,by rw [hf,h2]⟩
theorem inner_stretch (w:World) (fuel:Nat) (c:List Value) (x:Int × Int × Int) (p:List MemPlace) (h:DataW.trod (fun _=>()) Tryz.prog w 0 (fun _=>true) false fuel 251 c=some (d3 x,p)):c=[.int .i32 x.1,.int .i32 x.2.1,.int .i32 x.2.2]:=by
 cases fuel with
 | zero=>simp [DataW.trod] at h
 | succ fuel =>
  simp only [DataW.trod,Tryz.underlying251,cellsStretch] at h
  split at h
  ·rename_i hl
   obtain ⟨ys,hm,hx⟩:=Option.map_eq_some_iff.1 h
   have hxs:ys.map (·.1)=[.lit (.int .i32 x.1),.lit (.int .i32 x.2.1),.lit (.int .i32 x.2.2)]:=by
    have:=congrArg Prod.fst hx
    simpa [d3] using this
   obtain ⟨q0,f0⟩:=part_at hm hxs 0 _ _ rfl rfl
   obtain ⟨q1,f1⟩:=part_at hm hxs 1 _ _ rfl rfl
   obtain ⟨q2,f2⟩:=part_at hm hxs 2 _ _ rfl rfl
   rw [cells32] at f0 f1 f2
   exact three_of hl (first_of (int_cell f0)) (first_of (int_cell f1)) (first_of (int_cell f2))
  ·cases h
theorem inner_pair (w:World) (fuel:Nat) (c:List Value) (x:Int × Int × Int) (p:List MemPlace) (h:DataW.trod (fun _=>()) Tryz.prog w 0 (fun _=>true) false fuel 248 c=some (d3 x,p)):c=[.int .i32 x.1,.int .i32 x.2.1,.int .i32 x.2.2]:=by
 cases fuel with
 | zero=>simp [DataW.trod] at h
 | succ fuel =>
  simp only [DataW.trod,Tryz.underlying248,cellsPair] at h
  split at h
  ·rename_i hl
   obtain ⟨ys,hm,hx⟩:=Option.map_eq_some_iff.1 h
   have hxs:ys.map (·.1)=[.lit (.int .i32 x.1),.lit (.int .i32 x.2.1),.lit (.int .i32 x.2.2)]:=by
    have:=congrArg Prod.fst hx
    simpa [d3] using this
   obtain ⟨q0,f0⟩:=part_at hm hxs 0 _ _ rfl rfl
   obtain ⟨q1,f1⟩:=part_at hm hxs 1 _ _ rfl rfl
   obtain ⟨q2,f2⟩:=part_at hm hxs 2 _ _ rfl rfl
   rw [cells32] at f0 f1 f2
   exact three_of hl (first_of (int_cell f0)) (first_of (int_cell f1)) (first_of (int_cell f2))
  ·cases h
theorem tbl_of {w:World} {n:String} {d:DataW Unit} {g:Nat} {t:TypeId} {cs:List Value} (hg:Tryz.prog.globalNamed n=some g) (hty:(Tryz.prog.globals[g]?).map (·.type)=some t) (h:Reads w n d)
  (hc:∀(fuel:Nat) (c:List Value) (p:List MemPlace),DataW.trod (fun _=>()) Tryz.prog w 0 (fun _=>true) false fuel t c=some (d,p)→c=cs):Tbl w g cs:=by
 obtain ⟨g',t',c,fuel,p,h1,h2,h3,h4⟩:=h
 obtain rfl:=Option.some.inj (hg.symm.trans h1)
 obtain rfl:=Option.some.inj (hty.symm.trans h2)
 obtain ⟨ty,fr,hh⟩:=var_heap hg h3
 exact ⟨ty,fr,by rw [hh,←hc _ _ _ h4]⟩
theorem inner_mark (w:World) (fuel:Nat) (c:List Value) (x:Int) (p:List MemPlace) (h:DataW.trod (fun _=>()) Tryz.prog w 0 (fun _=>true) false fuel 21 c=some (.lit (.int .i32 x),p)):c=[.int .i32 x]:=int_cell h
theorem flat_nums (l:List Int):(l.flatMap fun x=>[Value.int .i32 x])=nums l:=by
 induction l with
 | nil=>rfl
 | cons x t ih=>rw [List.flatMap_cons,ih];rfl
theorem laid_of {W:World} (h:laidMetH Tryz.prog Rows.syntaxMaysUptoRow.laid W):Laid W:=by
 rw [MakeChecks.laidMetH_plain _ _ _ (by kernel_rfl)] at h
 obtain ⟨ps,hv,_⟩:=h
 have r:=vars_reads hv
 refine ⟨tbl_of (t:=252) (by kernel_rfl) (by kernel_rfl) (r _ Rows.laid_trema_ucd_classes (.tail _ (.tail _ (.tail _ (.head _))))) fun fuel c p hd=>?_,
  tbl_of (t:=301) (by kernel_rfl) (by kernel_rfl) (r _ Rows.laid_trema_ucd_lowRows (.tail _ (.head _))) fun fuel c p hd=>?_,
  tbl_of (t:=302) (by kernel_rfl) (by kernel_rfl) (r _ Rows.laid_trema_ucd_highRows (.tail _ (.tail _ (.head _)))) fun fuel c p hd=>?_,
  tbl_of (t:=249) (by kernel_rfl) (by kernel_rfl) (r _ Rows.laid_trema_ucd_listed (.tail _ (.tail _ (.tail _ (.tail _ (.tail _ (.head _))))))) fun fuel c p hd=>?_,
  tbl_of (t:=291) (by kernel_rfl) (by kernel_rfl) (r _ Rows.laid_trema_ucd_marks (.tail _ (.tail _ (.tail _ (.tail _ (.head _)))))) fun fuel c p hd=>?_,trivial⟩
 ·exact cells_of_rows d3 (fun x=>[.int .i32 x.1,.int .i32 x.2.1,.int .i32 x.2.2]) clsRows Tryz.underlying252 cellsStretch (by kernel_rfl) (inner_stretch W) hd
 ·exact cells_of_rows d3 (fun x=>[.int .i32 x.1,.int .i32 x.2.1,.int .i32 x.2.2]) lowRows Tryz.underlying301 cellsStretch (by kernel_rfl) (inner_stretch W) hd
 ·exact cells_of_rows d3 (fun x=>[.int .i32 x.1,.int .i32 x.2.1,.int .i32 x.2.2]) highRows Tryz.underlying302 cellsStretch (by kernel_rfl) (inner_stretch W) hd
 ·exact cells_of_rows d3 (fun x=>[.int .i32 x.1,.int .i32 x.2.1,.int .i32 x.2.2]) listRows Tryz.underlying249 cellsPair (by kernel_rfl) (inner_pair W) hd
 ·rw [←flat_nums]
  exact cells_of_rows (fun x=>.lit (.int .i32 x)) (fun x=>[.int .i32 x]) markList Tryz.underlying291 cells32 (by kernel_rfl) (inner_mark W) hd
noncomputable def laidWorld (os:Os):World:=World.laidAll Tryz.prog os Rows.syntaxMaysUptoRow.laid
theorem laid_met (os:Os) (args:Array Value):laidMet Tryz.prog Rows.syntaxMaysUptoRow.laid ((laidWorld os).forCall (fun _ _=>0) ⟨#[],args,[]⟩).memory :=
 laidMet_laidAll _ (by kernel_rfl) (by kernel_rfl)
theorem nodeFields:Tryz.prog.underlying 41=some (.struct (Tryz.prog.fieldsOf 41)):=by kernel_rfl
theorem slice_pairs_form {H:Type} {enc:TypeId × Value→H} {W:World} {fuel:Nat} {v:Value} {y:DataW H × List MemPlace} (t0:DataW.trod enc Tryz.prog W 0 (fun _=>true) true fuel 37 [v]=some y):∃A1 n1 c1,v=.slice A1 n1 c1:=by
 rcases open_slice_pairs Tryz.underlying37 Tryz.underlying48 (by kernel_rfl) rfl rfl (by kernel_rfl) (by kernel_rfl) t0 with ⟨hcs,_⟩ | ⟨x,l,c,_,_,_,_,_,_,_,_,hcs,_⟩
 ·simp at hcs;exact ⟨_,_,_,hcs⟩
 ·simp at hcs;exact ⟨_,_,_,hcs⟩
theorem slice_strs_form {H:Type} {enc:TypeId × Value→H} {W:World} {fuel:Nat} {v:Value} {y:DataW H × List MemPlace} (t0:DataW.trod enc Tryz.prog W 0 (fun _=>true) true fuel 32 [v]=some y):∃A1 n1 c1,v=.slice A1 n1 c1:=by
 rcases open_strs Tryz.underlying32 Tryz.underlying9 (by kernel_rfl) t0 with ⟨hcs,_⟩ | ⟨x,l,c,_,_,hcs,_⟩
 ·simp at hcs;exact ⟨_,_,_,hcs⟩
 ·simp at hcs;exact ⟨_,_,_,hcs⟩
theorem open_node {H:Type} {enc:TypeId × Value→H} {W:World} {fuel:Nat} {cs:List Value} {y:DataW H × List MemPlace} (h:DataW.trod enc Tryz.prog W 0 (fun _=>true) true fuel 41 cs=some y) (hb:Rows.uptoBulk y.1≤1048576) :
  ∃v n,cs=[.int .i64 v.k,.slice v.A1 v.n1 v.c1,.slice v.A2 v.n2 v.c2,.slice v.A3 v.n3 v.c3,.int .i64 v.mn,.int .i64 v.mx]∧Means W v n:=by
 obtain ⟨xs,k,rfl,rfl,hlen,hxl,hf⟩:=DataW.trod_struct nodeFields h
 rw [show Tryz.prog.cellsOf 41=6 by kernel_rfl] at hlen
 rw [show (Tryz.prog.fieldsOf 41).size=4 by kernel_rfl] at hxl
 match cs,hlen,xs,hxl with
 | [v0,v1,v2,v3,v4,v5],_,[y0,y1,y2,y3],_ =>
  have g0:DataW.trod enc Tryz.prog W 0 (fun _=>true) true k 3 [v0]=some y0:=hf 0 _ (show (Tryz.prog.fieldsOf 41)[0]? = some ((Tryz.prog.fieldsOf 41).getD 0 default) by kernel_rfl)
  have g1:DataW.trod enc Tryz.prog W 0 (fun _=>true) true k 39 [v1,v2,v3]=some y1:=hf 1 _ (show (Tryz.prog.fieldsOf 41)[1]? = some ((Tryz.prog.fieldsOf 41).getD 1 default) by kernel_rfl)
  have g2:DataW.trod enc Tryz.prog W 0 (fun _=>true) true k 3 [v4]=some y2:=hf 2 _ (show (Tryz.prog.fieldsOf 41)[2]? = some ((Tryz.prog.fieldsOf 41).getD 2 default) by kernel_rfl)
  have g3:DataW.trod enc Tryz.prog W 0 (fun _=>true) true k 3 [v5]=some y3:=hf 3 _ (show (Tryz.prog.fieldsOf 41)[3]? = some ((Tryz.prog.fieldsOf 41).getD 3 default) by kernel_rfl)
  obtain ⟨z0,e0,_,w0⟩:=DataW.trod_int Tryz.underlying3 g0
  obtain ⟨z2,e2,_,w2⟩:=DataW.trod_int Tryz.underlying3 g2
  obtain ⟨z3,e3,_,w3⟩:=DataW.trod_int Tryz.underlying3 g3
  simp only [List.cons.injEq,and_true] at e0 e2 e3
  subst e0 e2 e3
  obtain ⟨ys,k',rfl,hy,hl2,hyl,hg⟩:=DataW.trod_struct Sset.setFields g1
  rw [show (Tryz.prog.fieldsOf 39).size=3 by kernel_rfl] at hyl
  match ys,hyl with
  | [u0,u1,u2],_ =>
   have t0:DataW.trod enc Tryz.prog W 0 (fun _=>true) true k' 37 [v1]=some u0:=hg 0 _ (show (Tryz.prog.fieldsOf 39)[0]? = some ((Tryz.prog.fieldsOf 39).getD 0 default) by kernel_rfl)
   have t1:DataW.trod enc Tryz.prog W 0 (fun _=>true) true k' 37 [v2]=some u1:=hg 1 _ (show (Tryz.prog.fieldsOf 39)[1]? = some ((Tryz.prog.fieldsOf 39).getD 1 default) by kernel_rfl)
   have t2:DataW.trod enc Tryz.prog W 0 (fun _=>true) true k' 32 [v3]=some u2:=hg 2 _ (show (Tryz.prog.fieldsOf 39)[2]? = some ((Tryz.prog.fieldsOf 39).getD 2 default) by kernel_rfl)
   obtain ⟨A1,n1,c1,rfl⟩:=slice_pairs_form t0
   obtain ⟨A2,n2,c2,rfl⟩:=slice_pairs_form t1
   obtain ⟨A3,n3,c3,rfl⟩:=slice_strs_form t2
   obtain ⟨l1,e1,_,_,f1,r1,k1⟩:=open_rgs (d:=u0.1) (p:=u0.2) ⟨k',by simpa [Value.cells] using t0⟩
   obtain ⟨l2,e2,_,_,f2,r2,k2⟩:=open_rgs (d:=u1.1) (p:=u1.2) ⟨k',by simpa [Value.cells] using t1⟩
   obtain ⟨l3,e3,_,_,r3,f3,k3⟩:=open_texts (d:=u2.1) (p:=u2.2) ⟨k',by simpa [Value.cells] using t2⟩
   have hy1:y1.1=.agg [u0.1,u1.1,u2.1]:=by rw [hy];rfl
   simp only [List.map_cons,List.map_nil,Rows.uptoBulk,Rows.uptoBulkAll,hy1] at hb
   exact ⟨⟨z0,A1,n1,c1,A2,n2,c2,A3,n3,c3,z2,z3⟩,⟨z0,⟨l1,l2,l3⟩,z2,z3⟩,rfl,rfl,rfl,rfl,
    ⟨⟨r1,e1,f1,show n1≤_ by omega⟩,⟨r2,e2,f2,show n2≤_ by omega⟩,⟨r3,e3,fun t ht=>by have:=f3 t ht;omega,show n3≤_ by omega⟩⟩⟩
theorem open_nodes {H:Type} {enc:TypeId × Value→H} {W:World} {a0:Option Addr} {len cap:Nat} {d:DataW H} {p:List MemPlace}
  (h:DataW.Trod enc Tryz.prog W 0 (fun _=>true) true 22 (.slice a0 len cap) d p) (hb:Rows.uptoBulk d≤1048576) :
  ∃V l,ArgN W a0 len V l:=by
 obtain ⟨fuel,hf⟩:=h
 rcases open_slice Tryz.underlying22 hf with ⟨hcs,hx⟩ | ⟨a,len',cap',m,n,D,Pl,hcs,_,hl,hm,hmm,hx,hi⟩
 ·simp [Value.cells] at hcs
  obtain ⟨rfl,rfl,rfl⟩:=hcs
  exact ⟨[],[],fun h=>absurd rfl h,rfl,rfl,fun i h=>absurd h (Nat.not_lt_zero _),by decide⟩
 ·simp [Value.cells] at hcs
  obtain ⟨rfl,rfl,rfl⟩:=hcs
  simp only [if_true] at hmm
  simp only [Prod.mk.injEq] at hx
  rw [hx.1] at hb
  simp only [Rows.uptoBulk] at hb
  have hc6:Tryz.prog.cellsOf 41=6:=by kernel_rfl
  have each:∀i,i < len→∃v n,Means W v n∧∀(j:Nat) (u:Value),[Value.int .i64 v.k,.slice v.A1 v.n1 v.c1,.slice v.A2 v.n2 v.c2,.slice v.A3 v.n3 v.c3,.int .i64 v.mn,.int .i64 v.mx][j]? = some u→W.cell? (a.add (i*6+j))=some u:=by
   intro i him
   obtain ⟨cs,h1,h2⟩:=hi i (by omega)
   rw [hc6] at h1
   obtain ⟨_,hlen,hcell⟩:=World.cells?_some h1
   have hm2:D i∈(List.range len).map D:=List.mem_map.2 ⟨i,List.mem_range.2 him,rfl⟩
   have:=bulk_mem hm2
   obtain ⟨v,n,rfl,hm⟩:=open_node h2 (by show Rows.uptoBulk (D i)≤_;omega)
   refine ⟨v,n,hm,fun j u hu=>?_⟩
   have hj:j < 6:=(List.getElem?_eq_some_iff.1 hu).1
   have:=hcell j hj
   rw [add_add] at this
   rw [this,hu]
  have ex:∀k,k≤len→∃(V:List NV) (l:List Nd),V.length=k∧l.length=k∧(∀(i:Nat) (h1:i < V.length) (h2:i < l.length),Means W V[i] l[i])∧∀(j:Nat) (u:Value),(nvs V)[j]? = some u→W.cell? (a.add j)=some u:=by
   intro k
   induction k with
   | zero=>intro _;exact ⟨[],[],rfl,rfl,fun i h=>absurd h (Nat.not_lt_zero _),fun j u h=>by simp [nvs] at h⟩
   | succ k ih =>
    intro hk
    obtain ⟨V,l,h1,h2,h3,h4⟩:=ih (by omega)
    obtain ⟨v,n,hm,hc⟩:=each k (by omega)
    refine ⟨V++[v],l++[n],by rw [List.length_append,h1];rfl,by rw [List.length_append,h2];rfl,fun i g1 g2=>?_,fun j u hj=>?_⟩
    ·by_cases hlt:i < k
     ·rw [List.getElem_append_left (by omega),List.getElem_append_left (by omega)];exact h3 i (by omega) (by omega)
     ·have:i=k:=by rw [List.length_append,h1] at g1;simp at g1;omega
      subst this
      simp only [List.getElem_append_right (show V.length≤i by omega),List.getElem_append_right (show l.length≤i by omega),h1,h2,Nat.sub_self,List.getElem_cons_zero]
      exact hm
    ·rw [show nvs (V++[v])=nvs V++v.row from by unfold nvs;rw [List.flatMap_append];simp] at hj
     by_cases hlt:j < (nvs V).length
     ·rw [List.getElem?_append_left hlt] at hj;exact h4 j u hj
     ·rw [List.getElem?_append_right (by omega),nvs_len,h1] at hj
      have:=hc (j - k*6) u hj
      rw [nvs_len,h1] at hlt
      rwa [show k*6+(j - k*6)=j by omega] at this
  obtain ⟨V,l,h1,h2,h3,h4⟩:=ex len (Nat.le_refl _)
  have hlen:len≤1048576:=by
   have:=bulk_len ((List.range len).map D)
   rw [List.length_map,List.length_range] at this
   omega
  refine ⟨V,l,fun hne=>?_,h1,h2,h3,by omega⟩
  obtain ⟨u0,hu0⟩:∃u,(nvs V)[0]? = some u:=by
   cases hn:nvs V with
   | nil=>exact absurd hn hne
   | cons x r=>exact ⟨x,rfl⟩
  obtain ⟨b,o,spot⟩:=a
  have hc0:=h4 0 u0 hu0
  have hspot:spot=none:=by simpa [Addr.add] using World.cell?_spot hc0
  subst hspot
  have hc0':W.cell? ⟨b,o,none⟩=some u0:=by simpa [Addr.add] using hc0
  refine ⟨b,o,rfl,World.block_lt_of_cell? W _ hc0',fun j u hj=>?_⟩
  have:=h4 j u hj
  rwa [add_lit] at this
theorem witness_row_shaped {H:Type} {enc:TypeId × Value→H} {C:Checked} {os:Os} {f:FuncId} {fn:Func} {s:OpenSpec} {conds:List PathCond} {apart:Bool} {laid:List (String × DataW Unit)} (modest:Bool) (w0:World) (args:Array Value) (hos:w0.os=os)
  (hsh:(w0.forCall (fun _ _=>0) ⟨#[],args,[]⟩).Shaped C.prog)
  (hok:Input.okWideB C.prog (w0.forCall (fun _ _=>0) ⟨#[],args,[]⟩) f ⟨#[],args,[]⟩=true)
  (hrow:s.preRow enc C.prog fn conds apart laid (w0.forCall (fun _ _=>0) ⟨#[],args,[]⟩).memory args) :
  ∃(w:World) (tape:Tape) (i:Input),w.os=os∧(w.forCall tape i).Shaped C.prog∧i.vars=[]∧Input.okWide C.prog (w.forCall tape i) .any w.heap.size f i ∧
   s.preRow enc C.prog fn conds apart laid (w.forCall tape i).memory i.args∧({ modest:=modest }:Assume).holds C.prog (lone (Frame.enter C.prog f i.args .normal) [] (w.forCall tape i)) :=
 ⟨w0,fun _ _=>0,⟨#[],args,[]⟩,hos,hsh,(Input.okWide_of_okWideB (base:=0) hok).1,(Input.okWide_of_okWideB hok).2,hrow,by
  simp only [Assume.holds]
  exact ⟨by simp,by simp,fun _=>Modest.zero,by simp,by simp⟩⟩
theorem and_both {a b:Bool} (h:a=true) (k:b=true):(a && b)=true:=by rw [h,k];rfl
end Go.Proofs.YtkgeiokckfpjlaaGreatDoor.Syn
