/-
  Texts of stage 7, part 8.
-/
import Derived.Test.YtegdbmbenjnacaaGreatProg
import Derived.OwnWalk
import Derived.IntWalk
import Derived.Laws.StructEq
import Derived.WalkKit
import Derived.Maps.AppendAt
import Derived.Deep.AppendLies
import Derived.Deep.Draws
import Derived.Laws.OwnMore
import Derived.Laws.BytesArg
import Derived.Lib.Hide
import Derived.Below
import Derived.Laws.Rows
import Derived.Test.YtegdbmbenjnacaaGreatR1
import Derived.Test.YtegdbmbenjnacaaGreatR2
import Derived.Test.YtegdbmbenjnacaaGreatR20
namespace Go.Proofs.YtegdbmbenjnacaaGreat.Rset
open Go.RowKit
open Utf (Rd Blk)
set_option maxRecDepth 100000
def rgs (l:List Rg):List Value:=l.flatMap fun r=>[.int .i32 r.1,.int .i32 r.2]
theorem rgs_cons (r:Rg) (t:List Rg):rgs (r :: t)=.int .i32 r.1 :: .int .i32 r.2 :: rgs t:=rfl
theorem rgs_append (l m:List Rg):rgs (l++m)=rgs l++rgs m:=List.flatMap_append
theorem rgs_len (l:List Rg):(rgs l).length=l.length*2:=by
 induction l with
 | nil=>rfl
 | cons r t ih=>rw [rgs_cons];simp only [List.length_cons,ih];omega
theorem rgs_get (l:List Rg):∀{k:Nat} (h:k < l.length),(rgs l)[k*2]? = some (.int .i32 l[k].1)∧(rgs l)[k*2+1]? = some (.int .i32 l[k].2):=by
 induction l with
 | nil=>intro k h;simp at h
 | cons r t ih =>
  intro k h
  rw [rgs_cons]
  cases k with
  | zero=>exact ⟨rfl,rfl⟩
  | succ k =>
   have:=ih (k:=k) (by simpa using h)
   rw [show (k+1)*2=k*2+1+1 from by omega]
   simpa using this
theorem rgs_drop (l:List Rg):∀k,(rgs l).drop (k*2)=rgs (l.drop k):=by
 induction l with
 | nil=>intro k;simp [rgs]
 | cons q t ih =>
  intro k
  cases k with
  | zero=>simp
  | succ k=>rw [rgs_cons,show (k+1)*2=k*2+1+1 from by omega];simpa using ih k
theorem rgs_take (l:List Rg):∀k,(rgs l).take (k*2)=rgs (l.take k):=by
 induction l with
 | nil=>intro k;simp [rgs]
 | cons q t ih =>
  intro k
  cases k with
  | zero=>simp [rgs]
  | succ k=>rw [rgs_cons,show (k+1)*2=k*2+1+1 from by omega];simpa [rgs_cons] using ih k
theorem rgs_one (l:List Rg):∀u∈rgs l,u.oneCell'=true:=by
 intro u hu
 simp only [rgs,List.mem_flatMap,List.mem_cons,List.not_mem_nil,or_false] at hu
 obtain ⟨n,_,rfl | rfl⟩:=hu <;> rfl
section
variable {w w':World} {B:Nat}
theorem rd_rg {l:List Rg} {b o:Nat} (h:Rd w B (some ⟨b,o,none⟩) (rgs l)) {k:Nat} (hk:k < l.length) :
  w.cell? ⟨b,o+k*2,none⟩=some (.int .i32 l[k].1)∧w.cell? ⟨b,o+k*2+1,none⟩=some (.int .i32 l[k].2):=by
 obtain ⟨b',o',e,_,hc⟩:=h (by intro e;have:=congrArg List.length e;rw [rgs_len,List.length_nil] at this;omega)
 simp only [Option.some.injEq,Addr.mk.injEq,and_true] at e
 obtain ⟨rfl,rfl⟩:=e
 obtain ⟨h1,h2⟩:=rgs_get l hk
 exact ⟨hc _ _ h1,by rw [Nat.add_assoc];exact hc _ _ h2⟩
theorem rd_form_rg {l:List Rg} {A:Option Addr} (h:Rd w B A (rgs l)) (hn:0 < l.length):∃b o,A=some ⟨b,o,none⟩∧b < B:=h.form (by rw [rgs_len];omega)
end
theorem infoRg:(Tryz.prog.info? 141).map (fun i=>(i.zero,i.size,i.bytes))=some (some (.agg #[.int .i32 0,.int .i32 0]),2,8):=by kernel_rfl
theorem infoI32:(Tryz.prog.info? 21).map (fun i=>(i.zero,i.size,i.bytes))=some (some (.int .i32 0),1,4):=by kernel_rfl
theorem rd_new (u:World) (t:TypeId) (cs:List Value) (g:Nat) (hg:u.heap.size=g):Rd (u.alloc (.cells cs.toArray t)) (g+1) (some ⟨g,0,none⟩) cs:=fun _ =>
 ⟨g,0,rfl,by omega,fun j x hx=>by subst hg;rw [(Blk.new u t cs).cell,Nat.zero_add];exact hx⟩
theorem own_below {w w':World} {base:Nat} {e:TypeId} {size:Nat} {v:Value} {n:Nat} {xs:List Value} (h:w.ownsRow base e size v n xs) (hb:Below w.heap.size w w'):w'.ownsRow base e size v n xs :=
 h.kept (row:=none) ⟨hb.os,hb.tape,hb.output,hb.size,fun k hk _=>hb.block k hk⟩ (by cases v.ownBlock <;> simp)
theorem own_form {w:World} {base:Nat} {e:TypeId} {size n:Nat} {v:Value} {xs:List Value} (h:w.ownsRow base e size v n xs):∃A c,v=.slice A n c∧n≤c∧c≤9223372036854775807∧Rd w w.heap.size A xs:=by
 have h2:=h.2
 rcases h2 with ⟨rfl,rfl⟩ | ⟨g,cap,cur,rfl,_,_,h1,h2,_⟩
 ·exact ⟨none,0,rfl,Nat.le_refl _,by omega,Rd.of_own h⟩
 ·exact ⟨_,cap,rfl,h1,h2,Rd.of_own h⟩
theorem own_mono {w:World} {base base':Nat} {e:TypeId} {size:Nat} {v:Value} {n:Nat} {xs:List Value} (h:w.ownsRow base e size v n xs) (hb:base'≤base):w.ownsRow base' e size v n xs:=by
 refine ⟨h.1,?_⟩
 rcases h.2 with h0 | ⟨g,cap,cur,rfl,h1,h2⟩
 ·exact .inl h0
 ·exact .inr ⟨g,cap,cur,rfl,Nat.le_trans hb h1,h2⟩
theorem below_drewN {B:Nat} {u v:World} (h:Below B u v) (k:Nat):Below B u (v.drewN k):=⟨h.os,h.tape,h.output,h.size,h.block⟩
theorem ret_bool {a b:Bool} (h:a=b):Ending.returned (.bool a)=.returned (.bool b):=by rw [h]
def Ret (w:World) (v:Value) (e:Ending) (w':World):Prop:=e=.returned v∧Below w.heap.size w w'
def Own (w:World) (L:List Rg) (e:Ending) (w':World):Prop:=∃v,e=.returned v∧w'.ownsRow w.heap.size 141 2 v L.length (rgs L)∧Below w.heap.size w w'
def Fit (l:List Rg):Prop:=∀r∈l,(-2147483648≤r.1∧r.1≤2147483647)∧-2147483648≤r.2∧r.2≤2147483647
theorem Nm.fit {l:List Rg} (h:Nm l):Fit l:=fun r hr=>by have:=h.ok r hr;omega
theorem rgFields:Tryz.prog.underlying 141=some (.struct (Tryz.prog.fieldsOf 141)):=by kernel_rfl
theorem rgHeld:Tryz.prog.stoodInHeld 141=false:=by kernel_rfl
theorem neq_rg (w:World) (a b a' b':Int):(binOp .neq 141 (.agg #[.int .i32 a,.int .i32 b]) (.agg #[.int .i32 a',.int .i32 b'])).run Tryz.prog w=.ok (.bool (!(a == a' && b == b'))) w:=by
 have u21:=Tryz.underlying21
 have a21:=Tryz.isAgg21
 have z21:=Tryz.sizeOf21
 rw [run_neq_struct,show (10000:Nat)=9999+1 from rfl,run_equalIn_agg w 9999 _ _ _ rgFields rgHeld]
 simp only [Program.fieldsOf,Tryz.underlying141]
 go_simp
 by_cases h1:a=a' <;> by_cases h2:b=b' <;> simp [h1,h2]
end Go.Proofs.YtegdbmbenjnacaaGreat.Rset
namespace Go.Proofs.YtegdbmbenjnacaaGreat.Mem
open Go.RowKit
set_option maxRecDepth 100000
def ks (k:IntKind) (l:List Int):List Value:=l.map fun n=>.int k n
theorem ks_len (k:IntKind) (l:List Int):(ks k l).length=l.length:=List.length_map _
theorem ks_append (k:IntKind) (l m:List Int):ks k (l++m)=ks k l++ks k m:=List.map_append
theorem ks_get {k:IntKind} {l:List Int} {i:Nat} (h:i < l.length):(ks k l)[i]? = some (.int k l[i]):=by simp [ks,List.getElem?_eq_getElem h]
theorem ks_one (k:IntKind) (l:List Int):∀u∈ks k l,u.oneCell'=true:=by intro u hu;simp only [ks,List.mem_map] at hu;obtain ⟨n,_,rfl⟩:=hu;rfl
theorem ks_set (k:IntKind) (l:List Int) (n:Nat) (x:Int):(ks k l).set n (.int k x)=ks k (l.set n x):=List.map_set.symm
theorem ks_nil {k:IntKind} {l:List Int}:ks k l=[]↔l=[]:=by simp [ks]
def Rd (w:World) (B:Nat) (A:Option Addr) (xs:List Value):Prop :=
 xs≠[]→∃b o,A=some ⟨b,o,none⟩∧b < B∧∀j u,xs[j]? = some u→w.cell? ⟨b,o+j,none⟩=some u
section
variable {w w':World} {B B':Nat} {A:Option Addr} {xs:List Value}
theorem Rd.empty (w:World) (B:Nat) (A:Option Addr):Rd w B A []:=fun h=>absurd rfl h
theorem Rd.keep (h:Rd w B A xs) (hk:∀p:Addr,p.block < B→w'.cell? p=w.cell? p):Rd w' B A xs:=fun hn=>by
 obtain ⟨b,o,e,hb,hc⟩:=h hn
 exact ⟨b,o,e,hb,fun j u hu=>(hk _ hb).trans (hc j u hu)⟩
theorem Rd.more (h:Rd w B A xs) (hB:B≤B'):Rd w B' A xs:=fun hn=>by
 obtain ⟨b,o,e,hb,hc⟩:=h hn
 exact ⟨b,o,e,by omega,hc⟩
theorem Rd.below (h:Rd w B A xs) (hb:Below B w w'):Rd w' B A xs:=h.keep fun _ hp=>hb.cell hp
theorem Rd.of_own {base n size:Nat} {e:TypeId} {c:Nat} (h:w.ownsRow base e size (.slice A n c) n xs):Rd w w.heap.size A xs:=fun hn=>by
 have hn':0 < n:=by
  rcases Nat.eq_zero_or_pos n with h0 | h0
  ·subst h0;exact absurd (List.eq_nil_of_length_eq_zero (by simpa using h.1)) hn
  ·exact h0
 obtain ⟨g,cap,hv,_,hlt⟩:=h.form hn'
 have hA:A=some ⟨g,0,none⟩:=by injection hv
 subst hA
 refine ⟨g,0,rfl,hlt,fun j u hu=>?_⟩
 have:=h.cells (g:=g) rfl j u hu
 have hadd:(⟨g,0,none⟩:Addr).add j=⟨g,0+j,none⟩:=by unfold Addr.add;split <;> simp_all
 rw [hadd] at this;exact this
theorem Rd.form (h:Rd w B A xs) (hn:0 < xs.length):∃b o,A=some ⟨b,o,none⟩∧b < B:=by
 obtain ⟨b,o,e,hb,_⟩:=h (by rintro rfl;simp at hn)
 exact ⟨b,o,e,hb⟩
end
def Blk (w:World) (g:Nat) (t:TypeId) (cs:List Value):Prop:=w.heap[g]? = some (.cells cs.toArray t (0,0))
section
variable {w w':World} {g:Nat} {t:TypeId} {cs:List Value}
theorem Blk.lt (h:Blk w g t cs):g < w.heap.size:=(Array.getElem?_eq_some_iff.1 h).1
theorem Blk.cell (h:Blk w g t cs) (i:Nat):w.cell? ⟨g,i,none⟩=cs[i]?:=(cell_of_row w g i _ t (0,0) h).trans (by simp)
theorem Blk.frozen (h:Blk w g t cs) (i:Nat):w.frozen? ⟨g,i,none⟩=false:=frozen_of_row w g i _ t h
theorem Blk.new (w:World) (t:TypeId) (cs:List Value):Blk (w.alloc (.cells cs.toArray t)) w.heap.size t cs:=heap_alloc_new w _
theorem Blk.alloc (h:Blk w g t cs) (o:Obj):Blk (w.alloc o) g t cs:=(Below.heap_alloc w o g h.lt).trans h
theorem Blk.set_ (h:Blk w g t cs) (i:Nat) (u:Value):Blk (w.setCell ⟨g,i,none⟩ u) g t (cs.set i u):=by
 have:=heap_setCell_same w g i _ t u h
 unfold Blk
 rw [this]
 simp
theorem Blk.far (h:Blk w g t cs) {p:Addr} (hp:g≠p.block) (u:Value):Blk (w.setCell p u) g t cs:=(Below.heap_setCell w p u g hp).trans h
theorem Blk.below {B:Nat} (h:Blk w g t cs) (hb:Below B w w') (hg:g < B):Blk w' g t cs:=(hb.block g hg).trans h
theorem Blk.grown {row:Option Nat} (h:Blk w g t cs) (hb:w.grownBy w' row) (hg:some g≠row):Blk w' g t cs:=(hb.block g h.lt hg).trans h
theorem own_ne {base:Nat} {e:TypeId} {size n:Nat} {v:Value} {xs:List Value} (h:w.ownsRow base e size v n xs) (hg:Blk w g t cs) (hne:e≠t):v.ownBlock≠some g:=by
 rcases h.2 with ⟨rfl,_⟩ | ⟨g',cap,cur,rfl,_,hh,_⟩
 ·simp [Value.ownBlock]
 ·intro he
  have:g'=g:=by simpa [Value.ownBlock] using he
  subst this
  unfold Blk at hg
  rw [hh] at hg
  injection hg with hg
  injection hg with _ ht
  exact hne ht
end
section
variable {P:Program} (w:World)
theorem run_append_rd (base:Nat) (t ty e:TypeId) (i:TypeInfo) (z:Value) (size bytes:Nat) (ht:P.underlying t=some (.slice e)) (hi:P.info? e=some i) (hz:i.zero=some z)
  (hsize:i.size=size) (hby:i.bytes=bytes) (hzs:z.cells.size=size) (hsz:0 < size)
  (v:Value) (n:Nat) (xs:List Value) (hown:w.ownsRow base e size v n xs)
  (B:Nat) (A:Option Addr) (m c:Nat) (news:List Value) (hl:news.length=m*size) (hr:Rd w B A news) (h1:∀u∈news,u.oneCell'=true)
  (h63:n+m≤maxLen) (hbytes:(n+m)*bytes≤140737488355328) (hbase:base≤w.heap.size) :
  ∃v' w',(Builtin.append_ #[t,t] ty #[v,.slice A m c]).run P w=.ok v' w'∧w'.ownsRow base e size v' (n+m) (xs++news)∧w.grownBy w' v.ownBlock ∧
   (v'.ownBlock=v.ownBlock∨v'.ownBlock=some w.heap.size):=by
 cases A with
 | none =>
  have hn:news=[]:=by
   by_cases hne:news=[]
   ·exact hne
   ·obtain ⟨b,o,h,_⟩:=hr hne;cases h
  subst hn
  have hm:m=0:=by
   rcases Nat.eq_zero_or_pos m with h0 | h0
   ·exact h0
   ·have:=Nat.mul_pos h0 hsz;simp at hl;omega
  subst hm
  refine ⟨v,w,?_,by simpa using hown,World.grownBy.refl w _,.inl rfl⟩
  rcases hown.2 with ⟨rfl,rfl⟩ | ⟨g,cap,cur,rfl,_,_,hnc,_⟩
  ·simp [Builtin.append_,run_underlying ht,sizeOf,typeInfo,hi,Builtin.lenOf,Builtin.firstCells]
  ·simp [Builtin.append_,run_underlying ht,sizeOf,typeInfo,hi,Builtin.lenOf,Builtin.firstCells,hnc,storeCells]
 | some ad =>
  have hcells:∀j u,news[j]? = some u→w.cell? (ad.add j)=some u:=by
   intro j u hu
   obtain ⟨b,o,h,_,hc⟩:=hr (by rintro rfl;simp at hu)
   injection h with h
   subst h
   have hadd:(⟨b,o,none⟩:Addr).add j=⟨b,o+j,none⟩:=by unfold Addr.add;split <;> simp_all
   rw [hadd];exact hc j u hu
  obtain ⟨v',w',hrun,h2,h3,_,h5⟩:=run_append_own_at (P:=P) w base t ty e i z size bytes ht hi hz hsize hby hzs hsz v n xs hown ad m c news hl hcells h1 h63 hbytes hbase
  exact ⟨v',w',hrun,h2,h3,h5⟩
theorem wp_append_rd {o:Oper} {a:Act} {K:Act→World→Prop} {Q:Exit→Act→World→Prop} (s x:Operand) (t:TypeId)
  (ho:o.op=.call { callee:=.builtin .append,args:=#[s,x],argTypes:=#[t,t] })
  (base:Nat) (e:TypeId) (i:TypeInfo) (z:Value) (size bytes:Nat) (ht:P.underlying t=some (.slice e)) (hi:P.info? e=some i) (hz:i.zero=some z)
  (hsize:i.size=size) (hby:i.bytes=bytes) (hzs:z.cells.size=size) (hsz:0 < size)
  (v:Value) (n:Nat) (xs:List Value) (hs:a.eval s=v) (hown:w.ownsRow base e size v n xs)
  (B:Nat) (A:Option Addr) (m c:Nat) (news:List Value) (hx:a.eval x=.slice A m c) (hl:news.length=m*size) (hr:Rd w B A news) (h1:∀u∈news,u.oneCell'=true)
  (h63:n+m≤maxLen) (hbytes:(n+m)*bytes≤140737488355328) (hbase:base≤w.heap.size)
  (h:∀v' w',w'.ownsRow base e size v' (n+m) (xs++news)→w.grownBy w' v.ownBlock→(v'.ownBlock=v.ownBlock∨v'.ownBlock=some w.heap.size)→K (a.put o.dst v') w'):o.wp P a w K Q:=by
 obtain ⟨v',w',hrun,h2,h3,h4⟩:=run_append_rd (P:=P) w base t o.type e i z size bytes ht hi hz hsize hby hzs hsz v n xs hown B A m c news hl hr h1 h63 hbytes hbase
 unfold Oper.wp execOp
 simp only [ho,resolve,invoke,builtin,Sem.run_bind,Sem.run_pure,Result.andThen_ok,List.map_toArray,List.map_cons,List.map_nil,hs,hx,hrun]
 exact h v' w' h2 h3 h4
theorem wpList_append_rd {ops:Array Oper} {rest:List Oper} {o:Oper} {a:Act} {Q:Exit→Act→World→Prop} (hgd:o.guard=none) (s x:Operand) (t:TypeId)
  (ho:o.op=.call { callee:=.builtin .append,args:=#[s,x],argTypes:=#[t,t] })
  (base:Nat) (e:TypeId) (i:TypeInfo) (z:Value) (size bytes:Nat) (ht:P.underlying t=some (.slice e)) (hi:P.info? e=some i) (hz:i.zero=some z)
  (hsize:i.size=size) (hby:i.bytes=bytes) (hzs:z.cells.size=size) (hsz:0 < size)
  (v:Value) (n:Nat) (xs:List Value) (hs:a.eval s=v) (hown:w.ownsRow base e size v n xs)
  (B:Nat) (A:Option Addr) (m c:Nat) (news:List Value) (hx:a.eval x=.slice A m c) (hl:news.length=m*size) (hr:Rd w B A news) (h1:∀u∈news,u.oneCell'=true)
  (h63:n+m≤maxLen) (hbytes:(n+m)*bytes≤140737488355328) (hbase:base≤w.heap.size)
  (h:∀v' w',w'.ownsRow base e size v' (n+m) (xs++news)→w.grownBy w' v.ownBlock→(v'.ownBlock=v.ownBlock∨v'.ownBlock=some w.heap.size)→wpList P ops Q rest (a.put o.dst v') w'):wpList P ops Q (o :: rest) a w :=
 wpList_plain hgd fun _ hK=>wp_append_rd w s x t ho base e i z size bytes ht hi hz hsize hby hzs hsz v n xs hs hown B A m c news hx hl hr h1 h63 hbytes hbase fun v' w' h2 h3 h4=>hK _ _ (h v' w' h2 h3 h4)
end
structure Chg (w w':World) (S:Nat→Prop):Prop where
 os:w'.os=w.os
 tape:w'.tape=w.tape
 output:w'.output=w.output
 size:w.heap.size≤w'.heap.size
 block:∀k,k < w.heap.size→¬S k→w'.heap[k]? = w.heap[k]?
section
variable {w w' w'':World} {S T:Nat→Prop}
theorem Chg.refl (w:World) (S:Nat→Prop):Chg w w S:=⟨rfl,rfl,rfl,Nat.le_refl _,fun _ _ _=>rfl⟩
theorem Chg.trans (h:Chg w w' S) (k:Chg w' w'' T) (hT:∀i,i < w.heap.size→T i→S i):Chg w w'' S :=
 ⟨k.os.trans h.os,k.tape.trans h.tape,k.output.trans h.output,Nat.le_trans h.size k.size,fun i hi hs=>(k.block i (Nat.lt_of_lt_of_le hi h.size) fun ht=>hs (hT i hi ht)).trans (h.block i hi hs)⟩
theorem Chg.more (h:Chg w w' S) (hS:∀i,S i→T i):Chg w w' T:=⟨h.os,h.tape,h.output,h.size,fun i hi hn=>h.block i hi fun hs=>hn (hS i hs)⟩
theorem Chg.grown (h:Chg w w' S) {row:Option Nat} (hg:w'.grownBy w'' row) (hr:∀i,i < w.heap.size→row=some i→S i):Chg w w'' S :=
 h.trans (T:=fun i=>row=some i) ⟨hg.os,hg.tape,hg.output,hg.size,fun k hk hn=>hg.block k hk fun e=>hn e.symm⟩ hr
theorem Chg.setCell (h:Chg w w' S) {p:Addr} (u:Value) (hp:S p.block):Chg w (w'.setCell p u) S :=
 h.trans (T:=fun k=>k=p.block) ⟨rfl,rfl,rfl,by simp [World.setCell],fun k _ hk=>Below.heap_setCell _ _ _ _ hk⟩ fun i _ e=>e ▸ hp
theorem Chg.of_below {B:Nat} (hb:Below B w w') (hB:w.heap.size≤B):Chg w w' S:=⟨hb.os,hb.tape,hb.output,hb.size,fun k hk _=>hb.block k (by omega)⟩
theorem Chg.and_below (h:Chg w w' S) (hb:Below w'.heap.size w' w''):Chg w w'' S:=h.trans (T:=fun _=>False) (Chg.of_below hb (Nat.le_refl _)) fun _ _ h=>h.elim
theorem Chg.below {B:Nat} (h:Chg w w' S) (hB:B≤w.heap.size) (hS:∀i,i < B→¬S i):Below B w w':=⟨h.os,h.tape,h.output,h.size,fun k hk=>h.block k (by omega) (hS k hk)⟩
end
theorem own_keep {w w':World} {base:Nat} {e:TypeId} {size:Nat} {v:Value} {n:Nat} {xs:List Value} {S:Nat→Prop} (h:w.ownsRow base e size v n xs) (hg:Chg w w' S) (hne:∀k,v.ownBlock=some k→¬S k):w'.ownsRow base e size v n xs:=by
 have hl:=h.lt
 refine ⟨h.1,?_⟩
 rcases h.2 with h0 | ⟨g,cap,cur,rfl,h1,h2,h3,h4,h5,h6⟩
 ·exact .inl h0
 ·exact .inr ⟨g,cap,cur,rfl,h1,by rw [hg.block g (hl g rfl).2 (hne g rfl)];exact h2,h3,h4,h5,h6⟩
theorem blk_keep {w w':World} {g:Nat} {t:TypeId} {cs:List Value} {S:Nat→Prop} (h:Blk w g t cs) (hg:Chg w w' S) (hne:¬S g):Blk w' g t cs:=(hg.block g h.lt hne).trans h
theorem own_mono {w:World} {base base':Nat} {e:TypeId} {size:Nat} {v:Value} {n:Nat} {xs:List Value} (h:w.ownsRow base e size v n xs) (hb:base'≤base):w.ownsRow base' e size v n xs:=by
 refine ⟨h.1,?_⟩
 rcases h.2 with h0 | ⟨g,cap,cur,rfl,h1,h2⟩
 ·exact .inl h0
 ·exact .inr ⟨g,cap,cur,rfl,Nat.le_trans hb h1,h2⟩
theorem own_set {w:World} {base:Nat} {e:TypeId} {size:Nat} {v:Value} {n:Nat} {xs:List Value} (h:w.ownsRow base e size v n xs) {fb:Nat} (ha:v.ownBlock≠some fb) {o:Nat} (u:Value):(w.setCell ⟨fb,o,none⟩ u).ownsRow base e size v n xs :=
 own_keep (S:=fun k=>k=fb) h ((Chg.refl w _).setCell (p:=⟨fb,o,none⟩) u rfl) fun _ hk e=>ha (e ▸ hk)
theorem own_apart {w:World} {b1 b2:Nat} {e1 e2:TypeId} {s1 s2 n1 n2:Nat} {v1 v2:Value} {xs1 xs2:List Value} (h1:w.ownsRow b1 e1 s1 v1 n1 xs1) (h2:w.ownsRow b2 e2 s2 v2 n2 xs2) (hne:e1≠e2):∀k,v1.ownBlock=some k→v2.ownBlock=some k→False:=by
 intro k k1 k2
 rcases h1.2 with ⟨rfl,_⟩ | ⟨g1,cap1,cur1,rfl,_,hh1,_⟩
 ·cases k1
 ·rcases h2.2 with ⟨rfl,_⟩ | ⟨g2,cap2,cur2,rfl,_,hh2,_⟩
  ·cases k2
  ·simp only [Value.ownBlock,Option.some.injEq] at k1 k2
   subst k1;subst k2
   rw [hh1] at hh2
   simp only [Option.some.injEq,Obj.cells.injEq] at hh2
   exact hne hh2.2.1
theorem rd_k {w:World} {B:Nat} {k:IntKind} {l:List Int} {b o:Nat} (h:Rd w B (some ⟨b,o,none⟩) (ks k l)) {i:Nat} (hi:i < l.length):w.cell? ⟨b,o+i,none⟩=some (.int k l[i]):=by
 obtain ⟨b',o',e,_,hc⟩:=h (by intro e;rw [ks_nil] at e;subst e;simp at hi)
 simp only [Option.some.injEq,Addr.mk.injEq,and_true] at e
 obtain ⟨rfl,rfl⟩:=e
 exact hc _ _ (ks_get hi)
theorem rd_form {w:World} {B:Nat} {k:IntKind} {l:List Int} {A:Option Addr} (h:Rd w B A (ks k l)) (hn:0 < l.length):∃b o,A=some ⟨b,o,none⟩∧b < B:=h.form (by rw [ks_len];exact hn)
theorem rd_new (u:World) (t:TypeId) (cs:List Value) (g:Nat) (hg:u.heap.size=g):Rd (u.alloc (.cells cs.toArray t)) (g+1) (some ⟨g,0,none⟩) cs:=fun _ =>
 ⟨g,0,rfl,by omega,fun j x hx=>by subst hg;rw [(Blk.new u t cs).cell,Nat.zero_add];exact hx⟩
theorem own_below {w w':World} {base:Nat} {e:TypeId} {size:Nat} {v:Value} {n:Nat} {xs:List Value} (h:w.ownsRow base e size v n xs) (hb:Below w.heap.size w w'):w'.ownsRow base e size v n xs :=
 own_keep (S:=fun _=>False) h (Chg.of_below hb (Nat.le_refl _)) fun _ _ e=>e
theorem own_form {w:World} {base:Nat} {e:TypeId} {size n:Nat} {v:Value} {xs:List Value} (h:w.ownsRow base e size v n xs):∃A c,v=.slice A n c∧n≤c∧c≤9223372036854775807∧Rd w w.heap.size A xs:=by
 have h2:=h.2
 rcases h2 with ⟨rfl,rfl⟩ | ⟨g,cap,cur,rfl,_,_,h1,h2,_⟩
 ·exact ⟨none,0,rfl,Nat.le_refl _,by omega,Rd.of_own h⟩
 ·exact ⟨_,cap,rfl,h1,h2,Rd.of_own h⟩
theorem below_drewN {B:Nat} {u v:World} (h:Below B u v) (k:Nat):Below B u (v.drewN k):=⟨h.os,h.tape,h.output,h.size,h.block⟩
theorem ret_bool {a b:Bool} (h:a=b):Ending.returned (.bool a)=.returned (.bool b):=by rw [h]
def Tells (w:World) (v:Value) (e:Ending) (w':World):Prop:=e=.returned v∧w=w'
def Ret (w:World) (v:Value) (e:Ending) (w':World):Prop:=e=.returned v∧Below w.heap.size w w'
end Go.Proofs.YtegdbmbenjnacaaGreat.Mem
namespace Go.Proofs.YtegdbmbenjnacaaGreat.Ucd
open Go.RowKit Utf
section
variable {P:Program}
end
section
variable {w w':World} {g:Nat} {cs:List Value}
end
theorem ret_int {k:IntKind} {a b:Int} (h:a=b):Ending.returned (.int k a)=.returned (.int k b):=by rw [h]
theorem ret_bool {a b:Bool} (h:a=b):Ending.returned (.bool a)=.returned (.bool b):=by rw [h]
def Ret (w:World) (v:Value) (e:Ending) (w':World):Prop:=e=.returned v∧Below w.heap.size w w'
end Go.Proofs.YtegdbmbenjnacaaGreat.Ucd
namespace Go.Proofs.YtegdbmbenjnacaaGreat.Sparse
open Go.RowKit Mem
set_option maxRecDepth 100000
def room (n:Int):Nat:=if n < 0 then 0 else if 65536 < n then 65536 else n.toNat
theorem room_le (n:Int):room n≤65536:=by
 unfold room;split;· omega
 split <;> omega
theorem room_neg {n:Int} (h:n < 0):room n=0:=if_pos h
theorem room_big {n:Int} (h:65536 < n):room n=65536:=by unfold room;rw [if_neg (by omega),if_pos h]
theorem room_mid {n:Int} (h:¬n < 0) (h2:¬65536 < n):(room n:Int)=n:=by unfold room;rw [if_neg h,if_neg h2];omega
def fresh (N:Nat) (l:List Int) (x:Int):Bool:=decide (0≤x∧x < N∧x∉l)
def put (N:Nat) (l:List Int) (x:Int):List Int:=if fresh N l x then l++[x] else l
theorem fresh_iff {N:Nat} {l:List Int} {x:Int}:fresh N l x=true↔0≤x∧x < N∧x∉l:=decide_eq_true_iff
theorem fresh_out {N:Nat} {l:List Int} {x:Int} (h:¬(0≤x∧x < N)):fresh N l x=false:=decide_eq_false fun k=>h ⟨k.1,k.2.1⟩
theorem fresh_there {N:Nat} {l:List Int} {x:Int} (h:x∈l):fresh N l x=false:=decide_eq_false fun k=>k.2.2 h
theorem put_yes {N:Nat} {l:List Int} {x:Int} (h:fresh N l x=true):put N l x=l++[x]:=if_pos h
theorem put_no {N:Nat} {l:List Int} {x:Int} (h:fresh N l x=false):put N l x=l:=by unfold put;rw [h];rfl
theorem few:∀(N:Nat) (l:List Int),l.Nodup→(∀x∈l,0≤x∧x < N)→l.length≤N
 | 0,l,_,h=>by
  cases l with
  | nil=>exact Nat.le_refl _
  | cons x t=>have:=h x (by simp);omega
 | N+1,l,hn,h=>by
  by_cases hm:(N:Int)∈l
  ·have h1:=few N (l.erase (N:Int)) (hn.erase _) fun x hx=>by
    have h2:=h x (List.mem_of_mem_erase hx)
    have h3:x≠(N:Int):=by rintro rfl;exact (hn.not_mem_erase) hx
    omega
   rw [List.length_erase_of_mem hm] at h1
   omega
  ·have h1:=few N l hn fun x hx=>by
    have h2:=h x hx
    have h3:x≠(N:Int):=by rintro rfl;exact hm hx
    omega
   omega
structure Ss (T E:TypeId) (k:IntKind) (w:World) (B g p:Nat) (v:Value) (N:Nat) (l:List Int):Prop where
 blk:Blk w g T [v,.slice (some ⟨p,0,none⟩) N N]
 own:w.ownsRow B E 1 v l.length (ks k l)
 le:B≤g
 lep:B≤p
 sm:N≤65536
 pl:∃q:List Int,Blk w p 172 (ks .u16 q)∧q.length=N∧(∀x∈q,0≤x∧x≤65535)∧∀(i:Nat) (h:i < l.length),q[l[i].toNat]? = some (i:Int)
 nep:v.ownBlock≠some p
 neg:v.ownBlock≠some g
 gp:g≠p
 nod:l.Nodup
 inn:∀x∈l,0≤x∧x < N
def Ft (g p:Nat) (v:Value) (i:Nat):Prop:=i=g∨i=p∨v.ownBlock=some i
section
variable {T E T' E':TypeId} {k k':IntKind} {w w':World} {B B' g p g' p' N N':Nat} {v u v' u':Value} {l l':List Int}
theorem Ss.few (h:Ss T E k w B g p v N l):l.length≤N:=Sparse.few N l h.nod h.inn
theorem Ss.keep {S:Nat→Prop} (h:Ss T E k w B g p v N l) (hc:Chg w w' S) (hn:∀i,Ft g p v i→¬S i):Ss T E k w' B g p v N l :=
 have ⟨q,h1,h2,h3,h4⟩:=h.pl
 ⟨blk_keep h.blk hc (hn _ (.inl rfl)),own_keep h.own hc fun i hi=>hn i (.inr (.inr hi)),h.le,h.lep,h.sm,⟨q,blk_keep h1 hc (hn _ (.inr (.inl rfl))),h2,h3,h4⟩,h.nep,h.neg,h.gp,h.nod,h.inn⟩
theorem Ss.next (h:Ss T E k w B g p v N l) (hb:Below w.heap.size w w'):Ss T E k w' B g p v N l:=h.keep (S:=fun _=>False) (Chg.of_below hb (Nat.le_refl _)) fun _ _ e=>e
theorem Ss.base (h:Ss T E k w B g p v N l) (hb:B'≤B):Ss T E k w B' g p v N l:=⟨h.blk,own_mono h.own hb,Nat.le_trans hb h.le,Nat.le_trans hb h.lep,h.sm,h.pl,h.nep,h.neg,h.gp,h.nod,h.inn⟩
theorem Ss.hers (h:Ss T E k w B g p v N l) {i:Nat} (hi:Ft g p v i):B≤i∧i < w.heap.size:=by
 obtain ⟨q,h1,_⟩:=h.pl
 rcases hi with rfl | rfl | hi
 ·exact ⟨h.le,h.blk.lt⟩
 ·exact ⟨h.lep,h1.lt⟩
 ·exact h.own.lt i hi
def Grew (w:World) (v u:Value):Prop:=∀i,u.ownBlock=some i→v.ownBlock=some i∨w.heap.size≤i
theorem Grew.refl (w:World) (v:Value):Grew w v v:=fun _ h=>.inl h
theorem ft_grew (hu:Grew w v u) {i:Nat} (hi:i < w.heap.size) (h:Ft g p u i):Ft g p v i:=by
 rcases h with h | h | h
 ·exact .inl h
 ·exact .inr (.inl h)
 ·rcases hu i h with h | h
  ·exact .inr (.inr h)
  ·omega
def Made (T E:TypeId) (k:IntKind) (w:World) (n:Int) (e:Ending) (w':World):Prop :=
 ∃g p,e=.returned (.pointer (some ⟨g,0,none⟩))∧Ss T E k w' w.heap.size g p (.slice none 0 0) (room n) []∧Below w.heap.size w w'
def Adds (T E:TypeId) (k:IntKind) (w:World) (B g p:Nat) (v:Value) (N:Nat) (l:List Int) (x:Int) (e:Ending) (w':World):Prop :=
 ∃u,e=.returned (.bool (fresh N l x))∧Ss T E k w' B g p u N (put N l x)∧Chg w w' (Ft g p v)∧Grew w v u
end
theorem places_snoc {q l:List Int} {N X:Nat} (h2:q.length=N) (h4:∀(i:Nat) (h:i < l.length),q[l[i].toNat]? = some (i:Int)) (hi:∀x∈l,0≤x∧x < N) (hX:X < N) (hx:(X:Int)∉l) :
  ∀(i:Nat) (h:i < (l++[(X:Int)]).length),(q.set X (l.length:Int))[((l++[(X:Int)])[i]).toNat]? = some (i:Int):=by
 intro i h
 by_cases hl:i < l.length
 ·rw [List.getElem_append_left hl,List.getElem?_set_ne,h4 i hl]
  intro e
  have hm:=List.getElem_mem hl
  have:=hi _ hm
  have e2:l[i]=(X:Int):=by omega
  rw [e2] at hm
  exact hx hm
 ·have e:i=l.length:=by rw [List.length_append] at h;simp at h;omega
  subst e
  rw [List.getElem_append_right (Nat.le_refl _)]
  simp [List.getElem?_set_self (show X < q.length by omega)]
section
variable {T E:TypeId} {k:IntKind} {w w':World} {B g p N:Nat} {v u:Value} {l:List Int}
theorem Ss.place (h:Ss T E k w B g p v N l) {X:Nat} (hX:X < N):∃y:Nat,y≤65535∧w.cell? ⟨p,X,none⟩=some (.int .u16 (y:Int))∧w.frozen? ⟨p,X,none⟩=false∧(((X:Int)∈l)↔∃hy:y < l.length,l[y]=(X:Int)):=by
 obtain ⟨q,h1,h2,h3,h4⟩:=h.pl
 have hq:X < q.length:=by omega
 have hb:=h3 _ (List.getElem_mem hq)
 refine ⟨q[X].toNat,by omega,?_,h1.frozen _,?_⟩
 ·rw [h1.cell,ks_get hq,show ((q[X].toNat:Nat):Int)=q[X] from by omega]
 ·constructor
  ·intro hm
   obtain ⟨i,hi,e⟩:=List.getElem_of_mem hm
   have h5:=h4 i hi
   rw [e,Int.toNat_natCast,List.getElem?_eq_getElem hq,Option.some.injEq] at h5
   rw [h5]
   exact ⟨by rw [Int.toNat_natCast];exact hi,by simpa using e⟩
  ·rintro ⟨hy,e⟩
   rw [←e]
   exact List.getElem_mem hy
theorem Ss.c0 (h:Ss T E k w B g p v N l):w.cell? ⟨g,0,none⟩=some v:=h.blk.cell 0
theorem Ss.c1 (h:Ss T E k w B g p v N l):w.cell? ⟨g,1,none⟩=some (.slice (some ⟨p,0,none⟩) N N):=h.blk.cell 1
theorem Ss.plt (h:Ss T E k w B g p v N l):p < w.heap.size:=(h.hers (.inr (.inl rfl))).2
theorem Ss.snoc (h:Ss T E k w B g p v N l) {X n:Nat} (hn:n=l.length) (hf:fresh N l (X:Int)=true) {w1 w2:World} (hw1:w1=w.setCell ⟨p,X,none⟩ (.int .u16 (n:Int))) {w1':World} (hb1:Below w1.heap.size w1 w1')
  (hu:w2.ownsRow B E 1 u (n+1) (ks k l++[.int k (X:Int)])) (hg:w1'.grownBy w2 v.ownBlock) (ha:u.ownBlock=v.ownBlock∨u.ownBlock=some w1'.heap.size) :
  Ss T E k (w2.setCell ⟨g,0,none⟩ u) B g p u N (put N l (X:Int))∧Chg w (w2.setCell ⟨g,0,none⟩ u) (Ft g p v)∧Grew w v u∧w2.cell? ⟨g,0,none⟩=some v∧w2.frozen? ⟨g,0,none⟩=false:=by
 subst hn
 obtain ⟨q,h1,h2,h3,h4⟩:=h.pl
 obtain ⟨f1,f2,f3⟩:=fresh_iff.1 hf
 have hX:X < N:=by omega
 have hs1:w.heap.size=w1.heap.size:=by rw [hw1];simp [World.setCell]
 have hgp:=h.gp
 have hgl:=h.blk.lt
 have hpl:=h.plt
 have hs2:=hb1.size
 have b1:Blk w1 g T [v,.slice (some ⟨p,0,none⟩) N N]:=by rw [hw1];exact h.blk.far h.gp _
 have p1:Blk w1 p 172 (ks .u16 (q.set X (l.length:Int))):=by rw [hw1,←ks_set];exact h1.set_ X _
 have b2:=(b1.below hb1 (by omega)).grown hg (fun e=>h.neg e.symm)
 have p2:=(p1.below hb1 (by omega)).grown hg (fun e=>h.nep e.symm)
 have hug:u.ownBlock≠some g:=by
  rcases ha with ha | ha
  ·rw [ha];exact h.neg
  ·rw [ha];intro e;injection e with e;omega
 have hup:u.ownBlock≠some p:=by
  rcases ha with ha | ha
  ·rw [ha];exact h.nep
  ·rw [ha];intro e;injection e with e;omega
 have hgr:Grew w v u:=fun i hi=>by
  rcases ha with ha | ha
  ·exact .inl (ha ▸ hi)
  ·right;rw [ha] at hi;injection hi with hi;omega
 have hc1:Chg w w1 (Ft g p v):=by rw [hw1];exact (Chg.refl w _).setCell (p:=⟨p,X,none⟩) _ (.inr (.inl rfl))
 have hc2:Chg w w2 (Ft g p v):=(hc1.and_below hb1).grown hg fun i _ e=>.inr (.inr e)
 refine ⟨?_,hc2.setCell (p:=⟨g,0,none⟩) u (.inl rfl),hgr,b2.cell 0,b2.frozen 0⟩
 rw [put_yes hf]
 refine ⟨b2.set_ 0 u,?_,h.le,h.lep,h.sm,⟨_,p2.far (Ne.symm hgp) u,by rw [List.length_set];exact h2,?_,places_snoc h2 h4 h.inn hX f3⟩,hup,hug,hgp,?_,?_⟩
 ·rw [List.length_append,ks_append]
  exact own_set hu hug u
 ·intro x hx
  rcases List.mem_or_eq_of_mem_set hx with hx | hx
  ·exact h3 x hx
  ·have h5:(l++[(X:Int)]).length≤N:=Sparse.few N _ (by
    rw [List.nodup_append]
    exact ⟨h.nod,by simp,fun a ha b hb e=>by simp at hb;subst hb;subst e;exact f3 ha⟩) (fun x hx=>by
     rcases List.mem_append.1 hx with hx | hx
     ·exact h.inn x hx
     ·simp at hx;omega)
   have:=h.sm
   rw [List.length_append] at h5
   simp at h5
   omega
 ·rw [List.nodup_append]
  exact ⟨h.nod,by simp,fun a ha b hb e=>by simp at hb;subst hb;subst e;exact f3 ha⟩
 ·intro x hx
  rcases List.mem_append.1 hx with hx | hx
  ·exact h.inn x hx
  ·simp at hx;omega
theorem Ss.less (h:Ss T E k w B g p v N l) {x:Int} (hf:fresh N l x=true):l.length < N:=by
 obtain ⟨f1,f2,f3⟩:=fresh_iff.1 hf
 have h5:(l++[x]).length≤N:=Sparse.few N _ (by
  rw [List.nodup_append]
  exact ⟨h.nod,by simp,fun a ha b hb e=>by simp at hb;subst hb;subst e;exact f3 ha⟩) (fun y hx=>by
   rcases List.mem_append.1 hx with hx | hx
   ·exact h.inn y hx
   ·simp at hx;omega)
 rw [List.length_append] at h5
 simp at h5
 omega
end
theorem infoU16:(Tryz.prog.info? 172).map (fun i=>(i.zero,i.size,i.bytes))=some (some (.int .u16 0),1,2):=by kernel_rfl
theorem infoInt:(Tryz.prog.info? 3).map (fun i=>(i.zero,i.size,i.bytes))=some (some (.int .i64 0),1,8):=by kernel_rfl
theorem made_u16 (n:Nat):madeCells #[Value.int .u16 0] n=(ks .u16 (List.replicate n 0)).toArray:=by
 rw [show (ks .u16 (List.replicate n 0))=List.replicate n (Value.int .u16 0) from by simp [ks],←toList_madeCells_one]
end Go.Proofs.YtegdbmbenjnacaaGreat.Sparse
namespace Go.Proofs.YtegdbmbenjnacaaGreat.Sparse
open Go.RowKit Mem
set_option maxRecDepth 100000
set_option maxHeartbeats 2000000 in
theorem new_int (n:Int) (w:World) (h1:-9223372036854775808≤n) (h2:n≤9223372036854775807):Calls Tryz.prog 70 #[.int .i64 n] w (Made 115 3 .i64 w n):=by
 obtain ⟨i0,hi,hz0,hz1,hz2⟩:=info_parts infoU16
 obtain ⟨N,hN⟩:∃N,N=room n:=⟨_,rfl⟩
 have hsm:N≤65536:=hN ▸ room_le n
 obtain ⟨z,hz⟩:∃z:Int,z=(N:Int):=⟨_,rfl⟩
 have hmk:(Instr.makeSlice 113 (.int .i64 z) (.int .i64 z)).run Tryz.prog w=.ok (.slice (some ⟨w.heap.size,0,none⟩) N N) (w.alloc (.cells (ks .u16 (List.replicate N 0)).toArray 172)):=by
  have h:=run_make (P:=Tryz.prog) w 113 172 i0 (.int .u16 0) Tryz.underlying113 hi hz0 .i64 .i64 z z (by omega) (by omega) (by rw [hz2];omega) (by omega)
  rw [show z.toNat=N from by omega,hz1,Nat.mul_one] at h
  rw [h]
  show Result.ok _ (w.alloc (.cells (madeCells #[Value.int .u16 0] N) _))=_
  rw [made_u16]
 suffices H:Calls Tryz.prog 70 #[.int .i64 n] w fun e w'=>e=.returned (.pointer (some ⟨w.heap.size+1,0,none⟩))∧w'=(w.alloc (.cells (ks .u16 (List.replicate N 0)).toArray 172)).alloc (.cells #[.slice none 0 0,.slice (some ⟨w.heap.size,0,none⟩) N N] 115) from by
  refine H.mono ?_
  rintro e w' ⟨rfl,rfl⟩
  have hb:Below w.heap.size w ((w.alloc (.cells (ks .u16 (List.replicate N 0)).toArray 172)).alloc (.cells #[.slice none 0 0,.slice (some ⟨w.heap.size,0,none⟩) N N] 115)):=((Below.refl _ _).alloc (Nat.le_refl _) _).alloc (by simp) _
  have hB:=Blk.new (w.alloc (.cells (ks .u16 (List.replicate N 0)).toArray 172)) 115 [.slice none 0 0,.slice (some ⟨w.heap.size,0,none⟩) N N]
  have hs:(w.alloc (.cells (ks .u16 (List.replicate N 0)).toArray 172)).heap.size=w.heap.size+1:=by simp
  rw [hs] at hB
  refine ⟨w.heap.size+1,w.heap.size,rfl,⟨?_,World.ownsRow_nil _ _ _ _,by omega,Nat.le_refl _,room_le n,⟨List.replicate N 0,(Blk.new w 172 _).alloc _,by rw [List.length_replicate,hN],fun x hx=>by have:=(List.mem_replicate.1 hx).2;omega,fun i h=>by simp at h⟩,by simp [Value.ownBlock],by simp [Value.ownBlock],by omega,List.nodup_nil,fun x hx=>by simp at hx⟩,hb⟩
  rw [←hN];exact hB
 by_cases c1:n < 0
 ·have e1:=room_neg c1
  have e2:z=0:=by omega
  subst e2
  clear hN hsm hi hz0 hz1 hz2 hz e1
  go_enter Tryz.func70,Tryz.ntmps70
  go_wp2
  go_ret
  exact ⟨rfl,rfl⟩
 ·by_cases c2:(65536:Int) < n
  ·have e1:=room_big c2
   have e2:z=65536:=by omega
   subst e2
   clear hN hsm hi hz0 hz1 hz2 hz e1
   go_enter Tryz.func70,Tryz.ntmps70
   go_wp2
   go_ret
   exact ⟨rfl,rfl⟩
  ·have e1:=room_mid c1 c2
   have e2:z=n:=by omega
   subst e2
   clear hN hsm hi hz0 hz1 hz2 hz e1
   go_enter Tryz.func70,Tryz.ntmps70
   go_wp2
   go_ret
   exact ⟨rfl,rfl⟩
set_option maxHeartbeats 2000000 in
theorem takes_int (x:Int) (g p N:Nat) (v:Value) (w:World) (h:Blk w g 115 [v,.slice (some ⟨p,0,none⟩) N N]) (hl:-9223372036854775808≤x) (hh:x≤9223372036854775807) :
  Calls Tryz.prog 109 #[.pointer (some ⟨g,0,none⟩),.int .i64 x] w (Tells w (.bool (decide (0≤x∧x < N)))):=by
 have c1:=h.cell 1
 simp only [List.getElem?_cons_succ,List.getElem?_cons_zero] at c1
 have ew:IntKind.i64.wrap x=x:=IntWalk.i64_in _ (by omega)
 clear h
 by_cases c2:0≤x
 ·have d2:decide ((0:Int)≤x)=true:=decide_eq_true c2
  by_cases c3:x < N
  ·have d3:decide (x < (N:Int))=true:=decide_eq_true c3
   rw [decide_eq_true (p:=0≤x∧x < N) ⟨c2,c3⟩]
   go_enter Tryz.func109,Tryz.ntmps109
   go_wp2
   go_ret
   exact ⟨rfl,rfl⟩
  ·have d3:decide (x < (N:Int))=false:=decide_eq_false c3
   rw [decide_eq_false (p:=0≤x∧x < N) fun k=>c3 k.2]
   go_enter Tryz.func109,Tryz.ntmps109
   go_wp2
   go_ret
   exact ⟨rfl,rfl⟩
 ·have d2:decide ((0:Int)≤x)=false:=decide_eq_false c2
  rw [decide_eq_false (p:=0≤x∧x < N) fun k=>c2 k.1]
  go_enter Tryz.func109,Tryz.ntmps109
  go_wp2
  go_ret
  exact ⟨rfl,rfl⟩
end Go.Proofs.YtegdbmbenjnacaaGreat.Sparse
namespace Go.Proofs.YtegdbmbenjnacaaGreat.Sparse
open Go.RowKit Mem
set_option maxRecDepth 100000
set_option maxHeartbeats 2000000 in
theorem holds_int (X B g p N:Nat) (v:Value) (l:List Int) (w:World) (h:Ss 115 3 .i64 w B g p v N l) (hX:X < N) :
  Calls Tryz.prog 110 #[.pointer (some ⟨g,0,none⟩),.int .i64 X] w (Tells w (.bool (decide ((X:Int)∈l)))):=by
 obtain ⟨y,hy,cp,_,hiff⟩:=h.place hX
 have c0:=h.c0
 have c1:=h.c1
 obtain ⟨A,c,rfl,_,_,hr⟩:=own_form h.own
 have ew:IntKind.i64.wrap (y:Int)=y:=IntWalk.i64_in _ (by omega)
 have hXN:(X:Int) < N:=by omega
 obtain ⟨n,hn⟩:∃n,n=l.length:=⟨_,rfl⟩
 rw [←hn] at c0
 by_cases hlt:y < l.length
 ·obtain ⟨b,o,rfl,_⟩:=rd_form hr (by omega)
  have cy:=rd_k hr hlt
  obtain ⟨z,hz⟩:∃z,z=l[y]:=⟨_,rfl⟩
  rw [←hz] at cy
  have hyn:(y:Int) < n:=by omega
  have d1:decide ((y:Int) < (n:Int))=true:=decide_eq_true hyn
  by_cases e:z=X
  ·have e1:decide ((X:Int)∈l)=true:=decide_eq_true (hiff.2 ⟨hlt,by omega⟩)
   rw [e1]
   subst e
   have e2:(((X:Int)) == ((X:Int)))=true:=by simp
   clear h hr hiff hz hn hlt
   go_enter Tryz.func110,Tryz.ntmps110
   go_wp2
   go_ret
   exact ⟨rfl,rfl⟩
  ·have e1:decide ((X:Int)∈l)=false:=decide_eq_false fun hm=>e (by obtain ⟨_,h2⟩:=hiff.1 hm;omega)
   rw [e1]
   have e2:(z == (X:Int))=false:=by simpa using e
   clear h hr hiff hz hn hlt
   go_enter Tryz.func110,Tryz.ntmps110
   go_wp2
   go_ret
   exact ⟨rfl,rfl⟩
 ·have e1:decide ((X:Int)∈l)=false:=decide_eq_false fun hm=>hlt (by obtain ⟨h2,_⟩:=hiff.1 hm;exact h2)
  rw [e1]
  have d0:¬(y:Int) < n:=by omega
  have d1:decide ((y:Int) < (n:Int))=false:=decide_eq_false d0
  clear h hr hiff hn hlt
  go_enter Tryz.func110,Tryz.ntmps110
  go_wp2
  go_ret
  exact ⟨rfl,rfl⟩
end Go.Proofs.YtegdbmbenjnacaaGreat.Sparse
namespace Go.Proofs.YtegdbmbenjnacaaGreat.Sparse
open Go.RowKit Mem
set_option maxRecDepth 100000
set_option maxHeartbeats 4000000 in
theorem add_int (x:Int) (B g p N:Nat) (v:Value) (l:List Int) (w:World) (h:Ss 115 3 .i64 w B g p v N l) (hl:-9223372036854775808≤x) (hh:x≤9223372036854775807) :
  Calls Tryz.prog 95 #[.pointer (some ⟨g,0,none⟩),.int .i64 x] w (Adds 115 3 .i64 w B g p v N l x):=by
 have HT:=Lib.hid (takes_int x g p N v w h.blk hl hh)
 have HS:=Lib.hid h
 by_cases c:0≤x∧x < N
 ·obtain ⟨X,rfl⟩:∃X:Nat,x=X:=⟨x.toNat,by omega⟩
  have HH:=Lib.hid (holds_int X B g p N v l w h (by omega))
  rw [decide_eq_true c] at HT
  by_cases hm:(X:Int)∈l
  ·rw [decide_eq_true hm] at HH
   clear h
   go_enter Tryz.func95,Tryz.ntmps95
   go_wp2_with (first | (go_at_call 109;refine HT.out.mono ?_;rintro e1 w1 ⟨rfl,rfl⟩) | (go_at_call 110;refine HH.out.mono ?_;rintro e2 w2 ⟨rfl,rfl⟩))
   go_ret
   exact ⟨v,ret_bool (fresh_there hm).symm,by rw [put_no (fresh_there hm)];exact HS.out,Chg.refl _ _,Grew.refl _ _⟩
  ·have HF:=Lib.hid (show fresh N l (X:Int)=true from fresh_iff.2 ⟨c.1,c.2,hm⟩)
   rw [decide_eq_false hm] at HH
   obtain ⟨i0,hi,hz0,hz1,hz2⟩:=info_parts infoInt
   have c0:=h.c0
   have c1:=h.c1
   obtain ⟨y,_,cp,fp,_⟩:=h.place (X:=X) (by omega)
   have hless:=h.less HF.out
   have hsm:=h.sm
   have hgp:=h.gp
   have hbase:B≤w.heap.size:=by have:=(h.hers (.inl rfl));omega
   obtain ⟨n,hn⟩:∃n,n=l.length:=⟨_,rfl⟩
   have hnN:n < N:=by omega
   have ew:IntKind.u16.wrap (n:Int)=n:=by rw [IntKind.wrap_u16];omega
   have hXN:(X:Int) < N:=by omega
   obtain ⟨A,ca,hv,_,_,_⟩:=own_form h.own
   rw [←hn] at hv
   subst hv
   have HN:=Lib.hid hn
   have HO:=Lib.hid h.own
   have hplt:=h.plt
   have hglt:=h.blk.lt
   obtain ⟨w1,hw1⟩:∃w1,w1=w.setCell ⟨p,X,none⟩ (.int .u16 (n:Int)):=⟨_,rfl⟩
   have hO1:w1.ownsRow B 3 1 (.slice A n ca) n (ks .i64 l):=by
    have:=own_set h.own h.nep (o:=X) (.int .u16 (n:Int))
    rw [←hw1,←hn] at this
    exact this
   have d0:w1.cell? ⟨g,0,none⟩=some (.slice A n ca):=by rw [hw1,World.cell?_setCell_other _ _ _ _ (fun e=>hgp (congrArg Addr.block e).symm)];exact c0
   have hs1:w1.heap.size=w.heap.size:=by rw [hw1];simp [World.setCell]
   have HO1:=Lib.hid hO1
   have HW1:=Lib.hid hw1
   have HBS:=Lib.hid hbase
   have HS1:=Lib.hid hs1
   clear h hO1 hn hm hless hplt hbase hw1 hs1
   go_enter Tryz.func95,Tryz.ntmps95
   go_wp2_with (first | (go_at_call 109;refine HT.out.mono ?_;rintro e1 w1 ⟨rfl,rfl⟩) | (go_at_call 110;refine HH.out.mono ?_;rintro e2 w2 ⟨rfl,rfl⟩))
   go_region
   all_goals rw [←HW1.out]
   all_goals go_wp2_with (at_builtin;refine wpList_append_rd _ rfl (.tmp 30) (.tmp 32) _ rfl B 3 i0 _ 1 8 Tryz.underlying66 hi hz0 hz1 hz2 rfl (by decide) (.slice A n ca) n (ks .i64 l) rfl (own_below HO1.out (by first | exact ((Below.refl _ _).alloc (Nat.le_refl _) _).drew | exact ((Below.refl _ _).alloc (Nat.le_refl _) _) | exact ((Below.refl _ _).drew.alloc (Nat.le_refl _) _))) _ (some ⟨w1.heap.size,0,none⟩) 1 1 [.int .i64 X] rfl rfl (rd_new _ _ [.int .i64 X] _ rfl) (ks_one .i64 [(X:Int)]) (by unfold maxLen;omega) (by omega) (by have:=HBS.out;have:=HS1.out;simp;omega) ?_;intro v6 w6 hown6 hgr6 hat6;obtain ⟨k1,k2,k3,c6,f6⟩:=HS.out.snoc HN.out HF.out HW1.out (by first | exact ((Below.refl _ _).alloc (Nat.le_refl _) _).drew | exact ((Below.refl _ _).alloc (Nat.le_refl _) _) | exact ((Below.refl _ _).drew.alloc (Nat.le_refl _) _)) hown6 hgr6 hat6;obtain ⟨A6,ca6,hv6,_,_,_⟩:=own_form hown6;subst hv6;have K1:=Lib.hid k1;have K2:=Lib.hid k2;have K3:=Lib.hid k3;clear k1 k2 k3 hown6 hgr6 hat6)
   all_goals go_ret
   all_goals exact ⟨_,ret_bool HF.out.symm,K1.out,K2.out,K3.out⟩
 ·rw [decide_eq_false c] at HT
  clear h
  go_enter Tryz.func95,Tryz.ntmps95
  go_wp2_with (first | (go_at_call 109;refine HT.out.mono ?_;rintro e1 w1 ⟨rfl,rfl⟩))
  go_ret
  exact ⟨v,ret_bool (fresh_out c).symm,by rw [put_no (fresh_out c)];exact HS.out,Chg.refl _ _,Grew.refl _ _⟩
end Go.Proofs.YtegdbmbenjnacaaGreat.Sparse
namespace Go.Proofs.YtegdbmbenjnacaaGreat.Sparse
open Go.RowKit Mem
set_option maxRecDepth 100000
def nth (l:List Int) (i:Int):Option Int:=if i < 0 then none else l[i.toNat]?
theorem nth_neg {l:List Int} {i:Int} (h:i < 0):nth l i=none:=if_pos h
theorem nth_at {l:List Int} {i:Nat} (h:i < l.length):nth l i=some l[i]:=by unfold nth;rw [if_neg (by omega),Int.toNat_natCast,List.getElem?_eq_getElem h]
theorem nth_past {l:List Int} {i:Nat} (h:¬i < l.length):nth l i=none:=by unfold nth;rw [if_neg (by omega),Int.toNat_natCast,List.getElem?_eq_none (by omega)]
set_option maxHeartbeats 2000000 in
theorem len_int (B g p N:Nat) (v:Value) (l:List Int) (w:World) (h:Ss 115 3 .i64 w B g p v N l) :
  Calls Tryz.prog 25 #[.pointer (some ⟨g,0,none⟩)] w (Tells w (.int .i64 (l.length:Int))):=by
 have c0:=h.c0
 obtain ⟨A,ca,hv,_,_,hr⟩:=own_form h.own
 subst hv
 clear h hr
 generalize l.length=n at c0 ⊢
 go_enter Tryz.func25,Tryz.ntmps25
 go_wp2
 go_ret
 exact ⟨rfl,rfl⟩
set_option maxHeartbeats 2000000 in
theorem at_int (i:Int) (B g p N:Nat) (v:Value) (l:List Int) (w:World) (h:Ss 115 3 .i64 w B g p v N l) :
  Calls Tryz.prog 50 #[.pointer (some ⟨g,0,none⟩),.int .i64 i] w (Tells w (.tuple #[.int .i64 ((nth l i).getD 0),.bool (nth l i).isSome])):=by
 have HL:=Lib.hid (len_int B g p N v l w h)
 by_cases c1:i < 0
 ·rw [nth_neg c1]
  have d1:decide (i < 0)=true:=decide_eq_true c1
  clear h
  go_enter Tryz.func50,Tryz.ntmps50
  go_wp2
  go_ret2
  exact ⟨rfl,rfl⟩
 ·obtain ⟨I,rfl⟩:∃I:Nat,i=I:=⟨i.toNat,by omega⟩
  by_cases c2:I < l.length
  ·have c0:=h.c0
   obtain ⟨A,ca,hv,_,_,hr⟩:=own_form h.own
   subst hv
   obtain ⟨b,o,rfl,_⟩:=rd_form hr (by omega)
   have cy:=rd_k hr c2
   rw [nth_at c2]
   obtain ⟨z,hz⟩:∃z,z=l[I]:=⟨_,rfl⟩
   rw [←hz] at cy ⊢
   obtain ⟨n,hn⟩:∃n,n=l.length:=⟨_,rfl⟩
   rw [←hn] at c0 HL
   have e1:(I:Int) < n:=by omega
   have e2:¬(n:Int)≤I:=by omega
   have e3:decide ((n:Int)≤(I:Int))=false:=decide_eq_false e2
   have e4:decide ((I:Int) < 0)=false:=decide_eq_false c1
   clear h hr hz hn c2
   go_enter Tryz.func50,Tryz.ntmps50
   go_wp2_with (go_at_call 25;refine HL.out.mono ?_;rintro e1 w1 ⟨rfl,rfl⟩)
   go_ret2
   exact ⟨rfl,rfl⟩
  ·rw [nth_past c2]
   obtain ⟨n,hn⟩:∃n,n=l.length:=⟨_,rfl⟩
   rw [←hn] at HL
   have e2:(n:Int)≤I:=by omega
   have e3:decide ((n:Int)≤(I:Int))=true:=decide_eq_true e2
   have e4:decide ((I:Int) < 0)=false:=decide_eq_false c1
   clear h hn c2
   go_enter Tryz.func50,Tryz.ntmps50
   go_wp2_with (go_at_call 25;refine HL.out.mono ?_;rintro e1 w1 ⟨rfl,rfl⟩)
   go_ret2
   exact ⟨rfl,rfl⟩
def Wiped (T E:TypeId) (k:IntKind) (w:World) (B g p:Nat) (v:Value) (N:Nat) (e:Ending) (w':World):Prop :=
 ∃u,e=.returned (.tuple #[])∧Ss T E k w' B g p u N []∧Chg w w' (Ft g p v)∧Grew w v u
theorem Ss.wiped {T E:TypeId} {k:IntKind} {w:World} {B g p N n ca:Nat} {A:Option Addr} {l:List Int} (h:Ss T E k w B g p (.slice A n ca) N l) :
  Ss T E k (w.setCell ⟨g,0,none⟩ (.slice A 0 ca)) B g p (.slice A 0 ca) N []∧Chg w (w.setCell ⟨g,0,none⟩ (.slice A 0 ca)) (Ft g p (.slice A n ca))∧Grew w (.slice A n ca) (.slice A 0 ca):=by
 obtain ⟨q,h1,h2,h3,h4⟩:=h.pl
 have ho:w.ownsRow B E 1 (.slice A 0 ca) 0 []:=by
  rcases h.own.2 with ⟨hv,_⟩ | ⟨g',cap,cur,hv,e1,e2,e3,e4,e5,e6⟩
  ·injection hv with a1 a2 a3
   subst a1 a3
   exact World.ownsRow_nil _ _ _ _
  ·injection hv with a1 a2 a3
   subst a1 a3
   exact ⟨rfl,.inr ⟨g',ca,cur,rfl,e1,e2,Nat.zero_le _,e4,e5,by simp⟩⟩
 have hb:(Value.slice A 0 ca).ownBlock=(Value.slice A n ca).ownBlock:=by cases A <;> rfl
 refine ⟨⟨h.blk.set_ 0 _,own_set ho (by rw [hb];exact h.neg) _,h.le,h.lep,h.sm,⟨q,h1.far (Ne.symm h.gp) _,h2,h3,fun i h=>by simp at h⟩,by rw [hb];exact h.nep,by rw [hb];exact h.neg,h.gp,List.nodup_nil,fun x hx=>by simp at hx⟩,(Chg.refl w _).setCell (p:=⟨g,0,none⟩) _ (.inl rfl),fun i hi=>.inl (hb ▸ hi)⟩
set_option maxHeartbeats 2000000 in
theorem clear_int (B g p N:Nat) (v:Value) (l:List Int) (w:World) (h:Ss 115 3 .i64 w B g p v N l) :
  Calls Tryz.prog 49 #[.pointer (some ⟨g,0,none⟩)] w (Wiped 115 3 .i64 w B g p v N):=by
 have c0:=h.c0
 have f0:=h.blk.frozen 0
 have ho:=h.own.2
 obtain ⟨A,ca,hv,hle,_,hr⟩:=own_form h.own
 subst hv
 have HW:=Lib.hid h.wiped
 clear h hr
 generalize l.length=n at c0 ho HW hle ⊢
 have hsl:∀u:World,(Instr.slice 66 (.slice A n ca) none (some (.int .i64 0)) none).run Tryz.prog u=.ok (.slice A 0 ca) u:=fun u=>by
  have he:Tryz.prog.elem 66=3:=by simp [Program.elem,Tryz.underlying66]
  rw [run_slice_h u 66 A n ca (by rw [he];exact Tryz.underlying66) .i64 0 (by omega) (by omega),he,Tryz.sizeOf3]
  rcases ho with ⟨hv,_⟩ | ⟨g',cap,cur,hv,e1,e2,e3,e4,e5,e6⟩
  ·injection hv with a1 a2 a3
   subst a1 a3
   simp [Result.andThen,sliced]
  ·injection hv with a1 a2 a3
   subst a1 a3
   have hadd:(⟨g',0,none⟩:Addr).add 0=⟨g',0,none⟩:=by unfold Addr.add;split <;> simp_all
   simp [Result.andThen,sliced,hadd]
 clear ho hle
 go_enter Tryz.func49,Tryz.ntmps49
 go_wp2
 go_end0
 exact ⟨_,rfl,HW.out.1,HW.out.2.1,HW.out.2.2⟩
end Go.Proofs.YtegdbmbenjnacaaGreat.Sparse
