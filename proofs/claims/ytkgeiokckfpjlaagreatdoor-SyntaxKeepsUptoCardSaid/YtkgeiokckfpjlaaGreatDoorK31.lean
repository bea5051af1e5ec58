/-
  Texts of stage 7, part 31.
-/
import Derived.Recover
import Derived.WalkLawsBesides
import Derived.BigQuiet
import Derived.Deep.RegionLaw
import Derived.Deep.DeepCutAuto
import Derived.Test.YtkgeiokckfpjlaaGreatDoorK15
import Derived.Test.YtkgeiokckfpjlaaGreatDoorK17
import Derived.Test.YtkgeiokckfpjlaaGreatDoorK30
namespace Go.Proofs.YtkgeiokckfpjlaaGreatDoor.Syn
open Go.RowKit
open Utf (Rd Blk own_ne)
open Norm (Chg own_keep blk_keep own_mono)
open Seg (Sg sgs sgs_get Rd_sg)
open Sset (St Tx none_ NmS Short txs Has3 argR_own argT_own mk_toList)
open Rset (rgs)
open Ucd (Laid)
set_option maxRecDepth 100000
def NodeB (w:World) (k:Nat):Prop:=∃cs fr,w.heap[k]? = some (.cells cs 41 fr)
def Kpt (g:Nat) (w w':World):Prop:=Chg w w' fun k=>k=g∨g≤k∧NodeB w k
section
variable {w w' w'':World} {g B:Nat}
theorem Kpt.refl (g:Nat) (w:World):Kpt g w w:=Chg.refl w _
theorem Kpt.trans (h:Kpt g w w') (k:Kpt g w' w''):Kpt g w w'':=Chg.trans h k fun i hi hs=>by
 rcases hs with rfl | ⟨h1,cs,fr,h2⟩
 ·exact .inl rfl
 ·by_cases hn:NodeB w i
  ·exact .inr ⟨h1,hn⟩
  ·by_cases hg:i=g
   ·exact .inl hg
   ·exfalso
    rw [Chg.block h i hi (by rintro (e | e);exact hg e;exact hn e.2)] at h2
    exact hn ⟨cs,fr,h2⟩
theorem Kpt.of_below (hb:Below w.heap.size w w'):Kpt g w w':=Chg.of_below hb (Nat.le_refl _)
theorem Kpt.next (h:Kpt g w w') (hb:Below w'.heap.size w' w''):Kpt g w w'':=Chg.and_below h hb
theorem Kpt.below (h:Kpt g w w') (hg:g≤w.heap.size):Below g w w':=Chg.below h hg fun i hi hs=>by
 rcases hs with rfl | ⟨h1,_⟩ <;> omega
theorem Kpt.put (w:World) (g i:Nat) (v:Value):Kpt g w (w.setCell ⟨g,i,none⟩ v):=(Chg.refl w _).setCell (p:=⟨g,i,none⟩) v (.inl rfl)
theorem Kpt.size (h:Kpt g w w'):w.heap.size≤w'.heap.size:=Chg.size h
theorem own_node {base n:Nat} {v:Value} {xs:List Value} (h:w.ownsRow base 41 6 v n xs) {k:Nat} (hk:v.ownBlock=some k):NodeB w k∧base≤k:=by
 rcases h.2 with ⟨rfl,_⟩ | ⟨g',cap,cur,rfl,h1,h2,_⟩
 ·cases hk
 ·have:g'=k:=by simpa [Value.ownBlock] using hk
  subst this
  exact ⟨⟨_,_,h2⟩,h1⟩
theorem Kpt.grown {base n:Nat} {v:Value} {xs:List Value} (h:w.ownsRow base 41 6 v n xs) (hg:w.grownBy w' v.ownBlock) (hb:g≤base):Kpt g w w' :=
 (Chg.refl w _).grown hg fun _ _ e=>.inr ⟨Nat.le_trans hb (own_node h e).2,(own_node h e).1⟩
theorem own_kpt {base size n:Nat} {e:TypeId} {v:Value} {xs:List Value} (h:w.ownsRow base e size v n xs) (hk:Kpt g w w') {cs:List Value} {t:TypeId} (hg:Blk w g t cs) (ht:e≠t) (he:e≠41):w'.ownsRow base e size v n xs :=
 own_keep h hk fun k hv hs=>by
  rcases hs with rfl | ⟨_,cs,fr,h1⟩
  ·exact own_ne h hg ht hv
  ·rcases h.2 with ⟨rfl,_⟩ | ⟨g',cap,cur,rfl,_,hh,_⟩
   ·cases hv
   ·have:g'=k:=by simpa [Value.ownBlock] using hv
    subst this
    rw [hh] at h1
    injection h1 with h1
    injection h1 with _ h1
    exact he h1
theorem blk_kpt {b:Nat} {t:TypeId} {cs:List Value} (h:Blk w b t cs) (hk:Kpt g w w') (hb:b≠g) (ht:t≠41):Blk w' b t cs :=
 blk_keep h hk fun hs=>by
  rcases hs with rfl | ⟨_,cs,fr,h1⟩
  ·exact hb rfl
  ·unfold Blk at h
   rw [h] at h1
   injection h1 with h1
   injection h1 with _ h1
   exact ht h1
end
structure Held (w:World) (B:Nat) (v:NV) (n:Nd):Prop where
 k:v.k=n.kind
 mn:v.mn=n.mn
 mx:v.mx=n.mx
 nm:NmS n.set
 short:Short n.set.o
 sm:n.set.o.length≤1073741824
 l1:n.set.s.length=v.n1
 l2:n.set.m.length=v.n2
 l3:n.set.o.length=v.n3
 o1:w.ownsRow B 48 2 (.slice v.A1 v.n1 v.c1) n.set.s.length (rgs n.set.s)
 o2:w.ownsRow B 48 2 (.slice v.A2 v.n2 v.c2) n.set.m.length (rgs n.set.m)
 o3:w.ownsRow B 9 1 (.slice v.A3 v.n3 v.c3) n.set.o.length (txs n.set.o)
section
variable {w w':World} {B g:Nat} {v:NV} {n:Nd}
theorem Held.has (h:Held w B v n):Has3 w v.A1 v.n1 v.A2 v.n2 v.A3 v.n3 n.set:=by
 have o1:=h.o1;have o2:=h.o2;have o3:=h.o3
 rw [h.l1] at o1;rw [h.l2] at o2;rw [h.l3] at o3
 obtain ⟨A1,c1,e1,k1⟩:=argR_own o1 h.l1 h.nm.s
 obtain ⟨A2,c2,e2,k2⟩:=argR_own o2 h.l2 h.nm.m
 obtain ⟨A3,c3,e3,k3⟩:=argT_own o3 h.l3 h.short (by have:=h.sm;have:=h.l3;omega)
 injection e1 with e1;injection e2 with e2;injection e3 with e3
 subst e1 e2 e3
 exact ⟨k1,k2,k3⟩
theorem Held.means (h:Held w B v n):Means w v n:=⟨h.k,h.mn,h.mx,h.has⟩
theorem Held.keep (h:Held w B v n) (hk:Kpt g w w') {cs:List Value} (hg:Blk w g 126 cs):Held w' B v n :=
 ⟨h.k,h.mn,h.mx,h.nm,h.short,h.sm,h.l1,h.l2,h.l3,own_kpt h.o1 hk hg (by decide) (by decide),own_kpt h.o2 hk hg (by decide) (by decide),own_kpt h.o3 hk hg (by decide) (by decide)⟩
theorem Held.next (h:Held w B v n) (hb:Below w.heap.size w w'):Held w' B v n :=
 have hc:Chg w w' fun _=>False:=Chg.of_below hb (Nat.le_refl _)
 ⟨h.k,h.mn,h.mx,h.nm,h.short,h.sm,h.l1,h.l2,h.l3,own_keep h.o1 hc fun _ _ e=>e,own_keep h.o2 hc fun _ _ e=>e,own_keep h.o3 hc fun _ _ e=>e⟩
end
structure OkSg (x:Sg):Prop where
 some_:x.t.toList≠[]
 asc:∀c,x.t.toList=[c]→c.toNat < 128
 short:x.t.toList.length≤1073741824
structure Src where
 A:Option Addr
 n:Nat
 c:Nat
 S:List Sg
def Src.txs (s:Src):List Tx:=s.S.map fun x=>x.t.toList
structure Src.Ok (s:Src):Prop where
 len:s.S.length=s.n
 sm:s.n≤4096
 ok:∀x∈s.S,OkSg x
structure Stp where
 v:Value
 V:List NV
 l:List Nd
structure RS (w:World) (B g:Nat) (s:Src) (r:List Tx) (d:Nat) (st:Stp):Prop where
 laid:Laid w
 low:8 < B
 le:B≤g
 segs:Rd w g s.A (sgs s.S)
 src:s.Ok
 suf:r <:+ s.txs
 deep:d≤32
 blk:Blk w g 126 [.slice s.A s.n s.c,.int .i64 ((s.n - r.length:Nat):Int),.int .i64 d,st.v]
 own:w.ownsRow (g+1) 41 6 st.v st.l.length (nvs st.V)
 vl:st.V.length=st.l.length
 held:∀(i:Nat) (h1:i < st.V.length) (h2:i < st.l.length),Held w B st.V[i] st.l[i]
section
variable {w w':World} {B g d:Nat} {s:Src} {r q:List Tx} {st:Stp}
theorem RS.lt (h:RS w B g s r d st):g < w.heap.size:=h.blk.lt
theorem RS.txl (h:RS w B g s r d st):s.txs.length=s.n:=by rw [Src.txs,List.length_map];exact h.src.len
theorem RS.rl (h:RS w B g s r d st):r.length≤s.n:=by have:=h.suf.length_le;rw [h.txl] at this;exact this
theorem RS.c0 (h:RS w B g s r d st):w.cell? ⟨g,0,none⟩=some (.slice s.A s.n s.c):=h.blk.cell 0
theorem RS.c1 (h:RS w B g s r d st):w.cell? ⟨g,1,none⟩=some (.int .i64 ((s.n - r.length:Nat):Int)):=h.blk.cell 1
theorem RS.c2 (h:RS w B g s r d st):w.cell? ⟨g,2,none⟩=some (.int .i64 d):=h.blk.cell 2
theorem RS.fr (h:RS w B g s r d st) (i:Nat):w.frozen? ⟨g,i,none⟩=false:=h.blk.frozen i
theorem RS.next (h:RS w B g s r d st) (hb:Below w.heap.size w w'):RS w' B g s r d st:=by
 have hl:=h.lt
 exact ⟨h.laid.below (hb.mono (Nat.le_of_lt hl)) (Nat.lt_of_lt_of_le h.low h.le),h.low,h.le,h.segs.below (hb.mono (Nat.le_of_lt hl)),h.src,h.suf,h.deep,h.blk.below hb hl,own_keep (S:=fun _=>False) h.own (Chg.of_below hb (Nat.le_refl _)) fun _ _ e=>e,h.vl,fun i k1 k2=>(h.held i k1 k2).next hb⟩
theorem RS.put (h:RS w B g s r d st) {i:Nat} {u:Value} (hq:q <:+ s.txs) {e:Nat} (he:e≤32)
  (hc:([.slice s.A s.n s.c,.int .i64 ((s.n - r.length:Nat):Int),.int .i64 d,st.v]:List Value).set i u=[.slice s.A s.n s.c,.int .i64 ((s.n - q.length:Nat):Int),.int .i64 e,st.v]):RS (w.setCell ⟨g,i,none⟩ u) B g s q e st:=by
 have hk:Kpt g w (w.setCell ⟨g,i,none⟩ u):=Kpt.put w g i u
 refine ⟨h.laid.below (hk.below (Nat.le_of_lt h.lt)) (Nat.lt_of_lt_of_le h.low h.le),h.low,h.le,h.segs.below (hk.below (Nat.le_of_lt h.lt)),h.src,hq,he,?_,Norm.own_set h.own (own_ne h.own h.blk (by decide)) u,h.vl,fun i k1 k2=>(h.held i k1 k2).keep hk h.blk⟩
 have:=h.blk.set_ i u
 rw [hc] at this
 exact this
theorem RS.at_ (h:RS w B g s r d st) (hq:q <:+ s.txs) {p:Int} (hp:p=((s.n - q.length:Nat):Int)):RS (w.setCell ⟨g,1,none⟩ (.int .i64 p)) B g s q d st:=h.put hq h.deep (by rw [hp];rfl)
theorem RS.dep (h:RS w B g s r d st) {e:Nat} (he:e≤32) {p:Int} (hp:p=e):RS (w.setCell ⟨g,2,none⟩ (.int .i64 p)) B g s r e st:=h.put h.suf he (by rw [hp];rfl)
theorem RS.text_of (h:RS w B g s q d st) (hsuf:r <:+ s.txs) {k:Nat} (hk:k < r.length):∃b o,s.A=some ⟨b,o,none⟩∧w.cell? ⟨b,o+(s.n - r.length+k)*3,none⟩=some (.string ⟨(r[k]).toArray⟩)∧OkSg ⟨⟨(r[k]).toArray⟩,0,0⟩:=by
 have hl:=h.src.len
 have hr:r.length≤s.n:=by have:=hsuf.length_le;rw [h.txl] at this;exact this
 have hi:s.n - r.length+k < s.S.length:=by omega
 obtain ⟨b,o,e,_⟩:=h.segs.form (by rw [Seg.sgs_len];omega)
 have hs:=h.segs
 rw [e] at hs
 obtain ⟨t,ht⟩:=hsuf
 have htl:t.length=s.n - r.length:=by
  have:=congrArg List.length ht;rw [List.length_append,h.txl] at this;omega
 have hx:(s.S[s.n - r.length+k]).t.toList=r[k]:=by
  have h1:s.txs[s.n - r.length+k]'(by rw [h.txl];omega)=(s.S[s.n - r.length+k]).t.toList:=by simp [Src.txs]
  rw [←h1]
  have h2:s.txs[s.n - r.length+k]? = r[k]?:=by rw [←ht,List.getElem?_append_right (by omega)];congr 1;omega
  rw [List.getElem?_eq_getElem (by rw [h.txl];omega),List.getElem?_eq_getElem hk] at h2
  exact Option.some.inj h2
 have ho:=h.src.ok _ (List.getElem_mem hi)
 have hb:=Sset.toList_mk hx
 refine ⟨b,o,e,?_,?_⟩
 ·rw [(Rd_sg hs hi).1,hb]
 ·constructor
  ·rw [Sset.mk_toList,←hx];exact ho.some_
  ·rw [Sset.mk_toList,←hx];exact ho.asc
  ·rw [Sset.mk_toList,←hx];exact ho.short
theorem RS.text (h:RS w B g s r d st) {k:Nat} (hk:k < r.length):∃b o,s.A=some ⟨b,o,none⟩∧w.cell? ⟨b,o+(s.n - r.length+k)*3,none⟩=some (.string ⟨(r[k]).toArray⟩)∧OkSg ⟨⟨(r[k]).toArray⟩,0,0⟩:=h.text_of h.suf hk
theorem suf_tail {L:List Tx} (h:r <:+ L):r.tail <:+ L:=(List.tail_suffix r).trans h
end
def refu (place err:Int):Value:=.iface 123 (.agg #[.int .i64 place,.int .i64 err])
def Gives (w:World) (g:Nat) (place:Nat) (err:Nat) (e:Ending) (w':World):Prop:=e=.panicked [{ v:=refu place err,recovered:=false }]∧Below g w w'
def RSA (w:World) (B g:Nat) (s:Src) (r:List Tx) (d:Nat) (st:Stp) (l:List Nd):Prop:=∃st':Stp,st'.l=st.l++l∧(l=[]→st'=st)∧RS w B g s r d st'
def Says {α:Type} (w:World) (B g:Nat) (s:Src) (d:Nat) (st:Stp) (x:R α) (Q:α→Value→World→Prop) (add:α→List Nd) (e:Ending) (w':World):Prop:=match x with
 | .ok (a,q)=>∃v,e=.returned v∧Q a v w'∧RSA w' B g s q d st (add a)∧Kpt g w w'
 | .error (m,k)=>Gives w g (s.n - m) k e w'
def QU {α:Type} (_:α) (v:Value) (_:World):Prop:=v=.tuple #[]
def QT (t:Tx) (v:Value) (_:World):Prop:=v=.string ⟨t.toArray⟩
def QN (n:Nat) (v:Value) (_:World):Prop:=v=.int .i64 (n:Int)
def no {α:Type} (_:α):List Nd:=[]
section
variable {α β:Type} {w w1 w':World} {B g d d':Nat} {s:Src} {st st':Stp} {x:R α} {Q:α→Value→World→Prop} {add:α→List Nd} {e:Ending}
theorem Says.split (h:Says w B g s d st x Q add e w'):(∃a q v,x=.ok (a,q)∧e=.returned v∧Q a v w'∧RSA w' B g s q d st (add a)∧Kpt g w w')∨∃m k,x=.error (m,k)∧e=.panicked [{ v:=refu ((s.n - m:Nat):Int) (k:Int),recovered:=false }]∧Below g w w':=by
 match x,h with
 | .ok (a,q),⟨v,h⟩=>exact .inl ⟨a,q,v,rfl,h⟩
 | .error (m,k),h=>exact .inr ⟨m,k,rfl,h⟩
theorem Says.ok {a:α} {q:List Tx} {v:Value} (hx:x=.ok (a,q)) (hq:Q a v w') (hr:RSA w' B g s q d st (add a)) (hk:Kpt g w w'):Says w B g s d st x Q add (.returned v) w':=by rw [hx];exact ⟨v,rfl,hq,hr,hk⟩
theorem Says.err {m k:Nat} (hx:x=.error (m,k)) {p j:Int} (hp:p=((s.n - m:Nat):Int)) (hj:j=(k:Int)) (hb:Below g w w'):Says w B g s d st x Q add (.panicked [{ v:=refu p j,recovered:=false }]) w':=by rw [hx,hp,hj];exact ⟨rfl,hb⟩
theorem RSA.app0 {a:α} {r:List Tx} (h:RSA w B g s r d st (no a)):RS w B g s r d st:=by obtain ⟨st',_,h2,h3⟩:=h;rw [h2 rfl] at h3;exact h3
theorem RS.add0 {r:List Tx} (h:RS w B g s r d st):RSA w B g s r d st []:=⟨st,(List.append_nil _).symm,fun _=>rfl,h⟩
theorem RS.addno {a:α} {r:List Tx} (h:RS w B g s r d st):RSA w B g s r d st (no a):=h.add0
theorem RS.addl {st st':Stp} {r:List Tx} {l:List Nd} (h:RS w B g s r d st') (e:st'.l=st.l++l) (hl:l≠[]):RSA w B g s r d st l:=⟨st',e,fun e=>absurd e hl,h⟩
theorem RS.adv {r:List Tx} (h:RS w B g s r d st) (hr:r≠[]) {p:Int} (hp:p=((s.n - r.length:Nat):Int)+1):RS (w.setCell ⟨g,1,none⟩ (.int .i64 p)) B g s r.tail d st:=by
 refine h.at_ (suf_tail h.suf) ?_
 have h1:=h.rl
 have h2:0 < r.length:=List.length_pos_iff.2 hr
 have h3:r.tail.length=r.length - 1:=List.length_tail
 omega
theorem RS.c1p {r:List Tx} (h:RS w B g s r d st):∃p:Nat,p=s.n - r.length∧p≤4096∧w.cell? ⟨g,1,none⟩=some (.int .i64 p)∧w.frozen? ⟨g,1,none⟩=false:=⟨_,rfl,by have:=h.src.sm;omega,h.c1,h.fr 1⟩
end
end Go.Proofs.YtkgeiokckfpjlaaGreatDoor.Syn
namespace Go.Proofs.YtkgeiokckfpjlaaGreatDoor.Syn
open Go.RowKit
open Utf (Rd Blk)
open Rset (Ret)
open Sset (St Tx mk_toList)
set_option maxRecDepth 100000
def nth (r:List Tx) (k:Nat):Tx:=r.getD k []
theorem nth_lt {r:List Tx} {k:Nat} (h:k < r.length):nth r k=r[k]:=by unfold nth;rw [List.getD_eq_getElem?_getD,List.getElem?_eq_getElem h];rfl
theorem nth_ge {r:List Tx} {k:Nat} (h:r.length≤k):nth r k=[]:=by unfold nth;rw [List.getD_eq_getElem?_getD,List.getElem?_eq_none h];rfl
theorem text_some (g b o p k n c:Nat) (X:ByteArray) (w:World) (h0:w.cell? ⟨g,0,none⟩=some (.slice (some ⟨b,o,none⟩) n c)) (h1:w.cell? ⟨g,1,none⟩=some (.int .i64 p))
  (hk:p+k < n) (hx:w.cell? ⟨b,o+(p+k)*3,none⟩=some (.string X)) (_:n≤4096) :
  Calls Tryz.prog 186 #[.pointer (some ⟨g,0,none⟩),.int .i64 k] w (Ret w (.string X)):=by
 have hd:¬(p:Int)+(k:Int)≥(n:Int):=by omega
 have hd2:decide ((p:Int)+(k:Int)≥(n:Int))=false:=decide_eq_false hd
 have hd3:((p:Int)+(k:Int)).toNat=p+k:=by omega
 have hd4:(p:Int)+(k:Int) < (n:Int):=by omega
 have hd5:(0:Int)≤(p:Int)+(k:Int):=by omega
 go_enter Tryz.func186,Tryz.ntmps186
 go_wp2_with fail
 go_region
 all_goals (go_wp2_with fail)
 go_region
 all_goals (go_wp2_with fail;go_ret)
 all_goals exact ⟨rfl,(Below.refl _ _).drew.drew⟩
theorem text_none (g p k n c:Nat) (A:Option Addr) (w:World) (h0:w.cell? ⟨g,0,none⟩=some (.slice A n c)) (h1:w.cell? ⟨g,1,none⟩=some (.int .i64 p))
  (hk:¬p+k < n) (_:n≤4096) (hp:p≤4096) (hk1:k≤1) :
  Calls Tryz.prog 186 #[.pointer (some ⟨g,0,none⟩),.int .i64 k] w (Ret w (.string ⟨#[]⟩)):=by
 have hd:(p:Int)+(k:Int)≥(n:Int):=by omega
 have hd2:decide ((p:Int)+(k:Int)≥(n:Int))=true:=decide_eq_true hd
 go_enter Tryz.func186,Tryz.ntmps186
 go_wp2_with fail
 go_region
 all_goals (go_wp2_with fail;go_ret)
 all_goals exact ⟨rfl,(Below.refl _ _).drew⟩
theorem text_any {B g:Nat} {s:Src} {r:List Tx} {d:Nat} {st:Stp} {w:World} (h:RS w B g s r d st) (k:Nat) (hk1:k≤1) :
  Calls Tryz.prog 186 #[.pointer (some ⟨g,0,none⟩),.int .i64 k] w (Ret w (.string ⟨(nth r k).toArray⟩)):=by
 have hrl:=h.rl;have hsm:=h.src.sm
 by_cases hk:k < r.length
 ·obtain ⟨b,o,e,hx,_⟩:=h.text hk
  have c0:=h.c0
  rw [e] at c0
  rw [nth_lt hk]
  exact text_some g b o (s.n - r.length) k s.n s.c ⟨(r[k]).toArray⟩ w c0 h.c1 (by omega) hx hsm
 ·rw [nth_ge (by omega)]
  exact text_none g (s.n - r.length) k s.n s.c s.A w h.c0 h.c1 (by omega) hsm (by omega) hk1
theorem next_any {B g:Nat} {s:Src} {r:List Tx} {d:Nat} {st:Stp} {w:World} (h:RS w B g s r d st) :
  Calls Tryz.prog 154 #[.pointer (some ⟨g,0,none⟩)] w (Ret w (.string ⟨(nth r 0).toArray⟩)):=by
 have HT:=Lib.hid (text_any h 0 (by omega))
 clear h
 go_enter Tryz.func154,Tryz.ntmps154
 go_wp2_with fail
 refine HT.out.mono ?_
 rintro e w1 ⟨rfl,hb⟩
 go_wp2_with fail
 go_ret
 exact ⟨rfl,hb⟩
theorem nth0_hd {r:List Tx} {t:Tx} (h:isHd r t=true):nth r 0=t:=by
 rw [isHd_iff.1 h];rfl
theorem nth0_other {r:List Tx} {t:Tx} (h:isHd r t=false) (ht:t≠[]):nth r 0≠t:=by
 intro e
 cases r with
 | nil=>exact ht e.symm
 | cons c r =>
  have:c=t:=e
  rw [Bool.eq_false_iff] at h
  exact h (isHd_iff.2 (by rw [this];rfl))
theorem isHd_ne {r:List Tx} {t:Tx} (h:isHd r t=true):r≠[]:=by rw [isHd_iff.1 h];simp
theorem neq_other {x t:Tx} (h:x≠t):((⟨x.toArray⟩:ByteArray).toList != (⟨t.toArray⟩:ByteArray).toList)=true:=by rw [mk_toList,mk_toList];simpa using h
theorem eql_other {x t:Tx} (h:x≠t):((⟨x.toArray⟩:ByteArray).toList == (⟨t.toArray⟩:ByteArray).toList)=false:=by rw [mk_toList,mk_toList];simpa using h
theorem neq_self (t:Tx):((⟨t.toArray⟩:ByteArray).toList != (⟨t.toArray⟩:ByteArray).toList)=false:=by simp
theorem skip_yes {B g:Nat} {s:Src} {r:List Tx} {d:Nat} {st:Stp} {w:World} (h:RS w B g s r d st) (t:Tx) (ht:isHd r t=true) :
  Calls Tryz.prog 116 #[.pointer (some ⟨g,0,none⟩),.string ⟨t.toArray⟩] w fun e w'=>e=.returned (.bool true)∧RS w' B g s r.tail d st∧Kpt g w w':=by
 have HN:=Lib.hid (next_any h)
 have H:=Lib.hid h
 have HT:=Lib.hid ht
 rw [nth0_hd ht] at HN
 clear h ht
 have hq:=neq_self t
 generalize (⟨t.toArray⟩:ByteArray)=X at *
 go_enter Tryz.func116,Tryz.ntmps116
 go_wp2_with fail
 refine HN.out.mono ?_
 rintro e w1 ⟨rfl,hb⟩
 have H1:=Lib.hid (H.out.next hb)
 have HB:=Lib.hid hb
 clear hb
 obtain ⟨p,hp,hp4,c1,f1⟩:=H1.out.c1p
 have HP:=Lib.hid hp
 clear hp
 go_wp2_with fail
 go_ret
 exact ⟨rfl,H1.out.adv (isHd_ne HT.out) (by rw [HP.out]),(Kpt.of_below HB.out).trans (Kpt.put _ _ _ _)⟩
theorem skip_no {B g:Nat} {s:Src} {r:List Tx} {d:Nat} {st:Stp} {w:World} (h:RS w B g s r d st) (t:Tx) (ht:isHd r t=false) (h0:t≠[]) :
  Calls Tryz.prog 116 #[.pointer (some ⟨g,0,none⟩),.string ⟨t.toArray⟩] w fun e w'=>e=.returned (.bool false)∧RS w' B g s r d st∧Below w.heap.size w w':=by
 have HN:=Lib.hid (next_any h)
 have H:=Lib.hid h
 have hq:=neq_other (nth0_other ht h0)
 have hq2:=eql_other (nth0_other ht h0)
 clear h ht h0
 generalize (⟨t.toArray⟩:ByteArray)=X at *
 generalize (⟨(nth r 0).toArray⟩:ByteArray)=Y at *
 go_enter Tryz.func116,Tryz.ntmps116
 go_wp2_with fail
 refine HN.out.mono ?_
 rintro e w1 ⟨rfl,hb⟩
 have H1:=Lib.hid (H.out.next hb)
 have HB:=Lib.hid hb
 clear hb
 go_wp2_with fail
 go_ret
 exact ⟨rfl,H1.out,HB.out⟩
theorem refuse_any (v:Value) (g p:Nat) (s:Src) (m:Nat) (w:World) (hp:p=s.n - m):Calls Tryz.prog 85 #[v,.int .i64 p] w (Gives w g (s.n - m) 2):=by
 rw [←hp]
 go_enter Tryz.func85,Tryz.ntmps85
 go_wp2_with fail
 exact ⟨rfl,rfl,Below.refl _ _⟩
theorem want_any {B g:Nat} {s:Src} {r:List Tx} {d:Nat} {st:Stp} {w:World} (h:RS w B g s r d st) (t:Tx) (h0:t≠[]) :
  Calls Tryz.prog 221 #[.pointer (some ⟨g,0,none⟩),.string ⟨t.toArray⟩] w (Says w B g s d st (want t r) QU no):=by
 have hlt:=h.lt
 cases hh:isHd r t with
 | true =>
  have HX:=Lib.hid (show want t r=.ok ((),r.tail) by unfold want;rw [if_pos hh])
  have HS:=Lib.hid (skip_yes h t hh)
  clear h hh h0
  generalize (⟨t.toArray⟩:ByteArray)=X at *
  go_enter Tryz.func221,Tryz.ntmps221
  go_wp2_with fail
  refine HS.out.mono ?_
  rintro e w1 ⟨rfl,h1,hk⟩
  have H1:=Lib.hid h1;have HK:=Lib.hid hk
  clear h1 hk
  go_wp2_with fail
  go_end0
  exact Says.ok HX.out rfl (H1.out.addno) HK.out
 | false =>
  have HX:=Lib.hid (show want t r=.error (r.length,2) by unfold want;rw [if_neg (by rw [hh];simp)];rfl)
  have HS:=Lib.hid (skip_no h t hh h0)
  clear h hh h0
  generalize (⟨t.toArray⟩:ByteArray)=X at *
  go_enter Tryz.func221,Tryz.ntmps221
  go_wp2_with fail
  refine HS.out.mono ?_
  rintro e w1 ⟨rfl,h1,hb⟩
  have H1:=Lib.hid h1;have HB:=Lib.hid hb
  clear h1 hb
  obtain ⟨p,hp,hp4,c1,f1⟩:=H1.out.c1p
  have HP:=Lib.hid hp
  clear hp
  go_wp2_with fail
  refine (refuse_any _ g p s r.length w1 HP.out).mono ?_
  rintro e w2 ⟨rfl,hb2⟩
  go_wp2_with fail
  exact ⟨rfl,Says.err HX.out rfl rfl ((HB.out.mono (Nat.le_of_lt hlt)).trans hb2)⟩
theorem hd_eq {r:List Tx} {t:Tx} (h:t≠[]):(nth r 0 == t)=isHd r t:=by
 cases hh:isHd r t with
 | true=>rw [nth0_hd hh];simp
 | false=>simpa using nth0_other hh h
theorem RS.hd_some {w:World} {B g:Nat} {s:Src} {r:List Tx} {d:Nat} {st:Stp} (h:RS w B g s r d st) (hr:r≠[]):nth r 0≠[]:=by
 have hl:0 < r.length:=List.length_pos_iff.2 hr
 obtain ⟨_,_,_,_,ho⟩:=h.text hl
 rw [nth_lt hl]
 have:=ho.some_
 rwa [mk_toList] at this
theorem RS.hd_nil {w:World} {B g:Nat} {s:Src} {r:List Tx} {d:Nat} {st:Stp} (h:RS w B g s r d st):(nth r 0 == [])=decide (r=[]):=by
 by_cases hr:r=[]
 ·rw [hr];rfl
 ·rw [decide_eq_false hr]
  simpa using h.hd_some hr
set_option maxHeartbeats 4000000 in
theorem rowEnds_raw (g:Nat) (Y:ByteArray) (y:Tx) (hY:Y.toList=y) (w:World) (HN:Hid (Calls Tryz.prog 154 #[.pointer (some ⟨g,0,none⟩)] w (Ret w (.string Y))))
  (b1 b2 b3:Bool) (h1:(y == [])=b1) (h2:(y == [124])=b2) (h3:(y == [41])=b3) :
  Calls Tryz.prog 152 #[.pointer (some ⟨g,0,none⟩)] w (Ret w (.bool (b1 || b2 || b3))):=by
 go_enter Tryz.func152,Tryz.ntmps152
 go_wp2_with fail
 refine HN.out.mono ?_
 rintro e w1 ⟨rfl,hb⟩
 have HB:=Lib.hid hb
 clear hb HN
 cases b1 <;> cases b2 <;> cases b3 <;> (go_wp2_with fail;go_ret;exact ⟨rfl,HB.out⟩)
theorem rowEnds_any {B g:Nat} {s:Src} {r:List Tx} {d:Nat} {st:Stp} {w:World} (h:RS w B g s r d st) :
  Calls Tryz.prog 152 #[.pointer (some ⟨g,0,none⟩)] w (Ret w (.bool (stops r))) :=
 rowEnds_raw g _ (nth r 0) (mk_toList _) w (Lib.hid (next_any h)) _ _ _ h.hd_nil (hd_eq (by decide)) (hd_eq (by decide))
set_option maxHeartbeats 4000000 in
theorem namesCategory_raw (g:Nat) (Y Z:ByteArray) (y z:Tx) (hY:Y.toList=y) (hZ:Z.toList=z) (w:World) (HN:Hid (Calls Tryz.prog 154 #[.pointer (some ⟨g,0,none⟩)] w (Ret w (.string Y))))
  (HT:Hid (∀u,Below w.heap.size w u→Calls Tryz.prog 186 #[.pointer (some ⟨g,0,none⟩),.int .i64 1] u (Ret u (.string Z))))
  (b1 b2 b3:Bool) (h1:(y == [92])=b1) (h2:(z == [112])=b2) (h3:(z == [80])=b3) :
  Calls Tryz.prog 214 #[.pointer (some ⟨g,0,none⟩)] w (Ret w (.bool (b1 && (b2 || b3)))):=by
 go_enter Tryz.func214,Tryz.ntmps214
 go_wp2_with fail
 refine HN.out.mono ?_
 rintro e w1 ⟨rfl,hb⟩
 have HB:=Lib.hid hb
 clear hb HN
 cases b1 with
 | false=>go_wp2_with fail;go_ret;exact ⟨rfl,HB.out⟩
 | true =>
  go_wp2_with fail
  refine (HT.out w1 HB.out).mono ?_
  rintro e w2 ⟨rfl,hb2⟩
  have HB2:=Lib.hid (HB.out.trans (hb2.mono HB.out.size))
  clear hb2
  cases b2 with
  | true=>go_wp2_with fail;go_ret;exact ⟨rfl,HB2.out⟩
  | false =>
   go_wp2_with fail
   refine (HT.out w2 HB2.out).mono ?_
   rintro e w3 ⟨rfl,hb3⟩
   have HB3:=Lib.hid (HB2.out.trans (hb3.mono HB2.out.size))
   clear hb3
   cases b3 <;> (go_wp2_with fail;go_ret;exact ⟨rfl,HB3.out⟩)
theorem nth1 (r:List Tx):nth r 1=nth r.tail 0:=by cases r <;> rfl
theorem namesCategory_any {B g:Nat} {s:Src} {r:List Tx} {d:Nat} {st:Stp} {w:World} (h:RS w B g s r d st) :
  Calls Tryz.prog 214 #[.pointer (some ⟨g,0,none⟩)] w (Ret w (.bool (isCat r))) :=
 namesCategory_raw g _ _ (nth r 0) (nth r 1) (mk_toList _) (mk_toList _) w (Lib.hid (next_any h)) (Lib.hid fun u hu=>text_any (h.next hu) 1 (by omega)) _ _ _ (hd_eq (by decide)) (by rw [nth1];exact hd_eq (by decide)) (by rw [nth1];exact hd_eq (by decide))
end Go.Proofs.YtkgeiokckfpjlaaGreatDoor.Syn
namespace Go.Proofs.YtkgeiokckfpjlaaGreatDoor.Syn
open Go.RowKit
open Utf (Rd Blk own_ne wpList_append_rd)
open Seg (step_append_rd)
open Norm (own_set)
open Rset (rd_new own_form)
open Sset (St Tx none_ NmS Short txs Made)
open Rset (rgs)
set_option maxRecDepth 100000
theorem infoNode:(Tryz.prog.info? 41).map (fun i=>(i.zero,i.size,i.bytes))=some (some (.agg #[.int .i64 0,.slice none 0 0,.slice none 0 0,.slice none 0 0,.int .i64 0,.int .i64 0]),6,96):=by kernel_rfl
theorem nv_one (v:NV):∀u∈v.row,u.oneCell'=true:=by
 intro u hu
 simp only [NV.row,List.mem_cons,List.not_mem_nil,or_false] at hu
 rcases hu with rfl | rfl | rfl | rfl | rfl | rfl <;> rfl
theorem nvs_snoc (V:List NV) (v:NV):nvs V++v.row=nvs (V++[v]):=by unfold nvs;rw [List.flatMap_append,List.flatMap_cons,List.flatMap_nil,List.append_nil]
section
variable {w w1 w2:World} {B g d:Nat} {s:Src} {r:List Tx} {st:Stp}
theorem RS.laid_ (h:RS w B g s r d st) {v':Value} {x:NV} {n:Nd} (hx:Held w B x n) (hown:w2.ownsRow (g+1) 41 6 v' (st.l.length+1) (nvs st.V++x.row)) (hgr:w.grownBy w2 st.v.ownBlock) :
  RS (w2.setCell ⟨g,3,none⟩ v') B g s r d ⟨v',st.V++[x],st.l++[n]⟩∧Kpt g w (w2.setCell ⟨g,3,none⟩ v'):=by
 have hne:=own_ne h.own h.blk (by decide)
 have hk1:Kpt g w w2:=Kpt.grown h.own hgr (Nat.le_succ g)
 have hb2:Blk w2 g 126 [.slice s.A s.n s.c,.int .i64 ((s.n - r.length:Nat):Int),.int .i64 d,st.v]:=h.blk.grown hgr (Ne.symm hne)
 have hk2:Kpt g w2 (w2.setCell ⟨g,3,none⟩ v'):=Kpt.put w2 g 3 v'
 have hk:=hk1.trans hk2
 have hl:g≤w.heap.size:=Nat.le_of_lt h.blk.lt
 have hb:=hk.below hl
 have hvl:=h.vl
 refine ⟨⟨h.laid.below hb (Nat.lt_of_lt_of_le h.low h.le),h.low,h.le,h.segs.below hb,h.src,h.suf,h.deep,hb2.set_ 3 v',?_,by simp [hvl],fun i k1 k2=>?_⟩,hk⟩
 ·rw [List.length_append,←nvs_snoc]
  exact own_set hown (own_ne hown hb2 (by decide)) v'
 ·dsimp only at k1 k2 ⊢
  by_cases hi:i < st.l.length
  ·have:=(h.held i (by omega) hi).keep hk h.blk
   rw [List.getElem_append_left (by omega),List.getElem_append_left hi]
   exact this
  ·have hi2:i=st.l.length:=by simp at k2;omega
   subst hi2
   have:=hx.keep hk h.blk
   rw [List.getElem_append_right (by omega),List.getElem_append_right (by omega)]
   simpa [hvl] using this
theorem RS.lays (h:RS w B g s r d st) {v':Value} {x:NV} {n:Nd} (hx:Held w B x n) (hb:Below w.heap.size w w1) {m:Nat} (hm:m=st.l.length)
  (hown:w2.ownsRow (g+1) 41 6 v' (m+1) (nvs st.V++x.row)) (hgr:w1.grownBy w2 st.v.ownBlock) :
  (w2.cell? ⟨g,3,none⟩=some st.v∧w2.frozen? ⟨g,3,none⟩=false)∧RS (w2.setCell ⟨g,3,none⟩ v') B g s r d ⟨v',st.V++[x],st.l++[n]⟩∧Kpt g w (w2.setCell ⟨g,3,none⟩ v'):=by
 subst hm
 have h1:=h.next hb
 have hne:=own_ne h1.own h1.blk (by decide)
 have b2:Blk w2 g 126 _:=h1.blk.grown hgr (Ne.symm hne)
 obtain ⟨k1,k2⟩:=h1.laid_ (hx.next hb) hown hgr
 exact ⟨⟨b2.cell 3,b2.frozen 3⟩,k1,(Kpt.of_below hb).trans k2⟩
end
def Lays (w:World) (B g:Nat) (s:Src) (r:List Tx) (d:Nat) (st:Stp) (n:Nd) (e:Ending) (w':World):Prop:=e=.returned (.tuple #[])∧(∃st':Stp,st'.l=st.l++[n]∧RS w' B g s r d st')∧Kpt g w w'
theorem rsa_of {w:World} {B g:Nat} {s:Src} {r:List Tx} {d:Nat} {st:Stp} {n:Nd} (h:∃st':Stp,st'.l=st.l++[n]∧RS w B g s r d st'):RSA w B g s r d st [n]:=by obtain ⟨st',h1,h2⟩:=h;exact h2.addl h1 (by simp)
theorem held_plain (w:World) (B:Nat) (k a b:Int):Held w B ⟨k,none,0,0,none,0,0,none,0,0,a,b⟩ ⟨k,none_,a,b⟩ :=
 ⟨rfl,rfl,rfl,Sset.none_nm,fun t h=>by simp [none_] at h,by simp [none_],rfl,rfl,rfl,World.ownsRow_nil _ _ _ _,World.ownsRow_nil _ _ _ _,World.ownsRow_nil _ _ _ _⟩
set_option maxHeartbeats 4000000 in
theorem lay_any {B g:Nat} {s:Src} {r:List Tx} {d:Nat} {st:Stp} {w:World} (h:RS w B g s r d st) (hsm:st.l.length≤1073741824) (k:Int) :
  Calls Tryz.prog 117 #[.pointer (some ⟨g,0,none⟩),.int .i64 k] w (Lays w B g s r d st (nd k)):=by
 obtain ⟨i0,hi,hz0,hz1,hz2⟩:=info_parts infoNode
 have c3:w.cell? ⟨g,3,none⟩=some st.v:=h.blk.cell 3
 have f3:=h.blk.frozen 3
 have hlt:=h.blk.lt
 have H:=Lib.hid h
 have h2:=h.own
 obtain ⟨n,hn⟩:∃n,n=st.l.length:=⟨_,rfl⟩
 have HN:=Lib.hid hn
 rw [←hn] at hsm h2
 have HO:=Lib.hid h2
 have HL:=Lib.hid (fun (x:NV) (n0:Nd) (hx:Held w B x n0) (w1 w2:World) (v':Value) (hb:Below w.heap.size w w1) (hown:w2.ownsRow (g+1) 41 6 v' (n+1) (nvs st.V++x.row)) (hgr:w1.grownBy w2 st.v.ownBlock)=>(show (w2.cell? ⟨g,3,none⟩=some st.v∧w2.frozen? ⟨g,3,none⟩=false)∧(∃st':Stp,st'.l=st.l++[n0]∧RS (w2.setCell ⟨g,3,none⟩ v') B g s r d st')∧Kpt g w (w2.setCell ⟨g,3,none⟩ v') from by
  obtain ⟨k1,k2,k3⟩:=h.lays hx hb hn hown hgr
  exact ⟨k1,⟨_,rfl,k2⟩,k3⟩))
 generalize hv:st.v=v at c3 HO HL
 generalize st.V=V at HO HL
 clear h h2 hn hv H
 go_enter Tryz.func117,Tryz.ntmps117
 go_wp2_with (at_builtin;(refine wpList_append_rd _ rfl (.tmp 8) (.tmp 11) _ rfl (g+1) 41 i0 _ 6 96 Tryz.underlying22 hi hz0 hz1 hz2 rfl (by decide) v n (nvs V) rfl (Rset.own_below HO.out ((Below.refl _ _).alloc (Nat.le_refl _) _)) _ (some ⟨w.heap.size,0,none⟩) 1 1 [.int .i64 k,.slice none 0 0,.slice none 0 0,.slice none 0 0,.int .i64 0,.int .i64 0] rfl rfl (rd_new _ _ _ _ rfl) (nv_one ⟨k,none,0,0,none,0,0,none,0,0,0,0⟩) (by unfold maxLen;omega) (by omega) (by simp;omega) ?_))
 intro v2 w2 hown hgr _
 obtain ⟨⟨d3,e3⟩,k1,k2⟩:=HL.out _ _ (held_plain w B k 0 0) _ _ _ ((Below.refl _ _).alloc (Nat.le_refl _) _) hown hgr
 have HK:=Lib.hid (And.intro k1 k2)
 clear k1 k2 hgr c3 f3
 obtain ⟨A2,c2,rfl,_⟩:=own_form hown
 clear hown
 go_wp2_with fail
 go_end0
 exact ⟨rfl,HK.out⟩
set_option maxHeartbeats 4000000 in
theorem layRepeat_any {B g:Nat} {s:Src} {r:List Tx} {d:Nat} {st:Stp} {w:World} (h:RS w B g s r d st) (hsm:st.l.length≤1073741824) (a b:Int) :
  Calls Tryz.prog 219 #[.pointer (some ⟨g,0,none⟩),.int .i64 a,.int .i64 b] w (Lays w B g s r d st (ndR a b)):=by
 obtain ⟨i0,hi,hz0,hz1,hz2⟩:=info_parts infoNode
 have c3:w.cell? ⟨g,3,none⟩=some st.v:=h.blk.cell 3
 have f3:=h.blk.frozen 3
 have hlt:=h.blk.lt
 have H:=Lib.hid h
 have h2:=h.own
 obtain ⟨n,hn⟩:∃n,n=st.l.length:=⟨_,rfl⟩
 have HN:=Lib.hid hn
 rw [←hn] at hsm h2
 have HO:=Lib.hid h2
 have HL:=Lib.hid (fun (x:NV) (n0:Nd) (hx:Held w B x n0) (w1 w2:World) (v':Value) (hb:Below w.heap.size w w1) (hown:w2.ownsRow (g+1) 41 6 v' (n+1) (nvs st.V++x.row)) (hgr:w1.grownBy w2 st.v.ownBlock)=>(show (w2.cell? ⟨g,3,none⟩=some st.v∧w2.frozen? ⟨g,3,none⟩=false)∧(∃st':Stp,st'.l=st.l++[n0]∧RS (w2.setCell ⟨g,3,none⟩ v') B g s r d st')∧Kpt g w (w2.setCell ⟨g,3,none⟩ v') from by
  obtain ⟨k1,k2,k3⟩:=h.lays hx hb hn hown hgr
  exact ⟨k1,⟨_,rfl,k2⟩,k3⟩))
 generalize hv:st.v=v at c3 HO HL
 generalize st.V=V at HO HL
 clear h h2 hn hv H
 go_enter Tryz.func219,Tryz.ntmps219
 go_wp2_with (at_builtin;(refine wpList_append_rd _ rfl (.tmp 10) (.tmp 14) _ rfl (g+1) 41 i0 _ 6 96 Tryz.underlying22 hi hz0 hz1 hz2 rfl (by decide) v n (nvs V) rfl (Rset.own_below HO.out ((Below.refl _ _).alloc (Nat.le_refl _) _)) _ (some ⟨w.heap.size,0,none⟩) 1 1 [.int .i64 7,.slice none 0 0,.slice none 0 0,.slice none 0 0,.int .i64 a,.int .i64 b] rfl rfl (rd_new _ _ _ _ rfl) (nv_one ⟨7,none,0,0,none,0,0,none,0,0,a,b⟩) (by unfold maxLen;omega) (by omega) (by simp;omega) ?_))
 intro v2 w2 hown hgr _
 obtain ⟨⟨d3,e3⟩,k1,k2⟩:=HL.out _ _ (held_plain w B 7 a b) _ _ _ ((Below.refl _ _).alloc (Nat.le_refl _) _) hown hgr
 have HK:=Lib.hid (And.intro k1 k2)
 clear k1 k2 hgr c3 f3
 obtain ⟨A2,c2,rfl,_⟩:=own_form hown
 clear hown
 go_wp2_with fail
 go_end0
 exact ⟨rfl,HK.out⟩
theorem held_set {w w1:World} {B:Nat} {A1:Option Addr} {n1 c1:Nat} {A2:Option Addr} {n2 c2:Nat} {A3:Option Addr} {n3 c3:Nat} {a:St} (h:Made w w1 A1 n1 c1 A2 n2 c2 A3 n3 c3 a) (hN:NmS a) (hB:B≤w.heap.size) :
  Held w1 B ⟨2,A1,n1,c1,A2,n2,c2,A3,n3,c3,0,0⟩ (ndS a) :=
 ⟨rfl,rfl,rfl,hN,h.has.o.short,by have:=h.has.o.len;have:=h.has.o.sm;show a.o.length≤_;omega,h.has.s.len,h.has.m.len,h.has.o.len,Norm.own_mono h.o1 hB,Norm.own_mono h.o2 hB,Norm.own_mono h.o3 hB⟩
set_option maxHeartbeats 4000000 in
theorem laySet_any {B g:Nat} {s:Src} {r:List Tx} {d:Nat} {st:Stp} {w:World} (h:RS w B g s r d st) (hsm:st.l.length≤1073741824) {A1:Option Addr} {n1 c1:Nat} {A2:Option Addr} {n2 c2:Nat} {A3:Option Addr} {n3 c3:Nat} {a:St}
  (hx:Held w B ⟨2,A1,n1,c1,A2,n2,c2,A3,n3,c3,0,0⟩ (ndS a)) :
  Calls Tryz.prog 211 #[.pointer (some ⟨g,0,none⟩),.agg #[.slice A1 n1 c1,.slice A2 n2 c2,.slice A3 n3 c3]] w (Lays w B g s r d st (ndS a)):=by
 obtain ⟨i0,hi,hz0,hz1,hz2⟩:=info_parts infoNode
 obtain ⟨W,hW⟩:∃W,W=w.alloc (.cells #[.slice A1 n1 c1,.slice A2 n2 c2,.slice A3 n3 c3] 39):=⟨_,rfl⟩
 obtain ⟨gb,hgb⟩:∃gb,gb=w.heap.size:=⟨_,rfl⟩
 have hbW:Below w.heap.size w W:=by rw [hW];exact (Below.refl _ _).alloc (Nat.le_refl _) _
 have hlt:=h.blk.lt
 have kb:Sset.BlkS W gb (.slice A1 n1 c1) (.slice A2 n2 c2) (.slice A3 n3 c3):=by rw [hW,hgb];exact Sset.BlkS.new w _ _ _
 have d3:W.cell? ⟨g,3,none⟩=some st.v:=(h.blk.below hbW hlt).cell 3
 have e0:=kb.c0;have e1:=kb.c1;have e2:=kb.c2
 have h2:=h.own
 obtain ⟨n,hn⟩:∃n,n=st.l.length:=⟨_,rfl⟩
 have HN:=Lib.hid hn
 rw [←hn] at hsm h2
 have HO:=Lib.hid (Rset.own_below h2 hbW)
 have HW:=Lib.hid hW;have HG:=Lib.hid hgb;have HBW:=Lib.hid hbW
 have hgs:gb < W.heap.size:=kb.lt
 have hgg:g < gb:=by omega
 have HL:=Lib.hid (fun (w1 w2:World) (v':Value) (hb:Below w.heap.size w w1) (hown:w2.ownsRow (g+1) 41 6 v' (n+1) (nvs st.V++NV.row ⟨2,A1,n1,c1,A2,n2,c2,A3,n3,c3,0,0⟩)) (hgr:w1.grownBy w2 st.v.ownBlock)=>(show (w2.cell? ⟨g,3,none⟩=some st.v∧w2.frozen? ⟨g,3,none⟩=false)∧(∃st':Stp,st'.l=st.l++[ndS a]∧RS (w2.setCell ⟨g,3,none⟩ v') B g s r d st')∧Kpt g w (w2.setCell ⟨g,3,none⟩ v') from by
  obtain ⟨k1,k2,k3⟩:=h.lays hx hb hn hown hgr
  exact ⟨k1,⟨_,rfl,k2⟩,k3⟩))
 have q3:(W.alloc (.cells #[.int .i64 2,.slice A1 n1 c1,.slice A2 n2 c2,.slice A3 n3 c3,.int .i64 0,.int .i64 0] 41)).cell? ⟨g,3,none⟩=some st.v:=(World.cell?_alloc_lt W _ ⟨g,3,none⟩ (by show g < W.heap.size;omega)).trans d3
 generalize hv:st.v=v at d3 q3 HO HL
 generalize st.V=V at HO HL
 clear h h2 hx hn hv hW hgb hbW kb
 go_enter Tryz.func211,Tryz.ntmps211
 go_wp2_with fail
 rw [←HW.out,←HG.out]
 go_region_law (first
  | (
   refine step_append_rd rfl (.tmp 8) (.tmp 11) _ rfl (g+1) 41 i0 _ 6 96 Tryz.underlying22 hi hz0 hz1 hz2 rfl (by decide) v n (nvs V) rfl (Rset.own_below HO.out (by first | exact ((Below.refl _ _).alloc (Nat.le_refl _) _).drew | exact ((Below.refl _ _).drew.alloc (Nat.le_refl _) _))) _ (some ⟨W.heap.size,0,none⟩) 1 1 [.int .i64 2,.slice A1 n1 c1,.slice A2 n2 c2,.slice A3 n3 c3,.int .i64 0,.int .i64 0] rfl rfl (rd_new _ _ [.int .i64 2,.slice A1 n1 c1,.slice A2 n2 c2,.slice A3 n3 c3,.int .i64 0,.int .i64 0] _ (by simp)) (nv_one ⟨2,A1,n1,c1,A2,n2,c2,A3,n3,c3,0,0⟩) (by unfold maxLen;omega) (by omega) (by simp;omega) ?_
   intro v6 w6 hown6 hgr6 _
   obtain ⟨⟨d6,e6⟩,k1,k2⟩:=HL.out _ _ _ (HBW.out.trans (by first | exact (((Below.refl _ _).alloc (Nat.le_refl _) _).drew).mono HBW.out.size | exact (((Below.refl _ _).drew).alloc (Nat.le_refl _) _).mono HBW.out.size)) hown6 hgr6
   have HK:=Lib.hid (And.intro k1 k2)
   obtain ⟨A6,c6,rfl,_⟩:=own_form hown6
   clear k1 k2 hown6 hgr6))
 all_goals (go_wp2_with fail;go_end0;exact ⟨rfl,HK.out⟩)
end Go.Proofs.YtkgeiokckfpjlaaGreatDoor.Syn
namespace Go.Proofs.YtkgeiokckfpjlaaGreatDoor.Syn
open Go.RowKit
open Utf (Rd Blk own_ne wpList_append_rd)
open Seg (step_append_rd)
open Norm (Chg own_set own_keep blk_keep)
open Rset (rd_new own_form rgs Rg)
open Sset (St Tx none_ NmS Short txs Made ArgR ArgT Has3 BlkS)
set_option maxRecDepth 100000
structure Old (st:Stp) (N:Nat):Prop where
 v:∀k,st.v.ownBlock=some k→k < N
 h1:∀(i:Nat) (h:i < st.V.length) (k:Nat),(Value.slice st.V[i].A1 st.V[i].n1 st.V[i].c1).ownBlock=some k→k < N
 h2:∀(i:Nat) (h:i < st.V.length) (k:Nat),(Value.slice st.V[i].A2 st.V[i].n2 st.V[i].c2).ownBlock=some k→k < N
 h3:∀(i:Nat) (h:i < st.V.length) (k:Nat),(Value.slice st.V[i].A3 st.V[i].n3 st.V[i].c3).ownBlock=some k→k < N
section
variable {w w' w'':World} {B g d N:Nat} {s:Src} {r:List Tx} {st:Stp}
theorem RS.old (h:RS w B g s r d st):Old st w.heap.size :=
 ⟨fun k hk=>(h.own.lt k hk).2,fun i hi k hk=>((h.held i hi (by rw [←h.vl];exact hi)).o1.lt k hk).2,
  fun i hi k hk=>((h.held i hi (by rw [←h.vl];exact hi)).o2.lt k hk).2,fun i hi k hk=>((h.held i hi (by rw [←h.vl];exact hi)).o3.lt k hk).2⟩
theorem Held.chg {v:NV} {n:Nd} (h:Held w B v n) (hc:Chg w w' fun k=>N≤k) (h1:∀k,(Value.slice v.A1 v.n1 v.c1).ownBlock=some k→k < N) (h2:∀k,(Value.slice v.A2 v.n2 v.c2).ownBlock=some k→k < N) (h3:∀k,(Value.slice v.A3 v.n3 v.c3).ownBlock=some k→k < N):Held w' B v n :=
 ⟨h.k,h.mn,h.mx,h.nm,h.short,h.sm,h.l1,h.l2,h.l3,own_keep h.o1 hc fun k hk hs=>by have:=h1 k hk;omega,own_keep h.o2 hc fun k hk hs=>by have:=h2 k hk;omega,own_keep h.o3 hc fun k hk hs=>by have:=h3 k hk;omega⟩
theorem RS.chg (h:RS w B g s r d st) (old:Old st N) (hN:g < N) (hc:Chg w w' fun k=>N≤k):RS w' B g s r d st:=by
 have hb:Below g w w':=Chg.below hc (Nat.le_of_lt h.lt) fun i hi hs=>by omega
 exact ⟨h.laid.below hb (Nat.lt_of_lt_of_le h.low h.le),h.low,h.le,h.segs.below hb,h.src,h.suf,h.deep,blk_keep h.blk hc (by omega),own_keep h.own hc fun k hk hs=>by have:=old.v k hk;omega,h.vl,
  fun i p q=>(h.held i p q).chg hc (old.h1 i p) (old.h2 i p) (old.h3 i p)⟩
theorem Kpt.new (h:Kpt g w w') (hN:w.heap.size≤N) (hc:Chg w' w'' fun k=>N≤k):Kpt g w w'':=Chg.trans h hc fun i hi hs=>by omega
end
theorem own_two {w:World} {b b':Nat} {e e':TypeId} {sz sz' n n':Nat} {v v':Value} {xs xs':List Value} (h:w.ownsRow b e sz v n xs) (k:w.ownsRow b' e' sz' v' n' xs') (hne:e≠e'):∀i,v.ownBlock=some i→v'.ownBlock≠some i:=by
 intro i hi hi'
 rcases h.2 with ⟨rfl,_⟩ | ⟨g,cap,cur,rfl,_,h1,_⟩
 ·cases hi
 ·rcases k.2 with ⟨rfl,_⟩ | ⟨g',cap',cur',rfl,_,h2,_⟩
  ·cases hi'
  ·have e1:g=i:=by simpa [Value.ownBlock] using hi
   have e2:g'=i:=by simpa [Value.ownBlock] using hi'
   rw [e1] at h1;rw [e2,h1] at h2
   injection h2 with h2
   injection h2 with _ h2
   exact hne h2
structure Gth (w:World) (N gg:Nat) (v1 v2 v3:Value) (a:St):Prop where
 le:N≤gg
 blk:Blk w gg 261 [v1,v2,.slice none 0 0,.slice none 0 0,.slice none 0 0,v3]
 o1:w.ownsRow N 48 2 v1 a.s.length (rgs a.s)
 o2:w.ownsRow N 48 2 v2 a.m.length (rgs a.m)
 o3:w.ownsRow N 9 1 v3 a.o.length (txs a.o)
 ap:∀k,v1.ownBlock=some k→v2.ownBlock≠some k
section
variable {w w':World} {N gg:Nat} {v1 v2 v3 v':Value} {a:St}
theorem Gth.next (h:Gth w N gg v1 v2 v3 a) (hb:Below w.heap.size w w'):Gth w' N gg v1 v2 v3 a :=
 ⟨h.le,h.blk.below hb h.blk.lt,Rset.own_below h.o1 hb,Rset.own_below h.o2 hb,Rset.own_below h.o3 hb,h.ap⟩
theorem Gth.kpt {g:Nat} (h:Gth w N gg v1 v2 v3 a) (hk:Kpt g w w') {cs:List Value} (hg:Blk w g 126 cs):Gth w' N gg v1 v2 v3 a :=
 ⟨h.le,blk_kpt h.blk hk (by rintro rfl;have:=h.blk;unfold Blk at this hg;rw [hg] at this;injection this with this;injection this with _ this;revert this;decide) (by decide),own_kpt h.o1 hk hg (by decide) (by decide),own_kpt h.o2 hk hg (by decide) (by decide),own_kpt h.o3 hk hg (by decide) (by decide),h.ap⟩
theorem Gth.one1 (h:Gth w N gg v1 v2 v3 a) {y:List Rg} (hgr:w.grownBy w' v1.ownBlock) (hown:w'.ownsRow N 48 2 v' (a.s++y).length (rgs (a.s++y))) (hat:v'.ownBlock=v1.ownBlock∨v'.ownBlock=some w.heap.size) :
  Gth (w'.setCell ⟨gg,0,none⟩ v') N gg v' v2 v3 ⟨a.s++y,a.m,a.o⟩:=by
 have hc:Chg w w' fun k=>v1.ownBlock=some k:=(Chg.refl w _).grown hgr fun i _ e=>e
 have b2:=h.blk.grown hgr (Ne.symm (own_ne h.o1 h.blk (by decide)))
 have o2:=own_keep h.o2 hc fun k hk hs=>h.ap k hs hk
 have o3:=own_keep h.o3 hc fun k hk hs=>own_two h.o1 h.o3 (by decide) k hs hk
 refine ⟨h.le,b2.set_ 0 v',own_set hown (own_ne hown b2 (by decide)) v',own_set o2 (own_ne o2 b2 (by decide)) v',own_set o3 (own_ne o3 b2 (by decide)) v',fun k hk hk2=>?_⟩
 rcases hat with e | e
 ·exact h.ap k (e ▸ hk) hk2
 ·rw [e] at hk;injection hk with hk;have:=(h.o2.lt k hk2).2;omega
theorem Gth.one2 (h:Gth w N gg v1 v2 v3 a) {y:List Rg} (hgr:w.grownBy w' v2.ownBlock) (hown:w'.ownsRow N 48 2 v' (a.m++y).length (rgs (a.m++y))) (hat:v'.ownBlock=v2.ownBlock∨v'.ownBlock=some w.heap.size) :
  Gth (w'.setCell ⟨gg,1,none⟩ v') N gg v1 v' v3 ⟨a.s,a.m++y,a.o⟩:=by
 have hc:Chg w w' fun k=>v2.ownBlock=some k:=(Chg.refl w _).grown hgr fun i _ e=>e
 have b2:=h.blk.grown hgr (Ne.symm (own_ne h.o2 h.blk (by decide)))
 have o1:=own_keep h.o1 hc fun k hk hs=>h.ap k hk hs
 have o3:=own_keep h.o3 hc fun k hk hs=>own_two h.o2 h.o3 (by decide) k hs hk
 refine ⟨h.le,b2.set_ 1 v',own_set o1 (own_ne o1 b2 (by decide)) v',own_set hown (own_ne hown b2 (by decide)) v',own_set o3 (own_ne o3 b2 (by decide)) v',fun k hk hk2=>?_⟩
 rcases hat with e | e
 ·exact h.ap k hk (e ▸ hk2)
 ·rw [e] at hk2;injection hk2 with hk2;have:=(h.o1.lt k hk).2;omega
theorem Gth.one3 (h:Gth w N gg v1 v2 v3 a) {y:List Tx} (hgr:w.grownBy w' v3.ownBlock) (hown:w'.ownsRow N 9 1 v' (a.o++y).length (txs (a.o++y))) :
  Gth (w'.setCell ⟨gg,5,none⟩ v') N gg v1 v2 v' ⟨a.s,a.m,a.o++y⟩:=by
 have hc:Chg w w' fun k=>v3.ownBlock=some k:=(Chg.refl w _).grown hgr fun i _ e=>e
 have b2:=h.blk.grown hgr (Ne.symm (own_ne h.o3 h.blk (by decide)))
 have o1:=own_keep h.o1 hc fun k hk hs=>own_two h.o3 h.o1 (by decide) k hs hk
 have o2:=own_keep h.o2 hc fun k hk hs=>own_two h.o3 h.o2 (by decide) k hs hk
 exact ⟨h.le,b2.set_ 5 v',own_set o1 (own_ne o1 b2 (by decide)) v',own_set o2 (own_ne o2 b2 (by decide)) v',own_set hown (own_ne hown b2 (by decide)) v',h.ap⟩
end
structure Ad (w U:World) (N M gg gb:Nat) (nv:NV) (x:St) (v1 v2 v3:Value) (a:St):Prop where
 gth:Gth U N gg v1 v2 v3 a
 held:Held U M nv (ndS x)
 box:BlkS U gb (.slice nv.A1 nv.n1 nv.c1) (.slice nv.A2 nv.n2 nv.c2) (.slice nv.A3 nv.n3 nv.c3)
 chg:Chg w U fun k=>N≤k
theorem Ad.turn {w U U':World} {N M gg gb:Nat} {nv:NV} {x a a':St} {v1 v2 v3 u1 u2 u3 vi:Value} (h:Ad w U N M gg gb nv x v1 v2 v3 a) (hc:Chg U U' fun k=>k=gg∨vi.ownBlock=some k)
  (hs:∀k,(k=gg∨vi.ownBlock=some k)→k < M∧k≠gb∧N≤k) (hg:Gth U' N gg u1 u2 u3 a'):Ad w U' N M gg gb nv x u1 u2 u3 a' :=
 ⟨hg,⟨h.held.k,h.held.mn,h.held.mx,h.held.nm,h.held.short,h.held.sm,h.held.l1,h.held.l2,h.held.l3,own_keep h.held.o1 hc fun k hk q=>by have:=(h.held.o1.lt k hk).1;have:=(hs k q).1;omega,
   own_keep h.held.o2 hc fun k hk q=>by have:=(h.held.o2.lt k hk).1;have:=(hs k q).1;omega,own_keep h.held.o3 hc fun k hk q=>by have:=(h.held.o3.lt k hk).1;have:=(hs k q).1;omega⟩,
  blk_keep h.box hc fun q=>(hs gb q).2.1 rfl,Chg.trans h.chg hc fun i _ q=>(hs i q).2.2⟩
set_option maxHeartbeats 16000000 in
theorem add_any {N M gg:Nat} {v1 v2 v3:Value} {a x:St} {A1:Option Addr} {n1 c1:Nat} {A2:Option Addr} {n2 c2:Nat} {A3:Option Addr} {n3 c3:Nat} {w:World} (h:Gth w N gg v1 v2 v3 a) (hN:N≤w.heap.size)
  (hx:Held w M ⟨2,A1,n1,c1,A2,n2,c2,A3,n3,c3,0,0⟩ (ndS x)) (hg:gg < M) (h1:∀k,v1.ownBlock=some k→k < M) (h2:∀k,v2.ownBlock=some k→k < M) (h3:∀k,v3.ownBlock=some k→k < M)
  (s1:a.s.length+x.s.length≤1073741824) (s2:a.m.length+x.m.length≤1073741824) (s3:a.o.length+x.o.length≤1073741824) :
  Calls Tryz.prog 249 #[.pointer (some ⟨gg,0,none⟩),.agg #[.slice A1 n1 c1,.slice A2 n2 c2,.slice A3 n3 c3]] w
   (fun e w'=>e=.returned (.tuple #[])∧(∃u1 u2 u3,Gth w' N gg u1 u2 u3 (addG a x))∧Chg w w' fun k=>N≤k):=by
 obtain ⟨i0,hi,hz0,hz1,hz2⟩:=info_parts Rset.infoRg
 obtain ⟨i1,hj,hy0,hy1,hy2⟩:=info_parts Sset.infoStr
 obtain ⟨U1,hU⟩:∃W,W=w.alloc (.cells #[.slice A1 n1 c1,.slice A2 n2 c2,.slice A3 n3 c3] 39):=⟨_,rfl⟩
 obtain ⟨gb,hgb⟩:∃gb,gb=w.heap.size:=⟨_,rfl⟩
 have hbU:Below w.heap.size w U1:=by rw [hU];exact (Below.refl _ _).alloc (Nat.le_refl _) _
 have kb:BlkS U1 gb (.slice A1 n1 c1) (.slice A2 n2 c2) (.slice A3 n3 c3):=by rw [hU,hgb];exact BlkS.new w _ _ _
 have HA1:=Lib.hid (show Ad w U1 N M gg gb ⟨2,A1,n1,c1,A2,n2,c2,A3,n3,c3,0,0⟩ x v1 v2 v3 a from ⟨h.next hbU,hx.next hbU,kb,Chg.of_below hbU (Nat.le_refl _)⟩)
 have hggb:gg < gb:=by rw [hgb];exact h.blk.lt
 have HS1:=Lib.hid (show ∀k,(k=gg∨v1.ownBlock=some k)→k < M∧k≠gb∧N≤k from fun k q=>by
  rcases q with rfl | q
  ·exact ⟨hg,by omega,h.le⟩
  ·have:=h.o1.lt k q;exact ⟨h1 k q,by omega,this.1⟩)
 have HS2:=Lib.hid (show ∀k,(k=gg∨v2.ownBlock=some k)→k < M∧k≠gb∧N≤k from fun k q=>by
  rcases q with rfl | q
  ·exact ⟨hg,by omega,h.le⟩
  ·have:=h.o2.lt k q;exact ⟨h2 k q,by omega,this.1⟩)
 have HS3:=Lib.hid (show ∀k,(k=gg∨v3.ownBlock=some k)→k < M∧k≠gb∧N≤k from fun k q=>by
  rcases q with rfl | q
  ·exact ⟨hg,by omega,h.le⟩
  ·have:=h.o3.lt k q;exact ⟨h3 k q,by omega,this.1⟩)
 have HN:=Lib.hid hN
 have HU:=Lib.hid hU;have HGB:=Lib.hid hgb
 have HL1:=Lib.hid hx.l1;have HL2:=Lib.hid hx.l2;have HL3:=Lib.hid hx.l3
 dsimp only [ndS] at HL1 HL2 HL3
 have HW1:=Lib.hid hbU.size
 clear h hx hg h1 h2 h3 hbU kb hU hgb hN
 obtain ⟨la,hla⟩:∃n,n=a.s.length:=⟨_,rfl⟩
 obtain ⟨lb,hlb⟩:∃n,n=a.m.length:=⟨_,rfl⟩
 obtain ⟨lc,hlc⟩:∃n,n=a.o.length:=⟨_,rfl⟩
 rw [←hla,HL1.out] at s1
 rw [←hlb,HL2.out] at s2
 rw [←hlc,HL3.out] at s3
 have HLA:=Lib.hid hla;have HLB:=Lib.hid hlb;have HLC:=Lib.hid hlc
 clear hla hlb hlc
 go_enter Tryz.func249,Tryz.ntmps249
 go_wp2_with fail
 rw [←HU.out,←HGB.out]
 go_cut [] (fun wx=>Hid (∃u1,Ad w wx N M gg gb ⟨2,A1,n1,c1,A2,n2,c2,A3,n3,c3,0,0⟩ x u1 v2 v3 ⟨a.s++x.s,a.m,a.o⟩))
 case first =>
  have gx:U1.cell? ⟨gg,0,none⟩=some v1:=HA1.out.gth.blk.cell 0
  have fx:U1.frozen? ⟨gg,0,none⟩=false:=HA1.out.gth.blk.frozen 0
  have ex:U1.cell? ⟨gb,0,none⟩=some (.slice A1 n1 c1):=HA1.out.box.c0
  have HO:=Lib.hid (show U1.drew.ownsRow N 48 2 v1 la (rgs a.s) by have:=HA1.out.gth.o1;(try dsimp only at this);rw [←HLA.out] at this;exact this)
  have HR:=Lib.hid (show Rd U1 U1.heap.size A1 (rgs x.s) from HA1.out.held.has.s.rd)
  have hw:N≤U1.heap.size:=by have:=HN.out;have:=HA1.out.chg.size;omega
  go_region_law (first
   | (
    refine step_append_rd rfl (.tmp 9) (.tmp 11) _ rfl N 48 i0 _ 2 8 Tryz.underlying37 hi hz0 hz1 hz2 rfl (by decide) v1 la (rgs a.s) rfl HO.out _ A1 n1 c1 (rgs x.s) rfl (by rw [Rset.rgs_len,HL1.out]) HR.out (Rset.rgs_one _) (by unfold maxLen;omega) (by omega) hw ?_
    intro vn wn hown hgr hat
    have HG:=Lib.hid ((HA1.out.gth.next ((Below.refl _ _).drew)).one1 (y:=x.s) hgr (by (try dsimp only);rw [List.length_append,←HLA.out,HL1.out,Rset.rgs_append];exact hown) hat)
    have HC:=Lib.hid (show Chg U1 (wn.setCell ⟨gg,0,none⟩ vn) (fun k=>k=gg∨v1.ownBlock=some k) from (((Chg.refl U1 _).and_below ((Below.refl _ _).drew)).grown hgr fun k _ q=>.inr q).setCell (p:=⟨gg,0,none⟩) _ (.inl rfl))
    have HAN:=Lib.hid (HA1.out.turn HC.out HS1.out HG.out)
    have px:wn.cell? ⟨gg,0,none⟩=some v1:=by rw [hgr.cell_far ⟨gg,0,none⟩ HA1.out.gth.blk.lt (fun e=>own_ne HO.out HA1.out.gth.blk (by decide) e.symm)];exact gx
    have qx:wn.frozen? ⟨gg,0,none⟩=false:=by rw [hgr.frozen_far ⟨gg,0,none⟩ HA1.out.gth.blk.lt (fun e=>own_ne HO.out HA1.out.gth.blk (by decide) e.symm)];exact fx
    clear HG HC
    obtain ⟨XN,kN,hvN,_⟩:=own_form hown
    subst hvN
    clear hown hgr hat))
  all_goals (go_wp2_with fail;go_meet;exact Lib.hid ⟨_,HAN.out⟩)
 case rest =>
  obtain ⟨u1,hA⟩:=hcut.out
  have HA2:=Lib.hid hA
  clear hcut hA HA1 HW1
  obtain ⟨U2,rfl⟩:∃U2,U2=wc:=⟨_,rfl⟩
  go_wp2_with fail
  go_cut [] (fun wx=>Hid (∃u2,Ad w wx N M gg gb ⟨2,A1,n1,c1,A2,n2,c2,A3,n3,c3,0,0⟩ x u1 u2 v3 ⟨a.s++x.s,a.m++x.m,a.o⟩))
  case first =>
   have gx:U2.cell? ⟨gg,1,none⟩=some v2:=HA2.out.gth.blk.cell 1
   have fx:U2.frozen? ⟨gg,1,none⟩=false:=HA2.out.gth.blk.frozen 1
   have ex:U2.cell? ⟨gb,1,none⟩=some (.slice A2 n2 c2):=HA2.out.box.c1
   have HO:=Lib.hid (show U2.drew.ownsRow N 48 2 v2 lb (rgs a.m) by have:=HA2.out.gth.o2;(try dsimp only at this);rw [←HLB.out] at this;exact this)
   have HR:=Lib.hid (show Rd U2 U2.heap.size A2 (rgs x.m) from HA2.out.held.has.m.rd)
   have hw:N≤U2.heap.size:=by have:=HN.out;have:=HA2.out.chg.size;omega
   go_region_law (first
    | (
     refine step_append_rd rfl (.tmp 21) (.tmp 23) _ rfl N 48 i0 _ 2 8 Tryz.underlying37 hi hz0 hz1 hz2 rfl (by decide) v2 lb (rgs a.m) rfl HO.out _ A2 n2 c2 (rgs x.m) rfl (by rw [Rset.rgs_len,HL2.out]) HR.out (Rset.rgs_one _) (by unfold maxLen;omega) (by omega) hw ?_
     intro vn wn hown hgr hat
     have HG:=Lib.hid ((HA2.out.gth.next ((Below.refl _ _).drew)).one2 (y:=x.m) hgr (by (try dsimp only);rw [List.length_append,←HLB.out,HL2.out,Rset.rgs_append];exact hown) hat)
     have HC:=Lib.hid (show Chg U2 (wn.setCell ⟨gg,1,none⟩ vn) (fun k=>k=gg∨v2.ownBlock=some k) from (((Chg.refl U2 _).and_below ((Below.refl _ _).drew)).grown hgr fun k _ q=>.inr q).setCell (p:=⟨gg,1,none⟩) _ (.inl rfl))
     have HAN:=Lib.hid (HA2.out.turn HC.out HS2.out HG.out)
     have px:wn.cell? ⟨gg,1,none⟩=some v2:=by rw [hgr.cell_far ⟨gg,1,none⟩ HA2.out.gth.blk.lt (fun e=>own_ne HO.out HA2.out.gth.blk (by decide) e.symm)];exact gx
     have qx:wn.frozen? ⟨gg,1,none⟩=false:=by rw [hgr.frozen_far ⟨gg,1,none⟩ HA2.out.gth.blk.lt (fun e=>own_ne HO.out HA2.out.gth.blk (by decide) e.symm)];exact fx
     clear HG HC
     obtain ⟨XN,kN,hvN,_⟩:=own_form hown
     subst hvN
     clear hown hgr hat))
   all_goals (go_wp2_with fail;go_meet;exact Lib.hid ⟨_,HAN.out⟩)
  case rest =>
   obtain ⟨u2,hA⟩:=hcut.out
   have HA3:=Lib.hid hA
   clear hcut hA HA2
   obtain ⟨U3,rfl⟩:∃U3,U3=wc:=⟨_,rfl⟩
   go_wp2_with fail
   have gx:U3.cell? ⟨gg,5,none⟩=some v3:=HA3.out.gth.blk.cell 5
   have fx:U3.frozen? ⟨gg,5,none⟩=false:=HA3.out.gth.blk.frozen 5
   have ex:U3.cell? ⟨gb,2,none⟩=some (.slice A3 n3 c3):=HA3.out.box.c2
   have HO:=Lib.hid (show U3.drew.ownsRow N 9 1 v3 lc (txs a.o) by have:=HA3.out.gth.o3;(try dsimp only at this);rw [←HLC.out] at this;exact this)
   have HR:=Lib.hid (show Rd U3 U3.heap.size A3 (txs x.o) from HA3.out.held.has.o.rd)
   have hw:N≤U3.heap.size:=by have:=HN.out;have:=HA3.out.chg.size;omega
   go_region_law (first
    | (
     refine step_append_rd rfl (.tmp 33) (.tmp 35) _ rfl N 9 i1 _ 1 16 Tryz.underlying32 hj hy0 hy1 hy2 rfl (by decide) v3 lc (txs a.o) rfl HO.out _ A3 n3 c3 (txs x.o) rfl (by rw [Sset.txs_len,HL3.out,Nat.mul_one]) HR.out (Sset.txs_one _) (by unfold maxLen;omega) (by omega) hw ?_
     intro vn wn hown hgr hat
     have HG:=Lib.hid ((HA3.out.gth.next ((Below.refl _ _).drew)).one3 (y:=x.o) hgr (by (try dsimp only);rw [List.length_append,←HLC.out,HL3.out,Sset.txs_append];exact hown))
     have HC:=Lib.hid (show Chg U3 (wn.setCell ⟨gg,5,none⟩ vn) (fun k=>k=gg∨v3.ownBlock=some k) from (((Chg.refl U3 _).and_below ((Below.refl _ _).drew)).grown hgr fun k _ q=>.inr q).setCell (p:=⟨gg,5,none⟩) _ (.inl rfl))
     have HAN:=Lib.hid (HA3.out.turn HC.out HS3.out HG.out)
     have px:wn.cell? ⟨gg,5,none⟩=some v3:=by rw [hgr.cell_far ⟨gg,5,none⟩ HA3.out.gth.blk.lt (fun e=>own_ne HO.out HA3.out.gth.blk (by decide) e.symm)];exact gx
     have qx:wn.frozen? ⟨gg,5,none⟩=false:=by rw [hgr.frozen_far ⟨gg,5,none⟩ HA3.out.gth.blk.lt (fun e=>own_ne HO.out HA3.out.gth.blk (by decide) e.symm)];exact fx
     clear HG HC
     obtain ⟨XN,kN,hvN,_⟩:=own_form hown
     subst hvN
     clear hown hgr hat))
   all_goals (go_wp2_with fail;go_end0;exact ⟨rfl,⟨_,_,_,HAN.out.gth⟩,HAN.out.chg⟩)
end Go.Proofs.YtkgeiokckfpjlaaGreatDoor.Syn
namespace Go.Proofs.YtkgeiokckfpjlaaGreatDoor.Syn
open Go.RowKit
open Utf (Rd Blk own_ne)
open Norm (Chg own_set own_keep blk_keep)
open Rset (own_form rgs Rg Fit)
open Sset (St Tx none_ NmS Short txs Made ArgR ArgT Has3 BlkS r_union uni2 uni2_nm)
set_option maxRecDepth 100000
theorem Held.put3 {w:World} {B gr:Nat} {v:NV} {n:Nd} {x y z:Value} (h:Held w B v n) (hb:BlkS w gr x y z) (a b c:Value):Held (((w.setCell ⟨gr,0,none⟩ a).setCell ⟨gr,1,none⟩ b).setCell ⟨gr,2,none⟩ c) B v n:=by
 have b1:Blk (w.setCell ⟨gr,0,none⟩ a) gr 39 _:=Blk.set_ hb 0 a
 have b2:Blk ((w.setCell ⟨gr,0,none⟩ a).setCell ⟨gr,1,none⟩ b) gr 39 _:=b1.set_ 1 b
 have key:∀{e:TypeId} {sz m:Nat} {u:Value} {xs:List Value},e≠39→w.ownsRow B e sz u m xs→(((w.setCell ⟨gr,0,none⟩ a).setCell ⟨gr,1,none⟩ b).setCell ⟨gr,2,none⟩ c).ownsRow B e sz u m xs:=by
  intro e sz m u xs he ho
  have o1:=own_set ho (own_ne ho (show Blk w gr 39 _ from hb) he) (o:=0) a
  have o2:=own_set o1 (own_ne o1 b1 he) (o:=1) b
  exact own_set o2 (own_ne o2 b2 he) (o:=2) c
 exact ⟨h.k,h.mn,h.mx,h.nm,h.short,h.sm,h.l1,h.l2,h.l3,key (by decide) h.o1,key (by decide) h.o2,key (by decide) h.o3⟩
def QH (M:Nat) (a:St) (v:Value) (w':World):Prop:=∃A1 n1 c1 A2 n2 c2 A3 n3 c3,v=.agg #[.slice A1 n1 c1,.slice A2 n2 c2,.slice A3 n3 c3]∧Held w' M ⟨2,A1,n1,c1,A2,n2,c2,A3,n3,c3,0,0⟩ (ndS a)
theorem argR_list {w:World} {N n:Nat} {A:Option Addr} {c:Nat} {l:List Rg} (h:w.ownsRow N 48 2 (.slice A n c) n (rgs l)) (hl:l.length=n) (hf:∀r∈l,0≤r.1∧r.1≤r.2∧r.2≤1114111) (hsm:n≤8388608):ArgR w A n l:=by
 obtain ⟨A',c',e,_,_,hr⟩:=own_form h
 injection e with e1 _ e3
 subst e1 e3
 exact ⟨hr,hl,fun r hr=>by have:=hf r hr;omega,hsm⟩
theorem argT_list {w:World} {N n:Nat} {A:Option Addr} {c:Nat} {l:List Tx} (h:w.ownsRow N 9 1 (.slice A n c) n (txs l)) (hl:l.length=n) (hS:Short l) (hsm:n≤1073741824):ArgT w A n l:=by
 obtain ⟨A',c',e,_,_,hr⟩:=own_form h
 injection e with e1 _ e3
 subst e1 e3
 exact ⟨hr,hl,hS,hsm⟩
set_option maxHeartbeats 16000000 in
theorem set_any {N gg rest:Nat} {v1 v2 v3:Value} {a:St} {w:World} (h:Gth w N gg v1 v2 v3 a) (hg:Gat a rest) :
  Calls Tryz.prog 252 #[.pointer (some ⟨gg,0,none⟩)] w (fun e w'=>∃v,e=.returned v∧QH w.heap.size (finG a) v w'∧Below w.heap.size w w'):=by
 obtain ⟨A1,c1,rfl,_⟩:=own_form h.o1
 obtain ⟨A2,c2,rfl,_⟩:=own_form h.o2
 obtain ⟨A3,c3,rfl,_⟩:=own_form h.o3
 obtain ⟨n1,hn1⟩:∃n,n=a.s.length:=⟨_,rfl⟩
 obtain ⟨n2,hn2⟩:∃n,n=a.m.length:=⟨_,rfl⟩
 obtain ⟨n3,hn3⟩:∃n,n=a.o.length:=⟨_,rfl⟩
 have hg1:=hg.s;have hg2:=hg.m;have hg3:=hg.o
 rw [←hn1,←hn2,←hn3] at h
 have HP:=Lib.hid (show Has3 w A1 n1 A2 n2 none 0 ⟨a.s,a.m,[]⟩ from ⟨argR_list (by have:=h.o1;rwa [←hn1] at this) hn1.symm hg.fs (by omega),argR_list (by have:=h.o2;rwa [←hn2] at this) hn2.symm hg.fm (by omega),⟨Rd.empty _ _ _,rfl,Sset.short_nil,by omega⟩⟩)
 have HQ:=Lib.hid (show Has3 w none 0 none 0 A3 n3 ⟨[],[],a.o⟩ from ⟨⟨Rd.empty _ _ _,rfl,Rset.fit_nil,by omega⟩,⟨Rd.empty _ _ _,rfl,Rset.fit_nil,by omega⟩,argT_list (by have:=h.o3;rwa [←hn3] at this) hn3.symm hg.short (by omega)⟩)
 obtain ⟨W,hW⟩:∃W,W=w.alloc (.cells #[.slice none 0 0,.slice none 0 0,.slice none 0 0] 39):=⟨_,rfl⟩
 obtain ⟨gr,hgr⟩:∃gr,gr=w.heap.size:=⟨_,rfl⟩
 have hbW:Below w.heap.size w W:=by rw [hW];exact (Below.refl _ _).alloc (Nat.le_refl _) _
 have HK:=Lib.hid (show BlkS W gr (.slice none 0 0) (.slice none 0 0) (.slice none 0 0) by rw [hW,hgr];exact BlkS.new w _ _ _)
 have kg:=h.blk.below hbW h.blk.lt
 have x0:W.cell? ⟨gg,0,none⟩=some (.slice A1 n1 c1):=kg.cell 0
 have x1:W.cell? ⟨gg,1,none⟩=some (.slice A2 n2 c2):=kg.cell 1
 have x2:W.cell? ⟨gg,2,none⟩=some (.slice none 0 0):=kg.cell 2
 have x3:W.cell? ⟨gg,3,none⟩=some (.slice none 0 0):=kg.cell 3
 have x4:W.cell? ⟨gg,4,none⟩=some (.slice none 0 0):=kg.cell 4
 have x5:W.cell? ⟨gg,5,none⟩=some (.slice A3 n3 c3):=kg.cell 5
 have HU:=Lib.hid (fun (u:World) (hb:Below W.heap.size W u)=>r_union c1 c2 0 0 0 c3 (HP.out.next (hbW.trans (hb.mono hbW.size))) (HQ.out.next (hbW.trans (hb.mono hbW.size))) (by omega))
 have HW:=Lib.hid hW;have HGR:=Lib.hid hgr;have HBW:=Lib.hid hbW
 clear h hg hn1 hn2 hn3 hW hgr hbW kg hg1 hg2 hg3 HP HQ
 go_enter Tryz.func252,Tryz.ntmps252
 go_wp2_with fail
 rw [←HW.out,←HGR.out]
 go_region_with (go_at_call 283;refine (HU.out _ ((Below.refl _ _).drew)).mono ?_;rintro e w2 ⟨P1,p1,q1,P2,p2,q2,P3,p3,q3,rfl,M2⟩;have HM:=Lib.hid M2;have HZ:=Lib.hid (HK.out.next ((Below.refl W.heap.size W).drew.trans M2.bel));have d0:=HZ.out.c0;have d1:=HZ.out.c1;have d2:=HZ.out.c2;have f0:=HZ.out.fr 0;have f1:=HZ.out.fr 1;have f2:=HZ.out.fr 2;clear M2)
 all_goals (
  go_wp2_with fail
  refine (HZ.out.put _ _ _).ret rfl rfl rfl ?_
  have hM:=held_set (B:=w.heap.size) HM.out (uni2_nm _ _) HBW.out.size
  have hb2:Below w.heap.size w w2:=HBW.out.trans (((Below.refl W.heap.size W).drew.trans HM.out.bel).mono HBW.out.size)
  exact ⟨_,rfl,⟨P1,p1,q1,P2,p2,q2,P3,p3,q3,rfl,hM.put3 HZ.out _ _ _⟩,((hb2.setCell (p:=⟨gr,0,none⟩) (by rw [HGR.out];exact Nat.le_refl _) _).setCell (p:=⟨gr,1,none⟩) (by rw [HGR.out];exact Nat.le_refl _) _).setCell (p:=⟨gr,2,none⟩) (by rw [HGR.out];exact Nat.le_refl _) _⟩)
end Go.Proofs.YtkgeiokckfpjlaaGreatDoor.Syn
