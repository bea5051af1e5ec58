/-
  Texts of stage 7, part 4.
-/
import Derived.Lib.SlicesCompact
import Derived.Test.YtegdbmbenjnacaaGreatR1
import Derived.Test.YtegdbmbenjnacaaGreatR3
namespace Go.Proofs.YtegdbmbenjnacaaGreat.Sset
open Utf Rset
abbrev Tx:=List UInt8
def Up (l:List Tx):Prop:=l.Pairwise (· < ·)
theorem Up.nil:Up []:=List.Pairwise.nil
theorem lt_irr (x:Tx):¬x < x:=List.lt_irrefl x
theorem lt_of {x y:Tx} (h:x≤y) (hne:x≠y):x < y:=by
 by_cases h1:x < y
 ·exact h1
 ·exact absurd (List.le_antisymm h h1) hne
theorem lt_tr {x y z:Tx} (h1:x < y) (h2:y < z):x < z:=List.lt_trans h1 h2
theorem up_uniq:∀(l m:List Tx),Up l→Up m→(∀x,x∈l↔x∈m)→l=m:=by
 intro l
 induction l with
 | nil =>
  intro m _ _ h
  cases m with
  | nil=>rfl
  | cons y u=>exact absurd ((h y).2 (List.mem_cons_self ..)) (by simp)
 | cons x t ih =>
  intro m hl hm h
  cases m with
  | nil=>exact absurd ((h x).1 (List.mem_cons_self ..)) (by simp)
  | cons y u =>
   obtain ⟨hx,ht⟩:=List.pairwise_cons.1 hl
   obtain ⟨hy,hu⟩:=List.pairwise_cons.1 hm
   have e:x=y:=by
    rcases List.mem_cons.1 ((h x).1 (List.mem_cons_self ..)) with h1 | h1
    ·exact h1
    ·rcases List.mem_cons.1 ((h y).2 (List.mem_cons_self ..)) with h2 | h2
     ·exact h2.symm
     ·exact absurd (lt_tr (hx y h2) (hy x h1)) (lt_irr x)
   subst e
   rw [ih u ht hu fun z=>?_]
   constructor
   ·intro hz
    rcases List.mem_cons.1 ((h z).1 (List.mem_cons_of_mem _ hz)) with rfl | h1
    ·exact absurd (hx z hz) (lt_irr z)
    ·exact h1
   ·intro hz
    rcases List.mem_cons.1 ((h z).2 (List.mem_cons_of_mem _ hz)) with rfl | h1
    ·exact absurd (hy z hz) (lt_irr z)
    ·exact h1
theorem Up.nodup {l:List Tx} (h:Up l):l.Nodup:=h.imp fun {a b} hab e=>by subst e;exact lt_irr _ hab
theorem Up.filter {l:List Tx} (h:Up l) (p:Tx→Bool):Up (l.filter p):=List.Pairwise.sublist List.filter_sublist h
def rise (l:List Tx):List Tx:=Lib.compact (l.mergeSort fun x y=>decide (x≤y))
theorem sorted_merge (l:List Tx):(l.mergeSort fun x y=>decide (x≤y)).Pairwise (·≤·):=by
 have tr:∀a b c:Tx,decide (a≤b)=true→decide (b≤c)=true→decide (a≤c)=true:=fun a b c h1 h2=>by simp only [decide_eq_true_eq] at *;exact List.le_trans h1 h2
 have to:∀a b:Tx,(decide (a≤b) || decide (b≤a))=true:=fun a b=>by simp only [Bool.or_eq_true,decide_eq_true_eq];exact List.le_total a b
 exact (List.pairwise_mergeSort tr to l).imp fun h=>by simpa using h
theorem compact_mem (zs:List Tx) (x:Tx):x∈Lib.compact zs↔x∈zs:=by
 unfold Lib.compact Lib.compactUpTo
 constructor
 ·intro h
  obtain ⟨i,hi,rfl⟩:=List.mem_map.1 h
  have hi':i < zs.length:=List.mem_range.1 (List.mem_filter.1 hi).1
  simp [getElem!_pos,hi']
 ·intro h
  have ex:∃n:Nat,n < zs.length∧zs.toArray[n]! = x:=by
   obtain ⟨i,hi,rfl⟩:=List.getElem_of_mem h
   exact ⟨i,hi,by simp [getElem!_pos,hi]⟩
  have H:∀n:Nat,n < zs.length→zs.toArray[n]! = x→∃j,(j < zs.length∧zs.toArray[j]! = x)∧Lib.keeps zs.toArray j=true:=by
   intro n
   induction n with
   | zero=>intro h1 h2;exact ⟨0,⟨h1,h2⟩,Lib.keeps_lt_one _ 0 (by omega)⟩
   | succ n ih =>
    intro h1 h2
    by_cases h3:zs.toArray[n]! = x
    ·exact ih (by omega) h3
    ·refine ⟨n+1,⟨h1,h2⟩,Lib.keeps_pos ?_⟩
     rw [h2];exact fun e=>h3 e.symm
  obtain ⟨n,h1,h2⟩:=ex
  obtain ⟨j,⟨j1,j2⟩,j3⟩:=H n h1 h2
  exact List.mem_map.2 ⟨j,List.mem_filter.2 ⟨List.mem_range.2 j1,j3⟩,j2⟩
theorem compact_up {zs:List Tx} (h:zs.Pairwise (·≤·)):Up (Lib.compact zs):=by
 unfold Lib.compact Lib.compactUpTo Up
 rw [List.pairwise_map]
 have hr:(List.range zs.length).Pairwise (· < ·):=List.pairwise_lt_range
 refine (List.Pairwise.and_mem.1 (List.Pairwise.filter _ hr)).imp ?_
 rintro i j ⟨hi,hj,hij⟩
 obtain ⟨hi1,_⟩:=List.mem_filter.1 hi
 obtain ⟨hj1,hj2⟩:=List.mem_filter.1 hj
 have hi1:=List.mem_range.1 hi1
 have hj1:=List.mem_range.1 hj1
 have hle:∀a b:Nat,a≤b→b < zs.length→zs.toArray[a]!≤zs.toArray[b]!:=by
  intro a b hab hb
  rcases Nat.lt_or_ge a b with hlt | hge
  ·have:=List.pairwise_iff_getElem.1 h a b (by omega) hb hlt
   rw [getElem!_pos _ a (by simp;omega),getElem!_pos _ b (by simpa using hb)]
   simpa using this
  ·have:a=b:=by omega
   subst this
   exact List.le_refl _
 unfold Lib.keeps at hj2
 rw [decide_eq_true_eq] at hj2
 have hne:zs.toArray[j]!≠zs.toArray[j - 1]!:=by
  rcases hj2 with hj2 | hj2
  ·omega
  ·exact hj2
 have h1:=hle i (j - 1) (by omega) (by omega)
 have h2:=lt_of (hle (j - 1) j (by omega) hj1) fun e=>hne e.symm
 by_cases e:zs.toArray[i]! = zs.toArray[j - 1]!
 ·rw [e];exact h2
 ·exact lt_tr (lt_of h1 e) h2
theorem rise_mem (l:List Tx) (x:Tx):x∈rise l↔x∈l:=by unfold rise;rw [compact_mem,List.mem_mergeSort]
theorem rise_up (l:List Tx):Up (rise l):=compact_up (sorted_merge l)
theorem rise_id {l:List Tx} (h:Up l):rise l=l:=up_uniq _ _ (rise_up l) h fun x=>rise_mem l x
theorem rise_of {l m:List Tx} (h:Up m) (hm:∀x,x∈m↔x∈l):m=rise l:=up_uniq _ _ h (rise_up l) fun x=>by rw [hm,rise_mem]
theorem nodup_len:∀(l m:List Tx),l.Nodup→(∀x∈l,x∈m)→l.length≤m.length:=by
 intro l
 induction l with
 | nil=>intro m _ _;exact Nat.zero_le _
 | cons x t ih =>
  intro m hn h
  obtain ⟨h1,h2⟩:=List.nodup_cons.1 hn
  have hx:=h x (List.mem_cons_self ..)
  have:=ih (m.erase x) h2 fun y hy=>(List.mem_erase_of_ne (fun e=>h1 (by rw [←e];exact hy))).2 (h y (List.mem_cons_of_mem _ hy))
  have h3:=List.length_erase_of_mem hx
  have h4:0 < m.length:=List.length_pos_of_mem hx
  rw [List.length_cons]
  omega
theorem rise_len (l:List Tx):(rise l).length≤l.length:=nodup_len _ _ (rise_up l).nodup fun x hx=>(rise_mem l x).1 hx
theorem compact_len (zs:List Tx):(Lib.compact zs).length≤zs.length:=by
 unfold Lib.compact Lib.compactUpTo
 rw [List.length_map]
 exact Nat.le_trans (List.length_filter_le _ _) (by simp)
def isIn (l:List Tx) (t:Tx):Bool:=decide (t∈l)
theorem isIn_iff {l:List Tx} {t:Tx}:isIn l t=true↔t∈l:=by simp [isIn]
theorem isIn_congr {l m:List Tx} {t:Tx} (h:t∈l↔t∈m):isIn l t=isIn m t:=by unfold isIn;rw [decide_eq_decide];exact h
theorem isIn_append (l m:List Tx) (t:Tx):isIn (l++m) t=(isIn l t || isIn m t):=by unfold isIn;rw [Bool.eq_iff_iff];simp
theorem isIn_filter (l:List Tx) (p:Tx→Bool) (t:Tx):isIn (l.filter p) t=(isIn l t && p t):=by unfold isIn;rw [Bool.eq_iff_iff];simp
theorem isIn_rise (l:List Tx) (t:Tx):isIn (rise l) t=isIn l t:=isIn_congr (rise_mem l t)
theorem isIn_nil (t:Tx):isIn [] t=false:=by simp [isIn]
theorem isIn_one (u t:Tx):isIn [u] t=decide (t=u):=by unfold isIn;rw [decide_eq_decide];simp
def pnts (t:Tx):List Pt:=dec false 0 t
def rns (t:Tx):List Int:=(pnts t).map fun q=>(q.r:Int)
def good (t:Tx):Bool:=decide (enc (rns t)=t)
def ill (t:Tx) (q:Pt):Bool:=decide (q.r=65533) && !decide ((t.drop q.p).take q.w=bad3)
def okT (t:Tx):Bool:=good t && decide (2≤(pnts t).length)
theorem whole_all (b:Tx):∀(l:Tx) (k:Nat) (r:List Int) (o:Bool),l=b.drop k→k+l.length=b.length→WholeB b k r o →
  WholeB b b.length (r++(dec false k l).map fun q=>(q.r:Int)) (o && !(dec false k l).any (ill b)):=by
 refine pieces (P:=fun l=>∀(k:Nat) (r:List Int) (o:Bool),l=b.drop k→k+l.length=b.length→WholeB b k r o →
  WholeB b b.length (r++(dec false k l).map fun q=>(q.r:Int)) (o && !(dec false k l).any (ill b))) ?_ ?_
 ·intro k r o _ hk h
  have:k=b.length:=by simpa using hk
  subst this
  simpa [dec_nil] using h
 ·intro l hl ih k r o he hk h
  have hwl:=wid_le l
  have hne:b.drop k≠[]:=he ▸ hl
  have hs:=whole_step h hne
  rw [←he] at hs
  have:=ih (k+wid l) (r++[(rune l:Int)]) _ (by rw [he,List.drop_drop]) (by rw [List.length_drop];omega) hs
  rw [dec_step false k hl (by simp),List.map_cons,List.any_cons]
  have e1:ill b ⟨rune l,k,wid l⟩=!(decide (rune l≠65533) || decide (l.take (wid l)=bad3)):=by
   unfold ill
   simp only [←he]
   by_cases h1:rune l=65533 <;> simp [h1]
  rw [e1,Bool.not_or,Bool.not_not,←Bool.and_assoc]
  rw [List.append_assoc,List.singleton_append] at this
  exact this
theorem good_ill (t:Tx):good t=!(pnts t).any (ill t):=by
 have h:=whole_all t t 0 [] true (by simp) (by simp) (whole_start t)
 rw [List.nil_append,Bool.true_and] at h
 have:=whole_end h
 unfold good
 rw [Bool.eq_iff_iff,decide_eq_true_eq]
 exact this
theorem pnts_cons {t:Tx} (h:t≠[]):pnts t=⟨rune t,0,wid t⟩ :: dec false (wid t) (t.drop (wid t)):=by
 unfold pnts;rw [dec_step false 0 h (by simp),Nat.zero_add]
def two (t:Tx):Bool:=decide (wid t < t.length)
theorem dec_zero {l:Tx} {k:Nat}:(dec false k l).length=0↔l=[]:=by
 constructor
 ·intro h
  by_cases hl:l=[]
  ·exact hl
  ·rw [dec_step false k hl (by simp)] at h;simp at h
 ·rintro rfl;rfl
theorem two_len (t:Tx) (h:t≠[]):decide (2≤(pnts t).length)=two t:=by
 have hw:=wid_le t
 unfold two
 rw [decide_eq_decide,pnts_cons h,List.length_cons]
 have h0:=dec_zero (l:=t.drop (wid t)) (k:=wid t)
 have h1:t.drop (wid t)=[]↔t.length≤wid t:=by rw [List.drop_eq_nil_iff]
 rw [h1] at h0
 omega
theorem okT_eq (t:Tx):okT t=(good t && two t):=by
 by_cases h:t=[]
 ·subst h;rfl
 ·unfold okT;rw [two_len t h]
def fst (t:Tx):Int:=(rune t:Int)
theorem run_take (l:Tx):∀k n a b m,n - k≤m→run k n a b (l.take m)=run k n a b l:=by
 induction l with
 | nil=>intro k n a b m _;rw [List.take_nil]
 | cons c t ih =>
  intro k n a b m hm
  by_cases h:k < n
  ·obtain ⟨m',rfl⟩:∃m',m=m'+1:=⟨m - 1,by omega⟩
   rw [List.take_succ_cons]
   unfold run
   split
   ·exact ih _ _ _ _ _ (by omega)
   ·rfl
  ·rw [run_zero _ _ _ _ _ (by omega),run_zero _ _ _ _ _ (by omega)]
theorem wid_take4 (t:Tx):wid (t.take 4)=wid t:=by
 cases t with
 | nil=>rfl
 | cons c r =>
  have:=need_le c.toNat
  rw [List.take_succ_cons]
  simp only [wid]
  exact run_take _ _ _ _ _ _ (by omega)
theorem nd_take4 (t:Tx):nd (t.take 4)=nd t:=by cases t <;> rfl
theorem rune_take4 (t:Tx):rune (t.take 4)=rune t:=by
 unfold rune
 rw [wid_take4,nd_take4,List.take_take,Nat.min_eq_left (wid_four t)]
theorem fst_ok {t:Tx} (h:t≠[]):0≤fst t∧fst t≤1114111∧inR (fst t)=true:=by
 have:=(rune_pt h).1
 refine ⟨by unfold fst;omega,by unfold fst;omega,?_⟩
 rw [inR_iff];unfold fst;omega
structure St where
 s:List Rg
 m:List Rg
 o:List Tx
 deriving DecidableEq
def none_:St:=⟨[],[],[]⟩
structure NmS (a:St):Prop where
 s:Nm a.s
 m:Nm a.m
 up:Up a.o
 ok:∀t∈a.o,okT t=true
theorem none_nm:NmS none_:=⟨Nm.nil,Nm.nil,Up.nil,fun _ h=>by simp [none_] at h⟩
noncomputable def normS (a:St):St:=⟨norm a.s,norm a.m,(rise a.o).filter okT⟩
noncomputable def notS (a:St):St:=⟨compl a.s,compl a.m,a.o⟩
def memS (a:St) (t:Tx):Bool:=has a.m (fst t) != isIn a.o t
noncomputable def meetS (a b:St):St:=⟨meet a.s b.s,meet a.m b.m,(rise (a.o++b.o)).filter fun t=>(memS a t && memS b t) != has (meet a.m b.m) (fst t)⟩
def hasS (a:St) (t:Tx):Bool:=if t=[] then false else if two t then memS a t else has a.s (fst t)
noncomputable def firstS (l:List Rg):St:=⟨norm l,norm l,[]⟩
noncomputable def onesS (l:List Rg):St:=⟨norm l,[],[]⟩
noncomputable def uni2 (a b:St):St:=notS (meetS (notS (normS a)) (notS (normS b)))
noncomputable def not2 (a:St):St:=notS (normS a)
noncomputable def allS:St:=notS none_
noncomputable def ofS (t:Tx):St:=if good t && decide ((pnts t).length=1) then onesS [(fst t,fst t)] else normS ⟨[],[],[t]⟩
theorem normS_nm (a:St):NmS (normS a):=⟨norm_nm _,norm_nm _,(rise_up _).filter _,fun _ h=>(List.mem_filter.1 h).2⟩
theorem onesS_nm (l:List Rg):NmS (onesS l):=⟨norm_nm _,Nm.nil,Up.nil,fun _ h=>by simp [onesS] at h⟩
theorem ofS_nm (t:Tx):NmS (ofS t):=by unfold ofS;split;exact onesS_nm _;exact normS_nm _
theorem normS_id {a:St} (h:NmS a):normS a=a:=by
 unfold normS
 rw [norm_id h.s,norm_id h.m,rise_id h.up,List.filter_eq_self.2 h.ok]
section
variable (a b:St) (x:Int) (t:Tx)
theorem notS_s:has (notS a).s x=(inR x && !has a.s x):=compl_has _ _
theorem notS_m:has (notS a).m x=(inR x && !has a.m x):=compl_has _ _
theorem notS_o:isIn (notS a).o t=isIn a.o t:=rfl
theorem normS_s:has (normS a).s x=has a.s x:=norm_has _ _
theorem normS_m:has (normS a).m x=has a.m x:=norm_has _ _
theorem normS_o:isIn (normS a).o t=(isIn a.o t && okT t):=by
 show isIn ((rise a.o).filter _) t=_
 rw [isIn_filter,isIn_rise]
end
theorem not2_s (a:St) (x:Int):has (not2 a).s x=(inR x && !has a.s x):=by unfold not2;rw [notS_s,normS_s]
theorem not2_m (a:St) (x:Int):has (not2 a).m x=(inR x && !has a.m x):=by unfold not2;rw [notS_m,normS_m]
theorem not2_o (a:St) (t:Tx):isIn (not2 a).o t=(isIn a.o t && okT t):=by unfold not2;rw [notS_o,normS_o]
theorem okT_of {t:Tx} (hg:good t=true) (h2:two t=true):okT t=true:=by rw [okT_eq,hg,h2];rfl
theorem not2_mem (a:St) {t:Tx} (hg:good t=true):hasS (not2 a) t=(!hasS a t && !decide (t=[])):=by
 unfold hasS
 by_cases h:t=[]
 ·rw [if_pos h,if_pos h,decide_eq_true h];rfl
 ·rw [if_neg h,if_neg h,decide_eq_false h]
  have hr:=(fst_ok h).2.2
  cases h2:two t with
  | true =>
   rw [if_pos rfl,if_pos rfl];unfold memS;rw [not2_m,not2_o,okT_of hg h2,hr]
   cases has a.m (fst t) <;> cases isIn a.o t <;> rfl
  | false=>rw [if_neg Bool.false_ne_true,if_neg Bool.false_ne_true,not2_s,hr];cases has a.s (fst t) <;> rfl
theorem normS_len (a:St):(normS a).o.length≤a.o.length:=Nat.le_trans (List.length_filter_le _ _) (rise_len _)
def Short (l:List Tx):Prop:=∀t∈l,t.length≤1073741824
theorem short_norm {a:St} (h:Short a.o):Short (normS a).o:=fun t ht=>h t ((rise_mem _ t).1 (List.mem_filter.1 ht).1)
theorem short_rise {l:List Tx} (h:Short l):Short (rise l):=fun t ht=>h t ((rise_mem l t).1 ht)
end Go.Proofs.YtegdbmbenjnacaaGreat.Sset
namespace Go.Proofs.YtegdbmbenjnacaaGreat.Syn
open Go.RowKit
open Sset (St Tx normS uni2 not2 ofS allS none_ NmS firstS onesS)
open Rset (Rg)
set_option maxRecDepth 100000
structure Nd where
 kind:Int
 set:St
 mn:Int
 mx:Int
 deriving DecidableEq
def nd (k:Int):Nd:=⟨k,none_,0,0⟩
def ndS (s:St):Nd:=⟨2,s,0,0⟩
def ndR (a b:Int):Nd:=⟨7,none_,a,b⟩
structure Env where
 cat:Bool→Tx→Option (List Rg)
 chr:Nat→Option Tx
abbrev R (α:Type):=Except (Nat × Nat) (α × List Tx)
def signs:List Tx:=[[124],[40],[41],[91],[93],[42],[43],[63],[123],[125],[94],[36],[46],[92]]
def sgn (t:Tx):Bool:=decide (t∈signs)
def isHd (r:List Tx) (t:Tx):Bool:=decide (r.head? = some t)
def bad {α:Type} (r:List Tx):R α:=.error (r.length,2)
def thn {α β:Type} (x:R α) (f:α→List Tx→R β):R β:=match x with
 | .error e=>.error e
 | .ok (a,s)=>f a s
def want (t:Tx) (r:List Tx):R Unit:=if isHd r t then .ok ((),r.tail) else bad r
def catP (E:Env) (big:Bool) (r:List Tx):R (List Rg):=thn (want [123] r) fun _ s=>match s with
 | []=>bad []
 | c :: t=>match E.cat big c with
  | none=>bad (c :: t)
  | some x=>thn (want [125] t) fun _ q=>.ok (x,q)
def hexd (t:Tx):Option Nat:=match t with
 | [c]=>if 48≤c∧c≤57 then some (c.toNat - 48) else if 97≤c∧c≤102 then some (c.toNat - 87) else if 65≤c∧c≤70 then some (c.toNat - 55) else none
 | _=>none
def hexs:Nat→List Tx→List Nat × List Tx
 | 0,r=>([],r)
 | _+1,[]=>([],[])
 | f+1,c :: r=>match hexd c with
  | some d=>(d :: (hexs f r).1,(hexs f r).2)
  | none=>([],c :: r)
def hexOf (l:List Nat):Nat:=l.foldl (fun n d=>n*16+d) 0
def chrP (E:Env) (r:List Tx):R Tx:=thn (want [123] r) fun _ s=>match (if (hexs 6 s).1=[] then none else E.chr (hexOf (hexs 6 s).1)) with
 | none=>bad s
 | some t=>thn (want [125] (hexs 6 s).2) fun _ q=>.ok (t,q)
def letter (E:Env):List Tx→R Tx
 | []=>bad []
 | c :: r=>if c=[117] then chrP E r else if sgn c || decide (c=[45]) then .ok (c,r) else bad (c :: r)
def one (E:Env):List Tx→R Tx
 | []=>bad []
 | c :: r=>if c=[91]∨c=[93]∨c=[45] then bad (c :: r) else if c=[92] then letter E r else .ok (c,r)
def single (t:Tx):Option Int:=match Sset.rns t with
 | [x]=>some x
 | _=>none
def rangeS (a b:Tx):Option Rg:=match single a,single b with
 | some x,some y=>if x≤y then some (x,y) else none
 | _,_=>none
def isCat (r:List Tx):Bool:=isHd r [92] && (isHd r.tail [112] || isHd r.tail [80])
noncomputable def item (E:Env) (r:List Tx):R St :=
 if isCat r then thn (catP E (isHd r.tail [80]) r.tail.tail) fun x s=>.ok (firstS x,s)
 else thn (one E r) fun a s=>if isHd s [45] then thn (one E s.tail) fun b q=>match rangeS a b with
     | some x=>.ok (onesS [x],q)
     | none=>bad s.tail
   else .ok (ofS a,s)
def addG (a x:St):St:=⟨a.s++x.s,a.m++x.m,a.o++x.o⟩
noncomputable def finG (a:St):St:=uni2 ⟨a.s,a.m,[]⟩ ⟨[],[],a.o⟩
noncomputable def items (E:Env):Nat→St→List Tx→R St
 | 0,_,r=>bad r
 | f+1,all,r=>if isHd r [93] then .ok (all,r.tail) else thn (item E r) fun x s=>items E f (addG all x) s
noncomputable def cls1 (E:Env) (r:List Tx):R St:=thn (item E r) fun x s=>items E (s.length+1) (addG none_ x) s
noncomputable def cls (E:Env) (r:List Tx):R St :=
 if isHd r [94] then thn (cls1 E r.tail) fun x s=>.ok (not2 (finG x),s) else thn (cls1 E r) fun x s=>.ok (finG x,s)
def dig (t:Tx):Option Nat:=match t with
 | [c]=>if 48≤c∧c≤57 then some (c.toNat - 48) else none
 | _=>none
def digs:List Tx→List Nat × List Tx
 | []=>([],[])
 | c :: r=>match dig c with
  | some d=>(d :: (digs r).1,(digs r).2)
  | none=>([],c :: r)
def valOf (l:List Nat):Nat:=l.foldl (fun n d=>n*10+d) 0
def number (least:Nat) (r:List Tx):R Nat :=
 if (digs r).1=[]∨((digs r).1.head? = some 0∧1 < (digs r).1.length)∨valOf (digs r).1 < least∨64 < valOf (digs r).1 then bad r else .ok (valOf (digs r).1,(digs r).2)
def counted (r:List Tx):R Nd:=thn (number 0 r) fun m s =>
 if isHd s [44] then (if isHd s.tail [125] then .ok (ndR m (-1),s.tail.tail) else thn (number m s.tail) fun n q=>thn (want [125] q) fun _ q=>.ok (ndR m n,q))
 else thn (want [125] s) fun _ q=>.ok (ndR m m,q)
def times (r:List Tx):R (List Nd) :=
 if isHd r [42] then .ok ([ndR 0 (-1)],r.tail) else if isHd r [43] then .ok ([ndR 1 (-1)],r.tail) else if isHd r [63] then .ok ([ndR 0 1],r.tail)
 else if isHd r [123] then thn (counted r.tail) fun x s=>.ok ([x],s)
 else .ok ([],r)
abbrev Sub:=Option (List Tx→R (List Nd))
noncomputable def atom (E:Env) (sub:Sub):List Tx→R (List Nd)
 | []=>bad []
 | c :: r =>
  if c=[40] then match sub with
   | none=>.error (r.length+1,4)
   | some f=>thn (f r) fun l s=>thn (want [41] s) fun _ q=>.ok (l,q)
  else if c=[46] then .ok ([ndS allS],r)
  else if c=[91] then thn (cls E r) fun x s=>.ok ([ndS x],s)
  else if c=[92] then
   (if isHd r [112] || isHd r [80] then thn (catP E (isHd r [80]) r.tail) fun x s=>.ok ([ndS (firstS x)],s)
   else thn (letter E r) fun t s=>.ok ([ndS (ofS t)],s))
  else if sgn c then bad (c :: r)
  else .ok ([ndS (ofS c)],r)
noncomputable def part (E:Env) (sub:Sub) (r:List Tx):R (List Nd) :=
 if isHd r [94] then .ok ([nd 3],r.tail) else if isHd r [36] then .ok ([nd 4],r.tail) else thn (atom E sub r) fun l s=>thn (times s) fun m q=>.ok (l++m,q)
def stops (r:List Tx):Bool:=decide (r=[]) || isHd r [124] || isHd r [41]
noncomputable def parts (E:Env) (sub:Sub):Nat→List Nd→List Tx→R (List Nd)
 | 0,_,r=>bad r
 | f+1,l,r=>if stops r then .ok (l,r) else thn (part E sub r) fun m s=>parts E sub f (l++m++[nd 5]) s
noncomputable def row (E:Env) (sub:Sub) (r:List Tx):R (List Nd) :=
 if stops r then .ok ([nd 1],r) else thn (part E sub r) fun l s=>parts E sub (s.length+1) l s
noncomputable def rows (E:Env) (sub:Sub):Nat→List Nd→List Tx→R (List Nd)
 | 0,_,r=>bad r
 | f+1,l,r=>if isHd r [124] then thn (row E sub r.tail) fun m s=>rows E sub f (l++m++[nd 6]) s else .ok (l,r)
noncomputable def choiceF (E:Env) (sub:Sub) (r:List Tx):R (List Nd):=thn (row E sub r) fun l s=>rows E sub (s.length+1) l s
noncomputable def choice (E:Env):Nat→List Tx→R (List Nd)
 | 0=>choiceF E none
 | k+1=>choiceF E (some (choice E k))
section
variable {α β:Type} {d d':Nat} {r s:List Tx}
end
def Le (m:Nat) (x:R (List Nd)):Prop:=∀l s,x=.ok (l,s)→l.length+2*s.length≤m
section
variable {α:Type} {m:Nat}
theorem Le.ok {l:List Nd} {s:List Tx} (h:l.length+2*s.length≤m):Le m (.ok (l,s)):=fun l' s' e=>by
 injection e with e
 injection e with e1 e2
 rw [←e1,←e2];exact h
end
structure Few (x:St):Prop where
 nm:NmS x
 s:x.s.length≤100
 m:x.m.length≤100
 o:x.o.length≤1
 short:Sset.Short x.o
theorem norm_one_len (r:Rg):(Rset.norm [r]).length≤1:=by
 by_cases h:max r.1 0≤min r.2 1114111
 ·have e:[(max r.1 0,min r.2 1114111)]=Rset.norm [r]:=by
   refine Rset.nl_of (Rset.Nm.cons ⟨by simp only [];omega,h,by simp only [];omega⟩ (by simp) Rset.Nm.nil) fun x hx=>?_
   unfold Rset.has
   rw [hx,Bool.true_and,Bool.true_and,Rset.anyIn_one,Rset.anyIn_one,Bool.eq_iff_iff,Rset.inn_iff,Rset.inn_iff]
   unfold Rset.inR at hx
   rw [Bool.and_eq_true,decide_eq_true_eq,decide_eq_true_eq] at hx
   simp only []
   omega
  rw [←e];exact Nat.le_refl _
 ·have e:[]=Rset.norm [r]:=by
   refine Rset.nl_of Rset.Nm.nil fun x hx=>?_
   unfold Rset.has
   rw [hx,Bool.true_and,Bool.true_and,Rset.anyIn_one,Rset.anyIn_nil]
   unfold Rset.inR at hx
   rw [Bool.and_eq_true,decide_eq_true_eq,decide_eq_true_eq] at hx
   symm
   rw [Bool.eq_false_iff,Ne,Rset.inn_iff]
   omega
  rw [←e];exact Nat.zero_le _
theorem few_ones (r:Rg):Few (onesS [r]) :=
 ⟨Sset.onesS_nm _,Nat.le_trans (norm_one_len r) (by omega),Nat.zero_le _,Nat.zero_le _,fun t ht=>by simp [onesS] at ht⟩
theorem few_of {t:Tx} (h:t.length≤1073741824):Few (ofS t):=by
 have hn:Rset.norm []=[]:=Rset.norm_id Rset.Nm.nil
 unfold ofS
 split
 ·exact few_ones _
 ·refine ⟨Sset.normS_nm _,?_,?_,?_,?_⟩
  ·show (Rset.norm []).length≤100;rw [hn];exact Nat.zero_le _
  ·show (Rset.norm []).length≤100;rw [hn];exact Nat.zero_le _
  ·exact Nat.le_trans (List.length_filter_le _ _) (Sset.rise_len [t])
  ·intro u hu
   have:=(Sset.rise_mem [t] u).1 (List.mem_filter.1 hu).1
   rw [List.mem_singleton.1 this];exact h
end Go.Proofs.YtegdbmbenjnacaaGreat.Syn
namespace Go.Proofs.YtegdbmbenjnacaaGreat.Sset
open Go.RowKit
open Utf (Rd Blk)
open Rset
set_option maxRecDepth 100000
theorem up_ins {l:List Tx} (h:Up l) {x:Tx} {k:Nat} (h1:∀y∈l.take k,y < x) (h2:∀y∈l.drop k,x < y):Up (l.take k++x :: l.drop k):=by
 unfold Up
 rw [List.pairwise_append,List.pairwise_cons]
 refine ⟨List.Pairwise.sublist (List.take_sublist k l) h,⟨h2,List.Pairwise.sublist (List.drop_sublist k l) h⟩,fun a ha b hb=>?_⟩
 rcases List.mem_cons.1 hb with rfl | hb
 ·exact h1 a ha
 ·exact lt_tr (h1 a ha) (h2 b hb)
theorem drop_gt {l:List Tx} (h:Up l) {x:Tx} {k:Nat} (hk:k < l.length) (hx:x < l[k]):∀y∈l.drop k,x < y:=by
 have hd:Up (l.drop k):=List.Pairwise.sublist (List.drop_sublist k l) h
 rw [List.drop_eq_getElem_cons hk] at hd ⊢
 intro y hy
 rcases List.mem_cons.1 hy with rfl | hy
 ·exact hx
 ·exact lt_tr hx ((List.pairwise_cons.1 hd).1 y hy)
theorem gt_of {x y:Tx} (h:¬y < x) (hne:y≠x):x < y:=lt_of h (fun e=>hne e.symm)
theorem ins_mem {l:List Tx} {x:Tx} {k:Nat} (y:Tx):y∈l.take k++x :: l.drop k↔y∈l++[x]:=by
 conv=>rhs;rw [←List.take_append_drop k l]
 simp only [List.mem_append,List.mem_cons,List.not_mem_nil,or_false]
 constructor
 ·rintro (h | h | h)
  ·exact .inl (.inl h)
  ·exact .inr h
  ·exact .inl (.inr h)
 ·rintro ((h | h) | h)
  ·exact .inl h
  ·exact .inr (.inr h)
  ·exact .inr (.inl h)
theorem put_at {l:List Tx} (h:Up l) {x:Tx} {k:Nat} (h1:∀y∈l.take k,y < x) (h2:∀y∈l.drop k,x < y):l.take k++x :: l.drop k=rise (l++[x]) :=
 rise_of (up_ins h h1 h2) fun y=>ins_mem y
theorem put_there {l:List Tx} (h:Up l) {x:Tx} (hx:x∈l):l=rise (l++[x]):=rise_of h fun y=>by
 rw [List.mem_append,List.mem_singleton]
 constructor
 ·exact .inl
 ·rintro (h | rfl)
  ·exact h
  ·exact hx
theorem ins_end (l:List Tx) (x:Tx):l.take l.length++x :: l.drop l.length=l++[x]:=by rw [List.take_length,List.drop_length]
theorem ins_down {l:List Tx} {k:Nat} (hk:k < l.length) (x:Tx):((l.take (k+1)++x :: l.drop (k+1)).set (k+1) l[k]).set k x=l.take k++x :: l.drop k:=by
 have hl:(l.take k).length=k:=by rw [List.length_take];omega
 rw [List.take_succ_eq_append_getElem hk,List.append_assoc,List.set_append_right _ _ (by omega),hl,show k+1 - k=1 by omega,List.set_append_right _ _ (by omega),hl,Nat.sub_self]
 conv=>rhs;rw [List.drop_eq_getElem_cons hk]
 rfl
theorem ins_len (l:List Tx) (x:Tx) (k:Nat):(l.take k++x :: l.drop k).length=l.length+1:=by
 have:=congrArg List.length (List.take_append_drop k l)
 rw [List.length_append] at this
 rw [List.length_append,List.length_cons];omega
theorem ins_get {l:List Tx} {k:Nat} (hk:k < l.length) (x:Tx):(l.take (k+1)++x :: l.drop (k+1))[k]? = some l[k]:=by
 rw [List.getElem?_append_left (by rw [List.length_take];omega),List.getElem?_take,if_pos (by omega),List.getElem?_eq_getElem hk]
def odds (l:List Tx):List Tx:=(rise l).filter okT
theorem odds_nil:odds []=[]:=by
 have:rise []=[]:=rise_id Up.nil
 unfold odds;rw [this];rfl
theorem odds_up (l:List Tx):Up (odds l):=(rise_up l).filter _
theorem odds_mem (l:List Tx) (y:Tx):y∈odds l↔y∈l∧okT y=true:=by unfold odds;rw [List.mem_filter,rise_mem]
theorem odds_step (l:List Tx) (x:Tx):odds (l++[x])=if okT x then rise (odds l++[x]) else odds l:=by
 by_cases h:okT x=true
 ·rw [if_pos h]
  refine up_uniq _ _ (odds_up _) (rise_up _) fun y=>?_
  rw [odds_mem,rise_mem,List.mem_append,List.mem_append,odds_mem,List.mem_singleton]
  constructor
  ·rintro ⟨h1 | h1,h2⟩
   ·exact .inl ⟨h1,h2⟩
   ·exact .inr h1
  ·rintro (⟨h1,h2⟩ | rfl)
   ·exact ⟨.inl h1,h2⟩
   ·exact ⟨.inr rfl,h⟩
 ·rw [if_neg h]
  refine up_uniq _ _ (odds_up _) (odds_up _) fun y=>?_
  rw [odds_mem,odds_mem,List.mem_append,List.mem_singleton]
  constructor
  ·rintro ⟨h1 | rfl,h2⟩
   ·exact ⟨h1,h2⟩
   ·exact absurd h2 h
  ·rintro ⟨h1,h2⟩
   exact ⟨.inl h1,h2⟩
theorem odds_take {l:List Tx} {k:Nat} (h:k < l.length):odds (l.take (k+1))=if okT l[k] then rise (odds (l.take k)++[l[k]]) else odds (l.take k):=by
 rw [List.take_succ_eq_append_getElem h,odds_step]
end Go.Proofs.YtegdbmbenjnacaaGreat.Sset
