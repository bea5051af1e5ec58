/-
  Texts of stage 7, part 18.
-/
import Derived.Test.YtdngaddggcmjgaaDoorW8
import Derived.Test.YtdngaddggcmjgaaDoorW17
namespace Go.Proofs.YtdngaddggcmjgaaDoor.Norm
open Ucd
def ins (x:Int):List Int→List Int
 | []=>[x]
 | y :: t=>if cls y≤cls x then y :: ins x t else x :: y :: t
def ord (l:List Int):List Int:=l.foldl (fun acc x=>ins x acc) []
def Up (l:List Int):Prop:=l.Pairwise fun x y=>cls x≤cls y
def Marks (l:List Int):Prop:=∀x∈l,cls x≠0
theorem ord_nil:ord []=[]:=rfl
theorem ord_snoc (l:List Int) (x:Int):ord (l++[x])=ins x (ord l):=by simp [ord]
theorem mem_ins {x z:Int}:∀{l:List Int},z∈ins x l↔z=x∨z∈l
 | []=>by simp [ins]
 | y :: t=>by
  simp only [ins]
  split
  ·simp only [List.mem_cons,mem_ins (l:=t)]
   constructor
   ·rintro (h | h | h) <;> simp [h]
   ·rintro (h | h | h) <;> simp [h]
  ·simp
theorem ins_len (x:Int):∀l:List Int,(ins x l).length=l.length+1
 | []=>rfl
 | y :: t=>by
  simp only [ins]
  split
  ·simp [ins_len x t]
  ·simp
theorem ins_up {x:Int}:∀{l:List Int},Up l→Up (ins x l)
 | [],_=>by simp [ins,Up]
 | y :: t,h=>by
  obtain ⟨h1,h2⟩:=List.pairwise_cons.1 h
  simp only [ins]
  split
  ·rename_i hle
   refine List.pairwise_cons.2 ⟨fun z hz=>?_,ins_up h2⟩
   rcases mem_ins.1 hz with rfl | hz
   ·exact hle
   ·exact h1 z hz
  ·rename_i hgt
   refine List.pairwise_cons.2 ⟨fun z hz=>?_,h⟩
   rcases List.mem_cons.1 hz with rfl | hz
   ·omega
   ·have:=h1 z hz;omega
theorem ins_same {x:Int} (c:Int):∀{l:List Int},Up l→same cls c (ins x l)=same cls c (l++[x])
 | [],_=>rfl
 | y :: t,h=>by
  obtain ⟨h1,h2⟩:=List.pairwise_cons.1 h
  simp only [ins]
  split
  ·have:=ins_same c (x:=x) h2
   simp only [same] at this
   simp only [same,List.cons_append,List.filter_cons,this]
  ·rename_i hgt
   by_cases hc:cls x=c
   ·have hn:same cls c (y :: t)=[]:=by
     simp only [same]
     rw [List.filter_eq_nil_iff]
     intro z hz
     have:cls y≤cls z:=by
      rcases List.mem_cons.1 hz with rfl | hz
      ·exact Int.le_refl _
      ·exact h1 z hz
     simp;omega
    rw [show same cls c (y :: t++[x])=same cls c (y :: t)++same cls c [x] by simp only [same,List.filter_append],hn,
     show same cls c (x :: y :: t)=same cls c [x]++same cls c (y :: t) by
      rw [show x :: y :: t=[x]++(y :: t) from rfl];simp only [same,List.filter_append],hn]
    simp
   ·have hx:same cls c [x]=[]:=by simp [same,hc]
    rw [show same cls c (y :: t++[x])=same cls c (y :: t)++same cls c [x] by simp only [same,List.filter_append],hx,
     show same cls c (x :: y :: t)=same cls c [x]++same cls c (y :: t) by
      rw [show x :: y :: t=[x]++(y :: t) from rfl];simp only [same,List.filter_append],hx]
    simp
theorem snoc_rec {p:List Int→Prop} (h0:p []) (h1:∀l x,p l→p (l++[x])) (l:List Int):p l:=by
 have:∀r:List Int,p r.reverse:=fun r=>by
  induction r with
  | nil=>exact h0
  | cons x t ih=>rw [List.reverse_cons];exact h1 _ _ ih
 have h:=this l.reverse
 rwa [List.reverse_reverse] at h
theorem ord_up:∀l:List Int,Up (ord l):=fun l=>by
 refine snoc_rec (p:=fun l=>Up (ord l)) (by simp [ord,Up]) (fun l x ih=>?_) l
 rw [ord_snoc];exact ins_up ih
theorem ord_same (c:Int) (l:List Int):same cls c (ord l)=same cls c l:=by
 refine snoc_rec (p:=fun l=>same cls c (ord l)=same cls c l) rfl (fun l x ih=>?_) l
 rw [ord_snoc,ins_same c (ord_up l)]
 simp only [same,List.filter_append] at ih ⊢
 rw [ih]
theorem ord_len (l:List Int):(ord l).length=l.length:=by
 refine snoc_rec (p:=fun l=>(ord l).length=l.length) rfl (fun l x ih=>?_) l
 rw [ord_snoc,ins_len,ih];simp
theorem mem_ord {z:Int} (l:List Int):z∈ord l↔z∈l:=by
 refine snoc_rec (p:=fun l=>z∈ord l↔z∈l) (by simp [ord]) (fun l x ih=>?_) l
 rw [ord_snoc,mem_ins,ih];simp [or_comm]
theorem ord_marks {l:List Int} (h:Marks l):Marks (ord l):=fun x hx=>h x ((mem_ord l).1 hx)
theorem ord_uniq {l m:List Int} (hm:Up m) (h:∀c,same cls c m=same cls c l):m=ord l :=
 stable_unique m (ord l) hm (ord_up l) fun c=>(h c).trans (ord_same c l).symm
theorem ord_id {l:List Int} (h:Up l):ord l=l:=(ord_uniq h fun _=>rfl).symm
theorem ord_ord (l:List Int):ord (ord l)=ord l:=ord_id (ord_up l)
theorem ins_at {x:Int}:∀{l:List Int} {p:Nat},p≤l.length→(∀i (h:i < l.length),i < p→cls l[i]≤cls x)→(∀i (h:i < l.length),p≤i→cls x < cls l[i])→ins x l=l.take p++x :: l.drop p
 | [],p,_,_,_=>by simp [ins]
 | y :: t,0,_,_,h2=>by
  have:=h2 0 (by simp) (Nat.le_refl _)
  simp only [List.getElem_cons_zero] at this
  simp only [ins,if_neg (by omega:¬cls y≤cls x)]
  simp
 | y :: t,p+1,hp,h1,h2=>by
  have:=h1 0 (by simp) (by omega)
  simp only [List.getElem_cons_zero] at this
  simp only [ins,if_pos this]
  rw [ins_at (l:=t) (p:=p) (by simpa using hp) (fun i h hi=>by have:=h1 (i+1) (by simpa using h) (by omega);simpa using this) (fun i h hi=>by have:=h2 (i+1) (by simpa using h) (by omega);simpa using this)]
  simp
def told:List Int→List Int→List Int
 | _,[]=>[]
 | m,x :: t=>if cls x=0 then ord m++x :: told [] t else told (m++[x]) t
def pend:List Int→List Int→List Int
 | m,[]=>m
 | m,x :: t=>if cls x=0 then pend [] t else pend (m++[x]) t
def nfm (m D:List Int):List Int:=told m D++ord (pend m D)
def nf (D:List Int):List Int:=nfm [] D
def fulls (l:List Int):List Int:=l.flatMap fullF
def normal (l:List Int):List Int:=nf (fulls l)
theorem fulls_append (a b:List Int):fulls (a++b)=fulls a++fulls b:=List.flatMap_append
theorem fulls_cons (a:Int) (b:List Int):fulls (a :: b)=fullF a++fulls b:=List.flatMap_cons
theorem told_append:∀(D E m:List Int),told m (D++E)=told m D++told (pend m D) E
 | [],E,m=>rfl
 | x :: t,E,m=>by
  simp only [List.cons_append,told,pend]
  split
  ·simp [told_append t E []]
  ·exact told_append t E _
theorem pend_append:∀(D E m:List Int),pend m (D++E)=pend (pend m D) E
 | [],E,m=>rfl
 | x :: t,E,m=>by
  simp only [List.cons_append,pend]
  split
  ·exact pend_append t E []
  ·exact pend_append t E _
theorem told_marks:∀(M m E:List Int),Marks M→told m (M++E)=told (m++M) E
 | [],m,E,_=>by simp
 | x :: t,m,E,h=>by
  simp only [List.cons_append,told,if_neg (h x (by simp))]
  rw [told_marks t _ E fun y hy=>h y (by simp [hy])];simp
theorem pend_marks:∀(M m E:List Int),Marks M→pend m (M++E)=pend (m++M) E
 | [],m,E,_=>by simp
 | x :: t,m,E,h=>by
  simp only [List.cons_append,pend,if_neg (h x (by simp))]
  rw [pend_marks t _ E fun y hy=>h y (by simp [hy])];simp
theorem nfm_marks (M m E:List Int) (h:Marks M):nfm m (M++E)=nfm (m++M) E:=by rw [nfm,told_marks M m E h,pend_marks M m E h];rfl
theorem nfm_nil (m:List Int):nfm m []=ord m:=by simp [nfm,told,pend]
theorem nfm_start (m:List Int) {x:Int} (t:List Int) (h:cls x=0):nfm m (x :: t)=ord m++x :: nf t:=by simp [nfm,nf,told,pend,h]
theorem nfm_mark (m:List Int) {x:Int} (t:List Int) (h:cls x≠0):nfm m (x :: t)=nfm (m++[x]) t:=by simp [nfm,told,pend,h]
theorem nfm_append (m D E:List Int):nfm m (D++E)=told m D++nfm (pend m D) E:=by rw [nfm,told_append,pend_append,List.append_assoc];rfl
theorem marks_snoc {m:List Int} {x:Int} (hm:Marks m) (h:cls x≠0):Marks (m++[x]):=fun y hy=>by
 rcases List.mem_append.1 hy with hy | hy
 ·exact hm y hy
 ·rw [List.mem_singleton.1 hy];exact h
theorem marks_nil:Marks []:=by simp [Marks]
theorem nfm_len:∀(D m:List Int),(nfm m D).length=m.length+D.length
 | [],m=>by rw [nfm_nil,ord_len];simp
 | x :: t,m=>by
  by_cases hx:cls x=0
  ·have:=nfm_len t []
   rw [nfm_start m t hx]
   simp only [List.length_append,List.length_cons,ord_len,nf,this,List.length_nil]
   omega
  ·rw [nfm_mark m t hx,nfm_len t];simp;omega
theorem nf_len (D:List Int):(nf D).length=D.length:=by rw [nf,nfm_len];simp
theorem mem_told {z:Int}:∀(D m:List Int),z∈nfm m D↔z∈m∨z∈D
 | [],m=>by rw [nfm_nil,mem_ord];simp
 | x :: t,m=>by
  by_cases hx:cls x=0
  ·have:=mem_told (z:=z) t []
   rw [nfm_start m t hx,List.mem_append,mem_ord,List.mem_cons,nf,this];simp
  ·rw [nfm_mark m t hx,mem_told t];simp [or_assoc]
theorem mem_nf {z:Int} (D:List Int):z∈nf D↔z∈D:=by rw [nf,mem_told];simp
theorem nf_nfm:∀(D m:List Int),Marks m→nf (nfm m D)=nfm m D
 | [],m,hm=>by
  have h:=nfm_marks (ord m) [] [] (ord_marks hm)
  rw [List.append_nil,List.nil_append,nfm_nil] at h
  rw [nfm_nil,nf,h,ord_ord]
 | x :: t,m,hm=>by
  by_cases hx:cls x=0
  ·have h:=nfm_marks (ord m) [] (x :: nf t) (ord_marks hm)
   rw [List.nil_append,nfm_start _ _ hx,ord_ord] at h
   have ih:nf (nf t)=nf t:=nf_nfm t [] marks_nil
   rw [nfm_start m t hx,nf,h,ih]
  ·rw [nfm_mark m t hx];exact nf_nfm t _ (marks_snoc hm hx)
theorem nf_nf (D:List Int):nf (nf D)=nf D:=nf_nfm D [] marks_nil
theorem fulls_self {l:List Int} (h:∀x∈l,(pairF x).2.2=0):fulls l=l:=all_self h
theorem fulls_bottom (l:List Int):∀x∈fulls l,(pairF x).2.2=0:=fun x hx=>by
 obtain ⟨r,_,hr⟩:=List.mem_flatMap.1 hx
 exact (bottom_parts r).2.2.1 x hr
theorem normal_bottom (l:List Int):∀x∈normal l,(pairF x).2.2=0:=fun x hx=>fulls_bottom l x ((mem_nf _).1 hx)
theorem normal_normal (l:List Int):normal (normal l)=normal l:=by
 rw [normal,fulls_self (normal_bottom l),normal,nf_nf]
theorem nf_cut (D:List Int) {x:Int} (E:List Int) (h:cls x=0):nf (D++x :: E)=nf D++nf (x :: E):=by
 have e:nf (x :: E)=x :: nf E:=by rw [nf,nfm_start [] E h];rfl
 rw [e,nf,nfm_append,nfm_start _ _ h,←List.append_assoc]
 rfl
theorem normal_cut (a:List Int) (r:Int) (b:List Int) (h:opn r=true):normal (a++r :: b)=normal a++normal (r :: b):=by
 have hs:=full_some r
 obtain ⟨x,t,hx⟩:∃x t,fullF r=x :: t:=by
  cases h:fullF r with
  | nil=>rw [h] at hs;simp at hs
  | cons x t=>exact ⟨x,t,rfl⟩
 have hc:cls x=0:=by
  have:opn r=(cls (fstF r) == 0 && !trl (fstF r)):=rfl
  rw [h,fstF,hx] at this
  simp only [List.headD_cons] at this
  have:=(Bool.and_eq_true _ _).mp this.symm
  simpa using this.1
 unfold normal
 rw [fulls_append,fulls_cons,hx,List.cons_append,nf_cut _ _ hc]
end Go.Proofs.YtdngaddggcmjgaaDoor.Norm
