/-
  Texts of stage 7, part 24.
-/
import Derived.Test.YtegdbmbenjnacaaGreatR19
import Derived.Test.YtegdbmbenjnacaaGreatR23
namespace Go.Proofs.YtegdbmbenjnacaaGreat.Norm
open Ucd
def ins (x:Int):List Int→List Int
 | []=>[x]
 | y :: t=>if cls y≤cls x then y :: ins x t else x :: y :: t
def ord (l:List Int):List Int:=l.foldl (fun acc x=>ins x acc) []
def Up (l:List Int):Prop:=l.Pairwise fun x y=>cls x≤cls y
theorem ord_nil:ord []=[]:=rfl
theorem ord_snoc (l:List Int) (x:Int):ord (l++[x])=ins x (ord l):=by simp [ord]
theorem mem_ins {x z:Int}:∀{l:List Int},z∈ins x l↔z=x∨z∈l
 | []=>by simp [ins]
 | y :: t=>by
  simp only [ins]
  split
  ·simp only [List.mem_cons,mem_ins (l:=t)]
   constructor
   ·rintro (h | h | h) <;> simp [h]
   ·rintro (h | h | h) <;> simp [h]
  ·simp
theorem ins_len (x:Int):∀l:List Int,(ins x l).length=l.length+1
 | []=>rfl
 | y :: t=>by
  simp only [ins]
  split
  ·simp [ins_len x t]
  ·simp
theorem ins_up {x:Int}:∀{l:List Int},Up l→Up (ins x l)
 | [],_=>by simp [ins,Up]
 | y :: t,h=>by
  obtain ⟨h1,h2⟩:=List.pairwise_cons.1 h
  simp only [ins]
  split
  ·rename_i hle
   refine List.pairwise_cons.2 ⟨fun z hz=>?_,ins_up h2⟩
   rcases mem_ins.1 hz with rfl | hz
   ·exact hle
   ·exact h1 z hz
  ·rename_i hgt
   refine List.pairwise_cons.2 ⟨fun z hz=>?_,h⟩
   rcases List.mem_cons.1 hz with rfl | hz
   ·omega
   ·have:=h1 z hz;omega
theorem snoc_rec {p:List Int→Prop} (h0:p []) (h1:∀l x,p l→p (l++[x])) (l:List Int):p l:=by
 have:∀r:List Int,p r.reverse:=fun r=>by
  induction r with
  | nil=>exact h0
  | cons x t ih=>rw [List.reverse_cons];exact h1 _ _ ih
 have h:=this l.reverse
 rwa [List.reverse_reverse] at h
theorem ord_up:∀l:List Int,Up (ord l):=fun l=>by
 refine snoc_rec (p:=fun l=>Up (ord l)) (by simp [ord,Up]) (fun l x ih=>?_) l
 rw [ord_snoc];exact ins_up ih
theorem ord_len (l:List Int):(ord l).length=l.length:=by
 refine snoc_rec (p:=fun l=>(ord l).length=l.length) rfl (fun l x ih=>?_) l
 rw [ord_snoc,ins_len,ih];simp
theorem ins_at {x:Int}:∀{l:List Int} {p:Nat},p≤l.length→(∀i (h:i < l.length),i < p→cls l[i]≤cls x)→(∀i (h:i < l.length),p≤i→cls x < cls l[i])→ins x l=l.take p++x :: l.drop p
 | [],p,_,_,_=>by simp [ins]
 | y :: t,0,_,_,h2=>by
  have:=h2 0 (by simp) (Nat.le_refl _)
  simp only [List.getElem_cons_zero] at this
  simp only [ins,if_neg (by omega:¬cls y≤cls x)]
  simp
 | y :: t,p+1,hp,h1,h2=>by
  have:=h1 0 (by simp) (by omega)
  simp only [List.getElem_cons_zero] at this
  simp only [ins,if_pos this]
  rw [ins_at (l:=t) (p:=p) (by simpa using hp) (fun i h hi=>by have:=h1 (i+1) (by simpa using h) (by omega);simpa using this) (fun i h hi=>by have:=h2 (i+1) (by simpa using h) (by omega);simpa using this)]
  simp
def told:List Int→List Int→List Int
 | _,[]=>[]
 | m,x :: t=>if cls x=0 then ord m++x :: told [] t else told (m++[x]) t
def pend:List Int→List Int→List Int
 | m,[]=>m
 | m,x :: t=>if cls x=0 then pend [] t else pend (m++[x]) t
def nfm (m D:List Int):List Int:=told m D++ord (pend m D)
def nf (D:List Int):List Int:=nfm [] D
def fulls (l:List Int):List Int:=l.flatMap fullF
def normal (l:List Int):List Int:=nf (fulls l)
theorem fulls_append (a b:List Int):fulls (a++b)=fulls a++fulls b:=List.flatMap_append
theorem fulls_cons (a:Int) (b:List Int):fulls (a :: b)=fullF a++fulls b:=List.flatMap_cons
theorem told_append:∀(D E m:List Int),told m (D++E)=told m D++told (pend m D) E
 | [],E,m=>rfl
 | x :: t,E,m=>by
  simp only [List.cons_append,told,pend]
  split
  ·simp [told_append t E []]
  ·exact told_append t E _
theorem pend_append:∀(D E m:List Int),pend m (D++E)=pend (pend m D) E
 | [],E,m=>rfl
 | x :: t,E,m=>by
  simp only [List.cons_append,pend]
  split
  ·exact pend_append t E []
  ·exact pend_append t E _
theorem nfm_nil (m:List Int):nfm m []=ord m:=by simp [nfm,told,pend]
theorem nfm_start (m:List Int) {x:Int} (t:List Int) (h:cls x=0):nfm m (x :: t)=ord m++x :: nf t:=by simp [nfm,nf,told,pend,h]
theorem nfm_mark (m:List Int) {x:Int} (t:List Int) (h:cls x≠0):nfm m (x :: t)=nfm (m++[x]) t:=by simp [nfm,told,pend,h]
theorem nfm_len:∀(D m:List Int),(nfm m D).length=m.length+D.length
 | [],m=>by rw [nfm_nil,ord_len];simp
 | x :: t,m=>by
  by_cases hx:cls x=0
  ·have:=nfm_len t []
   rw [nfm_start m t hx]
   simp only [List.length_append,List.length_cons,ord_len,nf,this,List.length_nil]
   omega
  ·rw [nfm_mark m t hx,nfm_len t];simp;omega
theorem nf_len (D:List Int):(nf D).length=D.length:=by rw [nf,nfm_len];simp
end Go.Proofs.YtegdbmbenjnacaaGreat.Norm
