/-
  Texts of stage 7, part 29.
-/
import Derived.Deep.RegionWith
import Derived.Deep.DeepCutAuto
import Derived.Test.YtegdbmbenjnacaaGreatR8
import Derived.Test.YtegdbmbenjnacaaGreatR14
import Derived.Test.YtegdbmbenjnacaaGreatR16
namespace Go.Proofs.YtegdbmbenjnacaaGreat.Pike
open Sset (St Tx hasS none_)
open Syn (Nd)
open Prg
set_option maxRecDepth 100000
open Classical
def bg (b:Bool) (i:Nat):Bool:=b && decide (i=0)
def en (f:Bool) (n i:Nat):Bool:=f && decide (i=n)
def Ov (p:List Ins) (O:Nat→Prop) (x:Tx) (k:Nat):Prop:=∃i s,O i∧p[i]? = some s∧s.kind=1∧hasS s.set x=true∧k=i+1
def R (p:List Ins) (W:List Tx) (b f:Bool) (s:Nat):Nat→Nat→Prop
 | 0=>Rch p (bg b 0) (en f W.length 0) (fun k=>s=0∧k=0)
 | i+1=>Rch p (bg b (i+1)) (en f W.length (i+1)) (fun k=>(s=i+1∧k=0)∨Ov p (R p W b f s i) (W.getD i []) k)
def Any (p:List Ins) (O:Nat→Prop) (k:Int):Prop:=∃i x,O i∧p[i]? = some x∧x.kind=k
section
variable {p:List Ins} {W:List Tx} {b f:Bool} {s:Nat}
theorem ov_none {O:Nat→Prop} (h:∀k,¬O k) {x:Tx} {k:Nat}:¬Ov p O x k:=fun ⟨i,_,h1,_⟩=>h i h1
theorem rch_none {b e:Bool} {S:Nat→Prop} (h:∀k,¬S k) {k:Nat}:¬Rch p b e S k:=fun hr=>hr.in (O:=fun _=>False) (fun i _ hi=>h i hi) (fun _ _ h _=>h)
theorem rch_iff {b e:Bool} {S T:Nat→Prop} (h:∀k,S k↔T k) {k:Nat}:Rch p b e S k↔Rch p b e T k :=
 ⟨rch_mono fun _ hi hs=>.here hi ((h _).1 hs),rch_mono fun _ hi hs=>.here hi ((h _).2 hs)⟩
theorem R_early:∀{i:Nat},i < s→∀k,¬R p W b f s i k
 | 0,h,k=>rch_none fun k h2=>by omega
 | i+1,h,k=>rch_none fun k h2=>by
  rcases h2 with h2 | h2
  ·omega
  ·exact ov_none (R_early (i:=i) (by omega)) h2
theorem R_here (k:Nat):R p W b f s s k↔Rch p (bg b s) (en f W.length s) (fun k=>k=0) k:=by
 cases s with
 | zero=>exact rch_iff fun k=>⟨fun h=>h.2,fun h=>⟨rfl,h⟩⟩
 | succ s=>exact rch_iff fun k=>⟨fun h=>h.elim (·.2) fun h=>absurd h (ov_none (R_early (Nat.lt_succ_self s))),fun h=>.inl ⟨rfl,h⟩⟩
theorem R_next {i:Nat} (hi:s≤i) (k:Nat):R p W b f s (i+1) k↔Rch p (bg b (i+1)) (en f W.length (i+1)) (Ov p (R p W b f s i) (W.getD i [])) k :=
 rch_iff fun k=>⟨fun h=>h.elim (fun h=>by omega) id,.inr⟩
theorem R_stop {i:Nat} (hi:s≤i) (h:∀k,¬R p W b f s i k):∀{j:Nat},i≤j→∀k,¬R p W b f s j k
 | 0,hj,k=>by
  obtain rfl:i=0:=by omega
  exact h k
 | j+1,hj,k=>by
  rcases Nat.lt_or_ge j i with hl | hl
  ·obtain rfl:i=j+1:=by omega
   exact h k
  ·exact fun hr=>rch_none (fun k=>ov_none (R_stop hi h hl)) ((R_next (by omega) k).1 hr)
theorem R_lt (hm:mayP p=true) {i k:Nat} (h:R p W b f s i k):k < p.length:=by
 cases i with
 | zero=>exact Rch.lt hm h
 | succ i=>exact Rch.lt hm h
end
section
variable (p:List Ins) (W:List Tx) (b f:Bool) (s:Nat)
noncomputable def lastM:Nat→Option Nat
 | 0=>none
 | i+1=>if Any p (R p W b f s i) 6 then some i else lastM i
noncomputable def cnt (n:Nat) (O:Nat→Prop):Nat:=((List.range n).filter fun i=>decide (O i)).length
noncomputable def stepsF:Nat→Nat
 | 0=>0
 | i+1=>stepsF i+cnt p.length (R p W b f s i)
noncomputable def openF:Bool:=!f && decide (Any p (R p W b f s W.length) 1∨Any p (R p W b f s W.length) 5)
end
section
variable {p:List Ins} {W:List Tx} {b f:Bool} {s:Nat}
theorem any_none {O:Nat→Prop} (h:∀k,¬O k) {k:Int}:¬Any p O k:=fun ⟨i,_,h1,_⟩=>h i h1
theorem cnt_none {n:Nat} {O:Nat→Prop} (h:∀k,¬O k):cnt n O=0:=by
 unfold cnt
 rw [List.filter_eq_nil_iff.2 fun a _=>by simp [h a]];rfl
theorem cnt_le (n:Nat) (O:Nat→Prop):cnt n O≤n:=Nat.le_trans (List.length_filter_le _ _) (by rw [List.length_range];exact Nat.le_refl _)
theorem lastM_early:∀{i:Nat},i≤s→lastM p W b f s i=none
 | 0,_=>rfl
 | i+1,h=>by
  show (if _ then _ else _)=none
  rw [if_neg (any_none (R_early (by omega))),lastM_early (by omega)]
theorem stepsF_early:∀{i:Nat},i≤s→stepsF p W b f s i=0
 | 0,_=>rfl
 | i+1,h=>by
  show stepsF p W b f s i+_=0
  rw [stepsF_early (by omega),cnt_none (R_early (by omega))]
theorem lastM_stop {i:Nat} (hi:s≤i) (h:∀k,¬R p W b f s i k):∀{j:Nat},i≤j→lastM p W b f s j=lastM p W b f s i
 | 0,hj=>by
  obtain rfl:i=0:=by omega
  rfl
 | j+1,hj=>by
  rcases Nat.lt_or_ge j i with hl | hl
  ·obtain rfl:i=j+1:=by omega
   rfl
  ·show (if _ then _ else _)=_
   rw [if_neg (any_none (R_stop hi h hl)),lastM_stop hi h hl]
theorem stepsF_stop {i:Nat} (hi:s≤i) (h:∀k,¬R p W b f s i k):∀{j:Nat},i≤j→stepsF p W b f s j=stepsF p W b f s i
 | 0,hj=>by
  obtain rfl:i=0:=by omega
  rfl
 | j+1,hj=>by
  rcases Nat.lt_or_ge j i with hl | hl
  ·obtain rfl:i=j+1:=by omega
   rfl
  ·show stepsF p W b f s j+_=_
   rw [cnt_none (R_stop hi h hl),stepsF_stop hi h hl];rfl
theorem openF_stop {i:Nat} (hi:s≤i) (h:∀k,¬R p W b f s i k) (hn:i≤W.length):openF p W b f s=false:=by
 unfold openF
 rw [decide_eq_false,Bool.and_false]
 rintro (h1 | h1)
 ·exact any_none (R_stop hi h hn) h1
 ·exact any_none (R_stop hi h hn) h1
theorem lastM_yes {i:Nat} (h:Any p (R p W b f s i) 6):lastM p W b f s (i+1)=some i:=if_pos h
theorem lastM_no {i:Nat} (h:¬Any p (R p W b f s i) 6):lastM p W b f s (i+1)=lastM p W b f s i:=if_neg h
theorem lastM_some:∀{i e:Nat},lastM p W b f s i=some e→e < i∧s≤e∧Any p (R p W b f s e) 6∧∀j,e < j→j < i→¬Any p (R p W b f s j) 6
 | 0,e,h=>by cases h
 | i+1,e,h=>by
  by_cases hy:Any p (R p W b f s i) 6
  ·rw [lastM_yes hy] at h
   injection h with h;subst h
   refine ⟨Nat.lt_succ_self _,?_,hy,fun j h1 h2=>by omega⟩
   rcases Nat.lt_or_ge i s with hl | hl
   ·exact absurd hy (any_none (R_early hl))
   ·exact hl
  ·rw [lastM_no hy] at h
   obtain ⟨h1,h2,h3,h4⟩:=lastM_some h
   refine ⟨by omega,h2,h3,fun j h5 h6=>?_⟩
   rcases Nat.lt_or_ge j i with hl | hl
   ·exact h4 j h5 hl
   ·obtain rfl:j=i:=by omega
    exact hy
theorem stepsF_le:∀(i:Nat),stepsF p W b f s (s+i)≤p.length*i
 | 0=>by rw [Nat.add_zero,stepsF_early (Nat.le_refl _)];exact Nat.zero_le _
 | i+1=>by
  show stepsF p W b f s (s+i)+cnt p.length (R p W b f s (s+i))≤_
  have:=stepsF_le i
  have:=cnt_le p.length (R p W b f s (s+i))
  rw [Nat.mul_succ]
  omega
end
section
variable (p:List Ins) (W:List Tx)
noncomputable def firstA:Nat→Nat→Option (Nat × Nat)
 | 0,_=>none
 | d+1,s=>match lastM p W true true s (W.length+1) with
  | some e=>some (s,e)
  | none=>firstA d (s+1)
noncomputable def allA:Nat→Nat→List (Nat × Nat)
 | 0,_=>[]
 | d+1,s=>if W.length < s then [] else match lastM p W true true s (W.length+1) with
  | some e=>(s,e) :: allA d (max e (s+1))
  | none=>allA d (s+1)
noncomputable def allF (s:Nat):List (Nat × Nat):=allA p W (W.length+1 - s) s
end
section
variable {p:List Ins} {W:List Tx}
theorem allA_more:∀(d s:Nat),W.length+1 - s≤d→allA p W d s=allF p W s
 | 0,s,h=>by
  unfold allF
  rw [show W.length+1 - s=0 by omega]
 | d+1,s,h=>by
  rcases Nat.lt_or_ge W.length s with hl | hl
  ·unfold allF
   rw [show W.length+1 - s=0 by omega]
   show (if _ then _ else _)=_
   rw [if_pos hl];rfl
  ·unfold allF
   obtain ⟨e,he⟩:∃e,W.length+1 - s=e+1:=⟨W.length - s,by omega⟩
   rw [he]
   show (if _ then _ else _)=(if _ then _ else _)
   rw [if_neg (by omega),if_neg (by omega)]
   cases lastM p W true true s (W.length+1) with
   | none =>
    show allA p W d (s+1)=allA p W e (s+1)
    rw [allA_more d (s+1) (by omega),allA_more e (s+1) (by omega)]
   | some e1 =>
    show _ :: allA p W d _=_ :: allA p W e _
    rw [allA_more d _ (by omega),allA_more e _ (by omega)]
theorem allF_some {s e:Nat} (hs:s≤W.length) (h:lastM p W true true s (W.length+1)=some e):allF p W s=(s,e) :: allF p W (max e (s+1)):=by
 rw [←allA_more (W.length+1) s (by omega)]
 show (if _ then _ else _)=_
 rw [if_neg (by omega),h,←allA_more W.length (max e (s+1)) (by omega)]
theorem allF_none {s:Nat} (hs:s≤W.length) (h:lastM p W true true s (W.length+1)=none):allF p W s=allF p W (s+1):=by
 rw [←allA_more (W.length+1) s (by omega)]
 show (if _ then _ else _)=_
 rw [if_neg (by omega),h,←allA_more W.length (s+1) (by omega)]
theorem allF_end {s:Nat} (hs:W.length < s):allF p W s=[]:=by
 unfold allF
 rw [show W.length+1 - s=0 by omega];rfl
theorem allF_first {a s e:Nat} (hs:a≤s) (hn:s≤W.length) (h:lastM p W true true s (W.length+1)=some e) (hf:∀j,a≤j→j < s→lastM p W true true j (W.length+1)=none):allF p W a=(s,e) :: allF p W (max e (s+1)):=by
 obtain ⟨d,rfl⟩:∃d,s=a+d:=⟨s - a,by omega⟩
 clear hs
 induction d generalizing a with
 | zero=>exact allF_some hn h
 | succ d ih =>
  rw [allF_none (by omega) (hf a (Nat.le_refl _) (by omega))]
  have:=ih (a:=a+1) (by omega) (by rw [show a+1+d=a+(d+1) by omega];exact h) fun j h1 h2=>hf j (by omega) (by omega)
  rw [this,show a+1+d=a+(d+1) by omega]
theorem allF_noneOf {a:Nat} (hf:∀j,a≤j→j≤W.length→lastM p W true true j (W.length+1)=none):allF p W a=[]:=by
 rcases Nat.lt_or_ge W.length a with hl | hl
 ·exact allF_end hl
 ·obtain ⟨d,hd⟩:∃d,W.length=a+d:=⟨W.length - a,by omega⟩
  clear hl
  induction d generalizing a with
  | zero =>
   rw [allF_none (by omega) (hf a (Nat.le_refl _) (by omega)),allF_end (by omega)]
  | succ d ih =>
   rw [allF_none (by omega) (hf a (Nat.le_refl _) (by omega))]
   exact ih (fun j h1 h2=>hf j (by omega) h2) (by omega)
end
def Cl (p:List Ins) (b e:Bool) (L:List Nat) (F:Nat→Nat):Prop:=∀a c,a∈L→nxt p b e a c→c∈L∧F c≤F a
structure Side (p:List Ins) (W:List Tx) (b f:Bool) (i lo hi:Nat) (L:List Nat) (F:Nat→Nat):Prop where
 cov:∀s k,lo≤s→s < hi→R p W b f s i k→k∈L∧F k≤s
 snd:∀k,k∈L→lo≤F k∧F k≤i∧R p W b f (F k) i k
 srt:L.Pairwise fun x y=>F x≤F y
structure Mid (p:List Ins) (W:List Tx) (b f:Bool) (i lo hi:Nat) (D:List Nat) (G:Nat→Nat) (L:List Nat) (F:Nat→Nat):Prop where
 snd:∀k,k∈L→lo≤F k∧F k≤i∧R p W b f (F k) (i+1) k
 cov:∀a x,a∈D→p[a]? = some x→x.kind=1→G a < hi→hasS x.set (W.getD i [])=true→a+1∈L∧F (a+1)≤G a
 cl:Cl p (bg b (i+1)) (en f W.length (i+1)) L F
 srt:L.Pairwise fun x y=>F x≤F y
 top:∀k,k∈L→∃a,a∈D∧F k=G a∧G a < hi
structure Ent (p:List Ins) (b e:Bool) (at_ from_:Nat) (L:List Nat) (F:Nat→Nat) (L':List Nat) (F':Nat→Nat):Prop where
 ex:∃N,L'=L++N∧∀k∈N,F' k=from_∧Rch p b e (·=at_) k
 old:∀k∈L,F' k=F k
 at_:at_∈L'
 cl:∀a c,a∈L'→nxt p b e a c→c∈L'
section
variable {p:List Ins} {W:List Tx} {b f:Bool} {i lo hi:Nat} {L L' D:List Nat} {F F' G:Nat→Nat}
theorem Ent.cls {b e:Bool} {a s:Nat} (h:Ent p b e a s L F L' F') (hc:Cl p b e L F) (hs:∀k∈L,F k≤s):Cl p b e L' F'∧(∀k∈L',F' k≤s)∧F' a≤s:=by
 obtain ⟨N,rfl,hN⟩:=h.ex
 have hall:∀k∈L++N,F' k≤s:=fun k hk=>by
  rcases List.mem_append.1 hk with h1 | h1
  ·rw [h.old k h1];exact hs k h1
  ·exact Nat.le_of_eq (hN k h1).1
 refine ⟨fun x y hx hn=>⟨h.cl x y hx hn,?_⟩,hall,hall a h.at_⟩
 rcases List.mem_append.1 hx with h1 | h1
 ·obtain ⟨h2,h3⟩:=hc x y h1 hn
  rw [h.old y h2,h.old x h1];exact h3
 ·rw [(hN x h1).1];exact hall y (h.cl x y hx hn)
theorem Ent.srt {b e:Bool} {a s:Nat} (h:Ent p b e a s L F L' F') (hq:L.Pairwise fun x y=>F x≤F y) (hs:∀k∈L,F k≤s):L'.Pairwise fun x y=>F' x≤F' y:=by
 obtain ⟨N,rfl,hN⟩:=h.ex
 rw [List.pairwise_append]
 refine ⟨?_,?_,fun x hx y hy=>?_⟩
 ·exact hq.imp_of_mem fun {x y} hx hy hxy=>by rw [h.old x hx,h.old y hy];exact hxy
 ·rw [List.pairwise_iff_getElem]
  intro x y hx hy _
  rw [(hN _ (List.getElem_mem hx)).1,(hN _ (List.getElem_mem hy)).1]
  exact Nat.le_refl _
 ·rw [h.old x hx,(hN y hy).1];exact hs x hx
theorem Side.join (h:Side p W b f i lo hi L F) (hc:Cl p (bg b i) (en f W.length i) L F) (hlo:lo≤i) (hhi:i≤hi) (he:Ent p (bg b i) (en f W.length i) 0 i L F L' F'):Side p W b f i lo (i+1) L' F'∧Cl p (bg b i) (en f W.length i) L' F':=by
 have hs:∀k∈L,F k≤i:=fun k hk=>(h.snd k hk).2.1
 obtain ⟨c1,c2,c3⟩:=he.cls hc hs
 refine ⟨⟨fun s k h1 h2 hr=>?_,fun k hk=>?_,he.srt h.srt hs⟩,c1⟩
 ·by_cases hl:s=i
  ·subst hl
   exact ((R_here k).1 hr).in (O:=fun k=>k∈L'∧F' k≤s) (fun j _ hj=>by subst hj;exact ⟨he.at_,c3⟩) (fun x y hx hn=>by
    obtain ⟨h4,h5⟩:=c1 x y hx.1 hn
    exact ⟨h4,Nat.le_trans h5 hx.2⟩)
  ·obtain ⟨h3,h4⟩:=h.cov s k h1 (by omega) hr
   obtain ⟨N,rfl,_⟩:=he.ex
   exact ⟨List.mem_append_left _ h3,by rw [he.old k h3];exact h4⟩
 ·obtain ⟨N,rfl,hN⟩:=he.ex
  rcases List.mem_append.1 hk with h1 | h1
  ·rw [he.old k h1];exact h.snd k h1
  ·obtain ⟨h2,h3⟩:=hN k h1
   rw [h2]
   exact ⟨hlo,Nat.le_refl _,(R_here k).2 h3⟩
theorem side_nil (hhi:hi≤lo):Side p W b f i lo hi [] F:=⟨fun s k h1 h2 _=>by omega,fun k hk=>(by cases hk),List.Pairwise.nil⟩
theorem cl_nil {b e:Bool}:Cl p b e [] F:=fun a c h=>by cases h
theorem mid_nil:Mid p W b f i lo hi [] G [] F:=⟨fun k hk=>(by cases hk),fun a x h=>(by cases h),cl_nil,List.Pairwise.nil,fun k hk=>by cases hk⟩
theorem Side.less {hi':Nat} (h:Side p W b f i lo hi L F) (hh:hi'≤hi):Side p W b f i lo hi' L F:=⟨fun s k h1 h2=>h.cov s k h1 (by omega),h.snd,h.srt⟩
theorem Mid.skip (h:Mid p W b f i lo hi D G L F) {a:Nat} (hn:∀x,p[a]? = some x→x.kind=1→G a < hi→hasS x.set (W.getD i [])=true→False):Mid p W b f i lo hi (D++[a]) G L F :=
 ⟨h.snd,fun c x hc h1 h2 h3 h4=>by
  rcases List.mem_append.1 hc with h5 | h5
  ·exact h.cov c x h5 h1 h2 h3 h4
  ·rw [List.mem_singleton] at h5;subst h5;exact (hn x h1 h2 h3 h4).elim,h.cl,h.srt,fun k hk=>by obtain ⟨a,h1,h2⟩:=h.top k hk;exact ⟨a,List.mem_append_left _ h1,h2⟩⟩
theorem Mid.go (h:Mid p W b f i lo hi D G L F) {K:List Nat} {a:Nat} {x:Ins} (hS:Side p W b f i lo hi K G) (hK:∃E,K=D++a :: E) (hp:p[a]? = some x) (hk:x.kind=1) (hl:G a < hi) (hh:hasS x.set (W.getD i [])=true)
  (he:Ent p (bg b (i+1)) (en f W.length (i+1)) (a+1) (G a) L F L' F'):Mid p W b f i lo hi (D++[a]) G L' F':=by
 obtain ⟨E,rfl⟩:=hK
 have hs:∀k∈L,F k≤G a:=fun k hk=>by
  obtain ⟨c,h1,h2,_⟩:=h.top k hk
  rw [h2]
  have:=hS.srt
  rw [List.pairwise_append] at this
  exact this.2.2 c h1 a List.mem_cons_self
 obtain ⟨c1,c2,c3⟩:=he.cls h.cl hs
 obtain ⟨g1,g2,g3⟩:=hS.snd a (List.mem_append_right _ List.mem_cons_self)
 refine ⟨fun k hk=>?_,fun c y hc h1 h2 h3 h4=>?_,c1,he.srt h.srt hs,fun k hk=>?_⟩
 ·obtain ⟨N,rfl,hN⟩:=he.ex
  rcases List.mem_append.1 hk with h1 | h1
  ·rw [he.old k h1];exact h.snd k h1
  ·obtain ⟨h2,h3⟩:=hN k h1
   rw [h2]
   exact ⟨g1,g2,(R_next g2 k).2 (rch_mono (fun j hj e=>.here hj ⟨a,x,g3,hp,‹x.kind=1›,hh,e⟩) h3)⟩
 ·rcases List.mem_append.1 hc with h5 | h5
  ·obtain ⟨h6,h7⟩:=h.cov c y h5 h1 h2 h3 h4
   obtain ⟨N,rfl,_⟩:=he.ex
   exact ⟨List.mem_append_left _ h6,by rw [he.old _ h6];exact h7⟩
  ·rw [List.mem_singleton] at h5;subst h5
   exact ⟨he.at_,c3⟩
 ·obtain ⟨N,rfl,hN⟩:=he.ex
  rcases List.mem_append.1 hk with h1 | h1
  ·obtain ⟨c,h2,h3⟩:=h.top k h1
   exact ⟨c,List.mem_append_left _ h2,by rw [he.old k h1];exact h3⟩
  ·exact ⟨a,List.mem_append_right _ (List.mem_singleton.2 rfl),(hN k h1).1,hl⟩
theorem Mid.all (h:Mid p W b f i lo hi L' G L F) (hS:Side p W b f i lo hi L' G) (hhi:hi≤i+1):Side p W b f (i+1) lo hi L F∧∀k∈L,F k < hi:=by
 refine ⟨⟨fun s k h1 h2 hr=>?_,fun k hk=>?_,h.srt⟩,fun k hk=>by obtain ⟨a,_,h2,h3⟩:=h.top k hk;omega⟩
 ·exact ((R_next (by omega) k).1 hr).in (O:=fun k=>k∈L∧F k≤s) (fun j _ hj=>by
   obtain ⟨a,x,k1,k2,k3,k4,rfl⟩:=hj
   obtain ⟨k5,k6⟩:=hS.cov s a h1 h2 k1
   obtain ⟨k7,k8⟩:=h.cov a x k5 k2 k3 (by omega) k4
   exact ⟨k7,by omega⟩) (fun x y hx hn=>by
    obtain ⟨h4,h5⟩:=h.cl x y hx.1 hn
    exact ⟨h4,Nat.le_trans h5 hx.2⟩)
 ·obtain ⟨h1,h2,h3⟩:=h.snd k hk
  exact ⟨h1,by omega,h3⟩
theorem Side.lone {s:Nat} (h:Side p W b f i s (s+1) L F) (hF:∀k∈L,F k < s+1) (k:Nat):k∈L↔R p W b f s i k:=by
 refine ⟨fun hk=>?_,fun hr=>(h.cov s k (Nat.le_refl _) (Nat.lt_succ_self _) hr).1⟩
 obtain ⟨h1,h2,h3⟩:=h.snd k hk
 have:=hF k hk
 obtain e:F k=s:=by omega
 rw [e] at h3
 exact h3
end
def opAt (p:List Ins) (k:Nat):Int:=match p[k]? with
 | some x=>x.kind
 | none=>0
def firstOf (p:List Ins) (O:List Int) (L:List Nat):Option Nat:=L.find? fun k=>decide (opAt p k∈O)
theorem opAt_some {p:List Ins} {k:Nat} {x:Ins} (h:p[k]? = some x):opAt p k=x.kind:=by unfold opAt;rw [h]
theorem firstOf_none {p:List Ins} {O:List Int} {L:List Nat} (h:firstOf p O L=none) {k:Nat} (hk:k∈L):opAt p k∉O:=by
 unfold firstOf at h
 rw [List.find?_eq_none] at h
 have:=h k hk
 simpa using this
theorem firstOf_some {p:List Ins} {O:List Int} {L:List Nat} {k:Nat} (h:firstOf p O L=some k):k∈L∧opAt p k∈O :=
 ⟨List.mem_of_find?_eq_some h,by have:=List.find?_some h;simpa using this⟩
theorem firstOf_min {p:List Ins} {O:List Int} {L:List Nat} {F:Nat→Nat} (hs:L.Pairwise fun x y=>F x≤F y) {k:Nat} (h:firstOf p O L=some k) {x:Nat} (hx:x∈L) (hO:opAt p x∈O):F k≤F x:=by
 unfold firstOf at h
 rw [List.find?_eq_some_iff_append] at h
 obtain ⟨_,A,B,rfl,hA⟩:=h
 rw [List.pairwise_append] at hs
 rcases List.mem_append.1 hx with h1 | h1
 ·have:=hA x h1
  simp at this
  exact absurd hO this
 ·rcases List.mem_cons.1 h1 with rfl | h1
  ·exact Nat.le_refl _
  ·exact (List.pairwise_cons.1 hs.2.1).1 x h1
section
variable {p:List Ins} {W:List Tx} {b f:Bool} {i s lo hi:Nat} {L:List Nat} {F:Nat→Nat}
theorem any_iff {O:Nat→Prop} {k:Int} (hk:k≠0):Any p O k↔∃i,O i∧opAt p i=k:=by
 constructor
 ·rintro ⟨i,x,h1,h2,h3⟩;exact ⟨i,h1,by rw [opAt_some h2];exact h3⟩
 ·rintro ⟨i,h1,h2⟩
  cases hp:p[i]? with
  | none=>unfold opAt at h2;rw [hp] at h2;exact absurd h2.symm hk
  | some x=>exact ⟨i,x,h1,hp,by rw [opAt_some hp] at h2;exact h2⟩
theorem lone_any (h:∀k,k∈L↔R p W b f s i k) {k:Int} (hk:k≠0):(firstOf p [k] L).isSome=true↔Any p (R p W b f s i) k:=by
 rw [any_iff hk]
 cases hf:firstOf p [k] L with
 | none =>
  refine ⟨fun h=>(by cases h),?_⟩
  rintro ⟨x,h1,h2⟩
  exact absurd (by rw [h2];simp) (firstOf_none hf ((h x).2 h1))
 | some x =>
  refine ⟨fun _=>?_,fun _=>rfl⟩
  obtain ⟨h1,h2⟩:=firstOf_some hf
  exact ⟨x,(h x).1 h1,by simpa using h2⟩
theorem lone_last (h:∀k,k∈L↔R p W b f s i k):lastM p W b f s (i+1)=if (firstOf p [6] L).isSome then some i else lastM p W b f s i:=by
 by_cases hy:Any p (R p W b f s i) 6
 ·rw [if_pos ((lone_any h (by decide)).2 hy),lastM_yes hy]
 ·rw [if_neg (fun e=>hy ((lone_any h (by decide)).1 e)),lastM_no hy]
theorem lone_open (h:∀k,k∈L↔R p W b f s i k) (hn:i=W.length):openF p W b f s=((firstOf p [1,5] L).isSome && !f):=by
 subst hn
 unfold openF
 rw [Bool.and_comm]
 congr 1
 rw [Bool.eq_iff_iff,decide_eq_true_eq,any_iff (by decide),any_iff (by decide)]
 cases hf:firstOf p [1,5] L with
 | none =>
  refine ⟨?_,fun h=>by cases h⟩
  rintro (⟨x,h1,h2⟩ | ⟨x,h1,h2⟩)
  ·exact absurd (by rw [h2];simp) (firstOf_none hf ((h x).2 h1))
  ·exact absurd (by rw [h2];simp) (firstOf_none hf ((h x).2 h1))
 | some x =>
  refine ⟨fun _=>rfl,fun _=>?_⟩
  obtain ⟨h1,h2⟩:=firstOf_some hf
  simp at h2
  rcases h2 with h2 | h2
  ·exact .inl ⟨x,(h x).1 h1,h2⟩
  ·exact .inr ⟨x,(h x).1 h1,h2⟩
theorem nodup_le:∀(L M:List Nat),L.Nodup→(∀x∈L,x∈M)→L.length≤M.length
 | [],_,_,_=>Nat.zero_le _
 | a :: L,M,hn,h=>by
  have ha:=h a List.mem_cons_self
  have:=nodup_le L (M.erase a) (List.nodup_cons.1 hn).2 fun x hx=>by
   rw [List.mem_erase_of_ne (by rintro rfl;exact (List.nodup_cons.1 hn).1 hx)]
   exact h x (List.mem_cons_of_mem _ hx)
  rw [List.length_erase_of_mem ha] at this
  have:=List.length_pos_of_mem ha
  simp
  omega
theorem lone_cnt (h:∀k,k∈L↔R p W b f s i k) (hn:L.Nodup) (hm:mayP p=true):cnt p.length (R p W b f s i)=L.length:=by
 unfold cnt
 apply Nat.le_antisymm
 ·exact nodup_le _ _ (List.nodup_range.filter _) fun x hx=>by
   rw [List.mem_filter,decide_eq_true_eq] at hx
   exact (h x).2 hx.2
 ·exact nodup_le _ _ hn fun x hx=>by
   have:=(h x).1 hx
   rw [List.mem_filter,decide_eq_true_eq,List.mem_range]
   exact ⟨R_lt hm this,this⟩
end
def Fnd (p:List Ins) (W:List Tx) (i lo:Nat):Option (Nat × Nat)→Nat→Prop
 | none,hi=>hi=i∧∀s,lo≤s→lastM p W true true s i=none
 | some (s,e),hi=>hi=s+1∧lo≤s∧s < i∧lastM p W true true s i=some e∧∀j,lo≤j→j < s→lastM p W true true j i=none
section
variable {p:List Ins} {W:List Tx} {i lo hi:Nat} {L:List Nat} {F:Nat→Nat}
theorem side_any {b f:Bool} (h:Side p W b f i lo hi L F) {s:Nat} (h1:lo≤s) (h2:s < hi) (ha:Any p (R p W b f s i) 6):∃x,x∈L∧F x≤s∧opAt p x∈[(6:Int)]:=by
 obtain ⟨x,h3,h4⟩:=(any_iff (by decide)).1 ha
 obtain ⟨h5,h6⟩:=h.cov s x h1 h2 h3
 exact ⟨x,h5,h6,by rw [h4];simp⟩
theorem fnd_no {S:Option (Nat × Nat)} {h0:Nat} (hF:Fnd p W i lo S h0) (h:Side p W true true i lo hi L F) (hh:hi=match S with | none=>i+1 | some (s,_)=>s+1) (hn:firstOf p [6] L=none):Fnd p W (i+1) lo S hi:=by
 have no:∀s,lo≤s→s < hi→lastM p W true true s (i+1)=lastM p W true true s i:=fun s h1 h2=>lastM_no fun ha=>by
  obtain ⟨x,h3,_,h4⟩:=side_any h h1 h2 ha
  exact firstOf_none hn h3 h4
 cases S with
 | none =>
  dsimp only at hh
  subst hh
  refine ⟨rfl,fun s hs=>?_⟩
  by_cases hl:s < i+1
  ·rw [no s hs hl];exact hF.2 s hs
  ·exact lastM_early (by omega)
 | some q =>
  obtain ⟨s,e⟩:=q
  dsimp only at hh
  subst hh
  obtain ⟨_,h1,h2,h3,h4⟩:=hF
  exact ⟨rfl,h1,by omega,by rw [no s h1 (by omega)];exact h3,fun j h5 h6=>by rw [no j h5 (by omega)];exact h4 j h5 h6⟩
theorem fnd_yes {S:Option (Nat × Nat)} {h0:Nat} (hF:Fnd p W i lo S h0) (h:Side p W true true i lo hi L F) (hh:hi=match S with | none=>i+1 | some (s,_)=>s+1) (hb:∀k∈L,F k < hi) {k:Nat} (hk:firstOf p [6] L=some k) :
  Fnd p W (i+1) lo (some (F k,i)) (F k+1)∧F k < hi:=by
 obtain ⟨h1,h2⟩:=firstOf_some hk
 obtain ⟨h3,h4,h5⟩:=h.snd k h1
 have h6:=hb k h1
 refine ⟨⟨rfl,h3,by omega,lastM_yes ((any_iff (by decide)).2 ⟨k,h5,by simpa using h2⟩),fun j h7 h8=>?_⟩,h6⟩
 rw [lastM_no fun ha=>by
  obtain ⟨x,k1,k2,k3⟩:=side_any h h7 (by omega) ha
  have:=firstOf_min h.srt hk k1 k3
  omega]
 cases S with
 | none=>exact hF.2 j h7
 | some q =>
  obtain ⟨s,e⟩:=q
  obtain ⟨_,_,_,_,k4⟩:=hF
  dsimp only at hh
  exact k4 j h7 (by omega)
def FirstT (p:List Ins) (W:List Tx) (lo:Nat):Option (Nat × Nat)→Prop
 | none=>∀j,lo≤j→lastM p W true true j (W.length+1)=none
 | some (s,e)=>lo≤s∧s≤W.length∧lastM p W true true s (W.length+1)=some e∧∀j,lo≤j→j < s→lastM p W true true j (W.length+1)=none
theorem fnd_end {S:Option (Nat × Nat)} (hF:Fnd p W (W.length+1) lo S hi):FirstT p W lo S:=by
 cases S with
 | none=>exact hF.2
 | some q =>
  obtain ⟨s,e⟩:=q
  obtain ⟨_,h1,h2,h3,h4⟩:=hF
  exact ⟨h1,by omega,h3,h4⟩
theorem fnd_stop {s e:Nat} (hF:Fnd p W (i+1) lo (some (s,e)) hi) (h:Side p W true true i lo hi [] F) (hi_:i≤W.length):FirstT p W lo (some (s,e)):=by
 obtain ⟨h0,h1,h2,h3,h4⟩:=hF
 subst h0
 have no:∀j,lo≤j→j≤s→lastM p W true true j (W.length+1)=lastM p W true true j (i+1):=fun j h5 h6=>by
  have hz:∀k,¬R p W true true j i k:=fun k hr=>by have:=(h.cov j k h5 (by omega) hr).1;cases this
  rw [lastM_stop (by omega) hz (show i≤W.length+1 by omega),lastM_stop (j:=i+1) (by omega) hz (by omega)]
 exact ⟨h1,by omega,by rw [no s h1 (Nat.le_refl _)];exact h3,fun j h5 h6=>by rw [no j h5 (by omega)];exact h4 j h5 h6⟩
theorem firstT_all {s e:Nat} (h:FirstT p W lo (some (s,e))):allF p W lo=(s,e) :: allF p W (max e (s+1)):=allF_first h.1 h.2.1 h.2.2.1 h.2.2.2
theorem firstT_none (h:FirstT p W lo none):allF p W lo=[]:=allF_noneOf fun j h1 _=>h j h1
end
end Go.Proofs.YtegdbmbenjnacaaGreat.Pike
namespace Go.Proofs.YtegdbmbenjnacaaGreat.Pike
open Go.RowKit Mem Sparse
open Prg (ints mem_ints)
set_option maxRecDepth 100000
structure Fr where
 g:Nat
 p:Nat
 q:Nat
 v:Value
 L:List Nat
 F:Nat→Nat
structure Frt (B N:Nat) (w:World) (x:Fr):Prop where
 ss:Ss 115 3 .i64 w B x.g x.p x.v N (ints x.L)
 row:∃T:List Int,Blk w x.q 3 (ks .i64 T)∧T.length=N∧∀k∈x.L,T[k]? = some ((x.F k:Nat):Int)
 le:B≤x.q
 ap:¬Ft x.g x.p x.v x.q
def Fe (x:Fr) (i:Nat):Prop:=Ft x.g x.p x.v i∨i=x.q
structure Nx (w:World) (x x':Fr):Prop where
 g:x'.g=x.g
 p:x'.p=x.p
 q:x'.q=x.q
 v:Grew w x.v x'.v
section
variable {B N:Nat} {w w' w'':World} {x x' x'' y:Fr}
theorem Frt.keep {S:Nat→Prop} (h:Frt B N w x) (hc:Chg w w' S) (hn:∀i,Fe x i→¬S i):Frt B N w' x :=
 have ⟨T,h1,h2,h3⟩:=h.row
 ⟨h.ss.keep hc fun i hi=>hn i (.inl hi),⟨T,blk_keep h1 hc (hn _ (.inr rfl)),h2,h3⟩,h.le,h.ap⟩
theorem Frt.next (h:Frt B N w x) (hb:Below w.heap.size w w'):Frt B N w' x:=h.keep (S:=fun _=>False) (Chg.of_below hb (Nat.le_refl _)) fun _ _ e=>e
theorem Frt.hers (h:Frt B N w x) {i:Nat} (hi:Fe x i):B≤i∧i < w.heap.size:=by
 obtain ⟨T,h1,_⟩:=h.row
 rcases hi with hi | rfl
 ·exact h.ss.hers hi
 ·exact ⟨h.le,h1.lt⟩
theorem Frt.lt (h:Frt B N w x) {k:Nat} (hk:k∈x.L):k < N:=by have:=h.ss.inn k (mem_ints.2 hk);omega
theorem Frt.nod (h:Frt B N w x):x.L.Nodup:=by
 have:=h.ss.nod
 unfold ints at this
 rw [List.nodup_iff_pairwise_ne,List.pairwise_map] at this
 exact this.imp fun h e=>h (by rw [e])
theorem ints_len (L:List Nat):(ints L).length=L.length:=List.length_map _
theorem Frt.few (h:Frt B N w x):x.L.length≤N:=by have:=h.ss.few;rw [ints_len] at this;exact this
theorem Nx.fe (h:Nx w x x') {i:Nat} (hi:i < w.heap.size) (hf:Fe x' i):Fe x i:=by
 rcases hf with hf | hf
 ·rw [h.g,h.p] at hf;exact .inl (ft_grew h.v hi hf)
 ·exact .inr (hf.trans h.q)
end
def addL (L:List Nat) (a:Nat):List Nat:=if a∈L then L else L++[a]
def addF (L:List Nat) (F:Nat→Nat) (a s:Nat):Nat→Nat:=if a∈L then F else fun k=>if k=a then s else F k
theorem fresh_nat {N:Nat} {L:List Nat} {a:Nat} (h:a < N):fresh N (ints L) (a:Int)=decide (a∉L):=by
 unfold fresh
 rw [decide_eq_decide,mem_ints]
 exact ⟨fun h=>h.2.2,fun k=>⟨by omega,by omega,k⟩⟩
theorem ints_app (L M:List Nat):ints (L++M)=ints L++ints M:=List.map_append
theorem put_nat {N:Nat} {L:List Nat} {a:Nat} (h:a < N):put N (ints L) (a:Int)=ints (addL L a):=by
 unfold addL
 by_cases c:a∈L
 ·rw [put_no (by rw [fresh_nat h];exact decide_eq_false (not_not_intro c)),if_pos c]
 ·rw [put_yes (by rw [fresh_nat h];exact decide_eq_true c),if_neg c,ints_app];rfl
theorem addL_mem {L:List Nat} {a k:Nat}:k∈addL L a↔k∈L∨k=a:=by
 unfold addL
 split
 ·rename_i h
  exact ⟨.inl,fun h2=>h2.elim id fun e=>by rw [e];exact h⟩
 ·rw [List.mem_append,List.mem_singleton]
theorem addL_ex (L:List Nat) (a:Nat):∃N,addL L a=L++N∧∀k∈N,k=a:=by
 unfold addL
 split
 ·exact ⟨[],(List.append_nil _).symm,fun k hk=>by cases hk⟩
 ·exact ⟨[a],rfl,fun k hk=>List.mem_singleton.1 hk⟩
theorem addF_old {L:List Nat} {F:Nat→Nat} {a s k:Nat} (hk:k∈L):addF L F a s k=F k:=by
 unfold addF
 split
 ·rfl
 ·rename_i h;exact if_neg (by rintro rfl;exact h hk)
theorem addF_new {L:List Nat} {F:Nat→Nat} {a s:Nat} (h:a∉L):addF L F a s a=s:=by
 unfold addF
 rw [if_neg h];exact if_pos rfl
theorem chg_cell {w w':World} {S:Nat→Prop} (h:Chg w w' S) {p:Addr} (hp:p.block < w.heap.size) (hn:¬S p.block):w'.cell? p=w.cell? p:=World.cell?_of_block (h.block _ hp hn)
def Added (B N:Nat) (w:World) (x:Fr) (a s:Nat) (e:Ending) (w':World):Prop :=
 ∃x',e=.returned (.tuple #[])∧Frt B N w' x'∧Nx w x x'∧Chg w w' (Fe x)∧x'.L=addL x.L a∧x'.F=addF x.L x.F a s
theorem adds_nat {B N g p a:Nat} {v:Value} {L:List Nat} {w w':World} {e:Ending} (ha:a < N) (h:Adds 115 3 .i64 w B g p v N (ints L) (a:Int) e w') :
  ∃u,e=.returned (.bool (decide (a∉L)))∧Ss 115 3 .i64 w' B g p u N (ints (addL L a))∧Chg w w' (Ft g p v)∧Grew w v u:=by
 obtain ⟨u,h1,h2,h3,h4⟩:=h
 rw [fresh_nat ha] at h1
 rw [put_nat ha] at h2
 exact ⟨u,h1,h2,h3,h4⟩
theorem Frt.put {B N a s:Nat} {x:Fr} {w w':World} {u:Value} (h:Frt B N w x) (k:Ss 115 3 .i64 w' B x.g x.p u N (ints (addL x.L a))) (hc:Chg w w' (Ft x.g x.p x.v)) (hg:Grew w x.v u) (hm:a∈x.L) :
  Frt B N w' ⟨x.g,x.p,x.q,u,addL x.L a,addF x.L x.F a s⟩:=by
 obtain ⟨T,t1,t2,t3⟩:=h.row
 refine ⟨k,⟨T,blk_keep t1 hc h.ap,t2,fun j hj=>?_⟩,h.le,fun hf=>h.ap (ft_grew hg t1.lt hf)⟩
 dsimp only at hj ⊢
 have hj2:j∈x.L:=by unfold addL at hj;rw [if_pos hm] at hj;exact hj
 rw [addF_old hj2]
 exact t3 j hj2
theorem Frt.lay {B N a s:Nat} {x:Fr} {w w':World} {u:Value} (h:Frt B N w x) (ha:a < N) (k:Ss 115 3 .i64 w' B x.g x.p u N (ints (addL x.L a))) (hc:Chg w w' (Ft x.g x.p x.v)) (hg:Grew w x.v u) (hm:a∉x.L) :
  Frt B N (w'.setCell ⟨x.q,a,none⟩ (.int .i64 (s:Int))) ⟨x.g,x.p,x.q,u,addL x.L a,addF x.L x.F a s⟩∧Chg w (w'.setCell ⟨x.q,a,none⟩ (.int .i64 (s:Int))) (Fe x)∧w'.frozen? ⟨x.q,a,none⟩=false∧(∃z,w'.cell? ⟨x.q,a,none⟩=some z):=by
 obtain ⟨T,t1,t2,t3⟩:=h.row
 have b1:=blk_keep t1 hc h.ap
 have hap:¬Ft x.g x.p u x.q:=fun hf=>h.ap (ft_grew hg t1.lt hf)
 have hc2:Chg w' (w'.setCell ⟨x.q,a,none⟩ (.int .i64 (s:Int))) (fun i=>i=x.q):=(Chg.refl w' _).setCell (p:=⟨x.q,a,none⟩) _ rfl
 refine ⟨⟨k.keep hc2 fun i hi e=>hap (e ▸ hi),⟨T.set a (s:Int),by rw [←ks_set];exact b1.set_ a _,by rw [List.length_set];exact t2,fun j hj=>?_⟩,h.le,hap⟩,(hc.more fun i hi=>.inl hi).setCell (p:=⟨x.q,a,none⟩) _ (.inr rfl),b1.frozen _,⟨_,by rw [b1.cell];exact ks_get (by omega)⟩⟩
 dsimp only at hj ⊢
 rcases addL_mem.1 hj with hj | rfl
 ·rw [addF_old hj,List.getElem?_set_ne (by rintro rfl;exact hm hj)]
  exact t3 j hj
 ·rw [addF_new hm,List.getElem?_set_self (by omega)]
set_option maxHeartbeats 4000000 in
theorem add_any (B N fb fo a s:Nat) (x:Fr) (w:World) (h:Frt B N w x) (ha:a < N) (c0:w.cell? ⟨fb,fo,none⟩=some (.pointer (some ⟨x.g,0,none⟩))) (c1:w.cell? ⟨fb,fo+1,none⟩=some (.slice (some ⟨x.q,0,none⟩) N N)) (hfb:fb < w.heap.size) (hfe:¬Fe x fb) :
  Calls Tryz.prog 74 #[.pointer (some ⟨fb,fo,none⟩),.int .i64 (a:Int),.int .i64 (s:Int)] w (Added B N w x a s):=by
 have hN:=h.ss.sm
 have HA:=Lib.hid ((add_int (a:Int) B x.g x.p N x.v (ints x.L) w h.ss (by omega) (by omega)).mono fun e w'=>adds_nat ha)
 have HH:=Lib.hid h
 have HE:=Lib.hid hfe
 have HF:=Lib.hid hfb
 have HC:=Lib.hid c1
 have HAN:=Lib.hid ha
 have haN:(a:Int) < (N:Int):=by omega
 have haN2:a < N:=ha
 by_cases hm:a∈x.L
 ·have hd:decide (a∉x.L)=false:=decide_eq_false (not_not_intro hm)
  rw [hd] at HA
  have HM:=Lib.hid hm
  clear h hfe hfb hm hd
  go_enter Tryz.func74,Tryz.ntmps74
  go_wp2_with (first | (go_at_call 95;refine HA.out.mono ?_;rintro e1 w1 ⟨u,rfl,k1,k2,k3⟩;have K1:=Lib.hid k1;have K2:=Lib.hid k2;have K3:=Lib.hid k3;clear k1 k2 k3))
  go_end0
  exact ⟨_,rfl,HH.out.put K1.out K2.out K3.out HM.out,⟨rfl,rfl,rfl,K3.out⟩,K2.out.more fun i hi=>.inl hi,rfl,rfl⟩
 ·have hd:decide (a∉x.L)=true:=decide_eq_true hm
  rw [hd] at HA
  have HM:=Lib.hid hm
  clear h hfe hfb hm hd
  go_enter Tryz.func74,Tryz.ntmps74
  go_wp2_with (first | (go_at_call 95;refine HA.out.mono ?_;rintro e1 w1 ⟨u,rfl,k1,k2,k3⟩;obtain ⟨m1,m2,m3,z,m4⟩:=HH.out.lay (s:=s) HAN.out k1 k2 k3 HM.out;have d1:=(chg_cell k2 (p:=⟨fb,fo+1,none⟩) HF.out fun e=>HE.out (.inl e)).trans HC.out;have K3:=Lib.hid k3;have M1:=Lib.hid m1;have M2:=Lib.hid m2;clear k1 k2 k3 m1 m2))
  go_end0
  exact ⟨_,rfl,M1.out,⟨rfl,rfl,rfl,K3.out⟩,M2.out,rfl,rfl⟩
end Go.Proofs.YtegdbmbenjnacaaGreat.Pike
namespace Go.Proofs.YtegdbmbenjnacaaGreat.Pike
open Go.RowKit Mem Sparse
open Prg (ints mem_ints)
set_option maxRecDepth 100000
def NewF (w:World) (N:Nat) (e:Ending) (w':World):Prop:=∃x,e=.returned (.agg #[.pointer (some ⟨x.g,0,none⟩),.slice (some ⟨x.q,0,none⟩) N N])∧Frt w.heap.size N w' x∧x.L=[]∧Below w.heap.size w w'
theorem madeC_int (n:Nat):madeCells #[Value.int .i64 0] n=(ks .i64 (List.replicate n 0)).toArray:=by
 rw [show (ks .i64 (List.replicate n 0))=List.replicate n (Value.int .i64 0) from by simp [ks],←toList_madeCells_one]
theorem frt_new {B N g p q:Nat} {w:World} {T:List Int} (h:Ss 115 3 .i64 w B g p (.slice none 0 0) N []) (hT:Blk w q 3 (ks .i64 T)) (hl:T.length=N) (hq:B≤q) (h1:q≠g) (h2:q≠p):Frt B N w ⟨g,p,q,.slice none 0 0,[],fun _=>0⟩ :=
 ⟨h,⟨T,hT,hl,fun k hk=>by cases hk⟩,hq,fun hf=>by
  rcases hf with hf | hf | hf
  ·exact h1 hf
  ·exact h2 hf
  ·cases hf⟩
theorem fr_ret {w:World} {g:Nat} {v1 v2:Value} {fn:Func} {p:Tmp} {R:Ending→World→Prop} {a:Act} (h:Blk w g 68 [v1,v2]) (hr:fn.results=#[.cell p 68]) (hp:a.tmps.getD p undef=.pointer (some ⟨g,0,none⟩)) (hd:a.defers=[]) (hR:R (.returned (.agg #[v1,v2])) w):bodyPost Tryz.prog fn R .ret a w :=
 bodyPost_ret (results_cell_row hr a.tmps w g 68 [v1,v2].toArray (0,0) _ hp h Tryz.underlying68 rfl (by kernel_rfl)) hd hR
theorem set_two {w:World} {G:Nat} {t:TypeId} {a b:Value} (x y:Value) (h:Blk w G t [a,b]):∃u,u=(w.setCell ⟨G,0,none⟩ x).setCell ⟨G,1,none⟩ y∧Blk u G t [x,y]∧u.heap.size=w.heap.size∧Chg w u (fun i=>i=G):=by
 refine ⟨_,rfl,(h.set_ 0 x).set_ 1 y,by simp [World.setCell],?_⟩
 have h1:Chg w (w.setCell ⟨G,0,none⟩ x) (fun i=>i=G):=(Chg.refl w _).setCell (p:=⟨G,0,none⟩) x rfl
 exact h1.setCell (p:=⟨G,1,none⟩) y rfl
set_option maxHeartbeats 4000000 in
theorem newFront_any (N:Nat) (w:World) (hN:N≤65536):Calls Tryz.prog 46 #[.int .i64 (N:Int)] w (NewF w N):=by
 obtain ⟨i0,hi,hz0,hz1,hz2⟩:=info_parts infoInt
 have hmk:∀u:World,(Instr.makeSlice 66 (.int .i64 (N:Int)) (.int .i64 (N:Int))).run Tryz.prog u=.ok (.slice (some ⟨u.heap.size,0,none⟩) N N) (u.alloc (.cells (ks .i64 (List.replicate N 0)).toArray 3)):=fun u=>by
  have h:=run_make (P:=Tryz.prog) u 66 3 i0 (.int .i64 0) Tryz.underlying66 hi hz0 .i64 .i64 N N (by omega) (by omega) (by rw [hz2];omega) (by omega)
  rw [show (N:Int).toNat=N from by omega,hz1,Nat.mul_one] at h
  rw [h]
  show Result.ok _ (u.alloc (.cells (madeCells #[Value.int .i64 0] N) _))=_
  rw [madeC_int]
 have hr:room (N:Int)=N:=by have:=room_mid (n:=(N:Int)) (by omega) (by omega);omega
 have HNW:=Lib.hid (fun (u:World)=>show Calls Tryz.prog 70 #[.int .i64 (N:Int)] u (fun e w'=>∃g p,e=.returned (.pointer (some ⟨g,0,none⟩))∧Ss 115 3 .i64 w' u.heap.size g p (.slice none 0 0) N []∧Below u.heap.size u w') from
  (new_int (N:Int) u (by omega) (by omega)).mono fun e w' ⟨g,p,h1,h2,h3⟩=>⟨g,p,h1,by rw [hr] at h2;exact h2,h3⟩)
 clear hr hi hz0 hz1 hz2
 obtain ⟨G,hG⟩:∃G,G=w.heap.size:=⟨_,rfl⟩
 obtain ⟨W,hW⟩:∃W,W=w.alloc (.cells #[.pointer none,.slice none 0 0] 68):=⟨_,rfl⟩
 have HB:=Lib.hid (show Blk W G 68 [.pointer none,.slice none 0 0] by rw [hW,hG];exact Blk.new w _ _)
 have HBW:=Lib.hid (show Below w.heap.size w W by rw [hW];exact (Below.refl _ _).alloc (Nat.le_refl _) _)
 have HKP:=Lib.hid (fun (u u':World) (h:Below W.heap.size W u) (k:Below u.heap.size u u')=>show Hid (Blk u' G 68 [.pointer none,.slice none 0 0]∧Below W.heap.size W u')∧u'.cell? ⟨G,0,none⟩=some (.pointer none)∧u'.cell? ⟨G,1,none⟩=some (.slice none 0 0)∧u'.frozen? ⟨G,0,none⟩=false∧u'.frozen? ⟨G,1,none⟩=false∧G < u'.heap.size from by
  have hl:=HB.out.lt
  have b:=(HB.out.below h hl).below k (Nat.lt_of_lt_of_le hl h.size)
  exact ⟨Lib.hid ⟨b,h.trans (k.mono h.size)⟩,b.cell 0,b.cell 1,b.frozen 0,b.frozen 1,b.lt⟩)
 have HW:=Lib.hid hW;have HG:=Lib.hid hG
 clear hW hG
 go_enter Tryz.func46,Tryz.ntmps46
 go_wp2_with fail
 rw [←HW.out,←HG.out]
 go_region_with (go_at_call 70;refine (HNW.out _).mono ?_;rintro e w2 ⟨g,p,rfl,k1,k2⟩;obtain ⟨HBB,c0,c1,f0,f1,gl⟩:=HKP.out _ w2 (by first | exact (Below.refl _ _).drew | exact ((Below.refl _ _).drew.alloc (Nat.le_refl _) _) | exact (Below.refl _ _)) k2;have K1:=Lib.hid k1;have K2:=Lib.hid k2;clear k1 k2)
 all_goals
  obtain ⟨b2,bl2⟩:=HBB.out
  obtain ⟨w3,hw3,e1,hs3,hc⟩:=set_two (.pointer (some ⟨g,0,none⟩)) (.slice (some ⟨_,0,none⟩) N N) b2
  rw [←hw3]
  have hGW:G < W.heap.size:=HB.out.lt
  have hwW:=HBW.out.size
  have hWw:=bl2.size
  have hGG:=HG.out
 ·have k0:=K1.out.base (B':=w.heap.size) (by simp;omega)
  have k1:=k0.keep hc (fun i hi e=>by have:=K1.out.hers hi;simp at this;omega)
  have hb3:Below w3.heap.size w3 (w3.alloc (.cells (ks .i64 (List.replicate N 0)).toArray 3)):=(Below.refl _ _).alloc (Nat.le_refl _) _
  have hF:=Lib.hid (frt_new (B:=w.heap.size) (q:=w3.heap.size) (T:=List.replicate N 0) (k1.next hb3) (Blk.new w3 3 _) List.length_replicate (by omega) (by have:=(k1.hers (.inl rfl)).2;omega) (by have:=(k1.hers (.inr (.inl rfl))).2;omega))
  have hb2:Below w.heap.size w2 w3:=hc.below (by omega) fun i hi e=>by omega
  have hB:=Lib.hid (((HBW.out.trans (bl2.mono (by omega))).trans hb2).trans (hb3.mono (by omega)))
  have e2:=e1.alloc (.cells (ks .i64 (List.replicate N 0)).toArray 3)
  rw [hs3] at hF
  have hE:=Lib.hid e2
  clear hw3 e1 e2 hc k0 k1 hb3 hb2 c0 c1 f0 f1 b2 bl2 K1 K2 HNW hmk HBB
  generalize w3.alloc (.cells (ks .i64 (List.replicate N 0)).toArray 3)=u at *
  generalize w2.heap.size=q at *
  go_wp2_with fail
  refine fr_ret hE.out rfl rfl rfl ?_
  exact ⟨_,rfl,hF.out,rfl,hB.out⟩
 ·have k0:=K1.out.base (B':=w.heap.size) (by simp;omega)
  have k1:=k0.keep hc (fun i hi e=>by have:=K1.out.hers hi;simp at this;omega)
  have hbw:Below (W.heap.size+1) (W.alloc (.cells (ks .i64 (List.replicate N 0)).toArray 3)).drew w2:=Below.mono K2.out (by simp)
  have r2:=((show Blk (W.alloc (.cells (ks .i64 (List.replicate N 0)).toArray 3)).drew W.heap.size 3 (ks .i64 (List.replicate N 0)) from Blk.new W 3 (ks .i64 (List.replicate N 0))).below hbw (Nat.lt_succ_self _))
  have r3:=blk_keep r2 hc (by omega)
  have hF:=Lib.hid (frt_new (B:=w.heap.size) (q:=W.heap.size) (T:=List.replicate N 0) k1 r3 List.length_replicate (by omega) (by have:=(K1.out.hers (.inl rfl)).1;simp at this;omega) (by have:=(K1.out.hers (.inr (.inl rfl))).1;simp at this;omega))
  have hb2:Below w.heap.size w2 w3:=hc.below (by omega) fun i hi e=>by omega
  have hB:=Lib.hid ((HBW.out.trans (bl2.mono (by omega))).trans hb2)
  have hE:=Lib.hid e1
  clear hw3 e1 hc k0 k1 hb2 hbw r2 r3 c0 c1 f0 f1 b2 bl2 K1 K2 HNW hmk HBB
  generalize W.heap.size=q at *
  go_wp2_with fail
  refine fr_ret hE.out rfl rfl rfl ?_
  exact ⟨_,rfl,hF.out,rfl,hB.out⟩
end Go.Proofs.YtegdbmbenjnacaaGreat.Pike
namespace Go.Proofs.YtegdbmbenjnacaaGreat.Pike
open Go.RowKit Mem Sparse
open Prg (Ins ints mem_ints mayP nxt nexts nexts_iff nxt_lt)
open Sset (Tx ArgT)
open Syn (Nd NV nvs rd_nv nv_form Means ArgN)
set_option maxRecDepth 100000
structure Rv where
 A:Option Addr
 n:Nat
 c:Nat
 U:Option Addr
 m:Nat
 d:Nat
 b:Bool
 f:Bool
structure Src (w:World) (R:Rv) (V:List NV) (p:List Ins) (W:List Tx):Prop where
 arg:ArgN w R.A R.n V p
 win:ArgT w R.U R.m W
 may:mayP p=true
def rcs (R:Rv) (pl:Nat) (x y:Fr) (lt:Nat):List Value:=[.slice R.A R.n R.c,.slice R.U R.m R.d,.bool R.b,.bool R.f,.int .i64 (pl:Int),.pointer (some ⟨x.g,0,none⟩),.slice (some ⟨x.q,0,none⟩) R.n R.n,.pointer (some ⟨y.g,0,none⟩),.slice (some ⟨y.q,0,none⟩) R.n R.n,.int .i64 (lt:Int)]
structure Run (w0 w:World) (rb:Nat) (R:Rv) (pl lt:Nat) (x y:Fr):Prop where
 blk:Blk w rb 70 (rcs R pl x y lt)
 now:Frt w0.heap.size R.n w x
 old:Frt w0.heap.size R.n w y
 dj:∀i,Fe x i→¬Fe y i
 nx:¬Fe x rb
 ny:¬Fe y rb
 le:w0.heap.size≤rb
 bel:Below w0.heap.size w0 w
def Rf (rb:Nat) (x y:Fr) (i:Nat):Prop:=i=rb∨Fe x i∨Fe y i
structure Mv (w w':World) (S S':Nat→Prop):Prop where
 chg:Chg w w' S
 new:∀i,i < w.heap.size→S' i→S i
section
variable {w0 w w' w'':World} {rb pl lt:Nat} {R:Rv} {x y x':Fr} {S S' S'':Nat→Prop}
theorem Mv.refl (w:World) (S:Nat→Prop):Mv w w S S:=⟨Chg.refl _ _,fun _ _ h=>h⟩
theorem Mv.trans (h:Mv w w' S S') (k:Mv w' w'' S' S''):Mv w w'' S S'' :=
 ⟨h.chg.trans k.chg h.new,fun i hi hs=>h.new i hi (k.new i (Nat.lt_of_lt_of_le hi h.chg.size) hs)⟩
theorem Mv.drewl (h:Mv w.drew w' S S'):Mv w w' S S':=⟨⟨h.chg.os,h.chg.tape,h.chg.output,h.chg.size,h.chg.block⟩,h.new⟩
theorem Mv.below (h:Mv w w' S S') (hb:Below w'.heap.size w' w''):Mv w w'' S S':=⟨h.chg.and_below hb,h.new⟩
theorem Run.hers (h:Run w0 w rb R pl lt x y) {i:Nat} (hi:Rf rb x y i):w0.heap.size≤i∧i < w.heap.size:=by
 rcases hi with rfl | hi | hi
 ·exact ⟨h.le,h.blk.lt⟩
 ·exact h.now.hers hi
 ·exact h.old.hers hi
theorem Run.next (h:Run w0 w rb R pl lt x y) (hb:Below w.heap.size w w'):Run w0 w' rb R pl lt x y :=
 ⟨h.blk.below hb h.blk.lt,h.now.next hb,h.old.next hb,h.dj,h.nx,h.ny,h.le,h.bel.trans (hb.mono h.bel.size)⟩
theorem Run.drew (h:Run w0 w rb R pl lt x y):Run w0 w.drew rb R pl lt x y:=h.next (Below.refl _ _).drew
theorem Run.turned (h:Run w0 w rb R pl lt x y) (k:Frt w0.heap.size R.n w' x') (hn:Nx w x x') (hc:Chg w w' (Fe x)):Run w0 w' rb R pl lt x' y∧Mv w w' (Rf rb x y) (Rf rb x' y):=by
 have hrb:=h.blk.lt
 refine ⟨⟨?_,k,h.old.keep hc fun i hi hx=>h.dj i hx hi,fun i hx hy=>?_,fun hf=>h.nx (hn.fe hrb hf),h.ny,h.le,?_⟩,⟨hc.more fun i hi=>.inr (.inl hi),fun i hi hf=>?_⟩⟩
 ·have:=blk_keep h.blk hc h.nx
  unfold rcs
  rw [hn.g,hn.q]
  exact this
 ·exact h.dj i (hn.fe (h.old.hers hy).2 hx) hy
 ·exact h.bel.trans (hc.below h.bel.size fun i hi hx=>by have:=(h.now.hers hx).1;omega)
 ·rcases hf with hf | hf | hf
  ·exact .inl hf
  ·exact .inr (.inl (hn.fe hi hf))
  ·exact .inr (.inr hf)
theorem Run.c0 (h:Run w0 w rb R pl lt x y):w.cell? ⟨rb,0,none⟩=some (.slice R.A R.n R.c):=h.blk.cell 0
theorem Run.c1 (h:Run w0 w rb R pl lt x y):w.cell? ⟨rb,1,none⟩=some (.slice R.U R.m R.d):=h.blk.cell 1
theorem Run.c2 (h:Run w0 w rb R pl lt x y):w.cell? ⟨rb,2,none⟩=some (.bool R.b):=h.blk.cell 2
theorem Run.c3 (h:Run w0 w rb R pl lt x y):w.cell? ⟨rb,3,none⟩=some (.bool R.f):=h.blk.cell 3
theorem Run.c4 (h:Run w0 w rb R pl lt x y):w.cell? ⟨rb,4,none⟩=some (.int .i64 (pl:Int)):=h.blk.cell 4
theorem Run.c5 (h:Run w0 w rb R pl lt x y):w.cell? ⟨rb,5,none⟩=some (.pointer (some ⟨x.g,0,none⟩)):=h.blk.cell 5
theorem Run.c6 (h:Run w0 w rb R pl lt x y):w.cell? ⟨rb,6,none⟩=some (.slice (some ⟨x.q,0,none⟩) R.n R.n):=h.blk.cell 6
theorem Run.c7 (h:Run w0 w rb R pl lt x y):w.cell? ⟨rb,7,none⟩=some (.pointer (some ⟨y.g,0,none⟩)):=h.blk.cell 7
theorem Run.c8 (h:Run w0 w rb R pl lt x y):w.cell? ⟨rb,8,none⟩=some (.slice (some ⟨y.q,0,none⟩) R.n R.n):=h.blk.cell 8
theorem Run.c9 (h:Run w0 w rb R pl lt x y):w.cell? ⟨rb,9,none⟩=some (.int .i64 (lt:Int)):=h.blk.cell 9
theorem Run.fr (h:Run w0 w rb R pl lt x y) (i:Nat):w.frozen? ⟨rb,i,none⟩=false:=h.blk.frozen i
theorem Run.add (h:Run w0 w rb R pl lt x y) {a s:Nat} (ha:a < R.n):Calls Tryz.prog 74 #[.pointer (some ⟨rb,5,none⟩),.int .i64 (a:Int),.int .i64 (s:Int)] w (fun e w' =>
  ∃x',e=.returned (.tuple #[])∧Run w0 w' rb R pl lt x' y∧Mv w w' (Rf rb x y) (Rf rb x' y)∧x'.L=addL x.L a∧x'.F=addF x.L x.F a s) :=
 (add_any w0.heap.size R.n rb 5 a s x w h.now ha h.c5 h.c6 h.blk.lt h.nx).mono fun e w' ⟨x',h1,h2,h3,h4,h5,h6⟩=>by
  obtain ⟨k1,k2⟩:=h.turned h2 h3 h4
  exact ⟨x',h1,k1,k2,h5,h6⟩
end
def addA:List Nat→(Nat→Nat)→Nat→List Nat→List Nat × (Nat→Nat)
 | L,F,_,[]=>(L,F)
 | L,F,s,a :: t=>addA (addL L a) (addF L F a s) s t
theorem addA_mem:∀(t:List Nat) {L:List Nat} {F:Nat→Nat} {s k:Nat},k∈(addA L F s t).1↔k∈L∨k∈t
 | [],L,F,s,k=>by show k∈L↔_;simp
 | a :: t,L,F,s,k=>by
  show k∈(addA (addL L a) (addF L F a s) s t).1↔_
  rw [addA_mem t,addL_mem,List.mem_cons,or_assoc]
theorem addA_old:∀(t:List Nat) {L:List Nat} {F:Nat→Nat} {s k:Nat},k∈L→(addA L F s t).2 k=F k
 | [],L,F,s,k,h=>rfl
 | a :: t,L,F,s,k,h=>by
  show (addA (addL L a) (addF L F a s) s t).2 k=_
  rw [addA_old t (addL_mem.2 (.inl h)),addF_old h]
theorem addA_ex:∀(t:List Nat) (L:List Nat) (F:Nat→Nat) (s:Nat),∃N,(addA L F s t).1=L++N∧∀k∈N,(addA L F s t).2 k=s∧k∈t
 | [],L,F,s=>⟨[],(List.append_nil _).symm,fun k hk=>by cases hk⟩
 | a :: t,L,F,s=>by
  obtain ⟨N,h1,h2⟩:=addA_ex t (addL L a) (addF L F a s) s
  by_cases hm:a∈L
  ·have e:addL L a=L:=if_pos hm
   rw [e] at h1 h2
   exact ⟨N,by show (addA (addL L a) (addF L F a s) s t).1=_;rw [e];exact h1,fun k hk=>by
    show (addA (addL L a) (addF L F a s) s t).2 k=_∧_
    rw [e]
    exact ⟨(h2 k hk).1,List.mem_cons_of_mem _ (h2 k hk).2⟩⟩
  ·have e:addL L a=L++[a]:=if_neg hm
   refine ⟨a :: N,by show (addA (addL L a) (addF L F a s) s t).1=_;rw [h1,e,List.append_assoc];rfl,fun k hk=>?_⟩
   show (addA (addL L a) (addF L F a s) s t).2 k=_∧_
   rcases List.mem_cons.1 hk with rfl | hk
   ·rw [addA_old t (addL_mem.2 (.inr rfl)),addF_new hm]
    exact ⟨rfl,List.mem_cons_self⟩
   ·exact ⟨(h2 k hk).1,List.mem_cons_of_mem _ (h2 k hk).2⟩
def Gone (w0 w:World) (rb:Nat) (R:Rv) (pl lt:Nat) (x y:Fr) (s:Nat) (t:List Nat) (e:Ending) (w':World):Prop :=
 ∃x',e=.returned (.tuple #[])∧Run w0 w' rb R pl lt x' y∧Mv w w' (Rf rb x y) (Rf rb x' y)∧(x'.L,x'.F)=addA x.L x.F s t
theorem nexts_2 {p:List Ins} {b e:Bool} {a:Nat} {x:Ins} (h:p[a]? = some x) (hk:x.kind=2):nexts p b e a=[x.mn.toNat,x.mx.toNat]:=by unfold nexts;rw [h];exact if_pos hk
theorem nexts_3 {p:List Ins} {b e:Bool} {a:Nat} {x:Ins} (h:p[a]? = some x) (hk:x.kind=3):nexts p b e a=[x.mn.toNat]:=by unfold nexts;rw [h];dsimp only;rw [if_neg (by omega),if_pos hk]
theorem nexts_4 {p:List Ins} {b e:Bool} {a:Nat} {x:Ins} (h:p[a]? = some x) (hk:x.kind=4):nexts p b e a=if b then [a+1] else []:=by unfold nexts;rw [h];dsimp only;rw [if_neg (by omega),if_neg (by omega),if_pos hk]
theorem nexts_5 {p:List Ins} {b e:Bool} {a:Nat} {x:Ins} (h:p[a]? = some x) (hk:x.kind=5):nexts p b e a=if e then [a+1] else []:=by unfold nexts;rw [h];dsimp only;rw [if_neg (by omega),if_neg (by omega),if_neg (by omega),if_pos hk]
theorem nexts_0 {p:List Ins} {b e:Bool} {a:Nat} {x:Ins} (h:p[a]? = some x) (h2:x.kind≠2) (h3:x.kind≠3) (h4:x.kind≠4) (h5:x.kind≠5):nexts p b e a=[]:=by unfold nexts;rw [h];dsimp only;rw [if_neg h2,if_neg h3,if_neg h4,if_neg h5]
theorem ok_2 {n:Nat} {i:Ins} (h:Prg.okP n i=true) (hk:i.kind=2):∃X Y:Nat,i.mn=X∧i.mx=Y∧X < n∧Y < n:=by
 unfold Prg.okP at h
 rw [if_neg (by omega),if_pos hk,decide_eq_true_eq] at h
 exact ⟨i.mn.toNat,i.mx.toNat,by omega,by omega,by omega,by omega⟩
theorem ok_3 {n:Nat} {i:Ins} (h:Prg.okP n i=true) (hk:i.kind=3):∃X:Nat,i.mn=X∧X < n:=by
 unfold Prg.okP at h
 rw [if_neg (by omega),if_neg (by omega),if_pos hk,decide_eq_true_eq] at h
 exact ⟨i.mn.toNat,by omega,by omega⟩
theorem Src.cells {w0:World} {R:Rv} {V:List NV} {p:List Ins} {W:List Tx} (h:Src w0 R V p W) {a:Nat} (ha:a < R.n):∃b o i,R.A=some ⟨b,o,none⟩∧p[a]? = some i∧Prg.okP R.n i=true ∧
  ∀u,Below w0.heap.size w0 u→u.cell? ⟨b,o+a*6,none⟩=some (.int .i64 i.kind)∧u.cell? ⟨b,o+a*6+4,none⟩=some (.int .i64 i.mn)∧u.cell? ⟨b,o+a*6+5,none⟩=some (.int .i64 i.mx):=by
 have ha2:a < p.length:=by rw [h.arg.len2];exact ha
 have hav:a < V.length:=by rw [h.arg.len];exact ha
 have hm:=h.arg.means a hav ha2
 obtain ⟨b,o,hA,hbl⟩:=nv_form h.arg.rd (by omega)
 have hrd:=h.arg.rd
 rw [hA] at hrd
 refine ⟨b,o,p[a],hA,List.getElem?_eq_getElem ha2,h.arg.len2 ▸ Prg.may_at h.may ha2,fun u hu=>?_⟩
 obtain ⟨d0,_,_,_,d4,d5⟩:=rd_nv (hrd.below hu) hav
 rw [hm.k] at d0;rw [hm.mn] at d4;rw [hm.mx] at d5
 exact ⟨d0,d4,d5⟩
set_option maxHeartbeats 8000000 in
theorem goOn_any {w0 w:World} {rb pl lt:Nat} {R:Rv} {x y:Fr} {V:List NV} {p:List Ins} {W:List Tx} (a s:Nat) (h:Run w0 w rb R pl lt x y) (hs:Src w0 R V p W) (ha:a < R.n) :
  Calls Tryz.prog 75 #[.pointer (some ⟨rb,0,none⟩),.int .i64 (a:Int),.int .i64 (s:Int)] w (Gone w0 w rb R pl lt x y s (nexts p (bg R.b pl) (en R.f R.m pl) a)):=by
 obtain ⟨b,o,i,hA,hget,hok,hcells⟩:=hs.cells ha
 obtain ⟨d0,d4,d5⟩:=hcells w h.bel
 have hlt:=fun (j:Nat) (b e:Bool) (hj:j∈nexts p b e a)=>show j < R.n from hs.arg.len2 ▸ nxt_lt hs.may ((nexts_iff hs.may).1 hj)
 have c0:=h.c0
 rw [hA] at c0
 have han:(a:Int) < (R.n:Int):=by omega
 have H:=Lib.hid h
 have HD:=Lib.hid hcells
 have HL:=Lib.hid hlt
 have HG:=Lib.hid hget
 have HO:=Lib.hid hok
 have HK:a < R.n:=ha
 have hn63:R.n≤65536:=h.now.ss.sm
 obtain ⟨ik,iset,im,ix⟩:=i
 dsimp only at *
 clear h hlt hget hs hA hcells hok
 by_cases k2:ik=2
 ·subst k2
  obtain ⟨X,Y,e1,e2,hx,hy⟩:=ok_2 HO.out rfl
  dsimp only at e1 e2
  subst e1 e2
  have HN:=Lib.hid (nexts_2 (b:=bg R.b pl) (e:=en R.f R.m pl) HG.out rfl)
  rw [HN.out]
  go_enter Tryz.func75,Tryz.ntmps75
  go_wp2_with fail
  go_region_with (go_at_call 74;refine (show Calls _ _ _ w.drew _ from (H.out.drew).add (s:=s) hx).mono ?_;rintro e1 w1 ⟨x1,rfl,k1,k2,k3,k4⟩;obtain ⟨g0,g4,g5⟩:=HD.out w1 k1.bel;have K1:=Lib.hid k1;have K2:=Lib.hid k2;have K3:=Lib.hid k3;have K4:=Lib.hid k4;clear k1 k2 k3 k4 H)
  all_goals go_wp2_with fail
  all_goals go_region_with (go_at_call 74;refine ((K1.out.drew).add (s:=s) hy).mono ?_;rintro e2 w2 ⟨x2,rfl,m1,m2,m3,m4⟩;have M1:=Lib.hid m1;have M2:=Lib.hid m2;have M3:=Lib.hid m3;have M4:=Lib.hid m4;clear m1 m2 m3 m4)
  all_goals go_wp2_with fail
  go_end0
  refine ⟨x2,rfl,M1.out,K2.out.drewl.trans M2.out.drewl,?_⟩
  rw [M3.out,M4.out,K3.out,K4.out];rfl
 ·by_cases k3:ik=3
  ·subst k3
   obtain ⟨X,e1,hx⟩:=ok_3 HO.out rfl
   dsimp only at e1
   subst e1
   have HN:=Lib.hid (nexts_3 (b:=bg R.b pl) (e:=en R.f R.m pl) HG.out rfl)
   rw [HN.out]
   clear k2
   go_enter Tryz.func75,Tryz.ntmps75
   go_wp2_with fail
   go_region_with (go_at_call 74;refine ((H.out.drew).add (s:=s) hx).mono ?_;rintro e1 w1 ⟨x1,rfl,k1,k2,k3,k4⟩;have K1:=Lib.hid k1;have K2:=Lib.hid k2;have K3:=Lib.hid k3;have K4:=Lib.hid k4;clear k1 k2 k3 k4 H)
   go_wp2_with fail
   go_end0
   refine ⟨x1,rfl,K1.out,K2.out.drewl,?_⟩
   rw [K3.out,K4.out];rfl
  ·by_cases k4:ik=4
   ·subst k4
    have HN:=Lib.hid (nexts_4 (b:=bg R.b pl) (e:=en R.f R.m pl) HG.out rfl)
    have c2:=H.out.c2;have c4:=H.out.c4
    cases hb:R.b with
    | false =>
     rw [hb] at HN c2
     have HN2:=Lib.hid (show nexts p (bg false pl) (en R.f R.m pl) a=[] from HN.out)
     rw [HN2.out]
     clear k2 k3
     go_enter Tryz.func75,Tryz.ntmps75
     go_wp2_with fail
     go_end0
     exact ⟨x,rfl,H.out,Mv.refl _ _,rfl⟩
    | true =>
     rw [hb] at HN c2
     by_cases hp:pl=0
     ·subst hp
      have hx:=HL.out (a+1) true (en R.f R.m 0) (by rw [nexts_4 HG.out rfl];simp)
      have HN2:=Lib.hid (show nexts p (bg true 0) (en R.f R.m 0) a=[a+1] from HN.out)
      rw [HN2.out]
      have ew:IntKind.i64.wrap ((a:Int)+1)=((a+1:Nat):Int):=IntWalk.i64_in _ (by omega)
      clear k2 k3
      go_enter Tryz.func75,Tryz.ntmps75
      go_wp2_with (go_at_call 74;refine ((H.out).add (s:=s) hx).mono ?_;rintro e1 w1 ⟨x1,rfl,k1,k2,k3,k4⟩;have K1:=Lib.hid k1;have K2:=Lib.hid k2;have K3:=Lib.hid k3;have K4:=Lib.hid k4;clear k1 k2 k3 k4 H)
      go_end0
      refine ⟨x1,rfl,K1.out,K2.out,?_⟩
      rw [K3.out,K4.out];rfl
     ·have hp2:((pl:Int) == 0)=false:=by rw [beq_eq_false_iff_ne];omega
      have HN2:=Lib.hid (show nexts p (bg true pl) (en R.f R.m pl) a=[] by rw [HN.out];unfold bg;rw [decide_eq_false hp];rfl)
      rw [HN2.out]
      clear k2 k3 hp
      go_enter Tryz.func75,Tryz.ntmps75
      go_wp2_with fail
      go_end0
      exact ⟨x,rfl,H.out,Mv.refl _ _,rfl⟩
   ·by_cases k5:ik=5
    ·subst k5
     have HN:=Lib.hid (nexts_5 (b:=bg R.b pl) (e:=en R.f R.m pl) HG.out rfl)
     have c3:=H.out.c3;have c4:=H.out.c4;have c1:=H.out.c1
     cases hb:R.f with
     | false =>
      rw [hb] at HN c3
      have HN2:=Lib.hid (show nexts p (bg R.b pl) (en false R.m pl) a=[] from HN.out)
      rw [HN2.out]
      clear k2 k3 k4
      go_enter Tryz.func75,Tryz.ntmps75
      go_wp2_with fail
      go_region
      all_goals go_wp2_with fail
      all_goals go_end0
      all_goals exact ⟨x,rfl,H.out.drew,Mv.drewl (Mv.refl _ _),rfl⟩
     | true =>
      rw [hb] at HN c3
      by_cases hp:pl=R.m
      ·have hx:=HL.out (a+1) (bg R.b pl) true (by rw [nexts_5 HG.out rfl];simp)
       have HN2:=Lib.hid (show nexts p (bg R.b pl) (en true R.m pl) a=[a+1] by rw [HN.out];unfold en;rw [decide_eq_true hp];rfl)
       rw [HN2.out]
       have ew:IntKind.i64.wrap ((a:Int)+1)=((a+1:Nat):Int):=IntWalk.i64_in _ (by omega)
       have hp2:((pl:Int) == (R.m:Int))=true:=by rw [beq_iff_eq];omega
       clear k2 k3 k4 hp
       go_enter Tryz.func75,Tryz.ntmps75
       go_wp2_with fail
       go_region
       all_goals go_wp2_with (go_at_call 74;refine ((H.out.drew).add (s:=s) hx).mono ?_;rintro e1 w1 ⟨x1,rfl,k1,k2,k3,k4⟩;have K1:=Lib.hid k1;have K2:=Lib.hid k2;have K3:=Lib.hid k3;have K4:=Lib.hid k4;clear k1 k2 k3 k4 H)
       all_goals go_end0
       all_goals refine ⟨x1,rfl,K1.out,K2.out.drewl,?_⟩
       all_goals rw [K3.out,K4.out];rfl
      ·have hp2:((pl:Int) == (R.m:Int))=false:=by rw [beq_eq_false_iff_ne];omega
       have HN2:=Lib.hid (show nexts p (bg R.b pl) (en true R.m pl) a=[] by rw [HN.out];unfold en;rw [decide_eq_false hp];rfl)
       rw [HN2.out]
       clear k2 k3 k4 hp
       go_enter Tryz.func75,Tryz.ntmps75
       go_wp2_with fail
       go_region
       all_goals go_wp2_with fail
       all_goals go_end0
       all_goals exact ⟨x,rfl,H.out.drew,Mv.drewl (Mv.refl _ _),rfl⟩
    ·have HN:=Lib.hid (nexts_0 (b:=bg R.b pl) (e:=en R.f R.m pl) HG.out k2 k3 k4 k5)
     rw [HN.out]
     have q2:(ik == 2)=false:=beq_eq_false_iff_ne.2 k2
     have q3:(ik == 3)=false:=beq_eq_false_iff_ne.2 k3
     have q4:(ik == 4)=false:=beq_eq_false_iff_ne.2 k4
     have q5:(ik == 5)=false:=beq_eq_false_iff_ne.2 k5
     clear k2 k3 k4 k5
     go_enter Tryz.func75,Tryz.ntmps75
     go_wp2_with fail
     go_end0
     exact ⟨x,rfl,H.out,Mv.refl _ _,rfl⟩
end Go.Proofs.YtegdbmbenjnacaaGreat.Pike
namespace Go.Proofs.YtegdbmbenjnacaaGreat.Pike
open Go.RowKit Mem Sparse
open Prg (Ins ints mem_ints mayP nxt nexts nexts_iff nxt_lt Rch)
open Sset (Tx ArgT)
open Syn (Nd NV nvs rd_nv nv_form Means ArgN)
set_option maxRecDepth 100000
section
variable {w0 w w' w'':World} {rb pl lt:Nat} {R:Rv} {x y x':Fr}
theorem Run.setPl (h:Run w0 w rb R pl lt x y) (P:Nat):Run w0 (w.setCell ⟨rb,4,none⟩ (.int .i64 (P:Int))) rb R P lt x y∧Mv w (w.setCell ⟨rb,4,none⟩ (.int .i64 (P:Int))) (Rf rb x y) (Rf rb x y):=by
 have hc:Chg w (w.setCell ⟨rb,4,none⟩ (.int .i64 (P:Int))) (fun i=>i=rb):=(Chg.refl w _).setCell (p:=⟨rb,4,none⟩) _ rfl
 exact ⟨⟨h.blk.set_ 4 _,h.now.keep hc fun i hi e=>h.nx (e ▸ hi),h.old.keep hc fun i hi e=>h.ny (e ▸ hi),h.dj,h.nx,h.ny,h.le,h.bel.trans (hc.below h.bel.size fun i hi e=>by have:=h.le;omega)⟩,⟨hc.more fun i hi=>.inl hi,fun _ _ h=>h⟩⟩
theorem Run.setLt (h:Run w0 w rb R pl lt x y) (P:Nat):Run w0 (w.setCell ⟨rb,9,none⟩ (.int .i64 (P:Int))) rb R pl P x y∧Mv w (w.setCell ⟨rb,9,none⟩ (.int .i64 (P:Int))) (Rf rb x y) (Rf rb x y):=by
 have hc:Chg w (w.setCell ⟨rb,9,none⟩ (.int .i64 (P:Int))) (fun i=>i=rb):=(Chg.refl w _).setCell (p:=⟨rb,9,none⟩) _ rfl
 exact ⟨⟨h.blk.set_ 9 _,h.now.keep hc fun i hi e=>h.nx (e ▸ hi),h.old.keep hc fun i hi e=>h.ny (e ▸ hi),h.dj,h.nx,h.ny,h.le,h.bel.trans (hc.below h.bel.size fun i hi e=>by have:=h.le;omega)⟩,⟨hc.more fun i hi=>.inl hi,fun _ _ h=>h⟩⟩
theorem Run.clear (h:Run w0 w rb R pl lt x y):Calls Tryz.prog 49 #[.pointer (some ⟨x.g,0,none⟩)] w (fun e w' =>
  ∃x',e=.returned (.tuple #[])∧Run w0 w' rb R pl lt x' y∧Mv w w' (Rf rb x y) (Rf rb x' y)∧x'.L=[]) :=
 (clear_int w0.heap.size x.g x.p R.n x.v (ints x.L) w h.now.ss).mono fun e w' ⟨u,h1,h2,h3,h4⟩=>by
  obtain ⟨T,t1,t2,_⟩:=h.now.row
  have hf:Frt w0.heap.size R.n w' ⟨x.g,x.p,x.q,u,[],x.F⟩:=⟨h2,⟨T,blk_keep t1 h3 h.now.ap,t2,fun k hk=>by cases hk⟩,h.now.le,fun hf=>h.now.ap (ft_grew h4 t1.lt hf)⟩
  obtain ⟨k1,k2⟩:=h.turned hf ⟨rfl,rfl,rfl,h4⟩ (h3.more fun i hi=>.inl hi)
  exact ⟨_,h1,k1,k2,rfl⟩
theorem Run.len (h:Run w0 w rb R pl lt x y):Calls Tryz.prog 25 #[.pointer (some ⟨x.g,0,none⟩)] w (Tells w (.int .i64 (x.L.length:Int))):=by
 have:=len_int w0.heap.size x.g x.p R.n x.v (ints x.L) w h.now.ss
 rw [ints_len] at this
 exact this
theorem nth_ints {L:List Nat} {i:Nat} (h:i < L.length):nth (ints L) (i:Int)=some (L[i]:Int):=by
 rw [nth_at (by rw [ints_len];exact h)]
 simp [ints]
theorem Run.at_ (h:Run w0 w rb R pl lt x y) {i:Nat} (hi:i < x.L.length):Calls Tryz.prog 50 #[.pointer (some ⟨x.g,0,none⟩),.int .i64 (i:Int)] w (Tells w (.tuple #[.int .i64 (x.L[i]:Int),.bool true])):=by
 have:=at_int (i:Int) w0.heap.size x.g x.p R.n x.v (ints x.L) w h.now.ss
 rw [nth_ints hi] at this
 exact this
end
def Turns (w0 w:World) (rb:Nat) (R:Rv) (pl lt:Nat) (x y:Fr) (v:Value) (P:Fr→Prop) (e:Ending) (w':World):Prop :=
 ∃x',e=.returned v∧Run w0 w' rb R pl lt x' y∧Mv w w' (Rf rb x y) (Rf rb x' y)∧P x'
set_option maxHeartbeats 2000000 in
theorem restart_any {w0 w:World} {rb pl lt:Nat} {R:Rv} {x y:Fr} (P:Nat) (h:Run w0 w rb R pl lt x y) :
  Calls Tryz.prog 47 #[.pointer (some ⟨rb,0,none⟩),.int .i64 (P:Int)] w (Turns w0 w rb R P lt x y (.tuple #[]) fun x'=>x'.L=[]):=by
 obtain ⟨h1,h2⟩:=h.setPl P
 obtain ⟨u,hu⟩:∃u,u=w.setCell ⟨rb,4,none⟩ (.int .i64 (P:Int)):=⟨_,rfl⟩
 rw [←hu] at h1 h2
 have c4:=h.c4;have f4:=h.fr 4
 have d5:=h1.c5
 have H1:=Lib.hid h1;have H2:=Lib.hid h2;have HU:=Lib.hid hu
 clear h h1 h2 hu
 go_enter Tryz.func47,Tryz.ntmps47
 go_upto_region 1 with fail
 rw [←HU.out]
 go_wp2_with (go_at_call 49;refine H1.out.clear.mono ?_;rintro e w1 ⟨x1,rfl,k1,k2,k3⟩;have K1:=Lib.hid k1;have K2:=Lib.hid k2;have K3:=Lib.hid k3;clear k1 k2 k3)
 go_end0
 exact ⟨x1,rfl,K1.out,H2.out.trans K2.out,K3.out⟩
structure Ing (p:List Ins) (b e:Bool) (a s:Nat) (L0:List Nat) (F0:Nat→Nat) (d:Nat) (L:List Nat) (F:Nat→Nat):Prop where
 ex:∃N,L=L0++N∧∀k∈N,F k=s∧Rch p b e (·=a) k
 old:∀k∈L0,F k=F0 k
 at_:a∈L
 dn:∀z c,z∈L.take d→nxt p b e z c→c∈L
 lo:L0.length≤d
 hi:d≤L.length
section
variable {p:List Ins} {b e:Bool} {a s d:Nat} {L0 L:List Nat} {F0 F:Nat→Nat}
theorem ing_first (hc:∀z c,z∈L0→nxt p b e z c→c∈L0) (ha:a < p.length):Ing p b e a s L0 F0 L0.length (addL L0 a) (addF L0 F0 a s):=by
 refine ⟨?_,fun k hk=>addF_old hk,addL_mem.2 (.inr rfl),fun z c hz hn=>?_,Nat.le_refl _,?_⟩
 ·by_cases hm:a∈L0
  ·exact ⟨[],by unfold addL;rw [if_pos hm,List.append_nil],fun k hk=>by cases hk⟩
  ·refine ⟨[a],by unfold addL;rw [if_neg hm],fun k hk=>?_⟩
   rw [List.mem_singleton] at hk;subst hk
   exact ⟨addF_new hm,.here ha rfl⟩
 ·obtain ⟨N,h,_⟩:=addL_ex L0 a
  rw [h,List.take_left] at hz
  rw [h]
  exact List.mem_append_left _ (hc z c hz hn)
 ·obtain ⟨N,h,_⟩:=addL_ex L0 a
  rw [h,List.length_append];omega
theorem Ing.step (h:Ing p b e a s L0 F0 d L F) (hm:mayP p=true) (hd:d < L.length) {L':List Nat} {F':Nat→Nat} (hq:(L',F')=addA L F s (nexts p b e L[d])):Ing p b e a s L0 F0 (d+1) L' F':=by
 obtain ⟨rfl,rfl⟩:=Prod.mk.inj hq
 obtain ⟨N,rfl,hN⟩:=h.ex
 obtain ⟨N2,e2,h2⟩:=addA_ex (nexts p b e (L0++N)[d]) (L0++N) F s
 have hl:=h.lo
 have hr:Rch p b e (·=a) (L0++N)[d]:=by
  rw [List.getElem_append_right hl]
  exact (hN _ (List.getElem_mem _)).2
 refine ⟨⟨N++N2,by rw [e2,List.append_assoc],fun k hk=>?_⟩,fun k hk=>?_,addA_mem _ |>.2 (.inl h.at_),fun z c hz hn=>?_,by omega,?_⟩
 ·rcases List.mem_append.1 hk with h1 | h1
  ·rw [addA_old _ (List.mem_append_right _ h1)];exact hN k h1
  ·exact ⟨(h2 k h1).1,hr.step ((nexts_iff hm).1 (h2 k h1).2)⟩
 ·rw [addA_old _ (List.mem_append_left _ hk)];exact h.old k hk
 ·rw [e2,List.take_append_of_le_length (by omega),List.take_succ_eq_append_getElem hd] at hz
  rcases List.mem_append.1 hz with h1 | h1
  ·exact addA_mem _ |>.2 (.inl (h.dn z c h1 hn))
  ·rw [List.mem_singleton] at h1;subst h1
   exact addA_mem _ |>.2 (.inr ((nexts_iff hm).2 hn))
 ·rw [e2,List.length_append];omega
theorem Ing.all (h:Ing p b e a s L0 F0 d L F) (hd:¬d < L.length):Ent p b e a s L0 F0 L F :=
 ⟨h.ex,h.old,h.at_,fun z c hz hn=>h.dn z c (by rw [List.take_of_length_le (by omega)];exact hz) hn⟩
end
set_option maxHeartbeats 8000000 in
theorem enter_any {w0 w:World} {rb pl lt:Nat} {R:Rv} {x y:Fr} {V:List NV} {p:List Ins} {W:List Tx} (a s:Nat) (h:Run w0 w rb R pl lt x y) (hs:Src w0 R V p W) (ha:a < R.n)
  (hc:∀z c,z∈x.L→nxt p (bg R.b pl) (en R.f R.m pl) z c→c∈x.L) :
  Calls Tryz.prog 52 #[.pointer (some ⟨rb,0,none⟩),.int .i64 (a:Int),.int .i64 (s:Int)] w (Turns w0 w rb R pl lt x y (.tuple #[]) fun x'=>Ent p (bg R.b pl) (en R.f R.m pl) a s x.L x.F x'.L x'.F):=by
 have HS:=Lib.hid hs
 have H:=Lib.hid h
 have HI:=Lib.hid (ing_first (s:=s) (F0:=x.F) hc (by rw [hs.arg.len2];exact ha:a < p.length))
 have c5:=h.c5
 have HM:=Lib.hid hs.may
 have hn63:R.n≤65536:=h.now.ss.sm
 clear h hs hc
 go_enter Tryz.func52,Tryz.ntmps52
 go_wp2_with (first
  | (go_at_call 25;refine H.out.len.mono ?_;rintro e1 w1 ⟨rfl,rfl⟩)
  | (go_at_call 74;refine (H.out.add (s:=s) ha).mono ?_;rintro e2 w2 ⟨x2,rfl,k1,k2,k3,k4⟩;rw [←k3,←k4] at HI;have K1:=Lib.hid k1;have K2:=Lib.hid k2;clear k1 k2 k3 k4))
 obtain ⟨L0,hL0⟩:∃L,L=x.L:=⟨_,rfl⟩
 obtain ⟨F0,hF0⟩:∃F,F=x.F:=⟨_,rfl⟩
 rw [←hL0,←hF0] at HI
 rw [←hL0]
 generalize hd0:L0.length=d0 at *
 go_loopw [6] (fun dv wr=>∃(d:Nat) (xr:Fr),dv=.int .i64 (d:Int)∧d≤65536∧Hid (Run w0 wr rb R pl lt xr y)∧Hid (Mv w wr (Rf rb x y) (Rf rb xr y))∧Hid (Ing p (bg R.b pl) (en R.f R.m pl) a s L0 F0 d xr.L xr.F)) (fun dv _=>R.n+1 - (intOf dv).toNat)
 case atStart=>exact ⟨d0,x2,rfl,by have:=HI.out.hi;have:=K1.out.now.few;omega,K1,K2,HI⟩
 case round =>
  obtain ⟨d,xr,rfl,hd6,J1,J2,J3⟩:=hrel
  clear K1 K2 HI
  have c5:=J1.out.c5
  have hfew:=J1.out.now.few
  obtain ⟨q,hq⟩:∃q,q=xr.L.length:=⟨_,rfl⟩
  have HLN:=Lib.hid (show Calls Tryz.prog 25 #[.pointer (some ⟨xr.g,0,none⟩)] wr (Tells wr (.int .i64 (q:Int))) by rw [hq];exact J1.out.len)
  rw [←hq] at hfew
  by_cases hlt:d < q
  ·have hdl:d < xr.L.length:=by omega
   have HAT:=Lib.hid (J1.out.at_ hdl)
   have hz:xr.L[d] < R.n:=J1.out.now.lt (List.getElem_mem hdl)
   have HGO:=Lib.hid (goOn_any xr.L[d] s J1.out HS.out hz)
   have HST:=Lib.hid (fun L' F' (hq:(L',F')=addA xr.L xr.F s (nexts p (bg R.b pl) (en R.f R.m pl) xr.L[d]))=>J3.out.step HM.out hdl hq)
   generalize xr.L[d]=z at HAT HGO HST hz
   have hlt2:(d:Int) < (q:Int):=by omega
   have ew:IntKind.i64.wrap ((d:Int)+1)=((d+1:Nat):Int):=IntWalk.i64_in _ (by omega)
   clear hq hdl
   go_wp2_with (first
    | (go_at_call 25;refine HLN.out.mono ?_;rintro e1 w1 ⟨rfl,rfl⟩)
    | (go_at_call 50;refine HAT.out.mono ?_;rintro e1 w1 ⟨rfl,rfl⟩)
    | (go_at_call 75;refine HGO.out.mono ?_;rintro e2 w2 ⟨x3,rfl,m1,m2,m3⟩;have M1:=Lib.hid m1;have M2:=Lib.hid m2;have M3:=Lib.hid (HST.out _ _ m3);clear m1 m2 m3))
   go_roundw
   case rel=>exact ⟨d+1,x3,by go_num,by omega,M1,Lib.hid (J2.out.trans M2.out),M3⟩
   case measure=>simp [intOf];omega
  ·have hlt2:¬(d:Int) < (q:Int):=by omega
   have HE:=Lib.hid (J3.out.all (by omega))
   clear hq
   go_wp2_with (first
    | (go_at_call 25;refine HLN.out.mono ?_;rintro e1 w1 ⟨rfl,rfl⟩))
   go_end0
   exact ⟨xr,rfl,J1.out,J2.out,by rw [←hL0,←hF0];exact HE.out⟩
end Go.Proofs.YtegdbmbenjnacaaGreat.Pike
namespace Go.Proofs.YtegdbmbenjnacaaGreat.Pike
open Go.RowKit Mem Sparse
open Prg (Ins ints mem_ints mayP nxt nexts nexts_iff nxt_lt Rch)
open Sset (Tx ArgT)
open Syn (Nd NV nvs rd_nv nv_form Means ArgN)
set_option maxRecDepth 100000
def At (b:Bool) (w:World) (e:Ending) (w':World):Prop:=∃i:Int,e=.returned (.int .i64 i)∧decide (0≤i)=b∧w=w'
theorem mem_take_succ {l:List Int} {k:Nat} (hk:k < l.length) (z:Int):z∈l.take (k+1)↔z∈l.take k∨z=l[k]:=by
 rw [List.take_succ_eq_append_getElem hk,List.mem_append,List.mem_singleton]
set_option maxHeartbeats 4000000 in
theorem index_int (A:Option Addr) (O:List Int) (n c B:Nat) (z:Int) (w:World) (h:Rd w B A (ks .i64 O)) (hn:O.length=n) (hn1:n≤1099511627776) :
  Calls Tryz.prog 76 #[.slice A n c,.int .i64 z] w (At (decide (z∈O)) w):=by
 have H:=Lib.hid h;have HN:=Lib.hid hn
 clear h hn
 go_enter Tryz.func76,Tryz.ntmps76
 go_wp2
 go_loopw [8] (fun i wr=>∃k:Nat,k≤n∧i=.int .i64 k∧Hid (z∉O.take k)∧Hid (w=wr)) (fun i _=>n - (intOf i).toNat)
 case atStart=>exact ⟨0,Nat.zero_le _,rfl,Lib.hid (by simp),Lib.hid rfl⟩
 case round =>
  obtain ⟨k,hk,rfl,HT,HW⟩:=hrel
  obtain rfl:=HW.out
  by_cases hlt:k < n
  ·have hko:k < O.length:=by rw [HN.out];exact hlt
   obtain ⟨b,o,rfl,_⟩:=rd_form H.out (by omega)
   have cy:=rd_k H.out hko
   have HTK:=Lib.hid (mem_take_succ hko z)
   have HIN:=Lib.hid (List.getElem_mem hko)
   generalize O[k]=q at cy HTK HIN
   clear hko
   by_cases e:z=q
   ·subst e
    have HD:=Lib.hid (show decide (z∈O)=true from decide_eq_true HIN.out)
    have e2:(z == z)=true:=by simp
    go_wp2
    go_ret
    refine ⟨k,rfl,?_,rfl⟩
    rw [HD.out,decide_eq_true_eq];omega
   ·have e2:(z == q)=false:=beq_eq_false_iff_ne.2 e
    have HT2:=Lib.hid (show z∉O.take (k+1) from fun hm=>by
     rcases HTK.out.1 hm with h1 | h1
     ·exact HT.out h1
     ·exact e h1)
    clear e
    go_wp2
    go_roundw
    case rel=>exact ⟨k+1,by omega,by go_num,HT2,by first | exact Lib.hid rfl | exact Lib.hid trivial⟩
    case measure=>simp [intOf];omega
  ·have HD:=Lib.hid (show decide (z∈O)=false from decide_eq_false (by have:=HT.out;rwa [List.take_of_length_le (by have:=HN.out;omega)] at this))
   go_wp2
   go_ret
   refine ⟨-1,rfl,?_,rfl⟩
   rw [HD.out];rfl
set_option maxHeartbeats 2000000 in
theorem contains_int (A:Option Addr) (O:List Int) (n c B:Nat) (z:Int) (w:World) (h:Rd w B A (ks .i64 O)) (hn:O.length=n) (hn1:n≤1099511627776) :
  Calls Tryz.prog 53 #[.slice A n c,.int .i64 z] w (Tells w (.bool (decide (z∈O)))):=by
 have HI:=Lib.hid (index_int A O n c B z w h hn hn1)
 clear h hn hn1
 generalize decide (z∈O)=r at HI ⊢
 go_enter Tryz.func53,Tryz.ntmps53
 go_wp2_with (go_at_call 76;refine HI.out.mono ?_;rintro e1 w1 ⟨i,rfl,hz,rfl⟩;have HZ:=Lib.hid hz;clear hz HI)
 go_ret
 exact ⟨ret_bool HZ.out,rfl⟩
theorem find_take (f:Nat→Bool) (L:List Nat) {d:Nat} (hd:d < L.length) (h:∀k∈L.take d,f k=false):f L[d]=true→L.find? f=some L[d]:=fun hf=>by
 rw [List.find?_eq_some_iff_append]
 refine ⟨hf,L.take d,L.drop (d+1),?_,fun a ha=>by rw [h a ha];rfl⟩
 rw [←List.drop_eq_getElem_cons hd,List.take_append_drop]
def FirstV (r:Option Nat):Value:=.tuple #[.int .i64 ((r.getD 0:Nat):Int),.bool r.isSome]
set_option maxHeartbeats 8000000 in
theorem first_any {w0 w:World} {rb pl lt:Nat} {R:Rv} {x y:Fr} {V:List NV} {p:List Ins} {W:List Tx} (h:Run w0 w rb R pl lt x y) (hs:Src w0 R V p W) (A:Option Addr) (O:List Int) (n c B:Nat) (hO:Rd w B A (ks .i64 O)) (hn:O.length=n) (hn1:n≤1099511627776) :
  Calls Tryz.prog 24 #[.pointer (some ⟨rb,0,none⟩),.slice A n c] w (Tells w (FirstV (firstOf p O x.L))):=by
 have H:=Lib.hid h;have HS:=Lib.hid hs
 have c5:=h.c5
 have HCT:=Lib.hid (fun z=>contains_int A O n c B z w hO hn hn1)
 have hfew:=h.now.few
 have hn63:=h.now.ss.sm
 obtain ⟨q,hq⟩:∃q,q=x.L.length:=⟨_,rfl⟩
 have HLN:=Lib.hid (show Calls Tryz.prog 25 #[.pointer (some ⟨x.g,0,none⟩)] w (Tells w (.int .i64 (q:Int))) by rw [hq];exact h.len)
 rw [←hq] at hfew
 have HQ:=Lib.hid hq
 clear h hs hq hO hn
 go_enter Tryz.func24,Tryz.ntmps24
 go_wp2_with (go_at_call 25;refine HLN.out.mono ?_;rintro e1 w1 ⟨rfl,rfl⟩)
 go_loopw [15] (fun i wr=>∃d:Nat,d≤q∧i=.int .i64 d∧Hid (∀k∈x.L.take d,decide (opAt p k∈O)=false)∧Hid (w=wr)) (fun i _=>q - (intOf i).toNat)
 case atStart=>exact ⟨0,Nat.zero_le _,rfl,Lib.hid (fun k hk=>by simp at hk),Lib.hid rfl⟩
 case round =>
  obtain ⟨d,hd,rfl,HT,HW⟩:=hrel
  obtain rfl:=HW.out
  by_cases hlt:d < q
  ·have hdl:d < x.L.length:=by rw [←HQ.out];exact hlt
   have HAT:=Lib.hid (H.out.at_ hdl)
   have hz:x.L[d] < R.n:=H.out.now.lt (List.getElem_mem hdl)
   have HFT:=Lib.hid (find_take (fun k=>decide (opAt p k∈O)) x.L hdl HT.out)
   have HTS:=Lib.hid (fun (hf:decide (opAt p x.L[d]∈O)=false)=>show ∀k∈x.L.take (d+1),decide (opAt p k∈O)=false from fun k hk=>by
    rw [List.take_succ_eq_append_getElem hdl] at hk
    rcases List.mem_append.1 hk with h1 | h1
    ·exact HT.out k h1
    ·rw [List.mem_singleton] at h1;subst h1;exact hf)
   generalize x.L[d]=z at HAT HFT HTS hz
   obtain ⟨b,o,i,hA,hget,hok,hcells⟩:=HS.out.cells hz
   obtain ⟨d0,_,_⟩:=hcells w H.out.bel
   have c0:=H.out.c0
   rw [hA] at c0
   have hzn:(z:Int) < (R.n:Int):=by omega
   have hop:opAt p z=i.kind:=opAt_some hget
   rw [hop] at HFT HTS
   have HC:=Lib.hid (HCT.out i.kind)
   generalize i.kind=ik at d0 HFT HTS HC
   clear hdl hget hok hcells hA hop
   cases hr:decide (ik∈O) with
   | true =>
    rw [hr] at HC
    have HF:=Lib.hid (show firstOf p O x.L=some z from HFT.out (by rw [←hr]))
    rw [HF.out]
    clear hr
    go_wp2_with (first
     | (go_at_call 50;refine HAT.out.mono ?_;rintro e1 w1 ⟨rfl,rfl⟩)
     | (go_at_call 53;refine HC.out.mono ?_;rintro e2 w2 ⟨rfl,rfl⟩))
    go_ret2
    exact ⟨rfl,rfl⟩
   | false =>
    rw [hr] at HC
    have HT2:=Lib.hid (HTS.out hr)
    clear hr
    go_wp2_with (first
     | (go_at_call 50;refine HAT.out.mono ?_;rintro e1 w1 ⟨rfl,rfl⟩)
     | (go_at_call 53;refine HC.out.mono ?_;rintro e2 w2 ⟨rfl,rfl⟩))
    go_roundw
    case rel=>exact ⟨d+1,by omega,by go_num,HT2,by first | exact Lib.hid rfl | exact Lib.hid trivial⟩
    case measure=>simp [intOf];omega
  ·have HF:=Lib.hid (show firstOf p O x.L=none from by
    unfold firstOf
    rw [List.find?_eq_none]
    intro k hk
    have:=HT.out k (by rw [List.take_of_length_le (by have:=HQ.out;omega)];exact hk)
    rw [this];simp)
   go_wp2_with fail
   go_ret2
   exact ⟨by rw [HF.out];rfl,rfl⟩
theorem join_any {w0 w:World} {rb pl lt:Nat} {R:Rv} {x y:Fr} {V:List NV} {p:List Ins} {W:List Tx} (h:Run w0 w rb R pl lt x y) (hs:Src w0 R V p W) (hN:0 < R.n)
  (hc:∀z c,z∈x.L→nxt p (bg R.b pl) (en R.f R.m pl) z c→c∈x.L) :
  Calls Tryz.prog 48 #[.pointer (some ⟨rb,0,none⟩)] w (Turns w0 w rb R pl pl x y (.tuple #[]) fun x'=>Ent p (bg R.b pl) (en R.f R.m pl) 0 pl x.L x.F x'.L x'.F):=by
 obtain ⟨h1,h2⟩:=h.setLt pl
 obtain ⟨u,hu⟩:∃u,u=w.setCell ⟨rb,9,none⟩ (.int .i64 (pl:Int)):=⟨_,rfl⟩
 rw [←hu] at h1 h2
 have c4:=h.c4;have c9:=h.c9;have f9:=h.fr 9
 have d4:=h1.c4
 have HE:=Lib.hid (enter_any 0 pl h1 hs hN hc)
 have H2:=Lib.hid h2;have HU:=Lib.hid hu
 clear h h1 h2 hu hs hc
 go_enter Tryz.func48,Tryz.ntmps48
 go_upto_region 1 with fail
 rw [←HU.out]
 go_wp2_with (go_at_call 52;refine HE.out.mono ?_;rintro e w1 ⟨x1,rfl,k1,k2,k3⟩;have K1:=Lib.hid k1;have K2:=Lib.hid k2;have K3:=Lib.hid k3;clear k1 k2 k3)
 go_end0
 exact ⟨x1,rfl,K1.out,H2.out.trans K2.out,K3.out⟩
end Go.Proofs.YtegdbmbenjnacaaGreat.Pike
