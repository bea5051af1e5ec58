/-
  Texts of stage 7, part 8.
-/
import Derived.Sort.Lot0
namespace Go.Proofs.YtdngaddggcmjgaaDoor.Norm
open Go.Sort
section
variable {α:Type} [Inhabited α]
def sg (a n:Nat) (d:Array α):List α:=(List.range n).map fun i=>d[a+i]!
theorem sg_get (a n:Nat) (d:Array α) (i:Nat) (h:i < (sg a n d).length):(sg a n d)[i]=d[a+i]!:=by simp [sg]
theorem sg_congr {a a' n:Nat} {d d':Array α} (h:∀i,i < n→d[a+i]! = d'[a'+i]!):sg a n d=sg a' n d' :=
 List.map_congr_left fun i hi=>h i (List.mem_range.1 hi)
theorem sg_append (a n m:Nat) (d:Array α):sg a (n+m) d=sg a n d++sg (a+n) m d:=by
 simp only [sg,List.range_add,List.map_append,List.map_map]
 congr 1
 exact List.map_congr_left fun i _=>by simp [Nat.add_assoc]
theorem mem_sg {a n:Nat} {d:Array α} {x:α}:x∈sg a n d↔∃i,a≤i∧i < a+n∧d[i]! = x:=by
 simp only [sg,List.mem_map,List.mem_range]
 constructor
 ·rintro ⟨i,hi,h⟩;exact ⟨a+i,by omega,by omega,h⟩
 ·rintro ⟨i,h1,h2,h⟩;exact ⟨i - a,by omega,by rw [show a+(i - a)=i from by omega];exact h⟩
variable (key:α→Int)
def same (c:Int) (l:List α):List α:=l.filter fun x=>key x == c
structure St (a b:Nat) (d d':Array α):Prop where
 size:d'.size=d.size
 out:∀i,i < a∨b≤i→d'[i]! = d[i]!
 key:∀c,same key c (sg a (b - a) d')=same key c (sg a (b - a) d)
variable {key}
theorem St.refl (a b:Nat) (d:Array α):St key a b d d:=⟨rfl,fun _ _=>rfl,fun _=>rfl⟩
theorem St.trans {a b:Nat} {d d' d'':Array α} (h:St key a b d d') (k:St key a b d' d''):St key a b d d'' :=
 ⟨k.size.trans h.size,fun i hi=>(k.out i hi).trans (h.out i hi),fun c=>(k.key c).trans (h.key c)⟩
theorem St.mono {a b a' b':Nat} {d d':Array α} (h:St key a b d d') (ha:a'≤a) (hab:a≤b) (hb:b≤b'):St key a' b' d d':=by
 refine ⟨h.size,fun i hi=>h.out i (by omega),fun c=>?_⟩
 rw [show b' - a'=(a - a')+((b - a)+(b' - b)) from by omega]
 simp only [sg_append,same,List.filter_append]
 rw [show a'+(a - a')=a from by omega]
 have e1:sg a' (a - a') d'=sg a' (a - a') d:=sg_congr fun i hi=>h.out _ (by omega)
 have e2:sg (a+(b - a)) (b' - b) d'=sg (a+(b - a)) (b' - b) d:=sg_congr fun i hi=>h.out _ (by omega)
 rw [e1,e2]
 have:=h.key c
 simp only [same] at this
 rw [this]
theorem St.mem {a b:Nat} {d d':Array α} (h:St key a b d d') {i:Nat} (h1:a≤i) (h2:i < b):∃j,a≤j∧j < b∧d'[i]! = d[j]!:=by
 have hm:d'[i]!∈same key (key d'[i]!) (sg a (b - a) d'):=by
  simp only [same,List.mem_filter,beq_self_eq_true,and_true]
  exact mem_sg.2 ⟨i,h1,by omega,rfl⟩
 rw [h.key] at hm
 simp only [same,List.mem_filter] at hm
 obtain ⟨j,h3,h4,h5⟩:=mem_sg.1 hm.1
 exact ⟨j,h3,by omega,h5.symm⟩
theorem St.all {a b:Nat} {d d':Array α} (h:St key a b d d') {p:α→Prop} (hp:∀i,a≤i→i < b→p d[i]!):∀i,a≤i→i < b→p d'[i]!:=fun i h1 h2=>by
 obtain ⟨j,h3,h4,e⟩:=h.mem h1 h2
 rw [e];exact hp j h3 h4
variable (key) in
def Srt (a b:Nat) (d:Array α):Prop:=∀i j,a≤i→i < j→j < b→key d[i]!≤key d[j]!
theorem Srt.mono {a b a' b':Nat} {d:Array α} (h:Srt key a b d) (ha:a≤a') (hb:b'≤b):Srt key a' b' d:=fun i j h1 h2 h3=>h i j (by omega) h2 (by omega)
theorem Srt.congr {a b:Nat} {d d':Array α} (h:Srt key a b d) (he:∀i,a≤i→i < b→d'[i]! = d[i]!):Srt key a b d':=fun i j h1 h2 h3=>by
 rw [he i h1 (by omega),he j (by omega) h3];exact h i j h1 h2 h3
theorem Srt.le {a b:Nat} {d:Array α} (h:Srt key a b d) {i j:Nat} (h1:a≤i) (h2:i≤j) (h3:j < b):key d[i]!≤key d[j]!:=by
 rcases Nat.eq_or_lt_of_le h2 with rfl | h
 ·exact Int.le_refl _
 ·exact ‹Srt key a b d› i j h1 h h3
theorem Srt.join {a m b:Nat} {d:Array α} (h:Srt key a m d) (k:Srt key m b d) (hc:∀i j,a≤i→i < m→m≤j→j < b→key d[i]!≤key d[j]!):Srt key a b d:=fun i j h1 h2 h3=>by
 by_cases hj:j < m
 ·exact h i j h1 h2 hj
 ·by_cases hi:i < m
  ·exact hc i j h1 hi (by omega) h3
  ·exact k i j (by omega) h2 h3
structure Rot (a m b:Nat) (d d':Array α):Prop where
 size:d'.size=d.size
 out:∀k,k < a∨b≤k→d'[k]! = d[k]!
 lo:∀k,a≤k→k < a+(b - m)→d'[k]! = d[k+(m - a)]!
 hi:∀k,a+(b - m)≤k→k < b→d'[k]! = d[k - (b - m)]!
theorem Rot.refl_left (a b:Nat) (d:Array α) (h:a≤b):Rot a a b d d:=⟨rfl,fun _ _=>rfl,fun k _ _=>by simp,fun k h1 h2=>by omega⟩
theorem Rot.refl_right (a b:Nat) (d:Array α):Rot a b b d d:=⟨rfl,fun _ _=>rfl,fun k h1 h2=>by omega,fun k _ _=>by simp⟩
theorem Rot.st {a m b:Nat} {d d':Array α} (h:Rot a m b d d') (ham:a≤m) (hmb:m≤b) (hc:∀i j,a≤i→i < m→m≤j→j < b→key d[j]! < key d[i]!):St key a b d d':=by
 refine ⟨h.size,h.out,fun c=>?_⟩
 have e1:sg a (b - m) d'=sg m (b - m) d:=sg_congr fun i hi=>by rw [h.lo _ (by omega) (by omega)];congr 1;omega
 have e2:sg (a+(b - m)) (m - a) d'=sg a (m - a) d:=sg_congr fun i hi=>by rw [h.hi _ (by omega) (by omega)];congr 1;omega
 have s1:sg a (b - a) d'=sg m (b - m) d++sg a (m - a) d:=by rw [show b - a=(b - m)+(m - a) from by omega,sg_append,e1,e2]
 have s2:sg a (b - a) d=sg a (m - a) d++sg m (b - m) d:=by rw [show b - a=(m - a)+(b - m) from by omega,sg_append,show a+(m - a)=m from by omega]
 rw [s1,s2]
 simp only [same,List.filter_append]
 by_cases hx:∃i,a≤i∧i < m∧key d[i]! = c
 ·obtain ⟨i,h1,h2,h3⟩:=hx
  have:(sg m (b - m) d).filter (fun x=>key x == c)=[]:=by
   rw [List.filter_eq_nil_iff]
   intro x hx
   obtain ⟨j,h4,h5,rfl⟩:=mem_sg.1 hx
   have:=hc i j h1 h2 h4 (by omega)
   simp;omega
  rw [this];simp
 ·have:(sg a (m - a) d).filter (fun x=>key x == c)=[]:=by
   rw [List.filter_eq_nil_iff]
   intro x hx'
   obtain ⟨j,h4,h5,rfl⟩:=mem_sg.1 hx'
   intro hk
   exact hx ⟨j,h4,by omega,by simpa using hk⟩
  rw [this];simp
structure Swr (a b n:Nat) (d d':Array α):Prop where
 size:d'.size=d.size
 lo:∀k,a≤k→k < a+n→d'[k]! = d[k+(b - a)]!
 hi:∀k,b≤k→k < b+n→d'[k]! = d[k - (b - a)]!
 out:∀k,¬(a≤k∧k < a+n)→¬(b≤k∧k < b+n)→d'[k]! = d[k]!
theorem Swr.zero (a b:Nat) (d:Array α):Swr a b 0 d d:=⟨rfl,fun k _ _=>by omega,fun k _ _=>by omega,fun _ _ _=>rfl⟩
theorem Swr.step {a b n:Nat} {d d':Array α} (h:Swr a b n d d') (hab:a+n < b) (hs:b+n < d.size):Swr a b (n+1) d (swp d' (a+n) (b+n)):=by
 have hs':d'.size=d.size:=h.size
 refine ⟨by rw [size_swp,hs'],fun k h1 h2=>?_,fun k h1 h2=>?_,fun k h1 h2=>?_⟩
 ·by_cases e:k=a+n
  ·subst e
   rw [swp_left _ _ _ (by omega) (by omega),h.out _ (by omega) (by omega)]
   congr 1;omega
  ·rw [swp_other _ _ _ _ e (by omega),h.lo k h1 (by omega)]
 ·by_cases e:k=b+n
  ·subst e
   rw [swp_right _ _ _ (by omega),h.out _ (by omega) (by omega)]
   congr 1;omega
  ·rw [swp_other _ _ _ _ (by omega) e,h.hi k h1 (by omega)]
 ·rw [swp_other _ _ _ _ (by omega) (by omega),h.out k (by omega) (by omega)]
theorem Rot.left {m i j:Nat} {d d1 d':Array α} (hm:i≤m) (hj:j < i) (h:Swr (m - i) m j d d1) (r:Rot (m - (i - j)) m (m+j) d1 d'):Rot (m - i) m (m+j) d d':=by
 refine ⟨r.size.trans h.size,fun k hk=>?_,fun k h1 h2=>?_,fun k h1 h2=>?_⟩
 ·rw [r.out k (by omega),h.out k (by omega) (by omega)]
 ·rw [r.out k (by omega),h.lo k (by omega) (by omega)]
 ·by_cases e:k < m - (i - j)+j
  ·rw [r.lo k (by omega) (by omega),h.hi _ (by omega) (by omega)];congr 1;omega
  ·rw [r.hi k (by omega) (by omega),h.out _ (by omega) (by omega)]
theorem Rot.right {m i j:Nat} {d d1 d':Array α} (hm:i≤m) (hj:i < j) (h:Swr (m - i) (m+j - i) i d d1) (r:Rot (m - i) m (m+(j - i)) d1 d'):Rot (m - i) m (m+j) d d':=by
 refine ⟨r.size.trans h.size,fun k hk=>?_,fun k h1 h2=>?_,fun k h1 h2=>?_⟩
 ·rw [r.out k (by omega),h.out k (by omega) (by omega)]
 ·by_cases e:k < m - i+(j - i)
  ·rw [r.lo k (by omega) (by omega),h.out _ (by omega) (by omega)]
  ·by_cases e2:k < m+(j - i)
   ·rw [r.hi k (by omega) (by omega),h.lo _ (by omega) (by omega)];congr 1;omega
   ·omega
 ·rw [r.out k (by omega),h.hi k (by omega) (by omega)];congr 1;omega
theorem Rot.even {m i:Nat} {d d':Array α} (hm:i≤m) (h:Swr (m - i) m i d d'):Rot (m - i) m (m+i) d d':=by
 refine ⟨h.size,fun k hk=>h.out k (by omega) (by omega),fun k h1 h2=>?_,fun k h1 h2=>?_⟩
 ·rw [h.lo k (by omega) (by omega)]
 ·rw [h.hi k (by omega) (by omega)];congr 1;omega
theorem Rot.up {a k:Nat} {d d':Array α} (h:Rot a (a+1) (k+1) d d') (hk:a≤k) (hs:k+1 < d.size):Rot a (a+1) (k+2) d (swp d' k (k+1)):=by
 have hs':d'.size=d.size:=h.size
 refine ⟨by rw [size_swp,hs'],fun x hx=>?_,fun x h1 h2=>?_,fun x h1 h2=>?_⟩
 ·rw [swp_other _ _ _ _ (by omega) (by omega),h.out x (by omega)]
 ·by_cases e:x=k
  ·subst e
   rw [swp_left _ _ _ (by omega) (by omega),h.out _ (by omega)];congr 1;omega
  ·rw [swp_other _ _ _ _ e (by omega),h.lo x (by omega) (by omega)]
 ·obtain rfl:x=k+1:=by omega
  rw [swp_right _ _ _ (by omega),h.hi k (by omega) (by omega)];congr 1;omega
theorem Rot.down {k m:Nat} {d d':Array α} (h:Rot (k+1) m (m+1) d d') (hk:k < m) (hs:m < d.size):Rot k m (m+1) d (swp d' (k+1) k):=by
 have hs':d'.size=d.size:=h.size
 refine ⟨by rw [size_swp,hs'],fun x hx=>?_,fun x h1 h2=>?_,fun x h1 h2=>?_⟩
 ·rw [swp_other _ _ _ _ (by omega) (by omega),h.out x (by omega)]
 ·obtain rfl:x=k:=by omega
  rw [swp_right _ _ _ (by omega),h.lo (x+1) (by omega) (by omega)];congr 1;omega
 ·by_cases e:x=k+1
  ·subst e
   rw [swp_left _ _ _ (by omega) (by omega),h.out _ (by omega)];congr 1;omega
  ·rw [swp_other _ _ _ _ e (by omega),h.hi x (by omega) (by omega)]
variable (key) in
def Mg (a b:Nat) (d d':Array α):Prop:=St key a b d d'∧Srt key a b d'
theorem mg_first {a i b:Nat} {d d':Array α} (hs:Srt key (a+1) b d) (h1:a+1≤i) (h2:i≤b) (hl:i=a+1∨key d[i - 1]! < key d[a]!) (hr:i=b∨key d[a]!≤key d[i]!) (r:Rot a (a+1) i d d'):Mg key a b d d':=by
 have cross:∀x y,a≤x→x < a+1→a+1≤y→y < i→key d[y]! < key d[x]!:=fun x y e1 e2 e3 e4=>by
  obtain rfl:x=a:=by omega
  have:=hs.le (i:=y) (j:=i - 1) e3 (by omega) (by omega)
  rcases hl with h | h <;> omega
 have st:St key a i d d':=r.st (by omega) (by omega) cross
 refine ⟨st.mono (Nat.le_refl _) (by omega) h2,?_⟩
 have e1:∀x,a≤x→x < i - 1→d'[x]! = d[x+1]!:=fun x g1 g2=>by rw [r.lo x g1 (by omega)];congr 1;omega
 have e2:d'[i - 1]! = d[a]!:=by rw [r.hi (i - 1) (by omega) (by omega)];congr 1;omega
 intro x y g1 g2 g3
 by_cases hy:y < i - 1
 ·rw [e1 x (by omega) (by omega),e1 y (by omega) hy];exact hs.le (by omega) (by omega) (by omega)
 ·by_cases hy2:y=i - 1
  ·subst hy2
   rw [e1 x g1 (by omega),e2]
   have:=cross a (x+1) (by omega) (by omega) (by omega) (by omega)
   omega
  ·rw [r.out y (by omega)]
   have hi:key d[a]!≤key d[y]!:=by
    rcases hr with h | h
    ·omega
    ·have:=hs.le (i:=i) (j:=y) (by omega) (by omega) g3;omega
   by_cases hx:x < i - 1
   ·rw [e1 x g1 hx];exact hs.le (by omega) (by omega) (by omega)
   ·by_cases hx2:x=i - 1
    ·subst hx2;rw [e2];exact hi
    ·rw [r.out x (by omega)];exact hs.le (by omega) (by omega) (by omega)
theorem mg_last {a i m:Nat} {d d':Array α} (hs:Srt key a m d) (h1:a≤i) (h2:i≤m) (hl:i=a∨key d[i - 1]!≤key d[m]!) (hr:i=m∨key d[m]! < key d[i]!) (r:Rot i m (m+1) d d'):Mg key a (m+1) d d':=by
 have cross:∀x y,i≤x→x < m→m≤y→y < m+1→key d[y]! < key d[x]!:=fun x y e1 e2 e3 e4=>by
  obtain rfl:y=m:=by omega
  have:=hs.le (i:=i) (j:=x) (by omega) (by omega) e2
  rcases hr with h | h <;> omega
 have st:St key i (m+1) d d':=r.st h2 (by omega) cross
 refine ⟨st.mono h1 (by omega) (Nat.le_refl _),?_⟩
 have e1:∀x,i < x→x < m+1→d'[x]! = d[x - 1]!:=fun x g1 g2=>by rw [r.hi x (by omega) (by omega)];congr 1;omega
 have e2:d'[i]! = d[m]!:=by rw [r.lo i (by omega) (by omega)];congr 1;omega
 have low:∀x,a≤x→x < i→key d[x]!≤key d[m]!:=fun x g1 g2=>by
  rcases hl with h | h
  ·omega
  ·have:=hs.le (i:=x) (j:=i - 1) g1 (by omega) (by omega);omega
 intro x y g1 g2 g3
 by_cases hx:x < i
 ·rw [r.out x (by omega)]
  by_cases hy:y < i
  ·rw [r.out y (by omega)];exact hs.le g1 (by omega) (by omega)
  ·by_cases hy2:y=i
   ·subst hy2;rw [e2];exact low x g1 hx
   ·rw [e1 y (by omega) g3];exact hs.le g1 (by omega) (by omega)
 ·rw [e1 y (by omega) g3]
  by_cases hx2:x=i
  ·subst hx2
   rw [e2]
   have:=cross (y - 1) m (by omega) (by omega) (by omega) (by omega)
   omega
  ·rw [e1 x (by omega) (by omega)];exact hs.le (by omega) (by omega) (by omega)
theorem mg_parts {a m b mid s e:Nat} {d d1:Array α} (hA:Srt key a m d) (hB:Srt key m b d) (ham:a < m) (hmb:m < b) (hmid:mid=(a+b) / 2) (he:e+s=mid+m)
  (s1:a≤s) (s2:s≤m) (s3:s≤mid) (e1:e≤b) (e2:m≤e)
  (hl:s=a∨e=b∨key d[s - 1]!≤key d[e]!) (hr:s=m∨e=m∨key d[e - 1]! < key d[s]!)
  (r:Rot s m e d d1):Srt key a s d1∧Srt key s mid d1∧∀d2,Mg key a mid d1 d2→Srt key mid e d2∧Srt key e b d2∧∀d3,Mg key mid b d2 d3→Mg key a b d d3:=by
 have cross:∀x y,s≤x→x < m→m≤y→y < e→key d[y]! < key d[x]!:=fun x y g1 g2 g3 g4=>by
  have u1:=hA.le (i:=s) (j:=x) (by omega) (by omega) g2
  have u2:=hB.le (i:=y) (j:=e - 1) g3 (by omega) (by omega)
  rcases hr with h | h | h <;> omega
 have low:∀x y,a≤x→x < s→e≤y→y < b→key d[x]!≤key d[y]!:=fun x y g1 g2 g3 g4=>by
  have u1:=hA.le (i:=x) (j:=s - 1) g1 (by omega) (by omega)
  have u2:=hB.le (i:=e) (j:=y) (by omega) g3 g4
  rcases hl with h | h | h <;> omega
 have st1:St key a b d d1:=(r.st s2 e2 cross).mono s1 (by omega) e1
 have f1:∀x,a≤x→x < s→d1[x]! = d[x]!:=fun x g1 g2=>r.out x (by omega)
 have f2:∀x,s≤x→x < mid→d1[x]! = d[x+(m - s)]!:=fun x g1 g2=>r.lo x g1 (by omega)
 have f3:∀x,mid≤x→x < e→d1[x]! = d[x - (e - m)]!:=fun x g1 g2=>r.hi x (by omega) g2
 have f4:∀x,e≤x→x < b→d1[x]! = d[x]!:=fun x g1 g2=>r.out x (by omega)
 have hme:mid≤e:=by omega
 refine ⟨(hA.mono (Nat.le_refl _) s2).congr f1,fun i j g1 g2 g3=>by
  rw [f2 i g1 (by omega),f2 j (by omega) g3];exact hB.le (by omega) (by omega) (by omega),fun d2 k2=>?_⟩
 obtain ⟨st2,so2⟩:=k2
 have g2':∀x,mid≤x→x < b→d2[x]! = d1[x]!:=fun x g1 _=>st2.out x (by omega)
 refine ⟨fun i j g1 g2 g3=>by
  rw [g2' i g1 (by omega),g2' j (by omega) (by omega),f3 i g1 (by omega),f3 j (by omega) g3];exact hA.le (by omega) (by omega) (by omega),
  fun i j g1 g2 g3=>by rw [g2' i (by omega) (by omega),g2' j (by omega) (by omega),f4 i g1 (by omega),f4 j (by omega) g3];exact hB.le (by omega) (by omega) (by omega),fun d3 k3=>?_⟩
 obtain ⟨st3,so3⟩:=k3
 refine ⟨st1.trans ((st2.mono (Nat.le_refl _) (by omega) (by omega)).trans (st3.mono (by omega) (by omega) (Nat.le_refl _))),?_⟩
 -- all of the first half lies below all of the second
 have c1:∀x y,a≤x→x < mid→mid≤y→y < b→key d1[x]!≤key d1[y]!:=fun x y h1 h2 h3 h4=>by
  by_cases hx:x < s
  ·rw [f1 x h1 hx]
   by_cases hy:y < e
   ·rw [f3 y h3 hy];exact hA.le h1 (by omega) (by omega)
   ·rw [f4 y (by omega) h4];exact low x y h1 hx (by omega) h4
  ·rw [f2 x (by omega) h2]
   by_cases hy:y < e
   ·rw [f3 y h3 hy]
    have:=cross (y - (e - m)) (x+(m - s)) (by omega) (by omega) (by omega) (by omega)
    omega
   ·rw [f4 y (by omega) h4];exact hB.le (by omega) (by omega) h4
 have c2:∀x,a≤x→x < mid→∀y,mid≤y→y < b→key d2[x]!≤key d1[y]! :=
  st2.all (p:=fun v=>∀y,mid≤y→y < b→key v≤key d1[y]!) fun x h1 h2 y h3 h4=>c1 x y h1 h2 h3 h4
 have c3:∀y,mid≤y→y < b→∀x,a≤x→x < mid→key d2[x]!≤key d3[y]! :=
  st3.all (p:=fun v=>∀x,a≤x→x < mid→key d2[x]!≤key v) fun y h3 h4 x h1 h2=>by rw [g2' y h3 h4];exact c2 x h1 h2 y h3 h4
 refine Srt.join (m:=mid) (so2.congr fun x h1 h2=>st3.out x (by omega)) so3 fun x y h1 h2 h3 h4=>?_
 rw [st3.out x (by omega)]
 exact c3 y h3 h4 x h1 h2
theorem mg_none {a b s:Nat} {d:Array α} (h1:Srt key a s d) (h2:Srt key s b d) (h:s≤a∨b≤s):Mg key a b d d:=by
 refine ⟨St.refl _ _ _,?_⟩
 rcases h with h | h
 ·exact h2.mono h (Nat.le_refl _)
 ·exact h1.mono (Nat.le_refl _) h
variable (key) in
def Bl (s lo n:Nat) (d:Array α):Prop:=∀x,s ∣ x→lo≤x→Srt key x (min (x+s) n) d
variable (key) in
def Bu (s hi:Nat) (d:Array α):Prop:=∀x,s ∣ x→x+s≤hi→Srt key x (x+s) d
theorem dvd_gap {s x a:Nat} (h1:s ∣ x) (h2:s ∣ a) (h3:x≤a) (h4:a < x+s):x=a:=by
 obtain ⟨u,rfl⟩:=h1
 obtain ⟨v,rfl⟩:=h2
 have:v < u+1:=Nat.lt_of_mul_lt_mul_left (a:=s) (by rw [Nat.mul_add];omega)
 rcases Nat.lt_or_ge v u with h | h
 ·have:s*(v+1)≤s*u:=Nat.mul_le_mul_left _ h
  rw [Nat.mul_add] at this;omega
 ·rw [show u=v from by omega]
theorem Bu.step {s a:Nat} {d d':Array α} (h:Bu key s a d) (ha:s ∣ a) (m:Mg key a (a+s) d d'):Bu key s (a+s) d':=fun x h1 h2=>by
 by_cases hx:x+s≤a
 ·exact (h x h1 hx).congr fun i g1 g2=>m.1.out i (by omega)
 ·obtain rfl:=dvd_gap h1 ha (by omega) (by omega)
  exact m.2
theorem Bl.step {s a b n:Nat} {d d':Array α} (h:Bl key s a n d) (m:Mg key a b d d') (hb:a≤b):Bl key s b n d':=fun x h1 h2 =>
 (h x h1 (by omega)).congr fun i g1 g2=>m.1.out i (by omega)
theorem Bu.done {s a n:Nat} {d d':Array α} (h:Bu key s a d) (ha:s ∣ a) (hn:n < a+s) (m:Mg key a n d d') (han:a≤n):Bl key s 0 n d':=fun x h1 _=>by
 by_cases hx:x+s≤a
 ·have:=(h x h1 hx).congr (d':=d') fun i g1 g2=>m.1.out i (by omega)
  exact this.mono (Nat.le_refl _) (Nat.min_le_left _ _)
 ·by_cases hxa:x≤a
  ·obtain rfl:=dvd_gap h1 ha hxa (by omega)
   exact m.2.mono (Nat.le_refl _) (Nat.min_le_right _ _)
  ·have:a+s≤x:=by
    obtain ⟨u,rfl⟩:=h1
    obtain ⟨v,rfl⟩:=ha
    have h1:v < u:=Nat.lt_of_mul_lt_mul_left (a:=s) (by omega)
    have:s*(v+1)≤s*u:=Nat.mul_le_mul_left _ h1
    rw [Nat.mul_add] at this;omega
   intro i j g1 g2 g3
   have:j < n:=by omega
   omega
theorem Bl.one {s n:Nat} {d:Array α} (h:Bl key s 0 n d) (hn:n≤s):Srt key 0 n d:=by
 have:=h 0 ⟨0,by simp⟩ (Nat.le_refl _)
 exact this.mono (Nat.le_refl _) (by omega)
theorem Bl.two {s a n:Nat} {d:Array α} (h:Bl key s a n d) (ha:s ∣ a) (h2:a+s≤n):Srt key a (a+s) d∧Srt key (a+s) (min (a+s+s) n) d :=
 ⟨(h a ha (Nat.le_refl _)).mono (Nat.le_refl _) (by omega),h (a+s) (Nat.dvd_add ha (Nat.dvd_refl s)) (by omega)⟩
end
section
variable {α:Type} {key:α→Int}
theorem stable_unique:∀(l m:List α),l.Pairwise (fun x y=>key x≤key y)→m.Pairwise (fun x y=>key x≤key y)→(∀c,same key c l=same key c m)→l=m
 | [],[],_,_,_=>rfl
 | [],y :: m,_,_,h=>by have:=h (key y);simp [same] at this
 | x :: l,[],_,_,h=>by have:=h (key x);simp [same] at this
 | x :: l,y :: m,h1,h2,h=>by
  have hxm:x∈y :: m:=by
   have:x∈same key (key x) (x :: l):=by simp [same]
   rw [h] at this;exact (List.mem_filter.1 this).1
  have hyl:y∈x :: l:=by
   have:y∈same key (key y) (y :: m):=by simp [same]
   rw [←h] at this;exact (List.mem_filter.1 this).1
  have k1:key x≤key y:=by
   rcases List.mem_cons.1 hyl with e | e
   ·rw [e];exact Int.le_refl _
   ·exact (List.pairwise_cons.1 h1).1 y e
  have k2:key y≤key x:=by
   rcases List.mem_cons.1 hxm with e | e
   ·rw [e];exact Int.le_refl _
   ·exact (List.pairwise_cons.1 h2).1 x e
  have k:key y=key x:=by omega
  have hh:=h (key x)
  simp only [same,List.filter_cons,beq_self_eq_true,if_true,k] at hh
  obtain ⟨rfl,hh⟩:=List.cons.inj hh
  congr 1
  refine stable_unique l m (List.pairwise_cons.1 h1).2 (List.pairwise_cons.1 h2).2 fun c=>?_
  have hc:=h c
  simp only [same,List.filter_cons] at hc
  simp only [same]
  split at hc
  ·exact (List.cons.inj hc).2
  ·exact hc
end
end Go.Proofs.YtdngaddggcmjgaaDoor.Norm
