/-
  Texts of stage 7, part 1.
-/

namespace Go.Proofs.YtegdbmbenjnacaaGreat.Utf
def need (c:Nat):Nat:=if c < 128 then 1 else if c < 194 then 0 else if c < 224 then 2 else if c < 240 then 3 else if c < 245 then 4 else 0
def lo (c:Nat):Nat:=if c=224 then 160 else if c=240 then 144 else 128
def hi (c:Nat):Nat:=if c=237 then 159 else if c=244 then 143 else 191
def run (k n a b:Nat):List UInt8→Nat
 | []=>k
 | c :: t=>if k < n∧a≤c.toNat∧c.toNat≤b then run (k+1) n 128 191 t else k
def wid:List UInt8→Nat
 | []=>0
 | c :: t=>run 1 (need c.toNat) (lo c.toNat) (hi c.toNat) t
def nd:List UInt8→Nat
 | []=>0
 | c :: _=>need c.toNat
def joinTo (r:Nat):List UInt8→Nat
 | []=>r
 | b :: t=>joinTo (r*64+b.toNat % 64) t
def lead (c n:Nat):Nat:=if n=1 then c else c % 2 ^ (7 - n)
def joined:List UInt8→Nat
 | []=>0
 | c :: t=>joinTo (lead c.toNat (t.length+1)) t
def rune (l:List UInt8):Nat:=if wid l=nd l then joined (l.take (wid l)) else 65533
def more (l:List UInt8):Bool:=decide (wid l < nd l) && decide (wid l=l.length)
structure Pt where
 r:Nat
 p:Nat
 w:Nat
 deriving DecidableEq
def decF:Nat→Bool→Nat→List UInt8→List Pt
 | 0,_,_,_=>[]
 | f+1,o,k,l=>if l.isEmpty || (o && more l) then [] else ⟨rune l,k,wid l⟩ :: decF f o (k+wid l) (l.drop (wid l))
def dec (o:Bool) (k:Nat) (l:List UInt8):List Pt:=decF l.length o k l
theorem run_ge (l:List UInt8):∀k n a b,k≤run k n a b l:=by
 induction l with
 | nil=>intro k n a b;exact Nat.le_refl _
 | cons c t ih =>
  intro k n a b
  unfold run
  split
  ·exact Nat.le_trans (Nat.le_succ k) (ih _ _ _ _)
  ·exact Nat.le_refl _
theorem run_le (l:List UInt8):∀k n a b,run k n a b l≤k+l.length:=by
 induction l with
 | nil=>intro k n a b;exact Nat.le_refl _
 | cons c t ih =>
  intro k n a b
  unfold run
  split
  ·have:=ih (k+1) n 128 191;simp only [List.length_cons];omega
  ·simp
theorem run_need (l:List UInt8):∀k n a b,k≤n→run k n a b l≤n:=by
 induction l with
 | nil=>intro k n a b h;exact h
 | cons c t ih =>
  intro k n a b h
  unfold run
  split
  ·exact ih _ _ _ _ (by omega)
  ·exact h
theorem run_zero (l:List UInt8) (k n a b:Nat) (h:n≤k):run k n a b l=k:=by
 cases l with
 | nil=>rfl
 | cons c t=>unfold run;rw [if_neg (by omega)]
theorem need_le (c:Nat):need c≤4:=by unfold need;repeat (split <;> try omega)
theorem wid_pos {l:List UInt8} (h:l≠[]):1≤wid l:=by
 cases l with
 | nil=>exact absurd rfl h
 | cons c t=>exact run_ge _ _ _ _ _
theorem wid_le (l:List UInt8):wid l≤l.length:=by
 cases l with
 | nil=>exact Nat.le_refl _
 | cons c t=>have:=run_le t 1 (need c.toNat) (lo c.toNat) (hi c.toNat);simp only [wid,List.length_cons];omega
theorem wid_four (l:List UInt8):wid l≤4:=by
 cases l with
 | nil=>simp [wid]
 | cons c t =>
  have:=need_le c.toNat
  simp only [wid]
  by_cases h:1≤need c.toNat
  ·have:=run_need t 1 _ (lo c.toNat) (hi c.toNat) h;omega
  ·rw [run_zero _ _ _ _ _ (by omega)];omega
theorem decF_nil (f:Nat) (o:Bool) (k:Nat):decF f o k []=[]:=by cases f <;> simp [decF]
theorem decF_fuel (f:Nat):∀(g:Nat) (o:Bool) (k:Nat) (l:List UInt8),l.length≤f→l.length≤g→decF f o k l=decF g o k l:=by
 induction f with
 | zero =>
  intro g o k l h _
  have:l=[]:=List.eq_nil_of_length_eq_zero (by omega)
  subst this
  rw [decF_nil,decF_nil]
 | succ f ih =>
  intro g o k l h1 h2
  cases l with
  | nil=>rw [decF_nil,decF_nil]
  | cons c t =>
   cases g with
   | zero=>simp at h2
   | succ g =>
    have hp:=wid_pos (l:=c :: t) (by simp)
    have hd:((c :: t).drop (wid (c :: t))).length≤t.length:=by simp only [List.length_drop,List.length_cons];omega
    simp only [List.length_cons] at h1 h2
    simp only [decF]
    rw [ih g o _ _ (by omega) (by omega)]
theorem dec_nil (o:Bool) (k:Nat):dec o k []=[]:=rfl
theorem dec_cons (o:Bool) (k:Nat) {l:List UInt8} (h:l≠[]) :
  dec o k l=if o && more l then [] else ⟨rune l,k,wid l⟩ :: dec o (k+wid l) (l.drop (wid l)):=by
 cases l with
 | nil=>exact absurd rfl h
 | cons c t =>
  have hp:=wid_pos h
  unfold dec
  simp only [List.length_cons,decF,List.isEmpty_cons,Bool.false_or]
  rw [decF_fuel t.length (List.length (List.drop (wid (c :: t)) (c :: t))) _ _ _ (by simp only [List.length_drop,List.length_cons];omega) (Nat.le_refl _)]
theorem dec_stop {k:Nat} {l:List UInt8} (h:l≠[]) (hm:more l=true):dec true k l=[]:=by rw [dec_cons true k h];simp [hm]
theorem dec_step (o:Bool) (k:Nat) {l:List UInt8} (h:l≠[]) (hm:(o && more l)=false) :
  dec o k l=⟨rune l,k,wid l⟩ :: dec o (k+wid l) (l.drop (wid l)):=by rw [dec_cons o k h];simp [hm]
def eatF:Nat→List UInt8→Nat
 | 0,_=>0
 | f+1,l=>if l.isEmpty || more l then 0 else wid l+eatF f (l.drop (wid l))
def eat (l:List UInt8):Nat:=eatF l.length l
theorem eatF_nil (f:Nat):eatF f []=0:=by cases f <;> simp [eatF]
theorem eatF_fuel (f:Nat):∀(g:Nat) (l:List UInt8),l.length≤f→l.length≤g→eatF f l=eatF g l:=by
 induction f with
 | zero =>
  intro g l h _
  have:l=[]:=List.eq_nil_of_length_eq_zero (by omega)
  subst this
  rw [eatF_nil,eatF_nil]
 | succ f ih =>
  intro g l h1 h2
  cases l with
  | nil=>rw [eatF_nil,eatF_nil]
  | cons c t =>
   cases g with
   | zero=>simp at h2
   | succ g =>
    have hp:=wid_pos (l:=c :: t) (by simp)
    have hd:((c :: t).drop (wid (c :: t))).length≤t.length:=by simp only [List.length_drop,List.length_cons];omega
    simp only [List.length_cons] at h1 h2
    simp only [eatF]
    rw [ih g _ (by omega) (by omega)]
theorem eat_nil:eat []=0:=rfl
theorem eat_cons {l:List UInt8} (h:l≠[]):eat l=if more l then 0 else wid l+eat (l.drop (wid l)):=by
 cases l with
 | nil=>exact absurd rfl h
 | cons c t =>
  have hp:=wid_pos h
  unfold eat
  simp only [List.length_cons,eatF,List.isEmpty_cons,Bool.false_or]
  rw [eatF_fuel t.length (List.length (List.drop (wid (c :: t)) (c :: t))) _ (by simp only [List.length_drop,List.length_cons];omega) (Nat.le_refl _)]
theorem eat_stop {l:List UInt8} (h:l≠[]) (hm:more l=true):eat l=0:=by rw [eat_cons h];simp [hm]
theorem eat_step {l:List UInt8} (h:l≠[]) (hm:more l=false):eat l=wid l+eat (l.drop (wid l)):=by rw [eat_cons h];simp [hm]
theorem pieces {P:List UInt8→Prop} (h0:P []) (hs:∀l,l≠[]→P (l.drop (wid l))→P l) (l:List UInt8):P l:=by
 have H:∀(n:Nat) (l:List UInt8),l.length≤n→P l:=by
  intro n
  induction n with
  | zero=>intro l h;have:l=[]:=List.eq_nil_of_length_eq_zero (by omega);subst this;exact h0
  | succ n ih =>
   intro l h
   by_cases hl:l=[]
   ·subst hl;exact h0
   ·have hp:=wid_pos hl
    exact hs l hl (ih _ (by rw [List.length_drop];omega))
 exact H l.length l (Nat.le_refl _)
theorem eat_le (l:List UInt8):eat l≤l.length:=by
 refine pieces (P:=fun l=>eat l≤l.length) (Nat.le_refl _) (fun l hl ih=>?_) l
 rw [eat_cons hl]
 split
 ·omega
 ·have:=wid_le l;rw [List.length_drop] at ih;omega
theorem rest_more (l:List UInt8):l.drop (eat l)=[]∨more (l.drop (eat l))=true:=by
 refine pieces (P:=fun l=>l.drop (eat l)=[]∨more (l.drop (eat l))=true) (.inl rfl) (fun l hl ih=>?_) l
 rw [eat_cons hl]
 by_cases hm:more l=true
 ·rw [if_pos hm];exact .inr hm
 ·rw [if_neg hm];simpa [List.drop_drop] using ih
theorem more_short {l:List UInt8} (h:more l=true):l.length≤3∧wid l=l.length∧wid l < nd l∧l≠[]:=by
 simp only [more,Bool.and_eq_true,decide_eq_true_eq] at h
 obtain ⟨h1,h2⟩:=h
 have hn:nd l≤4:=by cases l with
  | nil=>simp [nd]
  | cons c t=>exact need_le _
 refine ⟨by omega,h2,h1,?_⟩
 rintro rfl
 simp [nd] at h1
theorem rest_short (l:List UInt8):l.length - eat l≤3:=by
 rcases rest_more l with h | h
 ·have:=congrArg List.length h;simp only [List.length_drop,List.length_nil] at this;omega
 ·have:=(more_short h).1;simpa using this
theorem run_append (l m:List UInt8):∀k n a b,(n≤run k n a b l∨run k n a b l < k+l.length)→run k n a b (l++m)=run k n a b l:=by
 induction l with
 | nil =>
  intro k n a b h
  simp only [run,List.length_nil,Nat.add_zero,List.nil_append] at h ⊢
  exact run_zero _ _ _ _ _ (by omega)
 | cons c t ih =>
  intro k n a b h
  simp only [List.cons_append,run] at h ⊢
  split
  ·rename_i hc
   rw [if_pos hc] at h
   exact ih _ _ _ _ (by simp only [List.length_cons] at h;omega)
  ·rfl
theorem wid_append {l:List UInt8} (m:List UInt8) (h:l≠[]) (hm:more l=false):wid (l++m)=wid l:=by
 cases l with
 | nil=>exact absurd rfl h
 | cons c t =>
  have hw:¬(wid (c :: t) < nd (c :: t)∧wid (c :: t)=(c :: t).length):=by
   intro ⟨h1,h2⟩
   have ht:more (c :: t)=true:=by unfold more;rw [Bool.and_eq_true,decide_eq_true_eq,decide_eq_true_eq];exact ⟨h1,h2⟩
   rw [ht] at hm
   cases hm
  have hle:=wid_le (c :: t)
  simp only [wid,nd,List.cons_append,List.length_cons] at hw hle ⊢
  exact run_append _ _ _ _ _ _ (by omega)
theorem nd_append {l:List UInt8} (m:List UInt8) (h:l≠[]):nd (l++m)=nd l:=by
 cases l with
 | nil=>exact absurd rfl h
 | cons c t=>rfl
theorem rune_append {l:List UInt8} (m:List UInt8) (h:l≠[]) (hm:more l=false):rune (l++m)=rune l:=by
 unfold rune
 rw [wid_append m h hm,nd_append m h,List.take_append_of_le_length (wid_le l)]
theorem more_append {l:List UInt8} (m:List UInt8) (h:l≠[]) (hm:more l=false):more (l++m)=false:=by
 have hle:=wid_le l
 unfold more at hm ⊢
 rw [wid_append m h hm,nd_append m h]
 simp only [Bool.and_eq_false_iff,decide_eq_false_iff_not,List.length_append] at hm ⊢
 omega
theorem dec_append (o:Bool) (l m:List UInt8):∀k,dec o k (l++m)=dec true k l++dec o (k+eat l) (l.drop (eat l)++m):=by
 refine pieces (P:=fun l=>∀k,dec o k (l++m)=dec true k l++dec o (k+eat l) (l.drop (eat l)++m)) (fun k=>by simp [eat_nil,dec_nil]) (fun l hl ih k=>?_) l
 by_cases hm:more l=true
 ·rw [dec_stop hl hm,eat_stop hl hm];simp
 ·have hm:more l=false:=by simpa using hm
  have hne:l++m≠[]:=by simp [hl]
  rw [dec_step o k hne (by rw [more_append m hl hm];simp),dec_step true k hl (by simp [hm]),eat_step hl hm,wid_append m hl hm,rune_append m hl hm,
   List.drop_append_of_le_length (wid_le l),ih]
  simp [List.drop_drop,Nat.add_assoc]
theorem dec_close (k:Nat) (l:List UInt8) :
  dec false k l=dec true k l++(if l.length - eat l=0 then [] else [⟨65533,k+eat l,l.length - eat l⟩]):=by
 have h:=dec_append false l [] k
 rw [List.append_nil,List.append_nil] at h
 rw [h]
 congr 1
 rcases rest_more l with hr | hr
 ·have:l.length - eat l=0:=by have:=congrArg List.length hr;simpa using this
  rw [hr,if_pos this];rfl
 ·obtain ⟨h1,h2,h3,h4⟩:=more_short hr
  have hlen:(l.drop (eat l)).length=l.length - eat l:=List.length_drop
  have hp:l.length - eat l≠0:=by
   intro h0
   exact h4 (List.eq_nil_of_length_eq_zero (by omega))
  rw [if_neg hp,dec_step false _ h4 (by simp),h2,hlen]
  have hdrop:(l.drop (eat l)).drop (l.length - eat l)=[]:=List.drop_eq_nil_of_le (by omega)
  rw [hdrop,dec_nil]
  have:rune (l.drop (eat l))=65533:=by unfold rune;rw [if_neg (by omega)]
  rw [this]
theorem dec_len_le (o:Bool) (l:List UInt8):∀k,(dec o k l).length≤l.length:=by
 refine pieces (P:=fun l=>∀k,(dec o k l).length≤l.length) (fun k=>Nat.le_refl _) (fun l hl ih k=>?_) l
 rw [dec_cons o k hl]
 split
 ·simp
 ·have hp:=wid_pos hl
  have:=ih (k+wid l)
  have hw:=wid_le l
  simp only [List.length_cons]
  rw [List.length_drop] at this
  omega
theorem joinTo_lt (t:List UInt8):∀r B,r < B→joinTo r t < B*64 ^ t.length:=by
 induction t with
 | nil=>intro r B h;simpa [joinTo] using h
 | cons c t ih =>
  intro r B h
  have hc:c.toNat % 64 < 64:=Nat.mod_lt _ (by omega)
  have:=ih (r*64+c.toNat % 64) (B*64) (by omega)
  simp only [joinTo,List.length_cons]
  have e:B*64 ^ (t.length+1)=B*64*64 ^ t.length:=by rw [Nat.pow_succ];simp only [Nat.mul_assoc,Nat.mul_comm]
  rw [e];exact this
theorem rune_lt (l:List UInt8):rune l < 2097152:=by
 unfold rune
 split
 ·rename_i hw
  have h4:=wid_four l
  cases l with
  | nil=>simp [joined,wid]
  | cons c t =>
   have hp:=wid_pos (l:=c :: t) (by simp)
   have hle:=wid_le (c :: t)
   obtain ⟨n,hn⟩:∃n,wid (c :: t)=n+1:=⟨wid (c :: t) - 1,by omega⟩
   have hc:=c.toNat_lt
   simp only [hn,List.length_cons] at hle h4
   rw [hn,List.take_succ_cons]
   simp only [joined]
   have hl:(t.take n).length=n:=by rw [List.length_take];omega
   rw [hl]
   have hb:lead c.toNat (n+1) < (if n=0 then 256 else 2 ^ (7 - (n+1))):=by
    unfold lead
    by_cases h0:n=0
    ·subst h0;simpa using hc
    ·rw [if_neg (by omega),if_neg h0];exact Nat.mod_lt _ (Nat.pow_pos (by omega))
   have:=joinTo_lt (t.take n) _ _ hb
   rw [hl] at this
   have hcase:n=0∨n=1∨n=2∨n=3:=by omega
   rcases hcase with rfl | rfl | rfl | rfl <;> simp at this ⊢ <;> omega
 ·omega
end Go.Proofs.YtegdbmbenjnacaaGreat.Utf
namespace Go.Proofs.YtegdbmbenjnacaaGreat.Rset
abbrev Rg:=Int × Int
def inR (x:Int):Bool:=decide (0≤x) && decide (x≤1114111)
def inn (r:Rg) (x:Int):Bool:=decide (r.1≤x) && decide (x≤r.2)
def anyIn (l:List Rg) (x:Int):Bool:=l.any fun r=>inn r x
def has (l:List Rg) (x:Int):Bool:=inR x && anyIn l x
theorem inR_iff {x:Int}:inR x=true↔0≤x∧x≤1114111:=by simp [inR]
theorem inn_iff {r:Rg} {x:Int}:inn r x=true↔r.1≤x∧x≤r.2:=by simp [inn]
theorem anyIn_iff {l:List Rg} {x:Int}:anyIn l x=true↔∃r∈l,r.1≤x∧x≤r.2:=by
 simp only [anyIn,List.any_eq_true,inn_iff]
theorem anyIn_nil (x:Int):anyIn [] x=false:=rfl
theorem anyIn_cons (r:Rg) (t:List Rg) (x:Int):anyIn (r :: t) x=(inn r x || anyIn t x):=rfl
theorem anyIn_append (l m:List Rg) (x:Int):anyIn (l++m) x=(anyIn l x || anyIn m x):=by simp [anyIn]
theorem anyIn_one (r:Rg) (x:Int):anyIn [r] x=inn r x:=by simp [anyIn]
theorem has_out {l:List Rg} {x:Int} (h:inR x=false):has l x=false:=by unfold has;rw [h];rfl
theorem has_nil (x:Int):has [] x=false:=by unfold has;rw [anyIn_nil,Bool.and_false]
theorem anyIn_perm {l m:List Rg} (h:l.Perm m) (x:Int):anyIn l x=anyIn m x:=by
 rw [Bool.eq_iff_iff,anyIn_iff,anyIn_iff]
 exact ⟨fun ⟨r,hr,h1⟩=>⟨r,h.mem_iff.1 hr,h1⟩,fun ⟨r,hr,h1⟩=>⟨r,h.mem_iff.2 hr,h1⟩⟩
structure Nm (l:List Rg):Prop where
 ok:∀r∈l,0≤r.1∧r.1≤r.2∧r.2≤1114111
 gap:l.Pairwise fun r s=>r.2+2≤s.1
theorem Nm.nil:Nm []:=⟨by simp,List.Pairwise.nil⟩
theorem Nm.tail {r:Rg} {t:List Rg} (h:Nm (r :: t)):Nm t:=⟨fun s hs=>h.ok s (List.mem_cons_of_mem _ hs),(List.pairwise_cons.1 h.gap).2⟩
theorem Nm.hd {r:Rg} {t:List Rg} (h:Nm (r :: t)):0≤r.1∧r.1≤r.2∧r.2≤1114111:=h.ok r (List.mem_cons_self ..)
theorem Nm.next {r:Rg} {t:List Rg} (h:Nm (r :: t)):∀s∈t,r.2+2≤s.1:=(List.pairwise_cons.1 h.gap).1
theorem Nm.cons {r:Rg} {t:List Rg} (h0:0≤r.1∧r.1≤r.2∧r.2≤1114111) (h1:∀s∈t,r.2+2≤s.1) (ht:Nm t):Nm (r :: t) :=
 ⟨fun s hs=>by rcases List.mem_cons.1 hs with rfl | hs;exact h0;exact ht.ok s hs,List.pairwise_cons.2 ⟨h1,ht.gap⟩⟩
theorem Nm.has {l:List Rg} (h:Nm l) (x:Int):has l x=anyIn l x:=by
 unfold Rset.has
 by_cases hx:anyIn l x=true
 ·obtain ⟨r,hr,h1,h2⟩:=anyIn_iff.1 hx
  have:=h.ok r hr
  rw [hx,inR_iff.2 ⟨by omega,by omega⟩];rfl
 ·rw [Bool.eq_false_iff.2 hx,Bool.and_false]
theorem nm_uniq:∀(l m:List Rg),Nm l→Nm m→(∀x,anyIn l x=anyIn m x)→l=m:=by
 intro l
 induction l with
 | nil =>
  intro m _ hm h
  cases m with
  | nil=>rfl
  | cons s u =>
   have:=h s.1
   have h2:=hm.hd
   rw [anyIn_nil,anyIn_cons,inn_iff.2 ⟨Int.le_refl _,h2.2.1⟩,Bool.true_or] at this
   cases this
 | cons r t ih =>
  intro m hl hm h
  cases m with
  | nil =>
   have:=h r.1
   have h2:=hl.hd
   rw [anyIn_nil,anyIn_cons,inn_iff.2 ⟨Int.le_refl _,h2.2.1⟩,Bool.true_or] at this
   cases this
  | cons s u =>
   have rh:=hl.hd
   have sh:=hm.hd
   have low:∀{r:Rg} {t:List Rg},Nm (r :: t)→∀x,anyIn (r :: t) x=true→r.1≤x∧(x≤r.2∨r.2+2≤x):=by
    intro r t hl x hx
    rw [anyIn_cons,Bool.or_eq_true,inn_iff,anyIn_iff] at hx
    rcases hx with hx | ⟨q,hq,h1,h2⟩
    ·exact ⟨hx.1,.inl hx.2⟩
    ·have:=hl.next q hq;have:=hl.hd;exact ⟨by omega,.inr (by omega)⟩
   have self:∀{r:Rg} {t:List Rg} (x:Int),r.1≤x→x≤r.2→anyIn (r :: t) x=true:=fun x h1 h2=>by
    rw [anyIn_cons,inn_iff.2 ⟨h1,h2⟩,Bool.true_or]
   have e1:r.1=s.1:=by
    have a:=(low hm r.1 ((h _).symm.trans (self _ (Int.le_refl _) rh.2.1))).1
    have b:=(low hl s.1 ((h _).trans (self _ (Int.le_refl _) sh.2.1))).1
    omega
   have e2:r.2=s.2:=by
    rcases Int.lt_trichotomy r.2 s.2 with hlt | he | hgt
    ·have:=(low hl (r.2+1) ((h _).trans (self _ (by omega) (by omega)))).2;omega
    ·exact he
    ·have:=(low hm (s.2+1) ((h _).symm.trans (self _ (by omega) (by omega)))).2;omega
   have e:r=s:=Prod.ext e1 e2
   subst e
   rw [ih u hl.tail hm.tail fun x=>?_]
   by_cases hx:inn r x=true
   ·have hx':=inn_iff.1 hx
    have no:∀{v:List Rg},Nm (r :: v)→anyIn v x=false:=fun {v} hv=>by
     rw [Bool.eq_false_iff]
     intro hc
     obtain ⟨q,hq,h1,_⟩:=anyIn_iff.1 hc
     have:=hv.next q hq
     omega
    rw [no hl,no hm]
   ·have:=h x
    rwa [anyIn_cons,anyIn_cons,Bool.eq_false_iff.2 hx,Bool.false_or,Bool.false_or] at this
def joinF (l:List Rg) (x:Rg):List Rg :=
 match l.getLast? with
 | none=>[x]
 | some r=>if r.2+1=x.1 then l.dropLast++[(r.1,x.2)] else l++[x]
theorem joinF_nil (x:Rg):joinF [] x=[x]:=rfl
theorem joinF_snoc (l:List Rg) (r x:Rg):joinF (l++[r]) x=if r.2+1=x.1 then l++[(r.1,x.2)] else l++[r]++[x]:=by
 unfold joinF;rw [List.getLast?_concat,List.dropLast_concat]
theorem nil_or_snoc {α:Type} (l:List α):l=[]∨∃i r,l=i++[r]:=by
 rcases List.eq_nil_or_concat l with h | ⟨i,r,h⟩
 ·exact .inl h
 ·exact .inr ⟨i,r,by rw [h,List.concat_eq_append]⟩
theorem joinF_ok {l:List Rg} {x:Rg} (hl:Nm l) (hb:∀r∈l,r.2 < x.1) (hx:0≤x.1∧x.1≤x.2∧x.2≤1114111) :
  Nm (joinF l x)∧(∀r∈joinF l x,r.2≤x.2)∧∀y,anyIn (joinF l x) y=(anyIn l y || inn x y):=by
 rcases nil_or_snoc l with rfl | ⟨i,r,rfl⟩
 ·rw [joinF_nil]
  refine ⟨Nm.cons hx (by simp) Nm.nil,by simp,fun y=>?_⟩
  rw [anyIn_one,anyIn_nil,Bool.false_or]
 ·rw [joinF_snoc]
  have hr:=hl.ok r (by simp)
  have hrx:=hb r (by simp)
  have hp:=List.pairwise_append.1 hl.gap
  have hir:∀q∈i,q.2+2≤r.1:=fun q hq=>hp.2.2 q hq r (by simp)
  by_cases h:r.2+1=x.1
  ·rw [if_pos h]
   refine ⟨⟨fun q hq=>?_,?_⟩,fun q hq=>?_,fun y=>?_⟩
   ·rcases List.mem_append.1 hq with hq | hq
    ·exact hl.ok q (List.mem_append_left _ hq)
    ·rw [List.mem_singleton.1 hq];exact ⟨hr.1,by simp only [];omega,hx.2.2⟩
   ·exact List.pairwise_append.2 ⟨hp.1,List.pairwise_singleton _ _,fun q hq s hs=>by rw [List.mem_singleton.1 hs];exact hir q hq⟩
   ·rcases List.mem_append.1 hq with hq | hq
    ·have:=hir q hq;omega
    ·rw [List.mem_singleton.1 hq];exact Int.le_refl _
   ·rw [anyIn_append,anyIn_append,anyIn_one,anyIn_one,Bool.or_assoc]
    congr 1
    rw [Bool.eq_iff_iff,Bool.or_eq_true,inn_iff,inn_iff,inn_iff]
    simp only []
    omega
  ·rw [if_neg h]
   refine ⟨⟨fun q hq=>?_,?_⟩,fun q hq=>?_,fun y=>?_⟩
   ·rcases List.mem_append.1 hq with hq | hq
    ·exact hl.ok q hq
    ·rw [List.mem_singleton.1 hq];exact hx
   ·refine List.pairwise_append.2 ⟨hl.gap,List.pairwise_singleton _ _,fun q hq s hs=>?_⟩
    rw [List.mem_singleton.1 hs]
    rcases List.mem_append.1 hq with hq | hq
    ·have:=hir q hq;omega
    ·rw [List.mem_singleton.1 hq];omega
   ·rcases List.mem_append.1 hq with hq | hq
    ·have:=hb q hq;omega
    ·rw [List.mem_singleton.1 hq];exact Int.le_refl _
   ·rw [anyIn_append _ [x],anyIn_one]
theorem nl_ex_upto (p:Int→Bool) (n:Nat) (hn:n≤1114112):∃l,Nm l∧(∀r∈l,r.2 < n)∧∀x,anyIn l x=(decide (0≤x) && decide (x < n) && p x):=by
 induction n with
 | zero =>
  refine ⟨[],Nm.nil,by simp,fun x=>?_⟩
  rw [anyIn_nil]
  have:(decide (0≤x) && decide (x < ((0:Nat):Int)))=false:=by
   rw [Bool.eq_false_iff,Ne,Bool.and_eq_true,decide_eq_true_eq,decide_eq_true_eq];omega
  rw [this];rfl
 | succ n ih =>
  obtain ⟨l,h1,h2,h3⟩:=ih (by omega)
  by_cases hp:p n=true
  ·obtain ⟨k1,k2,k3⟩:=joinF_ok (x:=((n:Int),(n:Int))) h1 (fun r hr=>h2 r hr) ⟨by simp only [];omega,Int.le_refl _,by simp only [];omega⟩
   refine ⟨_,k1,fun r hr=>by have:=k2 r hr;simp only [] at this;omega,fun x=>?_⟩
   rw [k3,h3]
   by_cases hx:x=n
   ·subst hx;rw [hp,inn_iff.2 ⟨Int.le_refl _,Int.le_refl _⟩,Bool.or_true]
    symm;rw [Bool.and_true,Bool.and_eq_true,decide_eq_true_eq,decide_eq_true_eq];omega
   ·have e:inn ((n:Int),(n:Int)) x=false:=by rw [Bool.eq_false_iff,Ne,inn_iff];simp only [];omega
    rw [e,Bool.or_false]
    congr 2
    rw [decide_eq_decide];omega
  ·refine ⟨l,h1,fun r hr=>by have:=h2 r hr;omega,fun x=>?_⟩
   rw [h3]
   by_cases hx:x=n
   ·subst hx;rw [Bool.eq_false_iff.2 hp,Bool.and_false,Bool.and_false]
   ·congr 2
    rw [decide_eq_decide];omega
theorem nl_ex (p:Int→Bool):∃l,Nm l∧∀x,anyIn l x=(inR x && p x):=by
 obtain ⟨l,h1,_,h3⟩:=nl_ex_upto p 1114112 (Nat.le_refl _)
 refine ⟨l,h1,fun x=>?_⟩
 rw [h3]
 unfold inR
 congr 2
 rw [decide_eq_decide];omega
noncomputable def nl (p:Int→Bool):List Rg:=Classical.choose (nl_ex p)
theorem nl_nm (p:Int→Bool):Nm (nl p):=(Classical.choose_spec (nl_ex p)).1
theorem nl_has (p:Int→Bool) (x:Int):has (nl p) x=(inR x && p x):=(nl_nm p).has x |>.trans ((Classical.choose_spec (nl_ex p)).2 x)
theorem nl_of {l:List Rg} {p:Int→Bool} (hl:Nm l) (h:∀x,inR x=true→has l x=p x):l=nl p:=by
 refine nm_uniq _ _ hl (nl_nm p) fun x=>?_
 rw [←hl.has,←(nl_nm p).has,nl_has]
 by_cases hx:inR x=true
 ·rw [h x hx,hx,Bool.true_and]
 ·rw [Bool.eq_false_iff.2 hx,has_out (Bool.eq_false_iff.2 hx),Bool.false_and]
noncomputable def norm (l:List Rg):List Rg:=nl (has l)
noncomputable def meet (a b:List Rg):List Rg:=nl fun x=>has a x && has b x
noncomputable def compl (l:List Rg):List Rg:=nl fun x=>!has l x
theorem norm_nm (l:List Rg):Nm (norm l):=nl_nm _
theorem norm_has (l:List Rg) (x:Int):has (norm l) x=has l x:=by
 unfold norm;rw [nl_has];unfold has;rw [←Bool.and_assoc,Bool.and_self]
theorem norm_id {l:List Rg} (h:Nm l):norm l=l:=(nl_of h fun _ _=>rfl).symm
theorem norm_iff (l:List Rg):norm l=l↔Nm l:=⟨fun h=>h ▸ norm_nm l,norm_id⟩
theorem compl_has (l:List Rg) (x:Int):has (compl l) x=(inR x && !has l x):=by unfold compl;rw [nl_has]
theorem nm_len_from:∀(l:List Rg) (c:Int),Nm l→(∀r∈l,c≤r.1)→c≤1114113→c+2*l.length≤1114113:=by
 intro l
 induction l with
 | nil=>intro c _ _ h;simpa using h
 | cons r t ih =>
  intro c hl hc _
  have h1:=hl.hd
  have h2:=hc r (List.mem_cons_self ..)
  have:=ih (r.2+2) hl.tail (fun s hs=>hl.next s hs) (by omega)
  rw [List.length_cons]
  omega
theorem nm_len {l:List Rg} (h:Nm l):l.length≤557056:=by
 have:=nm_len_from l 0 h (fun r hr=>(h.ok r hr).1) (by omega)
 omega
def num (n:Nat) (p:Int→Bool):Nat:=(List.range n).countP fun k:Nat=>p (k:Int)
end Go.Proofs.YtegdbmbenjnacaaGreat.Rset
namespace Go.Proofs.YtegdbmbenjnacaaGreat.Rset
def clip (r:Rg):List Rg:=if max r.1 0≤min r.2 1114111 then [(max r.1 0,min r.2 1114111)] else []
def clipF (l:List Rg):List Rg:=l.flatMap clip
def Val (r:Rg):Prop:=0≤r.1∧r.1≤r.2∧r.2≤1114111
theorem clip_ok (r:Rg):∀q∈clip r,Val q:=by
 intro q hq
 unfold clip at hq
 split at hq
 ·rw [List.mem_singleton.1 hq];unfold Val;simp only [];omega
 ·simp at hq
theorem clip_anyIn (r:Rg) (x:Int):anyIn (clip r) x=(inR x && inn r x):=by
 rw [Bool.eq_iff_iff,Bool.and_eq_true,inR_iff,inn_iff]
 unfold clip
 split
 ·rw [anyIn_one,inn_iff];simp only [];omega
 ·rw [anyIn_nil];simp only [Bool.false_eq_true,false_iff];omega
theorem clip_len (r:Rg):(clip r).length≤1:=by unfold clip;split <;> simp
theorem clipF_ok (l:List Rg):∀q∈clipF l,Val q:=by
 intro q hq
 obtain ⟨r,_,h⟩:=List.mem_flatMap.1 hq
 exact clip_ok r q h
theorem clipF_cons (r:Rg) (t:List Rg):clipF (r :: t)=clip r++clipF t:=rfl
theorem clipF_anyIn (l:List Rg) (x:Int):anyIn (clipF l) x=has l x:=by
 induction l with
 | nil=>rw [has_nil];rfl
 | cons r t ih =>
  rw [clipF_cons,anyIn_append,ih,clip_anyIn]
  unfold has
  rw [anyIn_cons,Bool.and_or_distrib_left]
theorem clipF_len (l:List Rg):(clipF l).length≤l.length:=by
 induction l with
 | nil=>exact Nat.le_refl _
 | cons r t ih=>have:=clip_len r;rw [clipF_cons,List.length_append,List.length_cons];omega
theorem clipF_take (l:List Rg) (k:Nat) (hk:k < l.length):clipF (l.take (k+1))=clipF (l.take k)++clip l[k]:=by
 rw [List.take_succ_eq_append_getElem hk];unfold clipF;rw [List.flatMap_append,List.flatMap_singleton]
def Asc (l:List Rg):Prop:=l.Pairwise fun r s=>r.1≤s.1
def mg (x:Rg):List Rg→List Rg
 | []=>[x]
 | s :: t=>if s.1≤x.2+1 then mg (x.1,max x.2 s.2) t else x :: mg s t
def mgs:List Rg→List Rg
 | []=>[]
 | x :: t=>mg x t
theorem mg_ok:∀(t:List Rg) (x:Rg),Val x→(∀s∈t,Val s∧x.1≤s.1)→Asc t→Nm (mg x t)∧(∀r∈mg x t,x.1≤r.1)∧∀y,anyIn (mg x t) y=(inn x y || anyIn t y):=by
 intro t
 induction t with
 | nil =>
  intro x hx _ _
  refine ⟨Nm.cons hx (by simp) Nm.nil,by simp [mg],fun y=>?_⟩
  rw [anyIn_nil,Bool.or_false];exact anyIn_one x y
 | cons s t ih =>
  intro x hx hs ha
  obtain ⟨vs,ls⟩:=hs s (List.mem_cons_self ..)
  have ha':=List.pairwise_cons.1 ha
  unfold mg
  unfold Val at hx vs
  by_cases h:s.1≤x.2+1
  ·rw [if_pos h]
   obtain ⟨h1,h2,h3⟩:=ih (x.1,max x.2 s.2) (by unfold Val;simp only [];omega) (fun q hq=>⟨(hs q (List.mem_cons_of_mem _ hq)).1,(hs q (List.mem_cons_of_mem _ hq)).2⟩) ha'.2
   refine ⟨h1,h2,fun y=>?_⟩
   rw [h3,anyIn_cons,←Bool.or_assoc]
   congr 1
   rw [Bool.eq_iff_iff,Bool.or_eq_true,inn_iff,inn_iff,inn_iff]
   simp only []
   omega
  ·rw [if_neg h]
   obtain ⟨h1,h2,h3⟩:=ih s vs (fun q hq=>⟨(hs q (List.mem_cons_of_mem _ hq)).1,ha'.1 q hq⟩) ha'.2
   refine ⟨Nm.cons hx (fun q hq=>by have:=h2 q hq;omega) h1,fun q hq=>?_,fun y=>?_⟩
   ·rcases List.mem_cons.1 hq with rfl | hq
    ·exact Int.le_refl _
    ·have:=h2 q hq;omega
   ·rw [anyIn_cons,h3,anyIn_cons]
theorem mgs_norm {l s:List Rg} (hp:s.Perm (clipF l)) (ha:Asc s):mgs s=norm l:=by
 have hv:∀q∈s,Val q:=fun q hq=>clipF_ok l q (hp.mem_iff.1 hq)
 have hh:∀x,anyIn s x=has l x:=fun x=>by rw [anyIn_perm hp,clipF_anyIn]
 refine nl_of ?_ fun x _=>?_
 ·cases s with
  | nil=>exact Nm.nil
  | cons x t =>
   have ha':=List.pairwise_cons.1 ha
   exact (mg_ok t x (hv x (List.mem_cons_self ..)) (fun q hq=>⟨hv q (List.mem_cons_of_mem _ hq),ha'.1 q hq⟩) ha'.2).1
 ·rw [←hh x]
  cases s with
  | nil=>exact has_nil x
  | cons y t =>
   have ha':=List.pairwise_cons.1 ha
   obtain ⟨h1,_,h3⟩:=mg_ok t y (hv y (List.mem_cons_self ..)) (fun q hq=>⟨hv q (List.mem_cons_of_mem _ hq),ha'.1 q hq⟩) ha'.2
   show has (mg y t) x=_
   rw [h1.has,h3,anyIn_cons]
structure St where
 L:List Rg
 fr:Int
 h0:Int
 h1:Int
end Go.Proofs.YtegdbmbenjnacaaGreat.Rset
