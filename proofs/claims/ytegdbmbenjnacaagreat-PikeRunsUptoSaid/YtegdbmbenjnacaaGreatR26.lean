/-
  Texts of stage 7, part 26.
-/
import Derived.Test.YtegdbmbenjnacaaGreatR3
import Derived.Test.YtegdbmbenjnacaaGreatR7
import Derived.Test.YtegdbmbenjnacaaGreatR25
namespace Go.Proofs.YtegdbmbenjnacaaGreat.Norm
open Go.Shelf Go.RowKit Go.Sort
open Utf hiding infoI32 rd_new own_form rdec_any below_drewN new_any write_any close_any
open Ucd hiding grow
def runesF (l:List UInt8):List Int:=(dec false 0 l).map fun q=>(q.r:Int)
set_option maxHeartbeats 4000000 in
set_option maxRecDepth 100000 in
theorem rrunes_any (A:Option Addr) (l:List UInt8) (m c:Nat) (w:World) (hr:Rd w w.heap.size A (bys l)) (hm:l.length=m) (hb:m≤34359738368) :
  Calls Tryz.prog 80 #[.slice A m c] w (Mine w.heap.size w (runesF l)):=by
 obtain ⟨i0,hi,hz0,hz1,hz2⟩:=info_parts infoI32
 have HD:=Lib.hid (Utf.rdec_any A l m c false w hr hm (by omega))
 have hl:=dec_len_le false l 0
 rw [hm] at hl
 have HE:=Lib.hid (show runesF l=(dec false 0 l).map fun q=>(q.r:Int) from rfl)
 generalize dec false 0 l=ps at HD HE hl
 obtain ⟨B0,hB0⟩:∃B0,B0=w.heap.size:=⟨_,rfl⟩
 have HB0:=Lib.hid hB0
 rw [HE.out,←hB0]
 clear hr hm hB0
 go_enter Tryz.func80,Tryz.ntmps80
 go_wp2_with fail
 refine HD.out.mono ?_
 rintro e w1 ⟨v,rfl,ho,hb1⟩
 rw [←HB0.out] at ho hb1
 obtain ⟨A1,c1,rfl,_,_,hr1⟩:=own_form ho
 have HR1:=Lib.hid hr1
 have HB1:=Lib.hid hb1
 obtain ⟨n,hn⟩:∃n,n=ps.length:=⟨_,rfl⟩
 rw [←hn] at hl ⊢
 have HN:=Lib.hid hn
 have HW1:=Lib.hid (show B0≤w1.heap.size by have:=hb1.size;have:=HB0.out;omega)
 clear ho hb1 hr1 hn HD
 go_wp2_with fail
 go_loopw [3,5] (fun vo i wr=>∃k:Nat,k≤n∧i=.int .i64 k∧Hid (wr.ownsRow w1.heap.size 21 1 vo ((ps.take k).map fun q=>(q.r:Int)).length (nums ((ps.take k).map fun q=>(q.r:Int))))∧Hid (Below w1.heap.size w1 wr)) (fun _ i _=>n - (intOf i).toNat)
 case atStart=>exact ⟨0,Nat.zero_le _,rfl,Lib.hid (World.ownsRow_nil _ _ _ _),Lib.hid (Below.refl _ _)⟩
 case round =>
  obtain ⟨k,hk,rfl,HO,HB⟩:=hrel
  by_cases hlt:k < n
  ·have hkl:k < ps.length:=by rw [←HN.out];exact hlt
   obtain ⟨b,o,rfl,hbl⟩:=HR1.out.form (by rw [pts_len];omega)
   obtain ⟨p1,p2,p3⟩:=(HR1.out.below HB.out).pt hkl
   clear p2 p3
   have HT:=Lib.hid (show (ps.take (k+1)).map (fun q=>(q.r:Int))=(ps.take k).map (fun q=>(q.r:Int))++[(ps[k].r:Int)] by rw [List.take_succ_eq_append_getElem hkl,List.map_append];rfl)
   have hlen:((ps.take k).map fun q=>(q.r:Int)).length=k:=by rw [List.length_map,List.length_take];omega
   generalize (ps.take k).map (fun q=>(q.r:Int))=L at HO HT hlen
   have hbw:=HB.out.size
   rw [hlen] at HO
   have HLN:=Lib.hid hlen
   obtain ⟨x,hx⟩:∃x:Int,x=(ps[k].r:Int):=⟨_,rfl⟩
   rw [←hx] at p1 HT
   have hbk:k≤34359738368:=by omega
   clear hkl hx hlen hbl
   go_wp2_with (at_builtin;refine wpList_append_rd _ rfl (.tmp 14) (.tmp 20) _ rfl w1.heap.size 21 i0 _ 1 4 Tryz.underlying143 hi hz0 hz1 hz2 rfl (by decide) u3 k (nums L) rfl (HO.out.alloc _) _ (some ⟨wr.heap.size,0,none⟩) 1 1 [.int .i32 x] rfl rfl (rd_new _ _ [.int .i32 x] _ (by simp)) (nums_one [x]) (by unfold maxLen;omega) (by omega) (by simp;omega) ?_;intro v6 w6 hown6 hgr6 _)
   have HO6:=Lib.hid (show w6.ownsRow w1.heap.size 21 1 v6 ((ps.take (k+1)).map fun q=>(q.r:Int)).length (nums ((ps.take (k+1)).map fun q=>(q.r:Int))) by
    rw [HT.out,List.length_append,HLN.out,nums_append];exact hown6)
   have HB6:=Lib.hid ((HB.out.alloc hbw _).grown hgr6 (by simp;omega) (fun g hg=>(HO.out.lt g hg).1))
   clear hown6 hgr6 HO HT
   go_roundw
   case rel=>exact ⟨k+1,by omega,by go_num,HO6,HB6⟩
   case measure=>simp [intOf];omega
  ·have HXT:=Lib.hid (show ps.take k=ps by rw [List.take_of_length_le (by rw [←HN.out];omega)])
   rw [HXT.out] at HO
   go_wp2
   go_ret
   exact ⟨u3,rfl,own_mono HO.out HW1.out,HB1.out.trans (HB.out.mono HW1.out)⟩
theorem rd_str (w:World) (s:ByteArray) (cap:Nat) (t:TypeId) (fr:Nat × Nat) (u:World) (hu:u=w.drew.alloc (.cells (bytesRow s cap) t fr)):Rd u u.heap.size (some ⟨w.heap.size,0,none⟩) (bys s.data.toList)∧Below w.heap.size w u:=by
 subst hu
 refine ⟨fun _=>⟨w.heap.size,0,rfl,by simp,fun j v hv=>?_⟩,(Below.refl _ _).drew.alloc (Nat.le_refl _) _⟩
 have hj:j < s.data.size:=by
  have:=(List.getElem?_eq_some_iff.1 hv).1
  simpa [bys] using this
 rw [cell_of_row (w.drew.alloc (.cells (bytesRow s cap) t fr)) w.heap.size (0+j) _ t fr (heap_alloc_new w.drew _)]
 rw [←hv,Nat.zero_add,bytesRow,Array.getElem?_append_left (by simpa using hj)]
 simp [bys]
end Go.Proofs.YtegdbmbenjnacaaGreat.Norm
namespace Go.Proofs.YtegdbmbenjnacaaGreat.Seg
open Utf Norm
open Ucd
section generic
variable {α β:Type} (op:α→Bool)
def gstep (s:List (List α) × List α) (q:α):List (List α) × List α:=if op q && !s.2.isEmpty then (s.1++[s.2],[q]) else (s.1,s.2++[q])
def gfold (s:List (List α) × List α) (ps:List α):List (List α) × List α:=ps.foldl (gstep op) s
def shut (s:List (List α) × List α):List (List α):=if s.2.isEmpty then s.1 else s.1++[s.2]
def cuts (ps:List α):List (List α):=shut (gfold op ([],[]) ps)
theorem gfold_nil (s:List (List α) × List α):gfold op s []=s:=rfl
theorem gfold_cons (s:List (List α) × List α) (q:α) (t:List α):gfold op s (q :: t)=gfold op (gstep op s q) t:=rfl
theorem gfold_append (s:List (List α) × List α) (a b:List α):gfold op s (a++b)=gfold op (gfold op s a) b:=List.foldl_append
theorem gfold_snoc (s:List (List α) × List α) (a:List α) (q:α):gfold op s (a++[q])=gstep op (gfold op s a) q:=by rw [gfold_append];rfl
theorem gstep_new {T:List (List α)} {O:List α} {q:α} (h:op q=true) (hO:O≠[]):gstep op (T,O) q=(T++[O],[q]):=by
 have:O.isEmpty=false:=by simpa using hO
 simp [gstep,h,this]
theorem gstep_on {T:List (List α)} {O:List α} {q:α} (h:op q=false∨O=[]):gstep op (T,O) q=(T,O++[q]):=by
 rcases h with h | h
 ·simp [gstep,h]
 ·simp [gstep,h]
theorem gstep_ne (s:List (List α) × List α) (q:α):(gstep op s q).2≠[]:=by unfold gstep;split <;> simp
theorem gstep_flat (s:List (List α) × List α) (q:α):(gstep op s q).1.flatten++(gstep op s q).2=s.1.flatten++s.2++[q]:=by unfold gstep;split <;> simp
theorem gfold_ne:∀(ps:List α) (s:List (List α) × List α),s.2≠[]→(gfold op s ps).2≠[]
 | [],_,h=>h
 | q :: t,s,_=>gfold_ne t _ (gstep_ne op s q)
theorem gfold_some {ps:List α} (h:ps≠[]) (s:List (List α) × List α):(gfold op s ps).2≠[]:=by
 cases ps with
 | nil=>exact absurd rfl h
 | cons q t=>exact gfold_ne op t _ (gstep_ne op s q)
theorem gfold_flat:∀(ps:List α) (s:List (List α) × List α),(gfold op s ps).1.flatten++(gfold op s ps).2=s.1.flatten++s.2++ps
 | [],s=>by simp [gfold_nil]
 | q :: t,s=>by rw [gfold_cons,gfold_flat t,gstep_flat];simp
theorem shut_flat (s:List (List α) × List α):(shut s).flatten=s.1.flatten++s.2:=by
 unfold shut
 split
 ·rename_i h;simp [List.isEmpty_iff.1 h]
 ·simp
theorem cuts_flat (ps:List α):(cuts op ps).flatten=ps:=by rw [cuts,shut_flat,gfold_flat];simp
theorem cuts_nil:cuts op []=[]:=rfl
theorem cuts_some {ps:List α} (h:ps≠[]):cuts op ps=(gfold op ([],[]) ps).1++[(gfold op ([],[]) ps).2]:=by
 have:=gfold_some op h ([],[])
 rw [cuts,shut,if_neg (by simpa using this)]
theorem gfold_closed:∀(t O:List α) (T:List (List α)),(∀x∈t,op x=false)→gfold op (T,O) t=(T,O++t)
 | [],O,T,_=>by simp [gfold_nil]
 | q :: t,O,T,h=>by
  rw [gfold_cons,gstep_on op (.inl (h q (by simp))),gfold_closed t _ _ fun x hx=>h x (by simp [hx])]
  simp
theorem cuts_one (q:α) (t:List α) (h:∀x∈t,op x=false):cuts op (q :: t)=[q :: t]:=by
 rw [cuts,gfold_cons,gstep_on op (.inr rfl),gfold_closed op t _ _ h];rfl
def One (g:List α):Prop:=∃q t,g=q :: t∧∀x∈t,op x=false
def Opn (g:List α):Prop:=∃q t,g=q :: t∧op q=true∧∀x∈t,op x=false
def Good (gs:List (List α)):Prop:=(∀g∈gs,One op g)∧∀g∈gs.tail,Opn op g
theorem Opn.one {g:List α} (h:Opn op g):One op g:=by obtain ⟨q,t,h1,_,h2⟩:=h;exact ⟨q,t,h1,h2⟩
theorem tail_snoc (gs:List (List α)) (g:List α) (h:gs≠[]):(gs++[g]).tail=gs.tail++[g]:=by
 cases gs with
 | nil=>exact absurd rfl h
 | cons x t=>rfl
theorem Good.snoc {gs:List (List α)} {g:List α} (h:Good op gs) (hg:Opn op g):Good op (gs++[g]):=by
 refine ⟨fun x hx=>?_,fun x hx=>?_⟩
 ·rcases List.mem_append.1 hx with hx | hx
  ·exact h.1 x hx
  ·rw [List.mem_singleton.1 hx];exact hg.one
 ·by_cases hn:gs=[]
  ·subst hn;simp at hx
  ·rw [tail_snoc gs g hn] at hx
   rcases List.mem_append.1 hx with hx | hx
   ·exact h.2 x hx
   ·rw [List.mem_singleton.1 hx];exact hg
theorem Good.unsnoc {gs:List (List α)} {g:List α} (h:Good op (gs++[g])):Good op gs∧One op g∧(gs≠[]→Opn op g):=by
 refine ⟨⟨fun x hx=>h.1 x (by simp [hx]),fun x hx=>?_⟩,h.1 g (by simp),fun hn=>h.2 g (by rw [tail_snoc gs g hn];simp)⟩
 have hn:gs≠[]:=by rintro rfl;simp at hx
 exact h.2 x (by rw [tail_snoc gs g hn];simp [hx])
theorem Good.one_ {g:List α} (h:One op g):Good op [g]:=⟨fun x hx=>by rw [List.mem_singleton.1 hx];exact h,fun x hx=>by simp at hx⟩
theorem Good.put {gs:List (List α)} {g:List α} (h:Good op gs) (h1:One op g) (h2:gs≠[]→Opn op g):Good op (gs++[g]):=by
 by_cases hn:gs=[]
 ·subst hn;exact Good.one_ op h1
 ·exact h.snoc op (h2 hn)
theorem snoc_ind {p:List α→Prop} (h0:p []) (h1:∀l x,p l→p (l++[x])) (l:List α):p l:=by
 have:∀r:List α,p r.reverse:=fun r=>by
  induction r with
  | nil=>exact h0
  | cons x t ih=>rw [List.reverse_cons];exact h1 _ _ ih
 have h:=this l.reverse
 rwa [List.reverse_reverse] at h
theorem gfold_one (q:α):gfold op ([],[]) [q]=([],[q]):=by rw [gfold_cons,gstep_on op (.inr rfl)];rfl
theorem cuts_good (ps:List α):Good op (cuts op ps):=by
 refine snoc_ind (p:=fun ps=>Good op (cuts op ps)) ⟨fun g hg=>by simp [cuts_nil] at hg,fun g hg=>by simp [cuts_nil] at hg⟩ (fun l q ih=>?_) ps
 by_cases hl:l=[]
 ·subst hl
  rw [List.nil_append,cuts_one op q [] (by simp)]
  exact Good.one_ op ⟨q,[],rfl,by simp⟩
 ·have hO:=gfold_some op hl ([],[])
  rw [cuts_some op hl] at ih
  rw [cuts_some op (by simp),gfold_snoc]
  obtain ⟨T,O,hs⟩:∃T O,gfold op ([],[]) l=(T,O):=⟨_,_,rfl⟩
  rw [hs] at ih hO ⊢
  by_cases hq:op q=true
  ·rw [gstep_new op hq hO]
   exact ih.snoc op ⟨q,[],rfl,hq,by simp⟩
  ·have hq:op q=false:=by simpa using hq
   rw [gstep_on op (.inl hq)]
   obtain ⟨g1,⟨x,t,rfl,ht⟩,g3⟩:=ih.unsnoc op
   refine g1.put op ⟨x,t++[q],rfl,fun y hy=>?_⟩ fun hT=>?_
   ·rcases List.mem_append.1 hy with hy | hy
    ·exact ht y hy
    ·rw [List.mem_singleton.1 hy];exact hq
   ·obtain ⟨x',t',e,hx',_⟩:=g3 hT
    injection e with e1 e2
    subst e1 e2
    refine ⟨x,t++[q],rfl,hx',fun y hy=>?_⟩
    rcases List.mem_append.1 hy with hy | hy
    ·exact ht y hy
    ·rw [List.mem_singleton.1 hy];exact hq
theorem cuts_group {ps g:List α} (h:g∈cuts op ps):∃q t,g=q :: t:=by
 obtain ⟨q,t,h,_⟩:=(cuts_good op ps).1 g h;exact ⟨q,t,h⟩
end generic
section maps
variable {α β:Type} {op:α→Bool} {op':β→Bool} (f:α→β) (hf:∀q,op' (f q)=op q)
include hf
end maps
section limit
variable {α:Type} (op:α→Bool) (f:List α→Nat) (L:Nat)
def okG (gs:List (List α)):List (List α):=gs.takeWhile fun g=>decide (f g≤L)
def badG (gs:List (List α)):Bool:=gs.any fun g=>decide (L < f g)
theorem okG_all {gs:List (List α)} (h:∀g∈gs,f g≤L):okG f L gs=gs∧badG f L gs=false:=by
 refine ⟨?_,?_⟩
 ·have:=List.takeWhile_append_of_pos (p:=fun g=>decide (f g≤L)) (l₁:=gs) (l₂:=[]) (fun g hg=>by simpa using h g hg)
  simpa [okG] using this
 ·unfold badG;rw [List.any_eq_false];intro g hg;have:=h g hg;simp;omega
theorem okG_stop {gs:List (List α)} (h:∀g∈gs,f g≤L) {x:List α} (hx:L < f x) (r:List (List α)):okG f L (gs++x :: r)=gs∧badG f L (gs++x :: r)=true:=by
 refine ⟨?_,?_⟩
 ·unfold okG
  rw [List.takeWhile_append_of_pos (fun g hg=>by simpa using h g hg),List.takeWhile_cons_of_neg (by simp;omega),List.append_nil]
 ·unfold badG;rw [List.any_append,List.any_cons];simp [hx]
variable (hm:∀a b,f a≤f (a++b))
include hm
end limit
end Go.Proofs.YtegdbmbenjnacaaGreat.Seg
namespace Go.Proofs.YtegdbmbenjnacaaGreat.Seg
open Utf Norm
open Ucd
def opP (q:Pt):Bool:=opn (q.r:Int)
def runs (g:List Pt):List Int:=g.map fun q=>(q.r:Int)
def flen (g:List Pt):Nat:=(fulls (runs g)).length
def str (l:List UInt8):ByteArray:=⟨l.toArray⟩
def beg (g:List Pt):Nat:=(g.head?.map fun q=>q.p).getD 0
def fin (g:List Pt):Nat:=(g.getLast?.map fun q=>q.p+q.w).getD 0
structure Sg where
 t:ByteArray
 a:Nat
 e:Nat
def saysN (R:List Int):ByteArray:=str (enc (normal R))
def says (g:List Pt):ByteArray:=saysN (runs g)
def sgOf (g:List Pt):Sg:=⟨says g,beg g,fin g⟩
def grp (ps:List Pt):List (List Pt):=cuts opP ps
theorem runs_append (a b:List Pt):runs (a++b)=runs a++runs b:=List.map_append
theorem flen_le (g:List Pt):flen g≤3*g.length:=by have:=fulls_len (runs g);rw [runs,List.length_map] at this;exact this
theorem normal_len (R:List Int):(normal R).length=(fulls R).length:=nf_len _
theorem runes_enc_len (l:List Int):(runesF (enc l)).length=l.length:=by rw [runesF,List.length_map];exact (dec_enc l 0).1
def ww (ps:List Pt):Nat:=(ps.map fun q=>q.w).sum
def Tile:Nat→List Pt→Prop
 | _,[]=>True
 | k,q :: t=>q.p=k∧1≤q.w∧Tile (k+q.w) t
theorem ww_cons (q:Pt) (t:List Pt):ww (q :: t)=q.w+ww t:=by simp [ww]
theorem dec_tile (o:Bool) (l:List UInt8):∀k,Tile k (dec o k l):=by
 refine pieces (P:=fun l=>∀k,Tile k (dec o k l)) (fun k=>trivial) (fun l hl ih k=>?_) l
 rw [dec_cons o k hl]
 split
 ·trivial
 ·exact ⟨rfl,wid_pos hl,ih _⟩
theorem ww_eat (l:List UInt8):∀k,ww (dec true k l)=eat l:=by
 refine pieces (P:=fun l=>∀k,ww (dec true k l)=eat l) (fun k=>rfl) (fun l hl ih k=>?_) l
 cases hm:more l with
 | true=>rw [dec_stop hl hm,eat_stop hl hm];rfl
 | false=>rw [dec_step true k hl (by simp [hm]),eat_step hl hm,ww_cons,ih]
theorem ww_all (l:List UInt8):∀k,ww (dec false k l)=l.length:=by
 refine pieces (P:=fun l=>∀k,ww (dec false k l)=l.length) (fun k=>rfl) (fun l hl ih k=>?_) l
 rw [dec_step false k hl (by simp),ww_cons,ih,List.length_drop]
 have:=wid_le l
 show wid l+_=_
 omega
theorem fin_snoc (g:List Pt) (q:Pt):fin (g++[q])=q.p+q.w:=by simp [fin]
end Go.Proofs.YtegdbmbenjnacaaGreat.Seg
namespace Go.Proofs.YtegdbmbenjnacaaGreat.Seg
open Go.Shelf Go.RowKit Go.Sort
open Utf hiding infoI32 rd_new own_form rdec_any below_drewN new_any write_any close_any
open Ucd hiding grow
open Norm
set_option maxRecDepth 100000
def sgs (l:List Sg):List Value:=l.flatMap fun x=>[.string x.t,.int .i64 x.a,.int .i64 x.e]
def strs (l:List ByteArray):List Value:=l.map .string
theorem strs_append (l m:List ByteArray):strs (l++m)=strs l++strs m:=List.map_append
theorem strs_one (l:List ByteArray):∀u∈strs l,u.oneCell'=true:=by intro u hu;simp only [strs,List.mem_map] at hu;obtain ⟨n,_,rfl⟩:=hu;rfl
theorem sgs_len (l:List Sg):(sgs l).length=l.length*3:=by
 induction l with
 | nil=>rfl
 | cons q t ih=>simp only [sgs,List.flatMap_cons,List.length_append,List.length_cons,List.length_nil] at ih ⊢;omega
theorem sgs_append (l m:List Sg):sgs (l++m)=sgs l++sgs m:=List.flatMap_append
theorem sgs_cons (q:Sg) (t:List Sg):sgs (q :: t)=.string q.t :: .int .i64 q.a :: .int .i64 q.e :: sgs t:=rfl
theorem sgs_get (l:List Sg):∀{k:Nat} (h:k < l.length),(sgs l)[k*3]? = some (.string l[k].t)∧(sgs l)[k*3+1]? = some (.int .i64 l[k].a)∧(sgs l)[k*3+2]? = some (.int .i64 l[k].e):=by
 induction l with
 | nil=>intro k h;simp at h
 | cons q t ih =>
  intro k h
  rw [sgs_cons]
  cases k with
  | zero=>exact ⟨rfl,rfl,rfl⟩
  | succ k =>
   have:=ih (k:=k) (by simpa using h)
   rw [show (k+1)*3=k*3+1+1+1 from by omega]
   simpa using this
theorem sgs_take (l:List Sg):∀k,(sgs l).take (k*3)=sgs (l.take k):=by
 induction l with
 | nil=>intro k;simp [sgs]
 | cons q t ih =>
  intro k
  cases k with
  | zero=>simp [sgs]
  | succ k=>rw [sgs_cons,show (k+1)*3=k*3+1+1+1 from by omega];simpa [sgs_cons] using ih k
section
variable {w:World} {B:Nat}
theorem Rd_sg {l:List Sg} {b o:Nat} (h:Rd w B (some ⟨b,o,none⟩) (sgs l)) {k:Nat} (hk:k < l.length) :
  w.cell? ⟨b,o+k*3,none⟩=some (.string l[k].t)∧w.cell? ⟨b,o+k*3+1,none⟩=some (.int .i64 l[k].a)∧w.cell? ⟨b,o+k*3+2,none⟩=some (.int .i64 l[k].e):=by
 have hne:sgs l≠[]:=by intro e;have:=congrArg List.length e;rw [sgs_len,List.length_nil] at this;omega
 obtain ⟨b',o',e,_,hc⟩:=h hne
 simp only [Option.some.injEq,Addr.mk.injEq,and_true] at e
 obtain ⟨rfl,rfl⟩:=e
 obtain ⟨h1,h2,h3⟩:=sgs_get l hk
 exact ⟨hc _ _ h1,by rw [Nat.add_assoc];exact hc _ _ h2,by rw [Nat.add_assoc];exact hc _ _ h3⟩
end
theorem infoSg:(Tryz.prog.info? 125).map (fun i=>(i.zero,i.size,i.bytes))=some (some (.agg #[.string ⟨#[]⟩,.int .i64 0,.int .i64 0]),3,32):=by kernel_rfl
theorem infoStr:(Tryz.prog.info? 9).map (fun i=>(i.zero,i.size,i.bytes))=some (some (.string ⟨#[]⟩),1,16):=by kernel_rfl
theorem step_append_rd {P:Program} {w:World} {ops:Array Oper} {o:Oper} {a:Act} {K:Act→World→Prop} {Q:Exit→Act→World→Prop} {E:Prop} (hgd:o.guard=none) (s x:Operand) (t:TypeId)
  (ho:o.op=.call { callee:=.builtin .append,args:=#[s,x],argTypes:=#[t,t] })
  (base:Nat) (e:TypeId) (i:TypeInfo) (z:Value) (size bytes:Nat) (ht:P.underlying t=some (.slice e)) (hi:P.info? e=some i) (hz:i.zero=some z)
  (hsize:i.size=size) (hby:i.bytes=bytes) (hzs:z.cells.size=size) (hsz:0 < size)
  (v:Value) (n:Nat) (xs:List Value) (hs:a.eval s=v) (hown:w.ownsRow base e size v n xs)
  (B:Nat) (A:Option Addr) (m c:Nat) (news:List Value) (hx:a.eval x=.slice A m c) (hl:news.length=m*size) (hr:Rd w B A news) (h1:∀u∈news,u.oneCell'=true)
  (h63:n+m≤maxLen) (hbytes:(n+m)*bytes≤140737488355328) (hbase:base≤w.heap.size)
  (h:∀v' w',w'.ownsRow base e size v' (n+m) (xs++news)→w.grownBy w' v.ownBlock→(v'.ownBlock=v.ownBlock∨v'.ownBlock=some w.heap.size)→K (a.put o.dst v') w') :
  if Region.wanted o (yielded ops a.tmps)=true then Oper.wp P o a w K Q else E:=by
 have hw:Region.wanted o (yielded ops a.tmps)=true:=by simp [Region.wanted,hgd]
 rw [if_pos hw]
 exact wp_append_rd w s x t ho base e i z size bytes ht hi hz hsize hby hzs hsz v n xs hs hown B A m c news hx hl hr h1 h63 hbytes hbase h
end Go.Proofs.YtegdbmbenjnacaaGreat.Seg
namespace Go.Proofs.YtegdbmbenjnacaaGreat.Seg
open Go.Shelf Go.RowKit Go.Sort
open Utf hiding infoI32 rd_new own_form rdec_any below_drewN new_any write_any close_any
open Ucd hiding grow
open Norm
set_option maxRecDepth 100000
theorem gstep_len {α:Type} (op:α→Bool) (s:List (List α) × List α) (q:α):(gstep op s q).1.length≤s.1.length+1:=by unfold gstep;split <;> simp
def okS (lim:Nat) (l:List UInt8):List (List Pt):=okG flen lim (grp (dec false 0 l))
def badS (lim:Nat) (l:List UInt8):Bool:=badG flen lim (grp (dec false 0 l))
theorem grp_len (o:Bool) (l:List UInt8):(grp (dec o 0 l)).length≤l.length:=by
 have h1:=cuts_flat opP (dec o 0 l)
 have h2:=dec_len_le o l 0
 have h3:∀gs:List (List Pt),(∀g∈gs,∃q t,g=q :: t)→gs.length≤gs.flatten.length:=fun gs=>by
  induction gs with
  | nil=>simp
  | cons g t ih =>
   intro h
   obtain ⟨q,u,rfl⟩:=h g (by simp)
   have:=ih fun g hg=>h g (by simp [hg])
   simp only [List.length_cons,List.flatten_cons,List.length_append]
   omega
 have:=h3 (grp (dec o 0 l)) (fun g hg=>cuts_group opP hg)
 rw [grp,h1] at this
 exact Nat.le_trans this h2
def spS (lim:Int) (l:List UInt8):List Sg:=if 1≤lim∧lim≤64 then (okS lim.toNat l).map sgOf else []
def spE (lim:Int) (l:List UInt8):Int:=if 1≤lim∧lim≤64 then (if badS lim.toNat l then 6 else 0) else 1
def TextsAns (w:World) (ts:List ByteArray) (e:Ending) (w':World):Prop :=
 ∃v,e=.returned v∧w'.ownsRow w.heap.size 9 1 v ts.length (strs ts)∧Below w.heap.size w w'
end Go.Proofs.YtegdbmbenjnacaaGreat.Seg
namespace Go.Proofs.YtegdbmbenjnacaaGreat.Seg
open Go.Shelf Go.RowKit Go.Sort
open Utf hiding infoI32 rd_new own_form rdec_any below_drewN new_any write_any close_any
open Ucd hiding grow
open Norm
set_option maxRecDepth 100000
def Segs (w:World) (S:List Sg) (e:Ending) (w':World):Prop:=∃v,e=.returned v∧w'.ownsRow w.heap.size 125 3 v S.length (sgs S)∧Below w.heap.size w w'
set_option maxHeartbeats 2000000 in
theorem rtexts_any (A:Option Addr) (S:List Sg) (n c:Nat) (w:World) (hr:Rd w w.heap.size A (sgs S)) (hn:S.length=n) (hsm:n≤134217728) :
  Calls Tryz.prog 34 #[.slice A n c] w (TextsAns w (S.map Sg.t)):=by
 obtain ⟨i0,hi,hz0,hz1,hz2⟩:=info_parts infoStr
 have HR:=Lib.hid hr;have HN:=Lib.hid hn
 clear hr hn
 go_enter Tryz.func34,Tryz.ntmps34
 go_wp2_with fail
 go_loopw [3,4] (fun vo i wr=>∃k:Nat,k≤n∧i=.int .i64 k∧Hid (wr.ownsRow w.heap.size 9 1 vo ((S.take k).map Sg.t).length (strs ((S.take k).map Sg.t)))∧Hid (Below w.heap.size w wr)) (fun _ i _=>n - (intOf i).toNat)
 case atStart=>exact ⟨0,Nat.zero_le _,rfl,Lib.hid (World.ownsRow_nil _ _ _ _),Lib.hid (Below.refl _ _)⟩
 case round =>
  obtain ⟨k,hk,rfl,HO,HB⟩:=hrel
  by_cases hlt:k < n
  ·have hkl:k < S.length:=by rw [HN.out];exact hlt
   obtain ⟨b,o,rfl,hbl⟩:=HR.out.form (by rw [sgs_len];omega)
   obtain ⟨p1,p2,p3⟩:=Rd_sg (HR.out.below HB.out) hkl
   have HT:=Lib.hid (show (S.take (k+1)).map Sg.t=(S.take k).map Sg.t++[S[k].t] by rw [List.take_succ_eq_append_getElem hkl,List.map_append];rfl)
   have hlen:((S.take k).map Sg.t).length=k:=by rw [List.length_map,List.length_take];omega
   generalize (S.take k).map Sg.t=L at HO HT hlen
   have hbw:=HB.out.size
   rw [hlen] at HO
   have HLN:=Lib.hid hlen
   obtain ⟨x,hx⟩:∃x:ByteArray,x=S[k].t:=⟨_,rfl⟩
   rw [←hx] at p1 HT
   have hbk:k≤134217728:=by omega
   clear hkl hx hlen hbl p2 p3
   go_wp2_with (at_builtin;refine wpList_append_rd _ rfl (.tmp 11) (.tmp 17) _ rfl w.heap.size 9 i0 _ 1 16 Tryz.underlying23 hi hz0 hz1 hz2 rfl (by decide) u3 k (strs L) rfl (HO.out.alloc _) _ (some ⟨wr.heap.size,0,none⟩) 1 1 [.string x] rfl rfl (rd_new _ _ [.string x] _ (by simp)) (strs_one [x]) (by unfold maxLen;omega) (by omega) (by simp;omega) ?_;intro v6 w6 hown6 hgr6 _)
   have HO6:=Lib.hid (show w6.ownsRow w.heap.size 9 1 v6 ((S.take (k+1)).map Sg.t).length (strs ((S.take (k+1)).map Sg.t)) by
    rw [HT.out,List.length_append,HLN.out,strs_append];exact hown6)
   have HB6:=Lib.hid ((HB.out.alloc hbw _).grown hgr6 (by simp;omega) (fun g hg=>(HO.out.lt g hg).1))
   clear hown6 hgr6 HO HT
   go_roundw
   case rel=>exact ⟨k+1,by omega,by go_num,HO6,HB6⟩
   case measure=>simp [intOf];omega
  ·have HXT:=Lib.hid (show S.take k=S by rw [List.take_of_length_le (by rw [HN.out];omega)])
   rw [HXT.out] at HO
   go_wp2
   go_ret
   exact ⟨u3,rfl,HO.out,HB.out⟩
set_option maxHeartbeats 2000000 in
theorem length_any (s:ByteArray) (a e:Int) (w:World) (hb:s.size≤34359738368) :
  Calls Tryz.prog 83 #[.agg #[.string s,.int .i64 a,.int .i64 e]] w (Ret w (.int .i64 (runesF s.data.toList).length)):=by
 obtain ⟨w0,hw0⟩:∃w0,w0=w.alloc (.cells #[.string s,.int .i64 a,.int .i64 e] 125):=⟨_,rfl⟩
 have hcv:=run_bytes_of_string (P:=Tryz.prog) w0 9 42 5 s Tryz.underlying9 Tryz.underlying42 Tryz.underlying5
 have hge:=grownCap_ge w0 s.size 0 5
 have hle:=grownCap_le_maxLen w0 s.size 0 5 (by unfold maxLen;omega)
 generalize grownCap w0 s.size 0 5=cap at hcv hge hle
 unfold maxLen at hle
 obtain ⟨u,hu⟩:∃u,u=w0.drew.alloc (.cells (bytesRow s cap) 5 ((bytesRow s cap).size,(bytesRow s cap).size+1)):=⟨_,rfl⟩
 rw [←hu] at hcv
 obtain ⟨hrd,hbl⟩:=rd_str w0 s cap _ _ u hu
 have HC:=Lib.hid (rrunes_any (some ⟨w0.heap.size,0,none⟩) s.data.toList s.size cap u hrd (show s.data.toList.length=s.data.size from Array.length_toList) hb)
 have hb0:Below w.heap.size w w0:=by rw [hw0];exact (Below.refl _ _).alloc (Nat.le_refl _) _
 have HB:=Lib.hid (hb0.trans (hbl.mono hb0.size))
 have HW0:=Lib.hid hw0
 rw [hw0] at hcv
 clear hw0 hu hrd hbl hge hle hb hb0
 generalize runesF s.data.toList=R at HC ⊢
 go_enter Tryz.func83,Tryz.ntmps83
 go_wp2_with fail
 have hsz:w0.heap.size=w.heap.size+1:=by rw [HW0.out];simp
 have HC2:=HC.out
 rw [hsz] at HC2
 refine HC2.mono ?_
 rintro e1 w1 ⟨v,rfl,ho,hb1⟩
 obtain ⟨A1,c1,rfl,_⟩:=own_form ho
 have HB1:=Lib.hid (HB.out.trans (hb1.mono HB.out.size))
 clear ho hb1 hcv HC HC2 hsz
 go_wp2_with fail
 go_ret
 exact ⟨rfl,HB1.out⟩
theorem says_runes (g:List Pt):(runesF (says g).data.toList).length=flen g:=by
 show (runesF (enc (normal (runs g)))).length=_
 rw [runes_enc_len,normal_len];rfl
theorem says_size (g:List Pt):(says g).size≤12*g.length:=by
 show (enc (normal (runs g))).toArray.size≤_
 rw [List.size_toArray]
 have h1:=enc_le (normal (runs g))
 have h2:=flen_le g
 rw [normal_len] at h1
 unfold flen at h2
 omega
theorem length_at (g:List Pt) (a e:Int) (w:World) (hg:g.length≤1073741824):Calls Tryz.prog 83 #[.agg #[.string (says g),.int .i64 a,.int .i64 e]] w (Ret w (.int .i64 (flen g))):=by
 have:=length_any (says g) a e w (by have:=says_size g;omega)
 rwa [says_runes] at this
theorem seg_to {w:World} {B n c t:Nat} {A:Option Addr} {S:List Sg} (h:Rd w B A (sgs S)) (ht:t≤n) (hc:n≤c) :
  ∃A1,(∀u:World,(Instr.slice 85 (.slice A n c) none (some (.int .i64 t)) none).run Tryz.prog u=.ok (.slice A1 t c) u)∧Rd w B A1 (sgs (S.take t)):=by
 have he:Tryz.prog.elem 85=125:=by simp [Program.elem,Tryz.underlying85]
 refine ⟨if c=0 then A else A.map fun a=>a.add 0,fun u=>?_,?_⟩
 ·rw [run_slice_h u 85 A n c (by rw [he];exact Tryz.underlying85) .i64 (t:Int) (by omega) (by omega),he,Tryz.sizeOf125]
  simp [Result.andThen,sliced]
 ·have hA:(if c=0 then A else A.map fun a=>a.add 0)=A:=by
   split
   ·rfl
   ·cases A with
    | none=>rfl
    | some a=>rw [Option.map_some];congr 1
  rw [hA,←sgs_take]
  exact h.take_ _
def Goods (w:World) (gs:List (List Pt)) (lim:Nat) (e:Ending) (w':World):Prop :=
 ∃A n c,e=.returned (.tuple #[.slice A n c,.bool (badG flen lim gs)])∧n=(okG flen lim gs).length∧Rd w' w'.heap.size A (sgs ((okG flen lim gs).map sgOf))∧n≤c∧c≤9223372036854775807∧Below w.heap.size w w'
set_option maxHeartbeats 4000000 in
theorem good_any (A:Option Addr) (gs:List (List Pt)) (lim n c:Nat) (w:World) (hr:Rd w w.heap.size A (sgs (gs.map sgOf))) (hn:gs.length=n) (hc:n≤c) (hcm:c≤9223372036854775807) (hl:∀g∈gs,g.length≤1073741824) :
  Calls Tryz.prog 60 #[.slice A n c,.int .i64 lim] w (Goods w gs lim):=by
 have HR:=Lib.hid hr;have HN:=Lib.hid hn;have HL:=Lib.hid hl
 clear hr hn hl
 go_enter Tryz.func60,Tryz.ntmps60
 go_wp2_with fail
 go_loopw [6] (fun i wr=>∃k:Nat,k≤n∧i=.int .i64 k∧Hid (∀g∈gs.take k,flen g≤lim)∧Hid (Below w.heap.size w wr)) (fun i _=>n - (intOf i).toNat)
 case atStart=>exact ⟨0,Nat.zero_le _,rfl,Lib.hid (by simp),Lib.hid (Below.refl _ _)⟩
 case round =>
  obtain ⟨k,hk,rfl,HA,HB⟩:=hrel
  by_cases hlt:k < n
  ·have hkl:k < gs.length:=by rw [HN.out];exact hlt
   have hkm:k < (gs.map sgOf).length:=by rw [List.length_map];exact hkl
   obtain ⟨b,o,rfl,hbl⟩:=HR.out.form (by rw [sgs_len];omega)
   obtain ⟨p1,p2,p3⟩:=Rd_sg (HR.out.below HB.out) hkm
   rw [List.getElem_map] at p1 p2 p3
   have HT:=Lib.hid (show gs.take (k+1)=gs.take k++[gs[k]] from List.take_succ_eq_append_getElem hkl)
   have hsp:gs=gs.take k++gs[k] :: gs.drop (k+1):=by rw [←List.drop_eq_getElem_cons hkl,List.take_append_drop]
   have HSP:=Lib.hid hsp
   have hgl:=HL.out gs[k] (List.getElem_mem hkl)
   obtain ⟨g,hg⟩:∃g,g=gs[k]:=⟨_,rfl⟩
   rw [←hg] at p1 p2 p3 HT hgl HSP
   change wr.cell? ⟨b,o+k*3,none⟩=some (.string (says g)) at p1
   change wr.cell? ⟨b,o+k*3+1,none⟩=some (.int .i64 (beg g)) at p2
   change wr.cell? ⟨b,o+k*3+2,none⟩=some (.int .i64 (fin g)) at p3
   have HLN:=Lib.hid (length_at g (beg g) (fin g) wr hgl)
   obtain ⟨A1,hsl,hr1⟩:=seg_to (t:=k) HR.out hk hc
   have HR1:=Lib.hid hr1
   generalize says g=sg at *
   obtain ⟨y,hy⟩:∃y:Int,y=(beg g:Int):=⟨_,rfl⟩
   obtain ⟨z,hz⟩:∃z:Int,z=(fin g:Int):=⟨_,rfl⟩
   rw [←hy] at p2 HLN
   rw [←hz] at p3 HLN
   obtain ⟨f,hf⟩:∃f,f=flen g:=⟨_,rfl⟩
   rw [←hf] at HLN
   have HF:=Lib.hid hf
   have hfb:f≤3221225472:=by have:=flen_le g;omega
   clear hkl hkm hsp hg hy hz hf hr1 hgl hbl
   by_cases hbig:lim < f
   ·have hd:decide (lim < f)=true:=decide_eq_true hbig
    have hst:=okG_stop flen lim HA.out (x:=g) (by rw [←HF.out];exact hbig) (gs.drop (k+1))
    rw [←HSP.out] at hst
    have HST:=Lib.hid hst
    have HKT:=Lib.hid (show k=(gs.take k).length by rw [List.length_take];have:=HN.out;omega)
    clear hst hbig
    go_wp2_with (go_at_call 83;refine HLN.out.mono ?_;rintro e1 w1 ⟨rfl,hb1⟩;have HB1:=Lib.hid (HB.out.trans (hb1.mono HB.out.size));clear hb1)
    go_ret2
    refine ⟨A1,k,c,by rw [HST.out.2];rfl,by rw [HST.out.1];exact HKT.out,?_,by omega,hcm,HB1.out⟩
    rw [HST.out.1,List.map_take]
    exact (HR1.out.below HB1.out).more HB1.out.size
   ·have hd:decide (lim < f)=false:=decide_eq_false hbig
    have HA1:=Lib.hid (show ∀x∈gs.take (k+1),flen x≤lim from fun x hx=>by
     rw [HT.out] at hx
     rcases List.mem_append.1 hx with hx | hx
     ·exact HA.out x hx
     ·rw [List.mem_singleton.1 hx,←HF.out];omega)
    clear hbig HA
    go_wp2_with (go_at_call 83;refine HLN.out.mono ?_;rintro e1 w1 ⟨rfl,hb1⟩;have HB1:=Lib.hid (HB.out.trans (hb1.mono HB.out.size));clear hb1)
    go_roundw
    case rel=>exact ⟨k+1,by omega,by go_num,HA1,HB1⟩
    case measure=>simp [intOf];omega
  ·have HXT:=Lib.hid (show gs.take k=gs by rw [List.take_of_length_le (by rw [HN.out];omega)])
   rw [HXT.out] at HA
   have HOK:=Lib.hid (okG_all flen lim HA.out)
   go_wp2
   go_ret2
   refine ⟨A,n,c,by rw [HOK.out.2];rfl,by rw [HOK.out.1];exact HN.out.symm,?_,hc,hcm,HB.out⟩
   rw [HOK.out.1]
   exact (HR.out.below HB.out).more HB.out.size
end Go.Proofs.YtegdbmbenjnacaaGreat.Seg
namespace Go.Proofs.YtegdbmbenjnacaaGreat.Seg
open Go.Shelf Go.RowKit Go.Sort
open Utf hiding infoI32 rd_new own_form rdec_any below_drewN new_any write_any close_any
open Ucd hiding grow
open Norm
set_option maxRecDepth 100000
structure Ct (w wr:World) (ps:List Pt) (n k fr:Nat) (T:List (List Pt)) (vl:Value):Prop where
 row:wr.ownsRow w.heap.size 125 3 vl (T.map sgOf).length (sgs (T.map sgOf))
 bel:Below w.heap.size w wr
 mid:k≤n→fr < k∧gfold opP ([],[]) (ps.take k)=(T,(ps.take k).drop fr)
 fin:n < k→T=grp ps
theorem group_at {ps:List Pt} {fr j:Nat} (h:fr≤j) (hj:j < ps.length):sgOf ((ps.take (j+1)).drop fr)=⟨says ((ps.take (j+1)).drop fr),(ps[fr]'(by omega)).p,ps[j].p+ps[j].w⟩:=by
 have e1:(ps.take (j+1)).drop fr=(ps.take j).drop fr++[ps[j]]:=by
  rw [List.take_succ_eq_append_getElem hj,List.drop_append_of_le_length (by rw [List.length_take];omega)]
 have e2:(ps.take (j+1)).drop fr=ps[fr]'(by omega) :: (ps.take (j+1)).drop (fr+1):=by
  rw [List.drop_eq_getElem_cons (by rw [List.length_take];omega),List.getElem_take]
 unfold sgOf
 congr 1
 ·rw [e2];rfl
 ·rw [e1,fin_snoc]
theorem gfold_more {ps:List Pt} {k fr:Nat} {T:List (List Pt)} (hk:k < ps.length) (hf:fr < k) (h:gfold opP ([],[]) (ps.take k)=(T,(ps.take k).drop fr)) (ho:opP ps[k]=false):gfold opP ([],[]) (ps.take (k+1))=(T,(ps.take (k+1)).drop fr):=by
 rw [List.take_succ_eq_append_getElem hk,gfold_snoc,h,gstep_on opP (.inl ho),List.drop_append_of_le_length (by rw [List.length_take];omega)]
theorem gfold_next {ps:List Pt} {k fr:Nat} {T:List (List Pt)} (hk:k < ps.length) (hf:fr < k) (h:gfold opP ([],[]) (ps.take k)=(T,(ps.take k).drop fr)) (ho:opP ps[k]=true):gfold opP ([],[]) (ps.take (k+1))=(T++[(ps.take k).drop fr],(ps.take (k+1)).drop k):=by
 have hne:(ps.take k).drop fr≠[]:=by
  intro e;have:=congrArg List.length e;rw [List.length_drop,List.length_take] at this;simp at this;omega
 rw [List.take_succ_eq_append_getElem hk,gfold_snoc,h,gstep_new opP ho hne,List.drop_append_of_le_length (by rw [List.length_take];omega)]
 have:(ps.take k).drop k=[]:=List.drop_of_length_le (by rw [List.length_take];omega)
 rw [this];rfl
theorem gfold_last {ps:List Pt} {fr:Nat} {T:List (List Pt)} (hf:fr < ps.length) (h:gfold opP ([],[]) ps=(T,ps.drop fr)):T++[ps.drop fr]=grp ps:=by
 have hne:ps.drop fr≠[]:=by
  intro e;have:=congrArg List.length e;rw [List.length_drop] at this;simp at this;omega
 rw [grp,cuts,h,shut,if_neg (by simpa using hne)]
theorem gfold_len {α:Type} (op:α→Bool):∀(ps:List α) (s:List (List α) × List α),(gfold op s ps).1.length≤s.1.length+ps.length
 | [],s=>Nat.le_refl _
 | q :: t,s=>by
  have h1:=gstep_len op s q
  have h2:=gfold_len op t (gstep op s q)
  rw [gfold_cons,List.length_cons];omega
set_option maxHeartbeats 8000000 in
theorem rcut_any (A:Option Addr) (ps:List Pt) (n c:Nat) (w:World) (hr:Rd w w.heap.size A (pts ps)) (hn:ps.length=n) (hsm:n≤134217728) (hq:∀q∈ps,q.p+q.w≤1099511627776) :
  Calls Tryz.prog 84 #[.slice A n c] w (Segs w ((grp ps).map sgOf)):=by
 obtain ⟨i0,hi,hz0,hz1,hz2⟩:=info_parts infoSg
 obtain ⟨i1,hi',hy0,hy1,hy2⟩:=info_parts Ucd.infoI32
 have HR:=Lib.hid hr;have HN:=Lib.hid hn;have HQ:=Lib.hid hq
 have H0:=Lib.hid (show Ct w w ps n 1 0 [] (.slice none 0 0) from ⟨World.ownsRow_nil _ _ _ _,Below.refl _ _,fun h=>by
  refine ⟨by omega,?_⟩
  cases ps with
  | nil=>simp at hn;omega
  | cons q t=>exact gfold_one opP q,fun h=>by
  have:ps=[]:=List.eq_nil_of_length_eq_zero (by omega)
  rw [this];rfl⟩)
 clear hr hn hq
 go_enter Tryz.func84,Tryz.ntmps84
 go_wp2_with fail
 go_loopw [3,4,5] (fun vl vf vi wr=>∃(j fr:Nat) (T:List (List Pt)),j≤n∧fr≤j∧vi=.int .i64 ((j:Int)+1)∧vf=.int .i64 fr∧Hid (Ct w wr ps n (j+1) fr T vl)) (fun _ _ vi _=>n+1 - (intOf vi).toNat)
 case atStart=>exact ⟨0,0,[],Nat.zero_le _,Nat.le_refl _,by go_num,by go_num,H0⟩
 case round =>
  obtain ⟨j,fr,T,hj,hfj,rfl,rfl,H1⟩:=hrel
  obtain ⟨wo,rfl⟩:∃wo:World,wo=wr:=⟨_,rfl⟩
  clear H0
  by_cases hlt:j < n
  ·have hjl:j < ps.length:=by rw [HN.out];exact hlt
   have hfl:fr < ps.length:=by omega
   obtain ⟨hfk,hgf⟩:=H1.out.mid (by omega)
   obtain ⟨b,o,rfl,hbl⟩:=HR.out.form (by rw [pts_len];omega)
   have hrd:=HR.out.below H1.out.bel
   obtain ⟨_,q2,_⟩:=hrd.pt hfl
   obtain ⟨_,p2,p3⟩:=hrd.pt hjl
   have hgr:=group_at hfj hjl
   have hpq:=HQ.out ps[j] (List.getElem_mem hjl)
   have hin:∀i (h:i < ps.length),wo.cell? ⟨b,o+i*3,none⟩=some (.int .i32 (ps[i]'h).r):=fun i h=>(hrd.pt h).1
   have hTl:(T.map sgOf).length≤134217728:=by
    have h1:=gfold_len opP (ps.take (j+1)) ([],[])
    rw [hgf] at h1
    simp only [List.length_nil,List.length_take,Nat.zero_add] at h1
    rw [List.length_map];omega
   have HTLN:=Lib.hid hTl
   clear hTl
   have HIN:=Lib.hid hin
   have HGF:=Lib.hid hgf
   have HGR:=Lib.hid hgr
   clear hin hgf hgr hrd hbl
   by_cases hk2:j+1 < n
   ·have hkl:j+1 < ps.length:=by rw [HN.out];exact hk2
    have c1:=HIN.out (j+1) hkl
    have hmore:=gfold_more hkl hfk HGF.out
    have hnext:=gfold_next hkl hfk HGF.out
    have hopp:opP ps[j+1]=opn (ps[j+1].r:Int):=rfl
    obtain ⟨x,hx⟩:∃x:Int,x=(ps[j+1].r:Int):=⟨_,rfl⟩
    rw [←hx] at c1 hopp
    have HOP:=Lib.hid (ropens_any x wo)
    have HMORE:=Lib.hid hmore;have HNEXT:=Lib.hid hnext
    cases hop:opP ps[j+1] with
    | false =>
     rw [hopp] at hop
     rw [hop] at HOP
     have HG2:=Lib.hid (HMORE.out (hopp.trans hop))
     have hd:decide ((j:Int)+1 < (n:Int))=true:=decide_eq_true (by omega)
     clear hmore hnext hopp hx hop HMORE HNEXT hkl
     go_wp2_with (go_at_call 97;refine HOP.out.mono ?_;rintro e1 w1 ⟨rfl,hb1⟩;have HB1:=Lib.hid hb1;clear hb1)
     go_roundw
     case rel=>exact ⟨j+1,fr,T,by omega,by omega,by go_num,rfl,Lib.hid ⟨Ucd.own_below H1.out.row HB1.out,H1.out.bel.trans (HB1.out.mono H1.out.bel.size),fun _=>⟨by omega,HG2.out⟩,fun h=>by omega⟩⟩
     case measure=>simp [intOf];omega
    | true =>
     rw [hopp] at hop
     rw [hop] at HOP
     have HG2:=Lib.hid (HNEXT.out (hopp.trans hop))
     have hd:decide ((j:Int)+1 < (n:Int))=true:=decide_eq_true (by omega)
     clear hmore hnext hopp hx hop HMORE HNEXT hkl
     go_wp2_with (go_at_call 97;refine HOP.out.mono ?_;rintro e1 w1 ⟨rfl,hb1⟩;have HB1:=Lib.hid hb1;clear hb1)
     have HOR:=Lib.hid (Ucd.own_below H1.out.row HB1.out)
     have HBL:=Lib.hid (H1.out.bel.trans (HB1.out.mono H1.out.bel.size))
     have HRW:=Lib.hid (HR.out.below HBL.out)
     have HNIL:=Lib.hid (show runs ((ps.take fr).drop fr)=[] by rw [List.drop_of_length_le (by rw [List.length_take];omega)];rfl)
     go_loopw [6,7] (fun vr vk wx=>∃i:Nat,fr≤i∧i≤j+1∧vk=.int .i64 i∧Hid (wx.ownsRow w1.heap.size 21 1 vr (runs ((ps.take i).drop fr)).length (nums (runs ((ps.take i).drop fr))))∧Hid (Below w1.heap.size w1 wx)) (fun _ vk _=>j+1 - (intOf vk).toNat)
     case atStart=>exact ⟨fr,Nat.le_refl _,by omega,rfl,Lib.hid (by rw [HNIL.out];exact World.ownsRow_nil _ _ _ _),Lib.hid (Below.refl _ _)⟩
     case round =>
      obtain ⟨i,hfi,hij,rfl,HO,HB⟩:=hrel
      by_cases hlt2:i < j+1
      ·have hil:i < ps.length:=by omega
       have hd2:decide ((i:Int) < (j:Int)+1)=true:=decide_eq_true (by omega)
       obtain ⟨c1,cx1,cx2⟩:=(HRW.out.below (HB.out.mono HBL.out.size)).pt hil
       clear cx1 cx2
       have HT:=Lib.hid (show runs ((ps.take (i+1)).drop fr)=runs ((ps.take i).drop fr)++[(ps[i].r:Int)] by
        rw [List.take_succ_eq_append_getElem hil,List.drop_append_of_le_length (by rw [List.length_take];omega),runs_append];rfl)
       have hlen:(runs ((ps.take i).drop fr)).length≤134217728:=by rw [runs,List.length_map,List.length_drop,List.length_take];omega
       generalize runs ((ps.take i).drop fr)=L at HO HT hlen
       obtain ⟨ln,hln⟩:∃ln,ln=L.length:=⟨_,rfl⟩
       rw [←hln] at HO hlen
       have HLN:=Lib.hid hln
       obtain ⟨x2,hx2⟩:∃x:Int,x=(ps[i].r:Int):=⟨_,rfl⟩
       rw [←hx2] at c1 HT
       have hbw:=HB.out.size
       clear hil hx2 hln
       go_wp2_with (at_builtin;refine wpList_append_rd _ rfl (.tmp 33) (.tmp 39) _ rfl w1.heap.size 21 i1 _ 1 4 Tryz.underlying143 hi' hy0 hy1 hy2 rfl (by decide) _ ln (nums L) rfl (HO.out.alloc _) _ (some ⟨wr.heap.size,0,none⟩) 1 1 [.int .i32 x2] rfl rfl (rd_new _ _ [.int .i32 x2] _ (by simp)) (nums_one [x2]) (by unfold maxLen;omega) (by omega) (by simp;omega) ?_;intro v6 w6 hown6 hgr6 _)
       have HO6:=Lib.hid (show w6.ownsRow w1.heap.size 21 1 v6 (runs ((ps.take (i+1)).drop fr)).length (nums (runs ((ps.take (i+1)).drop fr))) by
        rw [HT.out,List.length_append,←HLN.out,nums_append];exact hown6)
       have HB6:=Lib.hid ((HB.out.alloc hbw _).grown hgr6 (by simp;omega) (fun g hg=>(HO.out.lt g hg).1))
       clear hown6 hgr6 HO HT
       go_roundw
       case rel=>exact ⟨i+1,by omega,by omega,by go_num,HO6,HB6⟩
       case measure=>simp [intOf];omega
      ·obtain rfl:i=j+1:=by omega
       have hd2:decide (((j+1:Nat):Int) < (j:Int)+1)=false:=decide_eq_false (by omega)
       obtain ⟨G,hG⟩:∃G,G=(ps.take (j+1)).drop fr:=⟨_,rfl⟩
       have hGl:(runs G).length≤134217728:=by rw [hG,runs,List.length_map,List.length_drop,List.length_take];omega
       have HGE:=Lib.hid hG
       rw [←hG] at HO
       obtain ⟨R,hR⟩:∃R,R=runs G:=⟨_,rfl⟩
       have HRE:=Lib.hid hR
       rw [←hR] at HO hGl
       obtain ⟨Ar,cr,rfl,_,_,hrr⟩:=own_form HO.out
       have HRR:=Lib.hid hrr
       have hXl:(normal R).length≤402653184:=by have:=fulls_len R;rw [normal_len];omega
       obtain ⟨rl,hrl⟩:∃rl,rl=R.length:=⟨_,rfl⟩
       have HNM:=Lib.hid (fun (u:World) (h:Rd u u.heap.size Ar (nums R))=>rnormal_any Ar R rl cr u h hrl.symm (by omega))
       have HSY:=Lib.hid (show says G=str (enc (normal R)) by rw [hR];rfl)
       generalize normal R=X at HNM HSY hXl
       rw [←hrl] at hGl ⊢
       have HRL:=Lib.hid hrl
       have HXL:=Lib.hid hXl
       have HENC:=Lib.hid (fun (A2:Option Addr) (c2:Nat) (u:World) (h:Rd u u.heap.size A2 (nums X))=>rencode_any A2 X X.length c2 u h rfl (by omega))
       have HORx:=Lib.hid (Ucd.own_below HOR.out HB.out)
       have HBX:=Lib.hid (HBL.out.trans (HB.out.mono HBL.out.size))
       have hrx:=HR.out.below HBX.out
       have g1:=(hrx.pt hfl).2.1
       have g2:=(hrx.pt hjl).2.1
       have g3:=(hrx.pt hjl).2.2
       obtain ⟨y1,hy1'⟩:∃y:Int,y=(ps[fr].p:Int):=⟨_,rfl⟩
       obtain ⟨y2,hy2'⟩:∃y:Int,y=(ps[j].p:Int):=⟨_,rfl⟩
       obtain ⟨y3,hy3'⟩:∃y:Int,y=(ps[j].w:Int):=⟨_,rfl⟩
       have hyb:0≤y2∧0≤y3∧y2+y3≤1099511627776:=by omega
       obtain ⟨hyb1,hyb2,hyb3⟩:=hyb
       have HGV:=Lib.hid (show sgs [sgOf G]=[.string (says G),.int .i64 y1,.int .i64 (y2+y3)] by
        have h:=HGR.out
        rw [←hG] at h
        rw [h,hy1',hy2',hy3']
        rfl)
       rw [←hy1'] at g1;rw [←hy2'] at g2;rw [←hy3'] at g3
       have hwb:w.heap.size≤wr.heap.size:=HBX.out.size
       have hbb:b < w.heap.size:=by obtain ⟨b',o',e,h,_⟩:=HR.out (by intro e;have:=congrArg List.length e;rw [pts_len] at this;simp at this;omega);injection e with e;injection e with e1 _;omega
       have hjw:IntKind.i64.wrap (j:Int)=(j:Int):=IntWalk.i64_in _ (by omega)
       have hyw:IntKind.i64.wrap (y2+y3)=y2+y3:=IntWalk.i64_in _ (by omega)
       have HY:=Lib.hid hy1'
       clear hG hR hrr hXl hrl hrx hy1' hy2' hy3' HO HRW HNIL HOR
       go_wp2_with fail
       have HSW:=Lib.hid (show ∀u:World,Below wr.heap.size wr u→u.cell? ⟨b,o+fr*3+1,none⟩=some (.int .i64 y1)∧u.cell? ⟨b,o+j*3+1,none⟩=some (.int .i64 y2)∧u.cell? ⟨b,o+j*3+2,none⟩=some (.int .i64 y3) from fun u hu =>
        ⟨(hu.cell (p:=⟨b,o+fr*3+1,none⟩) (show b < _ by omega)).trans g1,(hu.cell (p:=⟨b,o+j*3+1,none⟩) (show b < _ by omega)).trans g2,(hu.cell (p:=⟨b,o+j*3+2,none⟩) (show b < _ by omega)).trans g3⟩)
       have hfn:fr < n:=by omega
       have hTl:=HTLN.out
       refine wp_region_held_drew (S:=fun u=>u.cell? ⟨b,o+fr*3+1,none⟩=some (.int .i64 y1)∧u.cell? ⟨b,o+j*3+1,none⟩=some (.int .i64 y2)∧u.cell? ⟨b,o+j*3+2,none⟩=some (.int .i64 y3)) (by kernel_rfl) ⟨g1,g2,g3⟩ (fun hHeld=>?_)
       refine wpAnyH_take (i:=0) (oi:=_) (v:=?_) rfl (by kernel_rfl) (by kernel_rfl) (by kernel_rfl) (fun _ _ _ h=>h) (Or.inl ⟨by rfl,?_⟩) (by assumption) ?_
       rotate_left
       ·(intro w hSw;(try dsimp only at hSw);(try obtain ⟨s1_,s2_,s3_⟩:=hSw);go_simp <;> with_reducible rfl)
       simp only [List.getElem_toArray,List.getElem_cons_zero,Act.put,List.setIfInBounds_toArray,List.set_cons_zero,List.set_cons_succ]
       refine wpAnyH_take (i:=1) (oi:=_) (v:=?_) rfl (by kernel_rfl) (by kernel_rfl) (by kernel_rfl) (fun _ _ _ h=>h) (Or.inl ⟨by rfl,?_⟩) (by assumption) ?_
       rotate_left
       ·(intro w hSw;(try dsimp only at hSw);(try obtain ⟨s1_,s2_,s3_⟩:=hSw);go_simp <;> with_reducible rfl)
       simp only [List.getElem_toArray,List.getElem_cons_succ,List.getElem_cons_zero,Act.put,List.setIfInBounds_toArray,List.set_cons_zero,List.set_cons_succ]
       refine wpAnyH_take (i:=5) (oi:=_) (v:=?_) rfl (by kernel_rfl) (by kernel_rfl) (by kernel_rfl) (fun _ _ _ h=>h) (Or.inl ⟨by rfl,?_⟩) (by assumption) ?_
       rotate_left
       ·(intro w hSw;(try dsimp only at hSw);(try obtain ⟨s1_,s2_,s3_⟩:=hSw);go_simp <;> with_reducible rfl)
       simp only [List.getElem_toArray,List.getElem_cons_succ,List.getElem_cons_zero,Act.put,List.setIfInBounds_toArray,List.set_cons_zero,List.set_cons_succ]
       refine wpAnyH_take (i:=6) (oi:=_) (v:=?_) rfl (by kernel_rfl) (by kernel_rfl) (by kernel_rfl) (fun _ _ _ h=>h) (Or.inl ⟨by rfl,?_⟩) (by assumption) ?_
       rotate_left
       ·(intro w hSw;(try dsimp only at hSw);(try obtain ⟨s1_,s2_,s3_⟩:=hSw);go_simp <;> with_reducible rfl)
       simp only [List.getElem_toArray,List.getElem_cons_succ,List.getElem_cons_zero,Act.put,List.setIfInBounds_toArray,List.set_cons_zero,List.set_cons_succ]
       refine wpAnyH_take (i:=7) (oi:=_) (v:=?_) rfl (by kernel_rfl) (by kernel_rfl) (by kernel_rfl) (fun _ _ _ h=>h) (Or.inl ⟨by rfl,?_⟩) (by assumption) ?_
       rotate_left
       ·(intro w hSw;(try dsimp only at hSw);(try obtain ⟨s1_,s2_,s3_⟩:=hSw);go_simp <;> with_reducible rfl)
       simp only [List.getElem_toArray,List.getElem_cons_succ,List.getElem_cons_zero,Act.put,List.setIfInBounds_toArray,List.set_cons_zero,List.set_cons_succ]
       refine wpAnyH_take (i:=8) (oi:=_) (v:=?_) rfl (by kernel_rfl) (by kernel_rfl) (by kernel_rfl) (fun _ _ _ h=>h) (Or.inl ⟨by rfl,?_⟩) (by assumption) ?_
       rotate_left
       ·(intro w hSw;(try dsimp only at hSw);(try obtain ⟨s1_,s2_,s3_⟩:=hSw);go_simp <;> with_reducible rfl)
       simp only [List.getElem_toArray,List.getElem_cons_succ,List.getElem_cons_zero,Act.put,List.setIfInBounds_toArray,List.set_cons_zero,List.set_cons_succ]
       refine wpAnyH_take (i:=9) (oi:=_) (v:=?_) rfl (by kernel_rfl) (by kernel_rfl) (by kernel_rfl) (fun _ _ _ h=>h) (Or.inl ⟨by rfl,?_⟩) (by assumption) ?_
       rotate_left
       ·(intro w hSw;(try dsimp only at hSw);(try obtain ⟨s1_,s2_,s3_⟩:=hSw);go_simp <;> with_reducible rfl)
       simp only [List.getElem_toArray,List.getElem_cons_succ,List.getElem_cons_zero,Act.put,List.setIfInBounds_toArray,List.set_cons_zero,List.set_cons_succ]
       refine wpAnyH_take (i:=10) (oi:=_) (v:=?_) rfl (by kernel_rfl) (by kernel_rfl) (by kernel_rfl) (fun _ _ _ h=>h) (Or.inl ⟨by rfl,?_⟩) (by assumption) ?_
       rotate_left
       ·(intro w hSw;(try dsimp only at hSw);(try obtain ⟨s1_,s2_,s3_⟩:=hSw);go_simp <;> with_reducible rfl)
       simp only [List.getElem_toArray,List.getElem_cons_succ,List.getElem_cons_zero,Act.put,List.setIfInBounds_toArray,List.set_cons_zero,List.set_cons_succ]
       refine wpAnyH_take (i:=11) (oi:=_) (v:=?_) rfl (by kernel_rfl) (by kernel_rfl) (by kernel_rfl) (fun _ _ _ h=>h) (Or.inl ⟨by rfl,?_⟩) (by assumption) ?_
       rotate_left
       ·(intro w hSw;(try dsimp only at hSw);(try obtain ⟨s1_,s2_,s3_⟩:=hSw);go_simp <;> with_reducible rfl)
       simp only [List.getElem_toArray,List.getElem_cons_succ,List.getElem_cons_zero,Act.put,List.setIfInBounds_toArray,List.set_cons_zero,List.set_cons_succ]
       refine wpAnyH_take (i:=12) (oi:=_) (v:=?_) rfl (by kernel_rfl) (by kernel_rfl) (by kernel_rfl) (fun _ _ _ h=>h) (Or.inl ⟨by rfl,?_⟩) (by assumption) ?_
       rotate_left
       ·(intro w hSw;(try dsimp only at hSw);(try obtain ⟨s1_,s2_,s3_⟩:=hSw);go_simp <;> with_reducible rfl)
       simp only [List.getElem_toArray,List.getElem_cons_succ,List.getElem_cons_zero,Act.put,List.setIfInBounds_toArray,List.set_cons_zero,List.set_cons_succ]
       refine wpAnyH_take (i:=13) (oi:=_) (v:=?_) rfl (by kernel_rfl) (by kernel_rfl) (by kernel_rfl) (fun _ _ _ h=>h) (Or.inl ⟨by rfl,?_⟩) (by assumption) ?_
       rotate_left
       ·(intro w hSw;(try dsimp only at hSw);(try obtain ⟨s1_,s2_,s3_⟩:=hSw);go_simp <;> with_reducible rfl)
       simp only [List.getElem_toArray,List.getElem_cons_succ,List.getElem_cons_zero,Act.put,List.setIfInBounds_toArray,List.set_cons_zero,List.set_cons_succ]
       refine wpAnyH_take (i:=14) (oi:=_) (v:=?_) rfl (by kernel_rfl) (by kernel_rfl) (by kernel_rfl) (fun _ _ _ h=>h) (Or.inl ⟨by rfl,?_⟩) (by assumption) ?_
       rotate_left
       ·(intro w hSw;(try dsimp only at hSw);(try obtain ⟨s1_,s2_,s3_⟩:=hSw);go_simp <;> with_reducible rfl)
       simp only [List.getElem_toArray,List.getElem_cons_succ,List.getElem_cons_zero,Act.put,List.setIfInBounds_toArray,List.set_cons_zero,List.set_cons_succ]
       refine wpAnyH_take (i:=15) (oi:=_) (v:=?_) rfl (by kernel_rfl) (by kernel_rfl) (by kernel_rfl) (fun _ _ _ h=>h) (Or.inl ⟨by rfl,?_⟩) (by assumption) ?_
       rotate_left
       ·(intro w hSw;(try dsimp only at hSw);(try obtain ⟨s1_,s2_,s3_⟩:=hSw);go_simp <;> with_reducible rfl)
       simp only [List.getElem_toArray,List.getElem_cons_succ,List.getElem_cons_zero,Act.put,List.setIfInBounds_toArray,List.set_cons_zero,List.set_cons_succ]
       refine wpAnyH_take (i:=16) (oi:=_) (v:=?_) rfl (by kernel_rfl) (by kernel_rfl) (by kernel_rfl) (fun _ _ _ h=>h) (Or.inl ⟨by rfl,?_⟩) (by assumption) ?_
       rotate_left
       ·(intro w hSw;(try dsimp only at hSw);(try obtain ⟨s1_,s2_,s3_⟩:=hSw);go_simp <;> with_reducible rfl)
       simp only [List.getElem_toArray,List.getElem_cons_succ,List.getElem_cons_zero,Act.put,List.setIfInBounds_toArray,List.set_cons_zero,List.set_cons_succ]
       refine wpAnyH_take (i:=17) (oi:=_) (v:=?_) rfl (by kernel_rfl) (by kernel_rfl) (by kernel_rfl) (fun _ _ _ h=>h) (Or.inl ⟨by rfl,?_⟩) (by assumption) ?_
       rotate_left
       ·(intro w hSw;(try dsimp only at hSw);(try obtain ⟨s1_,s2_,s3_⟩:=hSw);go_simp <;> with_reducible rfl)
       simp only [List.getElem_toArray,List.getElem_cons_succ,List.getElem_cons_zero,Act.put,List.setIfInBounds_toArray,List.set_cons_zero,List.set_cons_succ]
       refine wpAnyH_take (i:=18) (oi:=_) (v:=?_) rfl (by kernel_rfl) (by kernel_rfl) (by kernel_rfl) (fun _ _ _ h=>h) (Or.inl ⟨by rfl,?_⟩) (by assumption) ?_
       rotate_left
       ·(intro w hSw;(try dsimp only at hSw);(try obtain ⟨s1_,s2_,s3_⟩:=hSw);go_simp <;> with_reducible rfl)
       simp only [List.getElem_toArray,List.getElem_cons_succ,List.getElem_cons_zero,Act.put,List.setIfInBounds_toArray,List.set_cons_zero,List.set_cons_succ]
       refine wpAnyH_take (i:=19) (oi:=_) (v:=?_) rfl (by kernel_rfl) (by kernel_rfl) (by kernel_rfl) (fun _ _ _ h=>h) (Or.inl ⟨by rfl,?_⟩) (by assumption) ?_
       rotate_left
       ·(intro w hSw;(try dsimp only at hSw);(try obtain ⟨s1_,s2_,s3_⟩:=hSw);go_simp <;> with_reducible rfl)
       simp only [List.getElem_toArray,List.getElem_cons_succ,List.getElem_cons_zero,Act.put,List.setIfInBounds_toArray,List.set_cons_zero,List.set_cons_succ]
       refine wpAnyH_take (i:=20) (oi:=_) (v:=?_) rfl (by kernel_rfl) (by kernel_rfl) (by kernel_rfl) (fun _ _ _ h=>h) (Or.inl ⟨by rfl,?_⟩) (by assumption) ?_
       rotate_left
       ·(intro w hSw;(try dsimp only at hSw);(try obtain ⟨s1_,s2_,s3_⟩:=hSw);go_simp <;> with_reducible rfl)
       simp only [List.getElem_toArray,List.getElem_cons_succ,List.getElem_cons_zero,Act.put,List.setIfInBounds_toArray,List.set_cons_zero,List.set_cons_succ]
       refine wpAnyH_take (i:=21) (oi:=_) (v:=?_) rfl (by kernel_rfl) (by kernel_rfl) (by kernel_rfl) (fun _ _ _ h=>h) (Or.inl ⟨by rfl,?_⟩) (by assumption) ?_
       rotate_left
       ·(intro w hSw;(try dsimp only at hSw);(try obtain ⟨s1_,s2_,s3_⟩:=hSw);go_simp <;> with_reducible rfl)
       simp only [List.getElem_toArray,List.getElem_cons_succ,List.getElem_cons_zero,Act.put,List.setIfInBounds_toArray,List.set_cons_zero,List.set_cons_succ]
       refine wpAnyH_take (i:=22) (oi:=_) (v:=?_) rfl (by kernel_rfl) (by kernel_rfl) (by kernel_rfl) (fun _ _ _ h=>h) (Or.inl ⟨by rfl,?_⟩) (by assumption) ?_
       rotate_left
       ·(intro w hSw;(try dsimp only at hSw);(try obtain ⟨s1_,s2_,s3_⟩:=hSw);go_simp <;> with_reducible rfl)
       simp only [List.getElem_toArray,List.getElem_cons_succ,List.getElem_cons_zero,Act.put,List.setIfInBounds_toArray,List.set_cons_zero,List.set_cons_succ]
       refine wpAnyH_ready (rs:=[2]) (by kernel_rfl) (by simp) (AllReadyH.cons rfl (fun K hK=>?_) AllReadyH.nil)
       go_simp
       go_at_call 98
       refine (HNM.out wr.drew HRR.out.drew).mono ?_
       rintro e5 w5 ⟨v5,rfl,ho5,hb5⟩
       obtain ⟨A5,c5,rfl,_,_,hr5⟩:=own_form ho5
       have HR5:=Lib.hid hr5
       have HB5:=Lib.hid (show Below wr.heap.size wr w5 from (Below.refl _ _).drew.trans hb5)
       clear ho5 hr5 hb5
       refine hK.out _ _ (HSW.out w5 HB5.out) (fun hHeld2=>?_)
       clear hK K hHeld
       have hHeld:=hHeld2
       clear hHeld2
       refine wpAnyH_ready (rs:=[3]) (by kernel_rfl) (by simp) (AllReadyH.cons rfl (fun K hK=>?_) AllReadyH.nil)
       go_simp
       go_at_call 96
       refine (HENC.out A5 c5 w5 HR5.out).mono ?_
       rintro e6 w6 ⟨v6,rfl,ho6,hb6⟩
       obtain ⟨A6,c6,rfl,_,_,hr6⟩:=Utf.own_form ho6
       have hcv:=conv_rd (c:=c6) hr6 rfl
       rw [show (⟨(enc X).toArray⟩:ByteArray)=says G from HSY.out.symm] at hcv
       have HB6:=Lib.hid (HB5.out.trans (hb6.mono HB5.out.size))
       have HOL6:=Lib.hid (Ucd.own_below HORx.out HB6.out)
       clear ho6 hr6 hb6
       refine hK.out _ _ (HSW.out w6 HB6.out) (fun hHeld2=>?_)
       clear hK K hHeld
       have hHeld:=hHeld2
       clear hHeld2
       refine wpAnyH_ready (rs:=[4]) (by kernel_rfl) (by simp) (AllReadyH.cons rfl (fun K hK=>?_) AllReadyH.nil)
       go_simp
       refine hK.out _ _ (HSW.out w6 HB6.out) (fun hHeld2=>?_)
       clear hK K hHeld
       have hHeld:=hHeld2
       clear hHeld2
       refine wpAnyH_take (i:=23) (oi:=_) (v:=?_) rfl (by kernel_rfl) (by kernel_rfl) (by kernel_rfl) (fun _ _ _ h=>h) (Or.inl ⟨by rfl,?_⟩) (by assumption) ?_
       rotate_left
       ·(intro w hSw;(try dsimp only at hSw);(try obtain ⟨s1_,s2_,s3_⟩:=hSw);go_simp <;> with_reducible rfl)
       simp only [List.getElem_toArray,List.getElem_cons_succ,List.getElem_cons_zero,Act.put,List.setIfInBounds_toArray,List.set_cons_zero,List.set_cons_succ]
       refine wpAnyH_ready (rs:=[24]) (by kernel_rfl) (by simp) (AllReadyH.cons rfl (fun K hK=>?_) AllReadyH.nil)
       go_simp
       refine hK.out _ _ (HSW.out _ (HB6.out.alloc HB6.out.size _)) (fun hHeld2=>?_)
       clear hK K hHeld
       have hHeld:=hHeld2
       clear hHeld2
       refine wpAnyH_ready (rs:=[25]) (by kernel_rfl) (by simp) (AllReadyH.cons rfl (fun K hK=>?_) AllReadyH.nil)
       have hsz6:=HB6.out.size
       refine step_append_rd (by rfl) (.tmp 41) (.tmp 65) _ (by rfl) w.heap.size 125 i0 _ 3 32 Tryz.underlying85 hi hz0 hz1 hz2 rfl (by decide) u3 (T.map sgOf).length (sgs (T.map sgOf)) (by rfl) (HOL6.out.alloc _) _ (some ⟨w6.heap.size,0,none⟩) 1 1 [.string (says G),.int .i64 y1,.int .i64 (y2+y3)] (by rfl) (by rfl) (rd_new _ _ [.string (says G),.int .i64 y1,.int .i64 (y2+y3)] _ (by simp)) (by simp [Value.oneCell']) (by unfold maxLen;omega) (by omega) (by simp;omega) ?_
       intro v7 w7 hown7 hgr7 hat7
       have HO7:=Lib.hid hown7
       have HG7:=Lib.hid hgr7
       have hcx:=HSW.out _ (HB6.out.alloc HB6.out.size (.cells #[.string (says G),.int .i64 y1,.int .i64 (y2+y3)] 125))
       have hnb:∀g,u3.ownBlock=some g→g≠b:=fun g hg e=>by have:=(HOL6.out.lt g hg).1;omega
       have hfar:∀p:Addr,p.block=b→w7.cell? p=(w6.alloc (.cells #[.string (says G),.int .i64 y1,.int .i64 (y2+y3)] 125)).cell? p:=fun p hp=>World.cell?_of_block (HG7.out.block p.block (by simp;omega) (fun e=>hnb _ e.symm hp))
       have hsw7:w7.cell? ⟨b,o+fr*3+1,none⟩=some (.int .i64 y1)∧w7.cell? ⟨b,o+j*3+1,none⟩=some (.int .i64 y2)∧w7.cell? ⟨b,o+j*3+2,none⟩=some (.int .i64 y3):=⟨(hfar _ rfl).trans hcx.1,(hfar _ rfl).trans hcx.2.1,(hfar _ rfl).trans hcx.2.2⟩
       clear hown7 hgr7 hat7 hcx hnb hfar
       refine hK.out _ _ hsw7 (fun hHeld2=>?_)
       clear hK K hHeld
       have hHeld:=hHeld2
       clear hHeld2
       refine wpAnyH_take (i:=26) (oi:=_) (v:=?_) rfl (by kernel_rfl) (by kernel_rfl) (by kernel_rfl) (fun _ _ _ h=>h) (Or.inl ⟨by rfl,?_⟩) (by assumption) ?_
       rotate_left
       ·(intro w hSw;(try dsimp only at hSw);(try obtain ⟨s1_,s2_,s3_⟩:=hSw);go_simp <;> with_reducible rfl)
       simp only [List.getElem_toArray,List.getElem_cons_succ,List.getElem_cons_zero,Act.put,List.setIfInBounds_toArray,List.set_cons_zero,List.set_cons_succ]
       refine wpAnyH_done (by kernel_rfl) ?_ _
       have HB7:=Lib.hid (((HBX.out.trans (HB6.out.mono HBX.out.size)).alloc (Nat.le_trans hwb HB6.out.size) (.cells #[.string (says G),.int .i64 y1,.int .i64 (y2+y3)] 125)).grown HG7.out (by have:=HB6.out.size;simp;omega) (fun g hg=>(HOL6.out.lt g hg).1))
       have HO8:=Lib.hid (show w7.ownsRow w.heap.size 125 3 v7 ((T++[G]).map sgOf).length (sgs ((T++[G]).map sgOf)) by
        rw [List.map_append,List.map_singleton,List.length_append,sgs_append,HGV.out];exact HO7.out)
       clear g1 g2 g3 hjw hyw hcv hHeld
       go_wp2_with fail
       go_roundw
       case rel=>exact ⟨j+1,j+1,T++[G],by omega,Nat.le_refl _,by go_num,by go_num,Lib.hid ⟨HO8.out,HB7.out,fun _=>⟨by omega,by rw [HGE.out];exact HG2.out⟩,fun h=>by omega⟩⟩
       case measure=>simp [intOf];omega
   ·have hjn:n=j+1:=by omega
    have HBW:=Lib.hid (Below.refl wo.heap.size wo)
    have HG2:=Lib.hid (show T++[(ps.take (j+1)).drop fr]=grp ps by
     have hh:=HGF.out
     have ht:ps.take (j+1)=ps:=List.take_of_length_le (by rw [HN.out];omega)
     rw [ht] at hh ⊢
     exact gfold_last hfl hh)
    have hd:decide ((j:Int)+1 < (n:Int))=false:=decide_eq_false (by omega)
    have hd0:decide ((j:Int)+1≤(n:Int))=true:=decide_eq_true (by omega)
    clear hjn
    go_wp2_with fail
    have HOR:=Lib.hid (Ucd.own_below H1.out.row HBW.out)
    have HBL:=Lib.hid (H1.out.bel.trans (HBW.out.mono H1.out.bel.size))
    have HRW:=Lib.hid (HR.out.below HBL.out)
    have HNIL:=Lib.hid (show runs ((ps.take fr).drop fr)=[] by rw [List.drop_of_length_le (by rw [List.length_take];omega)];rfl)
    go_loopw [6,7] (fun vr vk wx=>∃i:Nat,fr≤i∧i≤j+1∧vk=.int .i64 i∧Hid (wx.ownsRow wo.heap.size 21 1 vr (runs ((ps.take i).drop fr)).length (nums (runs ((ps.take i).drop fr))))∧Hid (Below wo.heap.size wo wx)) (fun _ vk _=>j+1 - (intOf vk).toNat)
    case atStart=>exact ⟨fr,Nat.le_refl _,by omega,rfl,Lib.hid (by rw [HNIL.out];exact World.ownsRow_nil _ _ _ _),Lib.hid (Below.refl _ _)⟩
    case round =>
     obtain ⟨i,hfi,hij,rfl,HO,HB⟩:=hrel
     by_cases hlt2:i < j+1
     ·have hil:i < ps.length:=by omega
      have hd2:decide ((i:Int) < (j:Int)+1)=true:=decide_eq_true (by omega)
      obtain ⟨c1,cx1,cx2⟩:=(HRW.out.below (HB.out.mono HBL.out.size)).pt hil
      clear cx1 cx2
      have HT:=Lib.hid (show runs ((ps.take (i+1)).drop fr)=runs ((ps.take i).drop fr)++[(ps[i].r:Int)] by
       rw [List.take_succ_eq_append_getElem hil,List.drop_append_of_le_length (by rw [List.length_take];omega),runs_append];rfl)
      have hlen:(runs ((ps.take i).drop fr)).length≤134217728:=by rw [runs,List.length_map,List.length_drop,List.length_take];omega
      generalize runs ((ps.take i).drop fr)=L at HO HT hlen
      obtain ⟨ln,hln⟩:∃ln,ln=L.length:=⟨_,rfl⟩
      rw [←hln] at HO hlen
      have HLN:=Lib.hid hln
      obtain ⟨x2,hx2⟩:∃x:Int,x=(ps[i].r:Int):=⟨_,rfl⟩
      rw [←hx2] at c1 HT
      have hbw:=HB.out.size
      clear hil hx2 hln
      go_wp2_with (at_builtin;refine wpList_append_rd _ rfl (.tmp 33) (.tmp 39) _ rfl wo.heap.size 21 i1 _ 1 4 Tryz.underlying143 hi' hy0 hy1 hy2 rfl (by decide) _ ln (nums L) rfl (HO.out.alloc _) _ (some ⟨wr.heap.size,0,none⟩) 1 1 [.int .i32 x2] rfl rfl (rd_new _ _ [.int .i32 x2] _ (by simp)) (nums_one [x2]) (by unfold maxLen;omega) (by omega) (by simp;omega) ?_;intro v6 w6 hown6 hgr6 _)
      have HO6:=Lib.hid (show w6.ownsRow wo.heap.size 21 1 v6 (runs ((ps.take (i+1)).drop fr)).length (nums (runs ((ps.take (i+1)).drop fr))) by
       rw [HT.out,List.length_append,←HLN.out,nums_append];exact hown6)
      have HB6:=Lib.hid ((HB.out.alloc hbw _).grown hgr6 (by simp;omega) (fun g hg=>(HO.out.lt g hg).1))
      clear hown6 hgr6 HO HT
      go_roundw
      case rel=>exact ⟨i+1,by omega,by omega,by go_num,HO6,HB6⟩
      case measure=>simp [intOf];omega
     ·obtain rfl:i=j+1:=by omega
      have hd2:decide (((j+1:Nat):Int) < (j:Int)+1)=false:=decide_eq_false (by omega)
      obtain ⟨G,hG⟩:∃G,G=(ps.take (j+1)).drop fr:=⟨_,rfl⟩
      have hGl:(runs G).length≤134217728:=by rw [hG,runs,List.length_map,List.length_drop,List.length_take];omega
      have HGE:=Lib.hid hG
      rw [←hG] at HO
      obtain ⟨R,hR⟩:∃R,R=runs G:=⟨_,rfl⟩
      have HRE:=Lib.hid hR
      rw [←hR] at HO hGl
      obtain ⟨Ar,cr,rfl,_,_,hrr⟩:=own_form HO.out
      have HRR:=Lib.hid hrr
      have hXl:(normal R).length≤402653184:=by have:=fulls_len R;rw [normal_len];omega
      obtain ⟨rl,hrl⟩:∃rl,rl=R.length:=⟨_,rfl⟩
      have HNM:=Lib.hid (fun (u:World) (h:Rd u u.heap.size Ar (nums R))=>rnormal_any Ar R rl cr u h hrl.symm (by omega))
      have HSY:=Lib.hid (show says G=str (enc (normal R)) by rw [hR];rfl)
      generalize normal R=X at HNM HSY hXl
      rw [←hrl] at hGl ⊢
      have HRL:=Lib.hid hrl
      have HXL:=Lib.hid hXl
      have HENC:=Lib.hid (fun (A2:Option Addr) (c2:Nat) (u:World) (h:Rd u u.heap.size A2 (nums X))=>rencode_any A2 X X.length c2 u h rfl (by omega))
      have HORx:=Lib.hid (Ucd.own_below HOR.out HB.out)
      have HBX:=Lib.hid (HBL.out.trans (HB.out.mono HBL.out.size))
      have hrx:=HR.out.below HBX.out
      have g1:=(hrx.pt hfl).2.1
      have g2:=(hrx.pt hjl).2.1
      have g3:=(hrx.pt hjl).2.2
      obtain ⟨y1,hy1'⟩:∃y:Int,y=(ps[fr].p:Int):=⟨_,rfl⟩
      obtain ⟨y2,hy2'⟩:∃y:Int,y=(ps[j].p:Int):=⟨_,rfl⟩
      obtain ⟨y3,hy3'⟩:∃y:Int,y=(ps[j].w:Int):=⟨_,rfl⟩
      have hyb:0≤y2∧0≤y3∧y2+y3≤1099511627776:=by omega
      obtain ⟨hyb1,hyb2,hyb3⟩:=hyb
      have HGV:=Lib.hid (show sgs [sgOf G]=[.string (says G),.int .i64 y1,.int .i64 (y2+y3)] by
       have h:=HGR.out
       rw [←hG] at h
       rw [h,hy1',hy2',hy3']
       rfl)
      rw [←hy1'] at g1;rw [←hy2'] at g2;rw [←hy3'] at g3
      have hwb:w.heap.size≤wr.heap.size:=HBX.out.size
      have hbb:b < w.heap.size:=by obtain ⟨b',o',e,h,_⟩:=HR.out (by intro e;have:=congrArg List.length e;rw [pts_len] at this;simp at this;omega);injection e with e;injection e with e1 _;omega
      have hjw:IntKind.i64.wrap (j:Int)=(j:Int):=IntWalk.i64_in _ (by omega)
      have hyw:IntKind.i64.wrap (y2+y3)=y2+y3:=IntWalk.i64_in _ (by omega)
      have HY:=Lib.hid hy1'
      clear hG hR hrr hXl hrl hrx hy1' hy2' hy3' HO HRW HNIL HOR
      go_wp2_with fail
      have HSW:=Lib.hid (show ∀u:World,Below wr.heap.size wr u→u.cell? ⟨b,o+fr*3+1,none⟩=some (.int .i64 y1)∧u.cell? ⟨b,o+j*3+1,none⟩=some (.int .i64 y2)∧u.cell? ⟨b,o+j*3+2,none⟩=some (.int .i64 y3) from fun u hu =>
       ⟨(hu.cell (p:=⟨b,o+fr*3+1,none⟩) (show b < _ by omega)).trans g1,(hu.cell (p:=⟨b,o+j*3+1,none⟩) (show b < _ by omega)).trans g2,(hu.cell (p:=⟨b,o+j*3+2,none⟩) (show b < _ by omega)).trans g3⟩)
      have hfn:fr < n:=by omega
      have hTl:=HTLN.out
      refine wp_region_held_drew (S:=fun u=>u.cell? ⟨b,o+fr*3+1,none⟩=some (.int .i64 y1)∧u.cell? ⟨b,o+j*3+1,none⟩=some (.int .i64 y2)∧u.cell? ⟨b,o+j*3+2,none⟩=some (.int .i64 y3)) (by kernel_rfl) ⟨g1,g2,g3⟩ (fun hHeld=>?_)
      refine wpAnyH_take (i:=0) (oi:=_) (v:=?_) rfl (by kernel_rfl) (by kernel_rfl) (by kernel_rfl) (fun _ _ _ h=>h) (Or.inl ⟨by rfl,?_⟩) (by assumption) ?_
      rotate_left
      ·(intro w hSw;(try dsimp only at hSw);(try obtain ⟨s1_,s2_,s3_⟩:=hSw);go_simp <;> with_reducible rfl)
      simp only [List.getElem_toArray,List.getElem_cons_zero,Act.put,List.setIfInBounds_toArray,List.set_cons_zero,List.set_cons_succ]
      refine wpAnyH_take (i:=1) (oi:=_) (v:=?_) rfl (by kernel_rfl) (by kernel_rfl) (by kernel_rfl) (fun _ _ _ h=>h) (Or.inl ⟨by rfl,?_⟩) (by assumption) ?_
      rotate_left
      ·(intro w hSw;(try dsimp only at hSw);(try obtain ⟨s1_,s2_,s3_⟩:=hSw);go_simp <;> with_reducible rfl)
      simp only [List.getElem_toArray,List.getElem_cons_succ,List.getElem_cons_zero,Act.put,List.setIfInBounds_toArray,List.set_cons_zero,List.set_cons_succ]
      refine wpAnyH_take (i:=5) (oi:=_) (v:=?_) rfl (by kernel_rfl) (by kernel_rfl) (by kernel_rfl) (fun _ _ _ h=>h) (Or.inl ⟨by rfl,?_⟩) (by assumption) ?_
      rotate_left
      ·(intro w hSw;(try dsimp only at hSw);(try obtain ⟨s1_,s2_,s3_⟩:=hSw);go_simp <;> with_reducible rfl)
      simp only [List.getElem_toArray,List.getElem_cons_succ,List.getElem_cons_zero,Act.put,List.setIfInBounds_toArray,List.set_cons_zero,List.set_cons_succ]
      refine wpAnyH_take (i:=6) (oi:=_) (v:=?_) rfl (by kernel_rfl) (by kernel_rfl) (by kernel_rfl) (fun _ _ _ h=>h) (Or.inl ⟨by rfl,?_⟩) (by assumption) ?_
      rotate_left
      ·(intro w hSw;(try dsimp only at hSw);(try obtain ⟨s1_,s2_,s3_⟩:=hSw);go_simp <;> with_reducible rfl)
      simp only [List.getElem_toArray,List.getElem_cons_succ,List.getElem_cons_zero,Act.put,List.setIfInBounds_toArray,List.set_cons_zero,List.set_cons_succ]
      refine wpAnyH_take (i:=7) (oi:=_) (v:=?_) rfl (by kernel_rfl) (by kernel_rfl) (by kernel_rfl) (fun _ _ _ h=>h) (Or.inl ⟨by rfl,?_⟩) (by assumption) ?_
      rotate_left
      ·(intro w hSw;(try dsimp only at hSw);(try obtain ⟨s1_,s2_,s3_⟩:=hSw);go_simp <;> with_reducible rfl)
      simp only [List.getElem_toArray,List.getElem_cons_succ,List.getElem_cons_zero,Act.put,List.setIfInBounds_toArray,List.set_cons_zero,List.set_cons_succ]
      refine wpAnyH_take (i:=8) (oi:=_) (v:=?_) rfl (by kernel_rfl) (by kernel_rfl) (by kernel_rfl) (fun _ _ _ h=>h) (Or.inl ⟨by rfl,?_⟩) (by assumption) ?_
      rotate_left
      ·(intro w hSw;(try dsimp only at hSw);(try obtain ⟨s1_,s2_,s3_⟩:=hSw);go_simp <;> with_reducible rfl)
      simp only [List.getElem_toArray,List.getElem_cons_succ,List.getElem_cons_zero,Act.put,List.setIfInBounds_toArray,List.set_cons_zero,List.set_cons_succ]
      refine wpAnyH_take (i:=9) (oi:=_) (v:=?_) rfl (by kernel_rfl) (by kernel_rfl) (by kernel_rfl) (fun _ _ _ h=>h) (Or.inl ⟨by rfl,?_⟩) (by assumption) ?_
      rotate_left
      ·(intro w hSw;(try dsimp only at hSw);(try obtain ⟨s1_,s2_,s3_⟩:=hSw);go_simp <;> with_reducible rfl)
      simp only [List.getElem_toArray,List.getElem_cons_succ,List.getElem_cons_zero,Act.put,List.setIfInBounds_toArray,List.set_cons_zero,List.set_cons_succ]
      refine wpAnyH_take (i:=10) (oi:=_) (v:=?_) rfl (by kernel_rfl) (by kernel_rfl) (by kernel_rfl) (fun _ _ _ h=>h) (Or.inl ⟨by rfl,?_⟩) (by assumption) ?_
      rotate_left
      ·(intro w hSw;(try dsimp only at hSw);(try obtain ⟨s1_,s2_,s3_⟩:=hSw);go_simp <;> with_reducible rfl)
      simp only [List.getElem_toArray,List.getElem_cons_succ,List.getElem_cons_zero,Act.put,List.setIfInBounds_toArray,List.set_cons_zero,List.set_cons_succ]
      refine wpAnyH_take (i:=11) (oi:=_) (v:=?_) rfl (by kernel_rfl) (by kernel_rfl) (by kernel_rfl) (fun _ _ _ h=>h) (Or.inl ⟨by rfl,?_⟩) (by assumption) ?_
      rotate_left
      ·(intro w hSw;(try dsimp only at hSw);(try obtain ⟨s1_,s2_,s3_⟩:=hSw);go_simp <;> with_reducible rfl)
      simp only [List.getElem_toArray,List.getElem_cons_succ,List.getElem_cons_zero,Act.put,List.setIfInBounds_toArray,List.set_cons_zero,List.set_cons_succ]
      refine wpAnyH_take (i:=12) (oi:=_) (v:=?_) rfl (by kernel_rfl) (by kernel_rfl) (by kernel_rfl) (fun _ _ _ h=>h) (Or.inl ⟨by rfl,?_⟩) (by assumption) ?_
      rotate_left
      ·(intro w hSw;(try dsimp only at hSw);(try obtain ⟨s1_,s2_,s3_⟩:=hSw);go_simp <;> with_reducible rfl)
      simp only [List.getElem_toArray,List.getElem_cons_succ,List.getElem_cons_zero,Act.put,List.setIfInBounds_toArray,List.set_cons_zero,List.set_cons_succ]
      refine wpAnyH_take (i:=13) (oi:=_) (v:=?_) rfl (by kernel_rfl) (by kernel_rfl) (by kernel_rfl) (fun _ _ _ h=>h) (Or.inl ⟨by rfl,?_⟩) (by assumption) ?_
      rotate_left
      ·(intro w hSw;(try dsimp only at hSw);(try obtain ⟨s1_,s2_,s3_⟩:=hSw);go_simp <;> with_reducible rfl)
      simp only [List.getElem_toArray,List.getElem_cons_succ,List.getElem_cons_zero,Act.put,List.setIfInBounds_toArray,List.set_cons_zero,List.set_cons_succ]
      refine wpAnyH_take (i:=14) (oi:=_) (v:=?_) rfl (by kernel_rfl) (by kernel_rfl) (by kernel_rfl) (fun _ _ _ h=>h) (Or.inl ⟨by rfl,?_⟩) (by assumption) ?_
      rotate_left
      ·(intro w hSw;(try dsimp only at hSw);(try obtain ⟨s1_,s2_,s3_⟩:=hSw);go_simp <;> with_reducible rfl)
      simp only [List.getElem_toArray,List.getElem_cons_succ,List.getElem_cons_zero,Act.put,List.setIfInBounds_toArray,List.set_cons_zero,List.set_cons_succ]
      refine wpAnyH_take (i:=15) (oi:=_) (v:=?_) rfl (by kernel_rfl) (by kernel_rfl) (by kernel_rfl) (fun _ _ _ h=>h) (Or.inl ⟨by rfl,?_⟩) (by assumption) ?_
      rotate_left
      ·(intro w hSw;(try dsimp only at hSw);(try obtain ⟨s1_,s2_,s3_⟩:=hSw);go_simp <;> with_reducible rfl)
      simp only [List.getElem_toArray,List.getElem_cons_succ,List.getElem_cons_zero,Act.put,List.setIfInBounds_toArray,List.set_cons_zero,List.set_cons_succ]
      refine wpAnyH_take (i:=16) (oi:=_) (v:=?_) rfl (by kernel_rfl) (by kernel_rfl) (by kernel_rfl) (fun _ _ _ h=>h) (Or.inl ⟨by rfl,?_⟩) (by assumption) ?_
      rotate_left
      ·(intro w hSw;(try dsimp only at hSw);(try obtain ⟨s1_,s2_,s3_⟩:=hSw);go_simp <;> with_reducible rfl)
      simp only [List.getElem_toArray,List.getElem_cons_succ,List.getElem_cons_zero,Act.put,List.setIfInBounds_toArray,List.set_cons_zero,List.set_cons_succ]
      refine wpAnyH_take (i:=17) (oi:=_) (v:=?_) rfl (by kernel_rfl) (by kernel_rfl) (by kernel_rfl) (fun _ _ _ h=>h) (Or.inl ⟨by rfl,?_⟩) (by assumption) ?_
      rotate_left
      ·(intro w hSw;(try dsimp only at hSw);(try obtain ⟨s1_,s2_,s3_⟩:=hSw);go_simp <;> with_reducible rfl)
      simp only [List.getElem_toArray,List.getElem_cons_succ,List.getElem_cons_zero,Act.put,List.setIfInBounds_toArray,List.set_cons_zero,List.set_cons_succ]
      refine wpAnyH_take (i:=18) (oi:=_) (v:=?_) rfl (by kernel_rfl) (by kernel_rfl) (by kernel_rfl) (fun _ _ _ h=>h) (Or.inl ⟨by rfl,?_⟩) (by assumption) ?_
      rotate_left
      ·(intro w hSw;(try dsimp only at hSw);(try obtain ⟨s1_,s2_,s3_⟩:=hSw);go_simp <;> with_reducible rfl)
      simp only [List.getElem_toArray,List.getElem_cons_succ,List.getElem_cons_zero,Act.put,List.setIfInBounds_toArray,List.set_cons_zero,List.set_cons_succ]
      refine wpAnyH_take (i:=19) (oi:=_) (v:=?_) rfl (by kernel_rfl) (by kernel_rfl) (by kernel_rfl) (fun _ _ _ h=>h) (Or.inl ⟨by rfl,?_⟩) (by assumption) ?_
      rotate_left
      ·(intro w hSw;(try dsimp only at hSw);(try obtain ⟨s1_,s2_,s3_⟩:=hSw);go_simp <;> with_reducible rfl)
      simp only [List.getElem_toArray,List.getElem_cons_succ,List.getElem_cons_zero,Act.put,List.setIfInBounds_toArray,List.set_cons_zero,List.set_cons_succ]
      refine wpAnyH_take (i:=20) (oi:=_) (v:=?_) rfl (by kernel_rfl) (by kernel_rfl) (by kernel_rfl) (fun _ _ _ h=>h) (Or.inl ⟨by rfl,?_⟩) (by assumption) ?_
      rotate_left
      ·(intro w hSw;(try dsimp only at hSw);(try obtain ⟨s1_,s2_,s3_⟩:=hSw);go_simp <;> with_reducible rfl)
      simp only [List.getElem_toArray,List.getElem_cons_succ,List.getElem_cons_zero,Act.put,List.setIfInBounds_toArray,List.set_cons_zero,List.set_cons_succ]
      refine wpAnyH_take (i:=21) (oi:=_) (v:=?_) rfl (by kernel_rfl) (by kernel_rfl) (by kernel_rfl) (fun _ _ _ h=>h) (Or.inl ⟨by rfl,?_⟩) (by assumption) ?_
      rotate_left
      ·(intro w hSw;(try dsimp only at hSw);(try obtain ⟨s1_,s2_,s3_⟩:=hSw);go_simp <;> with_reducible rfl)
      simp only [List.getElem_toArray,List.getElem_cons_succ,List.getElem_cons_zero,Act.put,List.setIfInBounds_toArray,List.set_cons_zero,List.set_cons_succ]
      refine wpAnyH_take (i:=22) (oi:=_) (v:=?_) rfl (by kernel_rfl) (by kernel_rfl) (by kernel_rfl) (fun _ _ _ h=>h) (Or.inl ⟨by rfl,?_⟩) (by assumption) ?_
      rotate_left
      ·(intro w hSw;(try dsimp only at hSw);(try obtain ⟨s1_,s2_,s3_⟩:=hSw);go_simp <;> with_reducible rfl)
      simp only [List.getElem_toArray,List.getElem_cons_succ,List.getElem_cons_zero,Act.put,List.setIfInBounds_toArray,List.set_cons_zero,List.set_cons_succ]
      refine wpAnyH_ready (rs:=[2]) (by kernel_rfl) (by simp) (AllReadyH.cons rfl (fun K hK=>?_) AllReadyH.nil)
      go_simp
      go_at_call 98
      refine (HNM.out wr.drew HRR.out.drew).mono ?_
      rintro e5 w5 ⟨v5,rfl,ho5,hb5⟩
      obtain ⟨A5,c5,rfl,_,_,hr5⟩:=own_form ho5
      have HR5:=Lib.hid hr5
      have HB5:=Lib.hid (show Below wr.heap.size wr w5 from (Below.refl _ _).drew.trans hb5)
      clear ho5 hr5 hb5
      refine hK.out _ _ (HSW.out w5 HB5.out) (fun hHeld2=>?_)
      clear hK K hHeld
      have hHeld:=hHeld2
      clear hHeld2
      refine wpAnyH_ready (rs:=[3]) (by kernel_rfl) (by simp) (AllReadyH.cons rfl (fun K hK=>?_) AllReadyH.nil)
      go_simp
      go_at_call 96
      refine (HENC.out A5 c5 w5 HR5.out).mono ?_
      rintro e6 w6 ⟨v6,rfl,ho6,hb6⟩
      obtain ⟨A6,c6,rfl,_,_,hr6⟩:=Utf.own_form ho6
      have hcv:=conv_rd (c:=c6) hr6 rfl
      rw [show (⟨(enc X).toArray⟩:ByteArray)=says G from HSY.out.symm] at hcv
      have HB6:=Lib.hid (HB5.out.trans (hb6.mono HB5.out.size))
      have HOL6:=Lib.hid (Ucd.own_below HORx.out HB6.out)
      clear ho6 hr6 hb6
      refine hK.out _ _ (HSW.out w6 HB6.out) (fun hHeld2=>?_)
      clear hK K hHeld
      have hHeld:=hHeld2
      clear hHeld2
      refine wpAnyH_ready (rs:=[4]) (by kernel_rfl) (by simp) (AllReadyH.cons rfl (fun K hK=>?_) AllReadyH.nil)
      go_simp
      refine hK.out _ _ (HSW.out w6 HB6.out) (fun hHeld2=>?_)
      clear hK K hHeld
      have hHeld:=hHeld2
      clear hHeld2
      refine wpAnyH_take (i:=23) (oi:=_) (v:=?_) rfl (by kernel_rfl) (by kernel_rfl) (by kernel_rfl) (fun _ _ _ h=>h) (Or.inl ⟨by rfl,?_⟩) (by assumption) ?_
      rotate_left
      ·(intro w hSw;(try dsimp only at hSw);(try obtain ⟨s1_,s2_,s3_⟩:=hSw);go_simp <;> with_reducible rfl)
      simp only [List.getElem_toArray,List.getElem_cons_succ,List.getElem_cons_zero,Act.put,List.setIfInBounds_toArray,List.set_cons_zero,List.set_cons_succ]
      refine wpAnyH_ready (rs:=[24]) (by kernel_rfl) (by simp) (AllReadyH.cons rfl (fun K hK=>?_) AllReadyH.nil)
      go_simp
      refine hK.out _ _ (HSW.out _ (HB6.out.alloc HB6.out.size _)) (fun hHeld2=>?_)
      clear hK K hHeld
      have hHeld:=hHeld2
      clear hHeld2
      refine wpAnyH_ready (rs:=[25]) (by kernel_rfl) (by simp) (AllReadyH.cons rfl (fun K hK=>?_) AllReadyH.nil)
      have hsz6:=HB6.out.size
      refine step_append_rd (by rfl) (.tmp 41) (.tmp 65) _ (by rfl) w.heap.size 125 i0 _ 3 32 Tryz.underlying85 hi hz0 hz1 hz2 rfl (by decide) u3 (T.map sgOf).length (sgs (T.map sgOf)) (by rfl) (HOL6.out.alloc _) _ (some ⟨w6.heap.size,0,none⟩) 1 1 [.string (says G),.int .i64 y1,.int .i64 (y2+y3)] (by rfl) (by rfl) (rd_new _ _ [.string (says G),.int .i64 y1,.int .i64 (y2+y3)] _ (by simp)) (by simp [Value.oneCell']) (by unfold maxLen;omega) (by omega) (by simp;omega) ?_
      intro v7 w7 hown7 hgr7 hat7
      have HO7:=Lib.hid hown7
      have HG7:=Lib.hid hgr7
      have hcx:=HSW.out _ (HB6.out.alloc HB6.out.size (.cells #[.string (says G),.int .i64 y1,.int .i64 (y2+y3)] 125))
      have hnb:∀g,u3.ownBlock=some g→g≠b:=fun g hg e=>by have:=(HOL6.out.lt g hg).1;omega
      have hfar:∀p:Addr,p.block=b→w7.cell? p=(w6.alloc (.cells #[.string (says G),.int .i64 y1,.int .i64 (y2+y3)] 125)).cell? p:=fun p hp=>World.cell?_of_block (HG7.out.block p.block (by simp;omega) (fun e=>hnb _ e.symm hp))
      have hsw7:w7.cell? ⟨b,o+fr*3+1,none⟩=some (.int .i64 y1)∧w7.cell? ⟨b,o+j*3+1,none⟩=some (.int .i64 y2)∧w7.cell? ⟨b,o+j*3+2,none⟩=some (.int .i64 y3):=⟨(hfar _ rfl).trans hcx.1,(hfar _ rfl).trans hcx.2.1,(hfar _ rfl).trans hcx.2.2⟩
      clear hown7 hgr7 hat7 hcx hnb hfar
      refine hK.out _ _ hsw7 (fun hHeld2=>?_)
      clear hK K hHeld
      have hHeld:=hHeld2
      clear hHeld2
      refine wpAnyH_take (i:=26) (oi:=_) (v:=?_) rfl (by kernel_rfl) (by kernel_rfl) (by kernel_rfl) (fun _ _ _ h=>h) (Or.inl ⟨by rfl,?_⟩) (by assumption) ?_
      rotate_left
      ·(intro w hSw;(try dsimp only at hSw);(try obtain ⟨s1_,s2_,s3_⟩:=hSw);go_simp <;> with_reducible rfl)
      simp only [List.getElem_toArray,List.getElem_cons_succ,List.getElem_cons_zero,Act.put,List.setIfInBounds_toArray,List.set_cons_zero,List.set_cons_succ]
      refine wpAnyH_done (by kernel_rfl) ?_ _
      have HB7:=Lib.hid (((HBX.out.trans (HB6.out.mono HBX.out.size)).alloc (Nat.le_trans hwb HB6.out.size) (.cells #[.string (says G),.int .i64 y1,.int .i64 (y2+y3)] 125)).grown HG7.out (by have:=HB6.out.size;simp;omega) (fun g hg=>(HOL6.out.lt g hg).1))
      have HO8:=Lib.hid (show w7.ownsRow w.heap.size 125 3 v7 ((T++[G]).map sgOf).length (sgs ((T++[G]).map sgOf)) by
       rw [List.map_append,List.map_singleton,List.length_append,sgs_append,HGV.out];exact HO7.out)
      clear g1 g2 g3 hjw hyw hcv hHeld
      go_wp2_with fail
      go_roundw
      case rel=>exact ⟨j+1,j+1,T++[G],by omega,Nat.le_refl _,by go_num,by go_num,Lib.hid ⟨HO8.out,HB7.out,fun h=>by omega,fun _=>by rw [HGE.out];exact HG2.out⟩⟩
      case measure=>simp [intOf];omega
  ·have HT:=Lib.hid (H1.out.fin (by omega))
   go_wp2_with fail
   go_ret
   rw [←HT.out]
   exact ⟨_,rfl,H1.out.row,H1.out.bel⟩
theorem dec_ends (o:Bool) (l:List UInt8):∀q∈dec o 0 l,q.p+q.w≤l.length:=by
 have key:∀(ps:List Pt) (k:Nat),Tile k ps→∀q∈ps,q.p+q.w≤k+ww ps:=fun ps=>by
  induction ps with
  | nil=>intro k _ q hq;simp at hq
  | cons x t ih =>
   intro k ht q hq
   rw [ww_cons]
   rcases List.mem_cons.1 hq with rfl | hq
   ·have:=ht.1;omega
   ·have:=ih _ ht.2.2 q hq;omega
 intro q hq
 have h:=key _ 0 (dec_tile o l 0) q hq
 have hw:ww (dec o 0 l)≤l.length:=by
  cases o with
  | true=>rw [ww_eat];exact eat_le l
  | false=>rw [ww_all];exact Nat.le_refl _
 omega
set_option maxHeartbeats 2000000 in
theorem all_any (A:Option Addr) (l:List UInt8) (n c:Nat) (w:World) (hr:Rd w w.heap.size A (bys l)) (hn:l.length=n) (hsm:n≤134217728) :
  Calls Tryz.prog 61 #[.slice A n c] w (Segs w ((grp (dec false 0 l)).map sgOf)):=by
 have HD:=Lib.hid (Utf.rdec_any A l n c false w hr hn (by omega))
 have hdl:=dec_len_le false l 0
 rw [hn] at hdl
 have hde:=dec_ends false l
 rw [hn] at hde
 have HDE:=Lib.hid hde
 generalize dec false 0 l=ps at HD hdl HDE ⊢
 obtain ⟨m,hm⟩:∃m,m=ps.length:=⟨_,rfl⟩
 rw [←hm] at hdl
 have HM:=Lib.hid hm
 clear hr hn hde hm
 go_enter Tryz.func61,Tryz.ntmps61
 go_wp2_with fail
 refine HD.out.mono ?_
 rintro e1 w1 ⟨v,rfl,ho,hb1⟩
 obtain ⟨A1,c1,rfl,_,_,hr1⟩:=Utf.own_form ho
 rw [←HM.out] at ho ⊢
 have HR1:=Lib.hid hr1
 have HB1:=Lib.hid hb1
 clear ho hr1 hb1 HD
 go_wp2_with fail
 refine (rcut_any A1 ps m c1 w1 HR1.out HM.out.symm (by omega) (fun q hq=>by have:=HDE.out q hq;omega)).mono ?_
 rintro e2 w2 ⟨v2,rfl,ho2,hb2⟩
 have HO2:=Lib.hid ho2
 have HB2:=Lib.hid (HB1.out.trans (hb2.mono HB1.out.size))
 clear ho2 hb2
 go_wp2_with fail
 go_ret
 exact ⟨v2,rfl,Norm.own_mono HO2.out HB1.out.size,HB2.out⟩
end Go.Proofs.YtegdbmbenjnacaaGreat.Seg
