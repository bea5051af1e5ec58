/-
  Texts of stage 7, part 31.
-/
import Derived.Deep.RegionHeld3
import Derived.BigRegion
import Derived.Deep.QuietTactic
import Derived.BigQuiet
import Derived.Deep.RegionLaw
import Derived.Test.YtkgeiokckfpjlaaGreatDoorM3
import Derived.Test.YtkgeiokckfpjlaaGreatDoorM6
import Derived.Test.YtkgeiokckfpjlaaGreatDoorM30
namespace Go.Proofs.YtkgeiokckfpjlaaGreatDoor.Norm
open Go.Shelf Go.RowKit Go.Sort
open Utf hiding infoI32 rd_new own_form rdec_any below_drewN new_any write_any close_any
open Ucd hiding grow same Told
def runesF (l:List UInt8):List Int:=(dec false 0 l).map fun q=>(q.r:Int)
def textF (l:List UInt8):List UInt8:=enc (normal (runesF l))
theorem runes_len (l:List UInt8):(runesF l).length≤l.length:=by
 unfold runesF
 rw [List.length_map]
 exact dec_len_le false l 0
set_option maxHeartbeats 4000000 in
set_option maxRecDepth 100000 in
theorem numbers_any (A:Option Addr) (l:List UInt8) (m c:Nat) (w:World) (hr:Rd w w.heap.size A (bys l)) (hm:l.length=m) (hc:m≤c) (hcm:c≤9223372036854775807) (hb:m≤34359738368) :
  Calls Tryz.prog 304 #[.slice A m c] w (Mine w.heap.size w (runesF l)):=by
 obtain ⟨i0,hi,hz0,hz1,hz2⟩:=info_parts infoI32
 have HD:=Lib.hid (decode_any A l m c w hr hm hc hcm (by omega))
 have hl:=dec_len_le false l 0
 rw [hm] at hl
 have HE:=Lib.hid (show runesF l=(dec false 0 l).map fun q=>(q.r:Int) from rfl)
 generalize dec false 0 l=ps at HD HE hl
 obtain ⟨B0,hB0⟩:∃B0,B0=w.heap.size:=⟨_,rfl⟩
 have HB0:=Lib.hid hB0
 rw [HE.out,←hB0]
 clear hr hm hB0
 go_enter Tryz.func304,Tryz.ntmps304
 go_wp2_with fail
 refine HD.out.mono ?_
 rintro e w1 ⟨v,rfl,ho,hb1⟩
 rw [←HB0.out] at ho hb1
 obtain ⟨A1,c1,rfl,_,_,hr1⟩:=own_form ho
 have HR1:=Lib.hid hr1
 have HB1:=Lib.hid hb1
 obtain ⟨n,hn⟩:∃n,n=ps.length:=⟨_,rfl⟩
 rw [←hn] at hl ⊢
 have HN:=Lib.hid hn
 have HW1:=Lib.hid (show B0≤w1.heap.size by have:=hb1.size;have:=HB0.out;omega)
 have HG:=Lib.hid (fun g (h:(Value.slice A1 ps.length c1).ownBlock=some g)=>ho.lt g h)
 clear ho hb1 hr1 hn HD
 go_wp2_with fail
 go_loopw [3,9] (fun vo i wr=>∃k:Nat,k≤n∧i=.int .i64 k∧Hid (wr.ownsRow w1.heap.size 21 1 vo ((ps.take k).map fun q=>(q.r:Int)).length (nums ((ps.take k).map fun q=>(q.r:Int))))∧Hid (Below w1.heap.size w1 wr)) (fun _ i _=>n - (intOf i).toNat)
 case atStart=>exact ⟨0,Nat.zero_le _,rfl,Lib.hid (World.ownsRow_nil _ _ _ _),Lib.hid (Below.refl _ _)⟩
 case round =>
  obtain ⟨k,hk,rfl,HO,HB⟩:=hrel
  by_cases hlt:k < n
  ·have hkl:k < ps.length:=by rw [←HN.out];exact hlt
   obtain ⟨b,o,rfl,hbl⟩:=HR1.out.form (by rw [pts_len];omega)
   obtain ⟨p1,p2,p3⟩:=(HR1.out.below HB.out).pt hkl
   have HT:=Lib.hid (show (ps.take (k+1)).map (fun q=>(q.r:Int))=(ps.take k).map (fun q=>(q.r:Int))++[(ps[k].r:Int)] by rw [List.take_succ_eq_append_getElem hkl,List.map_append];rfl)
   have hlen:((ps.take k).map fun q=>(q.r:Int)).length=k:=by rw [List.length_map,List.length_take];omega
   generalize (ps.take k).map (fun q=>(q.r:Int))=L at HO HT hlen
   have hbw:=HB.out.size
   rw [hlen] at HO
   have HLN:=Lib.hid hlen
   obtain ⟨x,hx⟩:∃x:Int,x=(ps[k].r:Int):=⟨_,rfl⟩
   obtain ⟨y,hy⟩:∃y:Int,y=(ps[k].p:Int):=⟨_,rfl⟩
   obtain ⟨z,hz⟩:∃z:Int,z=(ps[k].w:Int):=⟨_,rfl⟩
   rw [←hx] at p1 HT
   rw [←hy] at p2
   rw [←hz] at p3
   have hbk:k≤34359738368:=by omega
   clear hkl hx hy hz hlen hbl
   go_wp2_with (at_builtin;refine wpList_append_rd _ rfl (.tmp 13) (.tmp 16) _ rfl w1.heap.size 21 i0 _ 1 4 Tryz.underlying73 hi hz0 hz1 hz2 rfl (by decide) u3 k (nums L) rfl ((HO.out.alloc _).alloc _) _ (some ⟨wr.heap.size+1,0,none⟩) 1 1 [.int .i32 x] rfl rfl (rd_new _ _ [.int .i32 x] _ (by simp)) (nums_one [x]) (by unfold maxLen;omega) (by omega) (by simp;omega) ?_;intro v6 w6 hown6 hgr6 _)
   have HO6:=Lib.hid (show w6.ownsRow w1.heap.size 21 1 v6 ((ps.take (k+1)).map fun q=>(q.r:Int)).length (nums ((ps.take (k+1)).map fun q=>(q.r:Int))) by
    rw [HT.out,List.length_append,HLN.out,nums_append];exact hown6)
   have HB6:=Lib.hid (((HB.out.alloc hbw _).alloc (by simp;omega) _).grown hgr6 (by simp;omega) (fun g hg=>(HO.out.lt g hg).1))
   clear hown6 hgr6 HO HT
   go_roundw
   case rel=>exact ⟨k+1,by omega,by go_num,HO6,HB6⟩
   case measure=>simp [intOf];omega
  ·have HXT:=Lib.hid (show ps.take k=ps by rw [List.take_of_length_le (by rw [←HN.out];omega)])
   rw [HXT.out] at HO
   go_wp2
   go_ret
   exact ⟨u3,rfl,own_mono HO.out HW1.out,HB1.out.trans (HB.out.mono HW1.out)⟩
theorem text_any (A:Option Addr) (l:List UInt8) (m c:Nat) (w:World) (hL:Laid w) (hr:Rd w w.heap.size A (bys l)) (hm:l.length=m) (hc:m≤c) (hcm:c≤9223372036854775807) (hb:m≤34359738368) :
  Calls Tryz.prog 289 #[.slice A m c] w (Ret w (.string ⟨(textF l).toArray⟩)):=by
 have HC:=Lib.hid (numbers_any A l m c w hr hm hc hcm hb)
 have hl:=runes_len l
 rw [hm] at hl
 have HL:=Lib.hid hL
 have HE:=Lib.hid (show textF l=enc (normal (runesF l)) from rfl)
 have hnl:(normal (runesF l)).length≤103079215104:=by have:=nf_len (fulls (runesF l));have:=fulls_len (runesF l);unfold normal;omega
 generalize runesF l=R at HC hl HE hnl
 have HN:=Lib.hid (fun (A:Option Addr) (c:Nat) (u:World) (h:Laid u) (hr:Rd u u.heap.size A (nums R))=>normal_any A R R.length c u h hr rfl (by omega))
 generalize normal R=X at HE HN hnl
 have HX:=Lib.hid hnl
 clear hL hr hm hl hnl
 go_enter Tryz.func289,Tryz.ntmps289
 go_wp2_with fail
 refine HC.out.mono ?_
 rintro e w1 ⟨v,rfl,ho,hb1⟩
 obtain ⟨A1,c1,rfl,_,_,hr1⟩:=own_form ho
 have HR1:=Lib.hid hr1
 have HB1:=Lib.hid hb1
 have HL1:=Lib.hid (HL.out.next hb1)
 clear ho hr1 hb1
 go_wp2_with fail
 refine (HN.out A1 c1 w1 HL1.out HR1.out).mono ?_
 rintro e w2 ⟨v,rfl,ho,hb2⟩
 obtain ⟨A2,c2,rfl,_,_,hr2⟩:=own_form ho
 have HR2:=Lib.hid hr2
 have HB2:=Lib.hid (HB1.out.trans (hb2.mono HB1.out.size))
 clear ho hr2 hb2
 go_wp2_with fail
 refine (encode_any A2 X X.length c2 w2 HR2.out rfl (by have:=HX.out;omega)).mono ?_
 rintro e w3 ⟨v,rfl,ho,hb3⟩
 obtain ⟨A3,c3,rfl,_,_,hr3⟩:=Utf.own_form ho
 have hcv:=conv_rd (c:=c3) hr3 rfl
 rw [←HE.out] at hcv ⊢
 have HB3:=Lib.hid (HB2.out.trans (hb3.mono HB2.out.size))
 clear ho hr3 hb3
 go_wp2_with fail
 go_ret
 exact ⟨rfl,HB3.out⟩
theorem rd_str (w:World) (s:ByteArray) (cap:Nat) (t:TypeId) (fr:Nat × Nat) (u:World) (hu:u=w.drew.alloc (.cells (bytesRow s cap) t fr)):Rd u u.heap.size (some ⟨w.heap.size,0,none⟩) (bys s.data.toList)∧Below w.heap.size w u:=by
 subst hu
 refine ⟨fun _=>⟨w.heap.size,0,rfl,by simp,fun j v hv=>?_⟩,(Below.refl _ _).drew.alloc (Nat.le_refl _) _⟩
 have hj:j < s.data.size:=by
  have:=(List.getElem?_eq_some_iff.1 hv).1
  simpa [bys] using this
 rw [cell_of_row (w.drew.alloc (.cells (bytesRow s cap) t fr)) w.heap.size (0+j) _ t fr (heap_alloc_new w.drew _)]
 rw [←hv,Nat.zero_add,bytesRow,Array.getElem?_append_left (by simpa using hj)]
 simp [bys]
theorem runes_any (s:ByteArray) (w:World) (hb:s.size≤34359738368):Calls Tryz.prog 299 #[.string s] w (Mine w.heap.size w (runesF s.data.toList)):=by
 have hcv:=run_bytes_of_string (P:=Tryz.prog) w 9 25 5 s Tryz.underlying9 Tryz.underlying25 Tryz.underlying5
 have hge:=grownCap_ge w s.size 0 5
 have hle:=grownCap_le_maxLen w s.size 0 5 (by unfold maxLen;omega)
 generalize grownCap w s.size 0 5=cap at hcv hge hle
 unfold maxLen at hle
 obtain ⟨u,hu⟩:∃u,u=w.drew.alloc (.cells (bytesRow s cap) 5 ((bytesRow s cap).size,(bytesRow s cap).size+1)):=⟨_,rfl⟩
 rw [←hu] at hcv
 obtain ⟨hrd,hbl⟩:=rd_str w s cap _ _ u hu
 have HC:=Lib.hid (numbers_any (some ⟨w.heap.size,0,none⟩) s.data.toList s.size cap u hrd (show s.data.toList.length=s.data.size from Array.length_toList) hge (by omega) hb)
 have HB:=Lib.hid hbl
 clear hu hrd hbl hge hle hb
 generalize runesF s.data.toList=R at HC ⊢
 go_enter Tryz.func299,Tryz.ntmps299
 go_wp2_with fail
 refine HC.out.mono ?_
 rintro e w1 ⟨v,rfl,ho,hb1⟩
 have HO:=Lib.hid ho
 have HB1:=Lib.hid hb1
 clear ho hb1
 go_wp2_with fail
 go_ret
 exact ⟨v,rfl,own_mono HO.out HB.out.size,HB.out.trans (HB1.out.mono HB.out.size)⟩
end Go.Proofs.YtkgeiokckfpjlaaGreatDoor.Norm
namespace Go.Proofs.YtkgeiokckfpjlaaGreatDoor.Seg
open Utf Norm
open Ucd hiding same
section generic
variable {α β:Type} (op:α→Bool)
def gstep (s:List (List α) × List α) (q:α):List (List α) × List α:=if op q && !s.2.isEmpty then (s.1++[s.2],[q]) else (s.1,s.2++[q])
def gfold (s:List (List α) × List α) (ps:List α):List (List α) × List α:=ps.foldl (gstep op) s
def shut (s:List (List α) × List α):List (List α):=if s.2.isEmpty then s.1 else s.1++[s.2]
def cuts (ps:List α):List (List α):=shut (gfold op ([],[]) ps)
theorem gfold_nil (s:List (List α) × List α):gfold op s []=s:=rfl
theorem gfold_cons (s:List (List α) × List α) (q:α) (t:List α):gfold op s (q :: t)=gfold op (gstep op s q) t:=rfl
theorem gfold_append (s:List (List α) × List α) (a b:List α):gfold op s (a++b)=gfold op (gfold op s a) b:=List.foldl_append
theorem gfold_snoc (s:List (List α) × List α) (a:List α) (q:α):gfold op s (a++[q])=gstep op (gfold op s a) q:=by rw [gfold_append];rfl
theorem gstep_new {T:List (List α)} {O:List α} {q:α} (h:op q=true) (hO:O≠[]):gstep op (T,O) q=(T++[O],[q]):=by
 have:O.isEmpty=false:=by simpa using hO
 simp [gstep,h,this]
theorem gstep_on {T:List (List α)} {O:List α} {q:α} (h:op q=false∨O=[]):gstep op (T,O) q=(T,O++[q]):=by
 rcases h with h | h
 ·simp [gstep,h]
 ·simp [gstep,h]
theorem gstep_ne (s:List (List α) × List α) (q:α):(gstep op s q).2≠[]:=by unfold gstep;split <;> simp
theorem gstep_flat (s:List (List α) × List α) (q:α):(gstep op s q).1.flatten++(gstep op s q).2=s.1.flatten++s.2++[q]:=by unfold gstep;split <;> simp
theorem gfold_ne:∀(ps:List α) (s:List (List α) × List α),s.2≠[]→(gfold op s ps).2≠[]
 | [],_,h=>h
 | q :: t,s,_=>gfold_ne t _ (gstep_ne op s q)
theorem gfold_some {ps:List α} (h:ps≠[]) (s:List (List α) × List α):(gfold op s ps).2≠[]:=by
 cases ps with
 | nil=>exact absurd rfl h
 | cons q t=>exact gfold_ne op t _ (gstep_ne op s q)
theorem gfold_flat:∀(ps:List α) (s:List (List α) × List α),(gfold op s ps).1.flatten++(gfold op s ps).2=s.1.flatten++s.2++ps
 | [],s=>by simp [gfold_nil]
 | q :: t,s=>by rw [gfold_cons,gfold_flat t,gstep_flat];simp
theorem gstep_pre (T:List (List α)) (s:List (List α) × List α) (q:α):gstep op (T++s.1,s.2) q=(T++(gstep op s q).1,(gstep op s q).2):=by unfold gstep;simp only;split <;> simp
theorem gfold_pre (T:List (List α)):∀(ps:List α) (s:List (List α) × List α),gfold op (T++s.1,s.2) ps=(T++(gfold op s ps).1,(gfold op s ps).2)
 | [],s=>rfl
 | q :: t,s=>by rw [gfold_cons,gstep_pre,gfold_pre T t,gfold_cons]
theorem shut_pre (T:List (List α)) (s:List (List α) × List α):shut (T++s.1,s.2)=T++shut s:=by unfold shut;simp only;split <;> simp
theorem shut_flat (s:List (List α) × List α):(shut s).flatten=s.1.flatten++s.2:=by
 unfold shut
 split
 ·rename_i h;simp [List.isEmpty_iff.1 h]
 ·simp
theorem cuts_flat (ps:List α):(cuts op ps).flatten=ps:=by rw [cuts,shut_flat,gfold_flat];simp
theorem cuts_nil:cuts op []=[]:=rfl
theorem cuts_some {ps:List α} (h:ps≠[]):cuts op ps=(gfold op ([],[]) ps).1++[(gfold op ([],[]) ps).2]:=by
 have:=gfold_some op h ([],[])
 rw [cuts,shut,if_neg (by simpa using this)]
theorem cuts_open {a:List α} (ha:a≠[]) {x:α} (hx:op x=true) (b:List α):cuts op (a++x :: b)=cuts op a++cuts op (x :: b):=by
 have h:=gfold_some op ha ([],[])
 rw [cuts_some op ha,cuts,gfold_append,gfold_cons]
 obtain ⟨T,O,hs⟩:∃T O,gfold op ([],[]) a=(T,O):=⟨_,_,rfl⟩
 rw [hs] at h ⊢
 rw [gstep_new op hx h,cuts,gfold_cons,gstep_on op (.inr rfl)]
 have:=gfold_pre op (T++[O]) b ([],[x])
 rw [List.append_nil] at this
 rw [this,shut_pre]
 rfl
theorem gfold_closed:∀(t O:List α) (T:List (List α)),(∀x∈t,op x=false)→gfold op (T,O) t=(T,O++t)
 | [],O,T,_=>by simp [gfold_nil]
 | q :: t,O,T,h=>by
  rw [gfold_cons,gstep_on op (.inl (h q (by simp))),gfold_closed t _ _ fun x hx=>h x (by simp [hx])]
  simp
theorem cuts_one (q:α) (t:List α) (h:∀x∈t,op x=false):cuts op (q :: t)=[q :: t]:=by
 rw [cuts,gfold_cons,gstep_on op (.inr rfl),gfold_closed op t _ _ h];rfl
def One (g:List α):Prop:=∃q t,g=q :: t∧∀x∈t,op x=false
def Opn (g:List α):Prop:=∃q t,g=q :: t∧op q=true∧∀x∈t,op x=false
def Good (gs:List (List α)):Prop:=(∀g∈gs,One op g)∧∀g∈gs.tail,Opn op g
theorem Opn.one {g:List α} (h:Opn op g):One op g:=by obtain ⟨q,t,h1,_,h2⟩:=h;exact ⟨q,t,h1,h2⟩
theorem tail_snoc (gs:List (List α)) (g:List α) (h:gs≠[]):(gs++[g]).tail=gs.tail++[g]:=by
 cases gs with
 | nil=>exact absurd rfl h
 | cons x t=>rfl
theorem Good.snoc {gs:List (List α)} {g:List α} (h:Good op gs) (hg:Opn op g):Good op (gs++[g]):=by
 refine ⟨fun x hx=>?_,fun x hx=>?_⟩
 ·rcases List.mem_append.1 hx with hx | hx
  ·exact h.1 x hx
  ·rw [List.mem_singleton.1 hx];exact hg.one
 ·by_cases hn:gs=[]
  ·subst hn;simp at hx
  ·rw [tail_snoc gs g hn] at hx
   rcases List.mem_append.1 hx with hx | hx
   ·exact h.2 x hx
   ·rw [List.mem_singleton.1 hx];exact hg
theorem Good.unsnoc {gs:List (List α)} {g:List α} (h:Good op (gs++[g])):Good op gs∧One op g∧(gs≠[]→Opn op g):=by
 refine ⟨⟨fun x hx=>h.1 x (by simp [hx]),fun x hx=>?_⟩,h.1 g (by simp),fun hn=>h.2 g (by rw [tail_snoc gs g hn];simp)⟩
 have hn:gs≠[]:=by rintro rfl;simp at hx
 exact h.2 x (by rw [tail_snoc gs g hn];simp [hx])
theorem Good.one_ {g:List α} (h:One op g):Good op [g]:=⟨fun x hx=>by rw [List.mem_singleton.1 hx];exact h,fun x hx=>by simp at hx⟩
theorem Good.put {gs:List (List α)} {g:List α} (h:Good op gs) (h1:One op g) (h2:gs≠[]→Opn op g):Good op (gs++[g]):=by
 by_cases hn:gs=[]
 ·subst hn;exact Good.one_ op h1
 ·exact h.snoc op (h2 hn)
theorem snoc_ind {p:List α→Prop} (h0:p []) (h1:∀l x,p l→p (l++[x])) (l:List α):p l:=by
 have:∀r:List α,p r.reverse:=fun r=>by
  induction r with
  | nil=>exact h0
  | cons x t ih=>rw [List.reverse_cons];exact h1 _ _ ih
 have h:=this l.reverse
 rwa [List.reverse_reverse] at h
theorem cuts_good (ps:List α):Good op (cuts op ps):=by
 refine snoc_ind (p:=fun ps=>Good op (cuts op ps)) ⟨fun g hg=>by simp [cuts_nil] at hg,fun g hg=>by simp [cuts_nil] at hg⟩ (fun l q ih=>?_) ps
 by_cases hl:l=[]
 ·subst hl
  rw [List.nil_append,cuts_one op q [] (by simp)]
  exact Good.one_ op ⟨q,[],rfl,by simp⟩
 ·have hO:=gfold_some op hl ([],[])
  rw [cuts_some op hl] at ih
  rw [cuts_some op (by simp),gfold_snoc]
  obtain ⟨T,O,hs⟩:∃T O,gfold op ([],[]) l=(T,O):=⟨_,_,rfl⟩
  rw [hs] at ih hO ⊢
  by_cases hq:op q=true
  ·rw [gstep_new op hq hO]
   exact ih.snoc op ⟨q,[],rfl,hq,by simp⟩
  ·have hq:op q=false:=by simpa using hq
   rw [gstep_on op (.inl hq)]
   obtain ⟨g1,⟨x,t,rfl,ht⟩,g3⟩:=ih.unsnoc op
   refine g1.put op ⟨x,t++[q],rfl,fun y hy=>?_⟩ fun hT=>?_
   ·rcases List.mem_append.1 hy with hy | hy
    ·exact ht y hy
    ·rw [List.mem_singleton.1 hy];exact hq
   ·obtain ⟨x',t',e,hx',_⟩:=g3 hT
    injection e with e1 e2
    subst e1 e2
    refine ⟨x,t++[q],rfl,hx',fun y hy=>?_⟩
    rcases List.mem_append.1 hy with hy | hy
    ·exact ht y hy
    ·rw [List.mem_singleton.1 hy];exact hq
theorem good_cuts (gs:List (List α)):Good op gs→cuts op gs.flatten=gs:=by
 have key:∀r:List (List α),Good op r.reverse→cuts op r.reverse.flatten=r.reverse:=fun r=>by
  induction r with
  | nil=>exact fun _=>rfl
  | cons g t ih =>
   intro h
   rw [List.reverse_cons] at h ⊢
   obtain ⟨h1,⟨q,u,rfl,hu⟩,h3⟩:=h.unsnoc op
   rw [List.flatten_append,List.flatten_singleton]
   by_cases hn:t.reverse=[]
   ·rw [hn];exact cuts_one op q u hu
   ·obtain ⟨q',u',e,hq,_⟩:=h3 hn
    injection e with e1 e2
    subst e1
    have hf:t.reverse.flatten≠[]:=by
     cases hr:t.reverse with
     | nil=>exact absurd hr hn
     | cons a b =>
      obtain ⟨y,v,hy,_⟩:=h1.1 a (by rw [hr];simp)
      rw [hy];simp
    rw [cuts_open op hf hq,ih h1,cuts_one op q u hu]
 intro h
 have:=key gs.reverse
 rw [List.reverse_reverse] at this
 exact this h
theorem cuts_group {ps g:List α} (h:g∈cuts op ps):∃q t,g=q :: t:=by
 obtain ⟨q,t,h,_⟩:=(cuts_good op ps).1 g h;exact ⟨q,t,h⟩
end generic
section maps
variable {α β:Type} {op:α→Bool} {op':β→Bool} (f:α→β) (hf:∀q,op' (f q)=op q)
include hf
theorem gstep_map (s:List (List α) × List α) (q:α):gstep op' (s.1.map (List.map f),s.2.map f) (f q)=((gstep op s q).1.map (List.map f),(gstep op s q).2.map f):=by
 have e:(s.2.map f).isEmpty=s.2.isEmpty:=by simp
 simp only [gstep,hf,e]
 split <;> simp
theorem gfold_map:∀(ps:List α) (s:List (List α) × List α),gfold op' (s.1.map (List.map f),s.2.map f) (ps.map f)=((gfold op s ps).1.map (List.map f),(gfold op s ps).2.map f)
 | [],s=>rfl
 | q :: t,s=>by rw [List.map_cons,gfold_cons,gstep_map f hf,gfold_map t,gfold_cons]
theorem cuts_map (ps:List α):cuts op' (ps.map f)=(cuts op ps).map (List.map f):=by
 have h:=gfold_map f hf ps ([],[])
 have e:(([],[]):List (List β) × List β)=((([],[]):List (List α) × List α).1.map (List.map f),(([],[]):List (List α) × List α).2.map f):=rfl
 rw [cuts,e,h,cuts]
 unfold shut
 simp only [List.isEmpty_map]
 split <;> simp
end maps
section limit
variable {α:Type} (op:α→Bool) (f:List α→Nat) (L:Nat)
def go:List (List α)→List α→List α→List (List α) × List α × Bool
 | T,O,[]=>(T,O,false)
 | T,O,q :: t=>if L < f (gstep op (T,O) q).2 then ((gstep op (T,O) q).1,(gstep op (T,O) q).2,true) else go (gstep op (T,O) q).1 (gstep op (T,O) q).2 t
theorem go_append:∀(a b:List α) (T:List (List α)) (O:List α),
  go op f L T O (a++b)=if (go op f L T O a).2.2 then go op f L T O a else go op f L (go op f L T O a).1 (go op f L T O a).2.1 b
 | [],b,T,O=>rfl
 | q :: t,b,T,O=>by
  simp only [List.cons_append,go]
  split
  ·simp
  ·exact go_append t b _ _
theorem go_snoc (a:List α) (q:α) (T:List (List α)) (O:List α) {T':List (List α)} {O':List α} (h:go op f L T O a=(T',O',false)) :
  go op f L T O (a++[q])=((gstep op (T',O') q).1,(gstep op (T',O') q).2,decide (L < f (gstep op (T',O') q).2)):=by
 rw [go_append,h]
 simp only [Bool.false_eq_true,if_false,go]
 split <;> simp_all
theorem go_pre (X:List (List α)):∀(a:List α) (T:List (List α)) (O:List α),go op f L (X++T) O a=(X++(go op f L T O a).1,(go op f L T O a).2)
 | [],T,O=>rfl
 | q :: t,T,O=>by
  have h:=gstep_pre op X (T,O) q
  simp only at h
  simp only [go,h]
  split
  ·rfl
  ·exact go_pre X t _ _
theorem go_false:∀(a:List α) (T:List (List α)) (O:List α) {T':List (List α)} {O':List α},go op f L T O a=(T',O',false) →
  gfold op (T,O) a=(T',O')∧((∀g∈shut (T,O),f g≤L)→∀g∈shut (T',O'),f g≤L)
 | [],T,O,T',O',h=>by simp only [go,Prod.mk.injEq,and_true] at h;obtain ⟨rfl,rfl⟩:=h;exact ⟨rfl,id⟩
 | q :: t,T,O,T',O',h=>by
  simp only [go] at h
  split at h
  ·simp at h
  ·rename_i hl
   obtain ⟨h1,h2⟩:=go_false t _ _ h
   refine ⟨h1,fun hg=>h2 fun g hg'=>?_⟩
   have hne:=gstep_ne op (T,O) q
   unfold shut at hg' hg
   rw [if_neg (by simpa using hne)] at hg'
   rcases List.mem_append.1 hg' with h | h
   ·by_cases hO:O=[]
    ·subst hO
     rw [gstep_on op (.inr rfl)] at h
     exact hg g (by simpa using h)
    ·rw [if_neg (by simpa using hO)] at hg
     unfold gstep at h
     split at h
     ·exact hg g h
     ·exact hg g (by simp at h ⊢;exact .inl h)
   ·rw [List.mem_singleton.1 h];exact Nat.le_of_not_lt hl
theorem go_true:∀(a:List α) (T:List (List α)) (O:List α) {T':List (List α)} {O':List α},go op f L T O a=(T',O',true) →
  ∃b q c,a=b++q :: c∧∃T1 O1,go op f L T O b=(T1,O1,false)∧gstep op (T1,O1) q=(T',O')∧L < f O'
 | [],T,O,T',O',h=>by simp [go] at h
 | q :: t,T,O,T',O',h=>by
  simp only [go] at h
  split at h
  ·rename_i hl
   simp only [Prod.mk.injEq,and_true] at h
   obtain ⟨h1,h2⟩:=h
   exact ⟨[],q,t,rfl,T,O,rfl,by rw [←h1,←h2],by rw [←h2];exact hl⟩
  ·rename_i hl
   obtain ⟨b,q',c,rfl,T1,O1,h1,h2,h3⟩:=go_true t _ _ h
   exact ⟨q :: b,q',c,rfl,T1,O1,by simp only [go];rw [if_neg hl];exact h1,h2,h3⟩
def okG (gs:List (List α)):List (List α):=gs.takeWhile fun g=>decide (f g≤L)
def badG (gs:List (List α)):Bool:=gs.any fun g=>decide (L < f g)
theorem okG_all {gs:List (List α)} (h:∀g∈gs,f g≤L):okG f L gs=gs∧badG f L gs=false:=by
 refine ⟨?_,?_⟩
 ·have:=List.takeWhile_append_of_pos (p:=fun g=>decide (f g≤L)) (l₁:=gs) (l₂:=[]) (fun g hg=>by simpa using h g hg)
  simpa [okG] using this
 ·unfold badG;rw [List.any_eq_false];intro g hg;have:=h g hg;simp;omega
theorem okG_stop {gs:List (List α)} (h:∀g∈gs,f g≤L) {x:List α} (hx:L < f x) (r:List (List α)):okG f L (gs++x :: r)=gs∧badG f L (gs++x :: r)=true:=by
 refine ⟨?_,?_⟩
 ·unfold okG
  rw [List.takeWhile_append_of_pos (fun g hg=>by simpa using h g hg),List.takeWhile_cons_of_neg (by simp;omega),List.append_nil]
 ·unfold badG;rw [List.any_append,List.any_cons];simp [hx]
theorem gfold_grows (b:List α):∀(T:List (List α)) (O:List α),O≠[]→∃m r,shut (gfold op (T,O) b)=T++(O++m) :: r:=by
 induction b with
 | nil=>intro T O hO;exact ⟨[],[],by simp [gfold_nil,shut,hO]⟩
 | cons q t ih =>
  intro T O hO
  rw [gfold_cons]
  by_cases hq:op q=true
  ·rw [gstep_new op hq hO]
   obtain ⟨m,r,h⟩:=ih (T++[O]) [q] (by simp)
   exact ⟨[],([q]++m) :: r,by rw [h];simp⟩
  ·have hq:op q=false:=by simpa using hq
   rw [gstep_on op (.inl hq)]
   obtain ⟨m,r,h⟩:=ih T (O++[q]) (by simp)
   exact ⟨[q]++m,r,by rw [h];simp⟩
variable (hm:∀a b,f a≤f (a++b))
include hm
theorem go_all {a:List α} {T:List (List α)} {O:List α} {b:Bool} (h:go op f L [] [] a=(T,O,b)) :
  (b=false→shut (T,O)=cuts op a∧gfold op ([],[]) a=(T,O)∧∀g∈cuts op a,f g≤L)∧(b=true→∀c,okG f L (cuts op (a++c))=T∧badG f L (cuts op (a++c))=true):=by
 refine ⟨?_,?_⟩
 ·rintro rfl
  obtain ⟨h1,h2⟩:=go_false op f L a [] [] h
  have e:shut (T,O)=cuts op a:=by rw [←h1];rfl
  exact ⟨e,h1,fun g hg=>h2 (fun g hg=>by simp [shut] at hg) g (e ▸ hg)⟩
 ·rintro rfl c
  obtain ⟨x,q,y,rfl,T1,O1,h1,h2,h3⟩:=go_true op f L a [] [] h
  obtain ⟨g1,g2⟩:=go_false op f L x [] [] h1
  have hsh:=g2 (fun g hg=>by simp [shut] at hg)
  have hT:∀g∈T,f g≤L:=fun g hg=>by
   by_cases hO:O1=[]
   ·subst hO
    rw [gstep_on op (.inr rfl)] at h2
    injection h2 with e1 _
    subst e1
    exact hsh g (by simpa [shut] using hg)
   ·have hs:shut (T1,O1)=T1++[O1]:=by simp [shut,hO]
    rw [hs] at hsh
    unfold gstep at h2
    split at h2
    ·injection h2 with e1 _
     subst e1
     exact hsh g hg
    ·injection h2 with e1 _
     subst e1
     exact hsh g (by simp [hg])
  have hO:O≠[]:=by have:=gstep_ne op (T1,O1) q;rw [h2] at this;exact this
  obtain ⟨m,r,hs⟩:=gfold_grows op (y++c) T O hO
  have e:cuts op (x++q :: y++c)=T++(O++m) :: r:=by
   rw [cuts,List.append_assoc,List.cons_append,gfold_append,g1,gfold_cons,h2];exact hs
  rw [e]
  exact okG_stop f L hT (Nat.lt_of_lt_of_le h3 (hm O m)) r
end limit
end Go.Proofs.YtkgeiokckfpjlaaGreatDoor.Seg
namespace Go.Proofs.YtkgeiokckfpjlaaGreatDoor.Seg
open Utf Norm
open Ucd hiding same
def opP (q:Pt):Bool:=opn (q.r:Int)
def runs (g:List Pt):List Int:=g.map fun q=>(q.r:Int)
def flen (g:List Pt):Nat:=(fulls (runs g)).length
def str (l:List UInt8):ByteArray:=⟨l.toArray⟩
def beg (g:List Pt):Nat:=(g.head?.map fun q=>q.p).getD 0
def fin (g:List Pt):Nat:=(g.getLast?.map fun q=>q.p+q.w).getD 0
structure Sg where
 t:ByteArray
 a:Nat
 e:Nat
def saysN (R:List Int):ByteArray:=str (enc (normal R))
def says (g:List Pt):ByteArray:=saysN (runs g)
def sgOf (g:List Pt):Sg:=⟨says g,beg g,fin g⟩
def grp (ps:List Pt):List (List Pt):=cuts opP ps
def texts (l:List UInt8):List ByteArray:=(grp (dec false 0 l)).map says
theorem runs_append (a b:List Pt):runs (a++b)=runs a++runs b:=List.map_append
theorem flen_append (a b:List Pt):flen (a++b)=flen a+flen b:=by rw [flen,runs_append,fulls_append,List.length_append];rfl
theorem flen_grows (a b:List Pt):flen a≤flen (a++b):=by rw [flen_append];omega
theorem flen_le (g:List Pt):flen g≤3*g.length:=by have:=fulls_len (runs g);rw [runs,List.length_map] at this;exact this
theorem flen_pos {g:List Pt} (h:g≠[]):1≤flen g:=by
 cases g with
 | nil=>exact absurd rfl h
 | cons q t=>have:=full_some (q.r:Int);rw [flen,runs,List.map_cons,fulls_cons,List.length_append];omega
theorem normal_len (R:List Int):(normal R).length=(fulls R).length:=nf_len _
theorem normal_fulls (R:List Int):normal (fulls R)=normal R:=by rw [normal,fulls_self (fulls_bottom R)];rfl
theorem grp_runs (ps:List Pt):cuts opn (runs ps)=(grp ps).map runs:=cuts_map (fun q:Pt=>(q.r:Int)) (fun _=>rfl) ps
theorem full_opn (r:Int):∃x t,fullF r=x :: t∧opn x=opn r∧∀y∈t,opn y=false:=by
 obtain ⟨h1,_,_,h4,h5⟩:=bottom_parts r
 cases h:fullF r with
 | nil=>rw [h] at h1;simp at h1
 | cons x t=>rw [h] at h4 h5;exact ⟨x,t,rfl,h5,h4⟩
theorem opn_cls {x:Int} (h:opn x=true) (hb:(pairF x).2.2=0):cls x=0:=by
 have e:fullF x=[x]:=full_self hb
 have:opn x=(cls (fstF x) == 0 && !trl (fstF x)):=rfl
 rw [h,fstF,e] at this
 simp only [List.headD_cons] at this
 simpa using ((Bool.and_eq_true _ _).mp this.symm).1
theorem fulls_closed:∀{t:List Int},(∀x∈t,opn x=false)→∀x∈fulls t,opn x=false
 | [],_,x,hx=>by simp [fulls] at hx
 | r :: t,h,x,hx=>by
  rw [fulls_cons] at hx
  rcases List.mem_append.1 hx with hx | hx
  ·obtain ⟨y,u,e,h1,h2⟩:=full_opn r
   rw [e] at hx
   rcases List.mem_cons.1 hx with rfl | hx
   ·rw [h1];exact h r (by simp)
   ·exact h2 x hx
  ·exact fulls_closed (t:=t) (fun y hy=>h y (by simp [hy])) x hx
theorem normal_some {R:List Int} (h:R≠[]):normal R≠[]:=by
 intro e
 have:=normal_len R
 rw [e] at this
 cases R with
 | nil=>exact h rfl
 | cons r t=>have:=full_some r;rw [fulls_cons] at *;simp at *;omega
theorem normal_opn {R:List Int} (h:Opn opn R):Opn opn (normal R):=by
 obtain ⟨q,t,rfl,hq,ht⟩:=h
 obtain ⟨x,u,e,h1,h2⟩:=full_opn q
 have hx:opn x=true:=h1.trans hq
 have hb:(pairF x).2.2=0:=fulls_bottom (q :: t) x (by rw [fulls_cons,e];simp)
 have hn:normal (q :: t)=x :: nf (u++fulls t):=by
  rw [normal,fulls_cons,e,List.cons_append,nf,nfm_start [] _ (opn_cls hx hb)];rfl
 rw [hn]
 refine ⟨x,_,rfl,hx,fun y hy=>?_⟩
 rcases List.mem_append.1 ((mem_nf _).1 hy) with hy | hy
 ·exact h2 y hy
 ·exact fulls_closed ht y hy
theorem normal_one {R:List Int} (h:One opn R):One opn (normal R):=by
 obtain ⟨q,t,rfl,ht⟩:=h
 by_cases hq:opn q=true
 ·exact (normal_opn ⟨q,t,rfl,hq,ht⟩).one
 ·have hc:∀x∈normal (q :: t),opn x=false:=fun x hx=>by
   refine fulls_closed (t:=q :: t) (fun y hy=>?_) x ((mem_nf _).1 hx)
   rcases List.mem_cons.1 hy with rfl | hy
   ·simpa using hq
   ·exact ht y hy
  cases hn:normal (q :: t) with
  | nil=>exact absurd hn (normal_some (by simp))
  | cons y u=>rw [hn] at hc;exact ⟨y,u,rfl,fun z hz=>hc z (by simp [hz])⟩
theorem good_normal (gs:List (List Int)):Good opn gs→normal gs.flatten=(gs.map normal).flatten∧Good opn (gs.map normal):=by
 refine snoc_ind (p:=fun gs=>Good opn gs→normal gs.flatten=(gs.map normal).flatten∧Good opn (gs.map normal)) (fun _=>⟨rfl,fun g hg=>by simp at hg,fun g hg=>by simp at hg⟩) (fun gs g ih h=>?_) gs
 obtain ⟨h1,h2,h3⟩:=h.unsnoc opn
 obtain ⟨i1,i2⟩:=ih h1
 rw [List.map_append,List.map_singleton,List.flatten_append,List.flatten_append,List.flatten_singleton,List.flatten_singleton]
 refine ⟨?_,i2.put opn (normal_one h2) fun hn=>normal_opn (h3 (by rintro rfl;exact hn rfl))⟩
 by_cases hn:gs=[]
 ·subst hn;simp
 ·obtain ⟨q,t,rfl,hq,_⟩:=h3 hn
  rw [normal_cut _ _ _ hq,i1]
theorem normal_flat (R:List Int):normal R=((cuts opn R).map normal).flatten:=by
 have h:=(good_normal _ (cuts_good opn R)).1
 rwa [cuts_flat] at h
theorem cuts_normal (R:List Int):cuts opn (normal R)=(cuts opn R).map normal:=by
 have h:=good_cuts opn _ (good_normal _ (cuts_good opn R)).2
 rwa [←normal_flat] at h
theorem dec_vld (o:Bool) (l:List UInt8):∀k,∀q∈dec o k l,vld (q.r:Int)=true:=by
 refine pieces (P:=fun l=>∀k,∀q∈dec o k l,vld (q.r:Int)=true) (fun k q h=>by simp [dec_nil] at h) (fun l hl ih k q h=>?_) l
 rw [dec_cons o k hl] at h
 split at h
 ·simp at h
 ·rcases List.mem_cons.1 h with rfl | h
  ·exact (vld_pt (rune_pt hl)).1
  ·exact ih _ q h
theorem runes_vld (l:List UInt8):∀x∈runesF l,vld x=true:=fun x hx=>by
 obtain ⟨q,hq,rfl⟩:=List.mem_map.1 hx
 exact dec_vld false l 0 q hq
theorem runes_enc_len (l:List Int):(runesF (enc l)).length=l.length:=by rw [runesF,List.length_map];exact (dec_enc l 0).1
theorem runes_dec (l:List UInt8):runesF l=runs (dec false 0 l):=rfl
theorem texts_cuts (l:List UInt8):texts l=(cuts opn (runesF l)).map saysN:=by
 rw [runes_dec,grp_runs,List.map_map];rfl
theorem texts_of_normal {l:List UInt8}:texts l=(cuts opn (normal (runesF l))).map fun g=>str (enc g):=by
 rw [cuts_normal,texts_cuts,List.map_map];rfl
def ww (ps:List Pt):Nat:=(ps.map fun q=>q.w).sum
def Tile:Nat→List Pt→Prop
 | _,[]=>True
 | k,q :: t=>q.p=k∧1≤q.w∧Tile (k+q.w) t
theorem ww_nil:ww []=0:=rfl
theorem ww_cons (q:Pt) (t:List Pt):ww (q :: t)=q.w+ww t:=by simp [ww]
theorem ww_append (a b:List Pt):ww (a++b)=ww a+ww b:=by simp [ww]
theorem tile_append:∀{a b:List Pt} {k:Nat},Tile k (a++b)↔Tile k a∧Tile (k+ww a) b
 | [],b,k=>by simp [Tile,ww_nil]
 | q :: t,b,k=>by simp only [List.cons_append,Tile,tile_append (a:=t),ww_cons,Nat.add_assoc];exact ⟨fun ⟨h1,h2,h3,h4⟩=>⟨⟨h1,h2,h3⟩,h4⟩,fun ⟨⟨h1,h2,h3⟩,h4⟩=>⟨h1,h2,h3,h4⟩⟩
theorem dec_tile (o:Bool) (l:List UInt8):∀k,Tile k (dec o k l):=by
 refine pieces (P:=fun l=>∀k,Tile k (dec o k l)) (fun k=>trivial) (fun l hl ih k=>?_) l
 rw [dec_cons o k hl]
 split
 ·trivial
 ·exact ⟨rfl,wid_pos hl,ih _⟩
theorem ww_eat (l:List UInt8):∀k,ww (dec true k l)=eat l:=by
 refine pieces (P:=fun l=>∀k,ww (dec true k l)=eat l) (fun k=>rfl) (fun l hl ih k=>?_) l
 cases hm:more l with
 | true=>rw [dec_stop hl hm,eat_stop hl hm];rfl
 | false=>rw [dec_step true k hl (by simp [hm]),eat_step hl hm,ww_cons,ih]
theorem fin_snoc (g:List Pt) (q:Pt):fin (g++[q])=q.p+q.w:=by simp [fin]
theorem beg_snoc {g:List Pt} (hg:g≠[]) (q:Pt):beg (g++[q])=beg g:=by
 cases g with
 | nil=>exact absurd rfl hg
 | cons x t=>rfl
end Go.Proofs.YtkgeiokckfpjlaaGreatDoor.Seg
namespace Go.Proofs.YtkgeiokckfpjlaaGreatDoor.Seg
open Go.Shelf Go.RowKit Go.Sort
open Utf hiding infoI32 rd_new own_form rdec_any below_drewN new_any write_any close_any
open Ucd hiding grow same Told
open Norm hiding new_any write_any close_any
set_option maxRecDepth 100000
def sgs (l:List Sg):List Value:=l.flatMap fun x=>[.string x.t,.int .i64 x.a,.int .i64 x.e]
def strs (l:List ByteArray):List Value:=l.map .string
theorem strs_append (l m:List ByteArray):strs (l++m)=strs l++strs m:=List.map_append
theorem strs_get {l:List ByteArray} {k:Nat} (h:k < l.length):(strs l)[k]? = some (.string l[k]):=by simp [strs,List.getElem?_eq_getElem h]
theorem strs_one (l:List ByteArray):∀u∈strs l,u.oneCell'=true:=by intro u hu;simp only [strs,List.mem_map] at hu;obtain ⟨n,_,rfl⟩:=hu;rfl
theorem sgs_len (l:List Sg):(sgs l).length=l.length*3:=by
 induction l with
 | nil=>rfl
 | cons q t ih=>simp only [sgs,List.flatMap_cons,List.length_append,List.length_cons,List.length_nil] at ih ⊢;omega
theorem sgs_append (l m:List Sg):sgs (l++m)=sgs l++sgs m:=List.flatMap_append
theorem sgs_cons (q:Sg) (t:List Sg):sgs (q :: t)=.string q.t :: .int .i64 q.a :: .int .i64 q.e :: sgs t:=rfl
theorem sgs_get (l:List Sg):∀{k:Nat} (h:k < l.length),(sgs l)[k*3]? = some (.string l[k].t)∧(sgs l)[k*3+1]? = some (.int .i64 l[k].a)∧(sgs l)[k*3+2]? = some (.int .i64 l[k].e):=by
 induction l with
 | nil=>intro k h;simp at h
 | cons q t ih =>
  intro k h
  rw [sgs_cons]
  cases k with
  | zero=>exact ⟨rfl,rfl,rfl⟩
  | succ k =>
   have:=ih (k:=k) (by simpa using h)
   rw [show (k+1)*3=k*3+1+1+1 from by omega]
   simpa using this
theorem sgs_one (l:List Sg):∀u∈sgs l,u.oneCell'=true:=by
 intro u hu
 simp only [sgs,List.mem_flatMap,List.mem_cons,List.not_mem_nil,or_false] at hu
 obtain ⟨n,_,rfl | rfl | rfl⟩:=hu <;> rfl
section
variable {w:World} {B:Nat}
theorem Rd_sg {l:List Sg} {b o:Nat} (h:Rd w B (some ⟨b,o,none⟩) (sgs l)) {k:Nat} (hk:k < l.length) :
  w.cell? ⟨b,o+k*3,none⟩=some (.string l[k].t)∧w.cell? ⟨b,o+k*3+1,none⟩=some (.int .i64 l[k].a)∧w.cell? ⟨b,o+k*3+2,none⟩=some (.int .i64 l[k].e):=by
 have hne:sgs l≠[]:=by intro e;have:=congrArg List.length e;rw [sgs_len,List.length_nil] at this;omega
 obtain ⟨b',o',e,_,hc⟩:=h hne
 simp only [Option.some.injEq,Addr.mk.injEq,and_true] at e
 obtain ⟨rfl,rfl⟩:=e
 obtain ⟨h1,h2,h3⟩:=sgs_get l hk
 exact ⟨hc _ _ h1,by rw [Nat.add_assoc];exact hc _ _ h2,by rw [Nat.add_assoc];exact hc _ _ h3⟩
end
theorem infoSg:(Tryz.prog.info? 43).map (fun i=>(i.zero,i.size,i.bytes))=some (some (.agg #[.string ⟨#[]⟩,.int .i64 0,.int .i64 0]),3,32):=by kernel_rfl
theorem infoStr:(Tryz.prog.info? 9).map (fun i=>(i.zero,i.size,i.bytes))=some (some (.string ⟨#[]⟩),1,16):=by kernel_rfl
theorem own_apart {w:World} {b1 b2:Nat} {e1 e2:TypeId} {s1 s2 n1 n2:Nat} {v1 v2:Value} {xs1 xs2:List Value} (h1:w.ownsRow b1 e1 s1 v1 n1 xs1) (h2:w.ownsRow b2 e2 s2 v2 n2 xs2) (hne:e1≠e2):∀k,v1.ownBlock=some k→v2.ownBlock=some k→False:=by
 intro k k1 k2
 rcases h1.2 with ⟨rfl,_⟩ | ⟨g1,cap1,cur1,rfl,_,hh1,_⟩
 ·cases k1
 ·rcases h2.2 with ⟨rfl,_⟩ | ⟨g2,cap2,cur2,rfl,_,hh2,_⟩
  ·cases k2
  ·simp only [Value.ownBlock,Option.some.injEq] at k1 k2
   subst k1;subst k2
   rw [hh1] at hh2
   simp only [Option.some.injEq,Obj.cells.injEq] at hh2
   exact hne hh2.2.1
theorem step_append_rd {P:Program} {w:World} {ops:Array Oper} {o:Oper} {a:Act} {K:Act→World→Prop} {Q:Exit→Act→World→Prop} {E:Prop} (hgd:o.guard=none) (s x:Operand) (t:TypeId)
  (ho:o.op=.call { callee:=.builtin .append,args:=#[s,x],argTypes:=#[t,t] })
  (base:Nat) (e:TypeId) (i:TypeInfo) (z:Value) (size bytes:Nat) (ht:P.underlying t=some (.slice e)) (hi:P.info? e=some i) (hz:i.zero=some z)
  (hsize:i.size=size) (hby:i.bytes=bytes) (hzs:z.cells.size=size) (hsz:0 < size)
  (v:Value) (n:Nat) (xs:List Value) (hs:a.eval s=v) (hown:w.ownsRow base e size v n xs)
  (B:Nat) (A:Option Addr) (m c:Nat) (news:List Value) (hx:a.eval x=.slice A m c) (hl:news.length=m*size) (hr:Rd w B A news) (h1:∀u∈news,u.oneCell'=true)
  (h63:n+m≤maxLen) (hbytes:(n+m)*bytes≤140737488355328) (hbase:base≤w.heap.size)
  (h:∀v' w',w'.ownsRow base e size v' (n+m) (xs++news)→w.grownBy w' v.ownBlock→(v'.ownBlock=v.ownBlock∨v'.ownBlock=some w.heap.size)→K (a.put o.dst v') w') :
  if Region.wanted o (yielded ops a.tmps)=true then Oper.wp P o a w K Q else E:=by
 have hw:Region.wanted o (yielded ops a.tmps)=true:=by simp [Region.wanted,hgd]
 rw [if_pos hw]
 exact wp_append_rd w s x t ho base e i z size bytes ht hi hz hsize hby hzs hsz v n xs hs hown B A m c news hx hl hr h1 h63 hbytes hbase h
def scs (lim:Int) (dp:Value) (vo:Value) (a e:Nat) (er:Int):List Value:=[.int .i64 lim,dp,vo,.int .i64 a,.int .i64 e,.int .i64 er]
def Reach (O:List Pt) (a e:Nat):Prop:=(O=[]→a=e)∧(O≠[]→a=beg O∧e=fin O)
theorem Reach.start (a:Nat):Reach [] a a:=⟨fun _=>rfl,fun h=>absurd rfl h⟩
theorem Reach.put {O:List Pt} {a e:Nat} (h:Reach O a e) {q:Pt} (hq:q.p=e):Reach (O++[q]) a (q.p+q.w):=by
 refine ⟨fun h=>by simp at h,fun _=>⟨?_,(fin_snoc O q).symm⟩⟩
 by_cases hO:O=[]
 ·subst hO;rw [h.1 rfl,←hq];rfl
 ·rw [beg_snoc hO];exact (h.2 hO).1
structure Sm (w:World) (base sb db:Nat) (lim:Int) (dc:List Value) (vo:Value) (O:List Pt) (a e:Nat):Prop where
 blk:Blk w sb 159 (scs lim (.pointer (some ⟨db,0,none⟩)) vo a e 0)
 dec:Blk w db 192 dc
 own:w.ownsRow base 21 1 vo (fulls (runs O)).length (nums (fulls (runs O)))
 le:base≤sb
 led:base≤db
 reach:Reach O a e
def Hers (sb db:Nat) (vo:Value) (k:Nat):Prop:=k=sb∨k=db∨vo.ownBlock=some k
def Done (w:World) (sb:Nat) (er:Int):Prop:=∃lim a e,Blk w sb 159 (scs lim (.pointer none) (.slice none 0 0) a e er)
section
variable {w w':World} {base sb db a e:Nat} {lim:Int} {dc:List Value} {vo:Value} {O:List Pt}
theorem Sm.ne (h:Sm w base sb db lim dc vo O a e):vo.ownBlock≠some sb:=own_ne h.own h.blk (by decide)
theorem Sm.ned (h:Sm w base sb db lim dc vo O a e):vo.ownBlock≠some db:=own_ne h.own (show Blk _ _ _ _ from h.dec) (by decide)
theorem blk_apart {g g':Nat} {t t':TypeId} {cs cs':List Value} (h:Blk w g t cs) (h':Blk w g' t' cs') (hne:t≠t'):g≠g':=by
 rintro rfl
 unfold Blk at h h'
 rw [h] at h'
 injection h' with h'
 injection h' with _ ht
 exact hne ht
theorem Sm.apart (h:Sm w base sb db lim dc vo O a e):sb≠db:=blk_apart h.blk (show Blk _ _ _ _ from h.dec) (by decide)
theorem Sm.hers (h:Sm w base sb db lim dc vo O a e) {k:Nat} (hk:k < base):¬Hers sb db vo k:=fun hi=>by
 rcases hi with rfl | rfl | hi
 ·have:=h.le;omega
 ·have:=h.led;omega
 ·have:=(h.own.lt k hi).1;omega
theorem Sm.keep {S:Nat→Prop} (h:Sm w base sb db lim dc vo O a e) (hg:Chg w w' S) (h1:¬S sb) (h2:¬S db) (h3:∀k,vo.ownBlock=some k→¬S k):Sm w' base sb db lim dc vo O a e :=
 ⟨blk_keep h.blk hg h1,blk_keep (show Blk _ _ _ _ from h.dec) hg h2,Norm.own_keep h.own hg h3,h.le,h.led,h.reach⟩
theorem Sm.next (h:Sm w base sb db lim dc vo O a e) (hb:Below w.heap.size w w'):Sm w' base sb db lim dc vo O a e :=
 h.keep (S:=fun _=>False) (Chg.of_below hb (Nat.le_refl _)) id id (fun _ _ h=>h)
end
def Fresh (w:World) (lim:Int) (e:Ending) (w':World):Prop :=
 ∃sb db,e=.returned (.pointer (some ⟨sb,0,none⟩))∧Sm w' w.heap.size sb db lim (dcs 0 0 0 0 0 false) (.slice none 0 0) [] 0 0∧Below w.heap.size w w'
set_option maxHeartbeats 1000000 in
theorem begin_any (lim:Int) (w:World):Calls Tryz.prog 87 #[.int .i64 lim] w (Fresh w lim):=by
 go_enter Tryz.func87,Tryz.ntmps87
 go_wp2_with fail
 refine (Utf.new_any w).mono ?_
 rintro e w1 ⟨rfl,hw1⟩
 have HW:=Lib.hid hw1
 clear hw1
 go_wp2_with fail
 go_ret
 have hD:Dc w1 w.heap.size 0 0 0 0 0 false:=by rw [HW.out];exact Blk.new w _ _
 have hs:w1.heap.size=w.heap.size+1:=by rw [HW.out];simp
 refine ⟨w1.heap.size,w.heap.size,rfl,⟨Blk.new w1 _ (scs lim (.pointer (some ⟨w.heap.size,0,none⟩)) (.slice none 0 0) 0 0 0),Blk.alloc hD _,World.ownsRow_nil _ _ _ _,by omega,Nat.le_refl _,Reach.start 0⟩,?_⟩
 have hb:Below w.heap.size w w1:=by rw [HW.out];exact (Below.refl _ _).alloc (Nat.le_refl _) _
 exact hb.alloc (by omega) _
def Made (w:World) (lim:Int) (e:Ending) (w':World):Prop :=
 ∃sb db,e=.returned (.tuple #[.pointer (some ⟨sb,0,none⟩),.int .i64 0])∧Sm w' w.heap.size sb db lim (dcs 0 0 0 0 0 false) (.slice none 0 0) [] 0 0∧Below w.heap.size w w'
set_option maxHeartbeats 1000000 in
theorem new_good (lim:Int) (w:World) (h1:1≤lim) (h2:lim≤64):Calls Tryz.prog 81 #[.int .i64 lim] w (Made w lim):=by
 have d1:¬lim < 1:=by omega
 have d2:¬64 < lim:=by omega
 have e1:decide (lim < 1)=false:=decide_eq_false d1
 have e2:decide (64 < lim)=false:=decide_eq_false d2
 have HB:=Lib.hid (begin_any lim w)
 go_enter Tryz.func81,Tryz.ntmps81
 go_wp2_with fail
 refine HB.out.mono ?_
 rintro e w1 ⟨sb,db,rfl,hS,hb⟩
 have HS:=Lib.hid hS
 have HBL:=Lib.hid hb
 clear hS hb
 go_wp2_with fail
 go_ret2
 exact ⟨sb,db,rfl,HS.out,HBL.out⟩
theorem new_bad (lim:Int) (w:World) (h:lim < 1∨64 < lim):Calls Tryz.prog 81 #[.int .i64 lim] w fun e w'=>e=.returned (.tuple #[.pointer none,.int .i64 1])∧w=w':=by
 by_cases h1:lim < 1
 ·have e1:decide (lim < 1)=true:=decide_eq_true h1
  clear h
  go_enter Tryz.func81,Tryz.ntmps81
  go_wp2
  go_ret2
  exact ⟨rfl,rfl⟩
 ·have h2:64 < lim:=by omega
  have e1:decide (lim < 1)=false:=decide_eq_false h1
  have e2:decide (64 < lim)=true:=decide_eq_true h2
  clear h
  go_enter Tryz.func81,Tryz.ntmps81
  go_wp2
  go_ret2
  exact ⟨rfl,rfl⟩
theorem stop_any (sb:Nat) (lim er er':Int) (dp vo:Value) (a e:Nat) (w:World) (h:Blk w sb 159 (scs lim dp vo a e er)) :
  Calls Tryz.prog 151 #[.pointer (some ⟨sb,0,none⟩),.int .i64 er'] w fun e w'=>e=.returned (.tuple #[])∧Done w' sb er'∧Chg w w' (fun k=>k=sb):=by
 have c0:=h.cell 0
 have c1:=h.cell 1
 have c2:=h.cell 2
 have c5:=h.cell 5
 have f1:=h.frozen 1
 have f2:=h.frozen 2
 have f5:=h.frozen 5
 simp only [scs,List.getElem?_cons_succ,List.getElem?_cons_zero] at c0 c1 c2 c5
 have H:=Lib.hid h
 clear h
 go_enter Tryz.func151,Tryz.ntmps151
 go_wp2_with fail
 go_end0
 have hB:=((H.out.set_ 2 (.slice none 0 0)).set_ 1 (.pointer none)).set_ 5 (.int .i64 er')
 have e1:(((scs lim dp vo a e er).set 2 (.slice none 0 0)).set 1 (.pointer none)).set 5 (.int .i64 er')=scs lim (.pointer none) (.slice none 0 0) a e er':=rfl
 rw [e1] at hB
 have hC:Chg w (((w.setCell ⟨sb,2,none⟩ (.slice none 0 0)).setCell ⟨sb,1,none⟩ (.pointer none)).setCell ⟨sb,5,none⟩ (.int .i64 er')) (fun k=>k=sb) :=
  (((Chg.refl w (fun k=>k=sb)).setCell (p:=⟨sb,2,none⟩) _ rfl).setCell (p:=⟨sb,1,none⟩) _ rfl).setCell (p:=⟨sb,5,none⟩) _ rfl
 exact ⟨rfl,⟨lim,a,e,hB⟩,hC⟩
end Go.Proofs.YtkgeiokckfpjlaaGreatDoor.Seg
namespace Go.Proofs.YtkgeiokckfpjlaaGreatDoor.Seg
open Go.Shelf Go.RowKit Go.Sort
open Utf hiding infoI32 rd_new own_form rdec_any below_drewN new_any write_any close_any
open Ucd hiding grow same Told
open Norm hiding new_any write_any close_any
theorem cut_any {w:World} {base f cf t:Nat} {Af:Option Addr} {F:List Int} (hown:w.ownsRow base 21 1 (.slice Af f cf) f (nums F)) (ht:t≤f) (u:World) :
  (Instr.slice 73 (.slice Af f cf) none (some (.int .i64 t)) none).run Tryz.prog u=.ok (.slice Af t cf) u:=by
 have he:Tryz.prog.elem 73=21:=by simp [Program.elem,Tryz.underlying73]
 have hf:f≤cf∧Af.map (fun a=>a.add 0)=Af:=by
  rcases hown.2 with ⟨h0,h1,_⟩ | ⟨g,cap,cur,hv,h1,h2,h3,h4,h5,h6⟩
  ·cases h0;exact ⟨Nat.le_refl _,rfl⟩
  ·cases hv
   have hadd:(⟨g,0,none⟩:Addr).add 0=⟨g,0,none⟩:=by unfold Addr.add;split <;> simp_all
   exact ⟨by omega,by rw [Option.map_some,hadd]⟩
 rw [run_slice_h u 73 Af f cf (by rw [he];exact Tryz.underlying73) .i64 (t:Int) (by omega) (by omega),he,Tryz.sizeOf21]
 simp [Result.andThen,sliced,hf.2]
def Tells (w:World) (B base sb db:Nat) (lim:Int) (dc:List Value) (vo v:Value) (T:List Sg) (O:List Pt) (e:Nat) (en:Ending) (w':World):Prop :=
 ∃v' vo',en=.returned v'∧w'.ownsRow B 43 3 v' (T++(shut ([],O)).map sgOf).length (sgs (T++(shut ([],O)).map sgOf))∧Sm w' base sb db lim dc vo' [] e e∧Chg w w' (fun k=>k=sb∨v.ownBlock=some k) ∧
  vo'.ownBlock=vo.ownBlock∧(∀g,v'.ownBlock=some g→w.heap.size≤g∨v.ownBlock=some g)
theorem shut_none (O:List Pt) (h:O=[]):shut (([],O):List (List Pt) × List Pt)=[]:=by subst h;rfl
theorem shut_some (O:List Pt) (h:O≠[]):shut (([],O):List (List Pt) × List Pt)=[O]:=by simp [shut,h]
set_option maxHeartbeats 2000000 in
set_option maxRecDepth 100000 in
theorem tell_none (B base sb db:Nat) (lim:Int) (dc:List Value) (vo v:Value) (T:List Sg) (a e:Nat) (w:World) (hS:Sm w base sb db lim dc vo [] a e)
  (hT:w.ownsRow B 43 3 v T.length (sgs T)) :
  Calls Tryz.prog 150 #[.pointer (some ⟨sb,0,none⟩),v] w (Tells w B base sb db lim dc vo v T [] e):=by
 obtain ⟨A,c,rfl,_⟩:=own_form hS.own
 have c2:=hS.blk.cell 2
 simp only [scs,List.getElem?_cons_succ,List.getElem?_cons_zero] at c2
 have e0:(fulls (runs [])).length=0:=rfl
 rw [e0] at c2
 have HS:=Lib.hid hS
 have HT:=Lib.hid hT
 clear hS hT e0
 go_enter Tryz.func150,Tryz.ntmps150
 go_wp2_with fail
 go_ret
 obtain rfl:=HS.out.reach.1 rfl
 exact ⟨v,_,rfl,by simpa [shut] using HT.out,HS.out,Chg.refl _ _,rfl,fun g h=>.inr h⟩
set_option maxHeartbeats 4000000 in
set_option maxRecDepth 100000 in
theorem tell_some (B base sb db:Nat) (lim:Int) (dc:List Value) (vo v:Value) (T:List Sg) (O:List Pt) (a e:Nat) (w:World) (hL:Laid w) (hS:Sm w base sb db lim dc vo O a e)
  (hT:w.ownsRow B 43 3 v T.length (sgs T)) (hB:B≤w.heap.size) (hO:O≠[]) (hsm:flen O≤1073741824) (hTm:T.length≤1073741824) :
  Calls Tryz.prog 150 #[.pointer (some ⟨sb,0,none⟩),v] w (Tells w B base sb db lim dc vo v T O e):=by
 obtain ⟨i0,hi,hz0,hz1,hz2⟩:=info_parts infoSg
 obtain ⟨A,c,rfl,hc,hcm,hr⟩:=own_form hS.own
 have hvn:=own_apart hT hS.own (by decide)
 have hpos:=flen_pos hO
 have hsay:saysN (fulls (runs O))=says O:=by rw [saysN,normal_fulls];rfl
 have hne:=own_ne hT hS.blk (by decide)
 have hnf:=hS.ne
 have hcut:=cut_any (t:=0) hS.own (Nat.zero_le _)
 have c2:=hS.blk.cell 2
 have c3:=hS.blk.cell 3
 have c4:=hS.blk.cell 4
 simp only [scs,List.getElem?_cons_succ,List.getElem?_cons_zero] at c2 c3 c4
 obtain ⟨ha,he⟩:=hS.reach.2 hO
 have hlt:=hS.blk.lt
 have HS:=Lib.hid hS
 have HT:=Lib.hid hT
 have HSAY:=Lib.hid hsay
 have HRE:=Lib.hid (show sgOf O=⟨says O,a,e⟩ by rw [sgOf,ha,he])
 have HO:=Lib.hid hO
 have HVN:=Lib.hid hvn
 have HNE:=Lib.hid hne
 have HNF:=Lib.hid hnf
 obtain ⟨f,hf⟩:∃f,f=flen O:=⟨_,rfl⟩
 have hff:(fulls (runs O)).length=f:=hf.symm
 rw [hff] at c2 hcut hc
 have HFF:=Lib.hid hff
 rw [←hf] at hpos hsm
 have HNM:=Lib.hid (fun (u:World) (h:Laid u) (hr:Rd u u.heap.size A (nums (fulls (runs O))))=>normal_any A (fulls (runs O)) f c u h hr hff (by omega))
 have hXl:(normal (fulls (runs O))).length=f:=by rw [normal_fulls,normal_len];exact hff
 have HX:=Lib.hid (show saysN (fulls (runs O))=str (enc (normal (fulls (runs O)))) from rfl)
 generalize normal (fulls (runs O))=X at HNM hXl HX
 have HXL:=Lib.hid hXl
 have HR:=Lib.hid hr
 have HL:=Lib.hid hL
 have HCUT:=Lib.hid hcut
 clear hS hT hvn hsay hne hnf hO ha he hf hff hXl hr hL hcut
 have hf0:((f:Int) == 0)=false:=by simp;omega
 go_enter Tryz.func150,Tryz.ntmps150
 go_wp2_with fail
 refine (HNM.out w HL.out HR.out).mono ?_
 rintro e1 w1 ⟨v1,rfl,ho1,hb1⟩
 obtain ⟨A1,c1,rfl,_,_,hr1⟩:=own_form ho1
 have HR1:=Lib.hid hr1
 have HB1:=Lib.hid hb1
 clear ho1 hr1 hb1 HNM
 go_wp2_with fail
 refine (encode_any A1 X X.length c1 w1 HR1.out rfl (by have:=HXL.out;omega)).mono ?_
 rintro e2 w2 ⟨v2,rfl,ho2,hb2⟩
 obtain ⟨A2,c2',rfl,_,_,hr2⟩:=Utf.own_form ho2
 have hcv:=conv_rd (c:=c2') hr2 rfl
 rw [show (⟨(enc X).toArray⟩:ByteArray)=says O from by rw [←HSAY.out,HX.out];rfl] at hcv
 have HB2:=Lib.hid (HB1.out.trans (hb2.mono HB1.out.size))
 have HS2:=Lib.hid (HS.out.next HB2.out)
 have HT2:=Lib.hid (Ucd.own_below HT.out HB2.out)
 clear ho2 hr2 hb2 c2 c3 c4 HR1 HB1
 generalize says O=st at hcv HRE
 obtain ⟨bb,hbb⟩:∃bb,bb=HB2.out.size:=⟨_,rfl⟩
 have hbase:B≤w2.heap.size:=Nat.le_trans hB HB2.out.size
 have c2:=HS2.out.blk.cell 2
 have c3:=HS2.out.blk.cell 3
 have c4:=HS2.out.blk.cell 4
 simp only [scs,List.getElem?_cons_succ,List.getElem?_cons_zero] at c2 c3 c4
 rw [HFF.out] at c2
 have hsb:=HS2.out.blk.lt
 clear bb hbb
 go_wp2_with fail
 go_region_held3 (fun w'=>w'.cell? ⟨sb,3,none⟩=some (.int .i64 a)∧w'.cell? ⟨sb,4,none⟩=some (.int .i64 e))
  (first
   | go_keep
   | (
    go_split_ands
    refine ⟨?_,?_⟩
    ·(rw [hgr6.cell_far _ (by simp;omega) (Ne.symm HNE.out)];assumption)
    ·(rw [hgr6.cell_far _ (by simp;omega) (Ne.symm HNE.out)];assumption)))
  ((refine step_append_rd (by rfl) _ _ _ (by rfl) B 43 i0 _ 3 32 Tryz.underlying34 hi hz0 hz1 hz2 rfl (by decide) v T.length (sgs T) (by rfl) ((HT2.out.alloc _).drew) _ (some ⟨w2.heap.size,0,none⟩) 1 1 [.string st,.int .i64 a,.int .i64 e] (by rfl) (by rfl) (rd_new _ _ [.string st,.int .i64 a,.int .i64 e] _ (by simp)) (by simp [Value.oneCell']) (by unfold maxLen;omega) (by omega) (by simp;omega) ?_;intro v6 w6 hown6 hgr6 hat6))
 have hC6:Chg w2 w6 (fun k=>v.ownBlock=some k):=((Chg.refl w2 _).and_below ((Below.refl _ _).alloc (Nat.le_refl _) _).drew).grown hgr6 (fun i _ h=>h)
 have hS6:=HS2.out.keep hC6 HNE.out (own_ne HT2.out (show Blk _ _ _ _ from HS2.out.dec) (by decide)) (fun k h1 h2=>HVN.out k h2 h1)
 rw [show ([Value.string st,.int .i64 a,.int .i64 e]:List Value)=sgs [⟨st,a,e⟩] from rfl,←sgs_append] at hown6
 have HO6:=Lib.hid hown6
 have HC6:=Lib.hid hC6
 have HS6:=Lib.hid hS6
 have HA6:=Lib.hid hat6
 clear c2 c3 c4 hgr6 hown6 hat6 hC6 hS6
 have c2:=HS6.out.blk.cell 2
 have c3:=HS6.out.blk.cell 3
 have c4:=HS6.out.blk.cell 4
 have f2:=HS6.out.blk.frozen 2
 have f3:=HS6.out.blk.frozen 3
 simp only [scs,List.getElem?_cons_succ,List.getElem?_cons_zero] at c2 c3 c4
 rw [HFF.out] at c2
 have hcut:∀u:World,(Instr.slice 73 (.slice A f c) none (some (.int .i64 0)) none).run Tryz.prog u=.ok (.slice A 0 c) u:=fun u=>HCUT.out u
 clear hcv HT2 HS2 hbase hB hsb hlt
 go_wp2_with fail
 go_region
 all_goals go_wp2_with fail
 go_ret
 have hb6:=HS6.out.blk
 have hne6:=own_ne HO6.out hb6 (by decide)
 have hW2:=((hb6.set_ 2 (.slice A 0 c)).set_ 3 (.int .i64 e))
 have hx:=HS6.out.own
 rw [HFF.out] at hx
 obtain ⟨g,cap,hv,_⟩:=hx.form hpos
 injection hv with hv1 _ hv2
 subst hv1 hv2
 have hpre:w6.ownsRow base 21 1 (.slice (some ⟨g,0,none⟩) 0 c) (fulls (runs [])).length (nums (fulls (runs []))):=Norm.own_prefix hx (Nat.zero_le f)
 have hvo:(Value.slice (some ⟨g,0,none⟩) 0 c).ownBlock≠some sb:=HNF.out
 have hdb:db≠sb:=fun h=>HS6.out.apart h.symm
 have hC:=(((Chg.of_below (S:=fun k=>k=sb∨v.ownBlock=some k) HB2.out (Nat.le_refl _)).trans (HC6.out.more (T:=fun k=>k=sb∨v.ownBlock=some k) fun i h=>.inr h) (fun _ _ h=>h)).setCell (p:=⟨sb,2,none⟩) (.slice (some ⟨g,0,none⟩) 0 c) (.inl rfl)).setCell (p:=⟨sb,3,none⟩) (.int .i64 e) (.inl rfl)
 refine ⟨v6,.slice (some ⟨g,0,none⟩) 0 c,rfl,?_,⟨hW2,(show Blk _ _ _ _ from HS6.out.dec).far hdb _ |>.far hdb _,?_,HS6.out.le,HS6.out.led,Reach.start e⟩,hC.and_below (Below.refl _ _).drew,rfl,fun k hk=>?_⟩
 ·rw [shut_some O HO.out,List.map_singleton,HRE.out,List.length_append]
  exact (own_set (own_set HO6.out hne6 _) hne6 _).drew
 ·exact (own_set (own_set hpre hvo _) hvo _).drew
 ·rcases HA6.out with h | h
  ·exact .inr (h ▸ hk)
  ·left
   rw [h] at hk
   injection hk with hk
   have:=HB2.out.size
   simp at hk
   omega
theorem tell_any (B base sb db:Nat) (lim:Int) (dc:List Value) (vo v:Value) (T:List Sg) (O:List Pt) (a e:Nat) (w:World) (hL:Laid w) (hS:Sm w base sb db lim dc vo O a e)
  (hT:w.ownsRow B 43 3 v T.length (sgs T)) (hB:B≤w.heap.size) (hsm:flen O≤1073741824) (hTm:T.length≤1073741824) :
  Calls Tryz.prog 150 #[.pointer (some ⟨sb,0,none⟩),v] w (Tells w B base sb db lim dc vo v T O e):=by
 by_cases hO:O=[]
 ·subst hO;exact tell_none B base sb db lim dc vo v T a e w hS hT
 ·exact tell_some B base sb db lim dc vo v T O a e w hL hS hT hB hO hsm hTm
end Go.Proofs.YtkgeiokckfpjlaaGreatDoor.Seg
namespace Go.Proofs.YtkgeiokckfpjlaaGreatDoor.Seg
open Go.Shelf Go.RowKit Go.Sort
open Utf hiding infoI32 rd_new own_form rdec_any below_drewN new_any write_any close_any
open Ucd hiding grow same Told
open Norm hiding new_any write_any close_any
set_option maxRecDepth 100000
theorem gstep_len {α:Type} (op:α→Bool) (s:List (List α) × List α) (q:α):(gstep op s q).1.length≤s.1.length+1:=by unfold gstep;split <;> simp
theorem go_len {α:Type} (op:α→Bool) (f:List α→Nat) (L:Nat):∀(ps:List α) (T:List (List α)) (O:List α),(go op f L T O ps).1.length≤T.length+ps.length
 | [],T,O=>Nat.le_refl _
 | q :: t,T,O=>by
  have h:=gstep_len op (T,O) q
  simp only [go]
  split
  ·simp only [List.length_cons] at h ⊢;omega
  ·have:=go_len op f L t (gstep op (T,O) q).1 (gstep op (T,O) q).2
   simp only [List.length_cons] at h ⊢;omega
theorem go_open {L:Nat} {ps:List Pt} {O O1:List Pt} {T:List (List Pt)} (h:go opP flen L [] O ps=(T,O1,false)):flen O1≤flen O+3*ps.length:=by
 have h1:=(go_false opP flen L ps [] O h).1
 have h2:=gfold_flat opP ps ([],O)
 rw [h1] at h2
 simp only [List.flatten_nil,List.nil_append] at h2
 have h3:=congrArg flen h2
 rw [flen_append,flen_append] at h3
 have:=flen_le ps
 omega
theorem gstep_two (T:List (List Pt)) (O:List Pt) (q:Pt):(∀Z:List Pt,Z=[]→opP q=true→gstep opP (T,O) q=(T++shut ([],O),Z++[q]))∧(opP q=false→gstep opP (T,O) q=(T,O++[q])):=by
 refine ⟨fun Z hZ h=>?_,fun h=>gstep_on opP (.inl h)⟩
 subst hZ
 by_cases hO:O=[]
 ·subst hO;rw [gstep_on opP (.inr rfl),shut_none [] rfl];simp
 ·rw [gstep_new opP h hO,shut_some O hO];simp
def Takes (w:World) (base sb db lim:Nat) (dc:List Value) (vo:Value) (O:List Pt) (e:Nat) (ps:List Pt) (en:Ending) (w':World):Prop :=
 ∃v T O' b,go opP flen lim [] O ps=(T,O',b)∧en=.returned (.tuple #[v,.int .i64 (if b then 6 else 0)])∧w'.ownsRow w.heap.size 43 3 v (T.map sgOf).length (sgs (T.map sgOf))∧Chg w w' (Hers sb db vo) ∧
  (b=false→∃vo' a',Sm w' base sb db lim dc vo' O' a' (e+ww ps)∧∀g,vo'.ownBlock=some g→w.heap.size≤g∨vo.ownBlock=some g)∧(b=true→Done w' sb 6)
structure Tk (w wr:World) (base sb db lim:Nat) (dc:List Value) (vo:Value) (O:List Pt) (e:Nat) (ps:List Pt) (bp m c:Nat) (A:Option Addr) (k:Nat) (T:List (List Pt)) (O1:List Pt) (vl vo1:Value) (a1:Nat):Prop where
 go:go opP flen lim [] O (ps.take k)=(T,O1,false)
 told:wr.ownsRow w.heap.size 43 3 vl (T.map sgOf).length (sgs (T.map sgOf))
 sm:Sm wr base sb db lim dc vo1 O1 a1 (e+ww (ps.take k))
 chg:Chg w wr (Hers sb db vo)
 org:∀g,vo1.ownBlock=some g→w.heap.size≤g∨vo.ownBlock=some g
 pts:wr.ownsRow bp 117 3 (.slice A m c) m (pts ps)
def Two (sb:Nat) (v:Value) (k:Nat):Prop:=k=sb∨v.ownBlock=some k
theorem go_stays {L:Nat} {a b O:List Pt} {T:List (List Pt)} {O1:List Pt} (h:go opP flen L [] O a=(T,O1,true)):go opP flen L [] O (a++b)=(T,O1,true):=by
 rw [go_append,h];simp
theorem go_big {lim k N7:Nat} {O O1 O2 ps:List Pt} {T T2:List (List Pt)} {p:Pt} (hgs:go opP flen lim [] O (ps.take (k+1))=((gstep opP (T,O1) p).1,(gstep opP (T,O1) p).2,decide (lim < flen (gstep opP (T,O1) p).2)))
  (hg2:gstep opP (T,O1) p=(T2,O2++[p])) (hN:N7=flen (O2++[p])) (hb:lim < N7):go opP flen lim [] O ps=(T2,O2++[p],true):=by
 rw [hg2] at hgs
 simp only at hgs
 rw [←hN,decide_eq_true hb] at hgs
 have:=go_stays (b:=ps.drop (k+1)) hgs
 rwa [List.take_append_drop] at this
theorem go_small {lim k N7:Nat} {O O1 O2 ps:List Pt} {T T2:List (List Pt)} {p:Pt} (hgs:go opP flen lim [] O (ps.take (k+1))=((gstep opP (T,O1) p).1,(gstep opP (T,O1) p).2,decide (lim < flen (gstep opP (T,O1) p).2)))
  (hg2:gstep opP (T,O1) p=(T2,O2++[p])) (hN:N7=flen (O2++[p])) (hb:¬lim < N7):go opP flen lim [] O (ps.take (k+1))=(T2,O2++[p],false):=by
 rw [hg2] at hgs
 simp only at hgs
 rwa [←hN,decide_eq_false hb] at hgs
section step
variable {w w2 u:World} {base sb db lim e bp m c a2 E:Nat} {dc:List Value} {vo vl2 v2 v6:Value} {O ps O2:List Pt} {T2:List (List Pt)} {A:Option Addr} {p:Pt}
theorem told_step (hT:w2.ownsRow w.heap.size 43 3 vl2 (T2.map sgOf).length (sgs (T2.map sgOf))) (hS:Sm w2 base sb db lim dc v2 O2 a2 E) (hC:Chg w2 u (Two sb v2)):u.ownsRow w.heap.size 43 3 vl2 (T2.map sgOf).length (sgs (T2.map sgOf)) :=
 Norm.own_keep hT hC fun g hg h=>by
  rcases h with h | h
  ·exact own_ne hT hS.blk (by decide) (h ▸ hg)
  ·exact own_apart hT hS.own (by decide) g hg h
theorem chg_step (hC2:Chg w w2 (Hers sb db vo)) (hV:∀g,v2.ownBlock=some g→w.heap.size≤g∨vo.ownBlock=some g) (hC:Chg w2 u (Two sb v2)):Chg w u (Hers sb db vo) :=
 hC2.trans hC fun i hi h=>by
  rcases h with h | h
  ·exact .inl h
  ·rcases hV i h with h | h
   ·omega
   ·exact .inr (.inr h)
theorem sm_step (hS:Sm w2 base sb db lim dc v2 O2 a2 E) (hC:Chg w2 u (Two sb v2)) (hp:p.p=E) {N7:Nat} {F7:List Int} (hN:N7=F7.length) (hF:fulls (runs (O2++[p]))=F7)
  (hB:Blk u sb 159 (scs lim (.pointer (some ⟨db,0,none⟩)) v6 a2 (p.p+p.w) 0)) (hO:u.ownsRow base 21 1 v6 N7 (nums F7)):Sm u base sb db lim dc v6 (O2++[p]) a2 (E+p.w):=by
 refine ⟨by rw [←hp];exact hB,blk_keep (show Blk _ _ _ _ from hS.dec) hC (fun h=>?_),by rw [hF,←hN];exact hO,hS.le,hS.led,?_⟩
 ·rcases h with h | h
  ·exact hS.apart h.symm
  ·exact hS.ned h
 ·have:=hS.reach.put hp
  rwa [hp] at this
theorem pts_step (hP:w2.ownsRow bp 117 3 (.slice A m c) m (pts ps)) (hS:Sm w2 base sb db lim dc v2 O2 a2 E) (hC:Chg w2 u (Two sb v2)):u.ownsRow bp 117 3 (.slice A m c) m (pts ps) :=
 Norm.own_keep hP hC fun g hg h=>by
  rcases h with h | h
  ·exact own_ne hP hS.blk (by decide) (h ▸ hg)
  ·exact own_apart hP hS.own (by decide) g hg h
theorem org_step (hS:w.heap.size≤w2.heap.size) (hV:∀g,v2.ownBlock=some g→w.heap.size≤g∨vo.ownBlock=some g) (hA:∀g,v6.ownBlock=some g→w2.heap.size≤g∨v2.ownBlock=some g):∀g,v6.ownBlock=some g→w.heap.size≤g∨vo.ownBlock=some g:=fun g hg=>by
 rcases hA g hg with h | h
 ·left;omega
 ·exact hV g h
end step
set_option maxHeartbeats 8000000 in
theorem take_any (base sb db lim a e m c bp:Nat) (dc:List Value) (vo:Value) (O ps:List Pt) (A:Option Addr) (w:World) (hL:Laid w) (hS:Sm w base sb db lim dc vo O a e)
  (hP:w.ownsRow bp 117 3 (.slice A m c) m (pts ps)) (hm:ps.length=m) (hti:Tile e ps) (hb:base≤w.heap.size) (hg:8 < base) (hsm:flen O+3*m≤1073741824) (he:e+ww ps≤1099511627776) :
  Calls Tryz.prog 147 #[.pointer (some ⟨sb,0,none⟩),.slice A m c] w (Takes w base sb db lim dc vo O e ps):=by
 obtain ⟨i0,hi,hz0,hz1,hz2⟩:=info_parts Ucd.infoI32
 have H0:=Lib.hid (show Tk w w base sb db lim dc vo O e ps bp m c A 0 [] O (.slice none 0 0) vo a from
  ⟨rfl,World.ownsRow_nil _ _ _ _,by simpa [ww_nil] using hS,Chg.refl _ _,fun g h=>.inr h,hP⟩)
 have HLOW:=Lib.hid (fun i (hi:i < base)=>hS.hers hi)
 have HL:=Lib.hid hL;have HM:=Lib.hid hm;have HTI:=Lib.hid hti;have HSM:=Lib.hid hsm;have HE:=Lib.hid he
 have hm1:m≤1073741824:=by omega
 clear hL hS hP hm hti hsm he
 go_enter Tryz.func147,Tryz.ntmps147
 go_wp2_with fail
 go_loopw [6,11] (fun vl i wr=>∃(k:Nat) (T:List (List Pt)) (O1:List Pt) (vo1:Value) (a1:Nat),k≤m∧i=.int .i64 k∧Hid (Tk w wr base sb db lim dc vo O e ps bp m c A k T O1 vl vo1 a1)) (fun _ i _=>m - (intOf i).toNat)
 case atStart=>exact ⟨0,[],O,vo,a,Nat.zero_le _,rfl,H0⟩
 case round =>
  obtain ⟨k,T,O1,vo1,a1,hk,rfl,H1⟩:=hrel
  clear H0
  by_cases hlt:k < m
  ·have hkl:k < ps.length:=by rw [HM.out];exact hlt
   have hrd:=Rd.of_own H1.out.pts
   obtain ⟨bq,oq,rfl,hbq⟩:=hrd.form (by rw [pts_len];omega)
   obtain ⟨p1,p2,p3⟩:=hrd.pt hkl
   have hts:ps.take (k+1)=ps.take k++[ps[k]]:=List.take_succ_eq_append_getElem hkl
   have htl:=HTI.out
   rw [←List.take_append_drop k ps,tile_append] at htl
   have hq1:ps[k].p=e+ww (ps.take k):=by
    have:=htl.2
    rw [List.drop_eq_getElem_cons hkl] at this
    exact this.1
   have hww:ww (ps.take (k+1))≤ww ps:=by
    have:=ww_append (ps.take (k+1)) (ps.drop (k+1))
    rw [List.take_append_drop] at this
    omega
   have hgs:=go_snoc opP flen lim (ps.take k) ps[k] [] O H1.out.go
   have hgo:=go_open H1.out.go
   have hgl:=go_len opP flen lim (ps.take k) [] O
   rw [H1.out.go] at hgl
   simp only [List.length_nil,List.length_take,Nat.zero_add] at hgl hgo
   rw [←hts] at hgs
   obtain ⟨p,hp⟩:∃p,p=ps[k]:=⟨_,rfl⟩
   rw [←hp] at p1 p2 p3 hts hq1 hgs
   rw [hts,ww_append,ww_cons,ww_nil,Nat.add_zero] at hww
   obtain ⟨E,hEE⟩:∃E,E=e+ww (ps.take k):=⟨_,rfl⟩
   have hEb:E+p.w≤1099511627776:=by have:=HE.out;omega
   rw [←hEE] at hq1
   have HTS:=Lib.hid hts;have HGS:=Lib.hid hgs;have HQ1:=Lib.hid hq1;have HEE:=Lib.hid hEE
   have hTl:(T.map sgOf).length≤1073741824:=by rw [List.length_map];omega
   have hO1:flen O1+3≤1073741824:=by have:=HSM.out;omega
   have HO1:=Lib.hid hO1;have HTL:=Lib.hid hTl
   have HS1:=Lib.hid H1.out.sm
   rw [←hEE] at HS1
   have hLr:=HL.out.below (H1.out.chg.below hb HLOW.out) hg
   obtain ⟨x,hx⟩:∃x:Int,x=(p.r:Int):=⟨_,rfl⟩
   obtain ⟨y,hy⟩:∃y:Int,y=(p.p:Int):=⟨_,rfl⟩
   obtain ⟨z,hz⟩:∃z:Int,z=(p.w:Int):=⟨_,rfl⟩
   rw [←hx] at p1;rw [←hy] at p2;rw [←hz] at p3
   have HX:=Lib.hid hx;have HY:=Lib.hid hy;have HZ:=Lib.hid hz
   have hyz:0≤y∧0≤z∧y+z≤1099511627776:=by omega
   obtain ⟨hy0,hz0',hyz1⟩:=hyz
   obtain ⟨wp,hwp⟩:∃wp,wp=wr.alloc (.cells #[.int .i32 x,.int .i64 y,.int .i64 z] 117):=⟨_,rfl⟩
   have HWP:=Lib.hid hwp
   have HOP:=Lib.hid (opens_any x wp (by rw [hwp];exact hLr.alloc _))
   have hbp:Below wr.heap.size wr wp:=by rw [hwp];exact (Below.refl _ _).alloc (Nat.le_refl _) _
   have hPB:Blk wp wr.heap.size 117 [.int .i32 x,.int .i64 y,.int .i64 z]:=by rw [hwp];exact Blk.new wr _ _
   have HBP:=Lib.hid hbp;have HPB:=Lib.hid hPB;have HLR:=Lib.hid hLr
   have HYZ:=Lib.hid (show y+z=((p.p+p.w:Nat):Int) by omega)
   clear hkl hrd hbq hts htl hq1 hww hgs hgo hgl hp hEE hO1 hTl hLr hx hy hz hwp hbp hPB
   go_wp2_with fail
   rw [←HWP.out]
   have hplt:wr.heap.size < wp.heap.size:=by rw [HWP.out];simp
   have HPLT:=Lib.hid hplt
   have HG0:=Lib.hid (gstep_two T O1 p)
   clear hplt
   cases hop:opP p with
   | true =>
    have hox:opn x=true:=by rw [HX.out];exact hop
    rw [hox] at HOP
    obtain ⟨O2,hO2⟩:∃Z:List Pt,Z=[]:=⟨_,rfl⟩
    have HG2:=Lib.hid (HG0.out.1 O2 hO2 hop)
    have HZ:=Lib.hid hO2
    clear hO2
    clear hox hop HG0
    refine HOP.out.mono ?_
    rintro e1 w1 ⟨rfl,hb1⟩
    have HB1:=Lib.hid (HBP.out.trans (hb1.mono HBP.out.size))
    have HS1':=Lib.hid (HS1.out.next HB1.out)
    have HT1:=Lib.hid (Ucd.own_below H1.out.told HB1.out)
    have HPT1:=Lib.hid (Ucd.own_below H1.out.pts HB1.out)
    have HPB1:=Lib.hid (HPB.out.below hb1 HPLT.out)
    have HL1:=Lib.hid (HLR.out.next HB1.out)
    have HC1:=Lib.hid (H1.out.chg.and_below HB1.out)
    clear hb1
    go_wp2_with fail
    refine (tell_any w.heap.size base sb db lim dc vo1 u6 (T.map sgOf) O1 a1 E w1 HL1.out HS1'.out HT1.out HC1.out.size (by have:=HO1.out;omega) HTL.out).mono ?_
    rintro e2 w2 ⟨vl2,vo2,rfl,ho2,hS2,hC2,hv2,ha2⟩
    rw [←List.map_append] at ho2
    have hin:∀i,i < w.heap.size→(i=sb∨u6.ownBlock=some i)→Hers sb db vo i:=fun i hi h=>by
     rcases h with h | h
     ·exact .inl h
     ·have:=(H1.out.told.lt i h).1;omega
    have HC2:=Lib.hid (HC1.out.trans hC2 hin)
    have hpb:¬(wr.heap.size=sb∨u6.ownBlock=some wr.heap.size):=fun h=>by
     rcases h with h | h
     ·have:=HS1.out.blk.lt;omega
     ·have:=(H1.out.told.lt _ h).2;omega
    have HPB2:=Lib.hid (blk_keep HPB1.out hC2 hpb)
    have HP2:=Lib.hid (Norm.own_keep HPT1.out hC2 (fun g hg h=>by
     rcases h with h | h
     ·exact own_ne HPT1.out HS1'.out.blk (by decide) (h ▸ hg)
     ·exact own_apart HPT1.out HT1.out (by decide) g hg h))
    have HL2:=Lib.hid (HL.out.below (HC2.out.below hb HLOW.out) hg)
    have HV2:=Lib.hid (show ∀g,vo2.ownBlock=some g→w.heap.size≤g∨vo.ownBlock=some g from fun g h=>H1.out.org g (hv2 ▸ h))
    have HF2:=Lib.hid (show flen O2+3≤1073741824 by rw [HZ.out];show 0+3≤_;omega)
    have HT2:=Lib.hid ho2
    rw [←HZ.out] at hS2
    have HS2:=Lib.hid hS2
    clear ho2 hS2 hC2 hv2 ha2 hin hpb HB1 HS1' HT1 HPT1 HPB1 HL1 HC1 HS1 HO1
    generalize T++shut ([],O1)=T2 at *
    obtain ⟨A2,ca2,rfl,_⟩:=own_form HS2.out.own
    have HOW:=Lib.hid HS2.out.own
    have HD:=Lib.hid (decompose_any x)
    have h3:=full_three x
    have HFR:=Lib.hid (show fulls (runs (O2++[p]))=fulls (runs O2)++fullF x by rw [runs_append,fulls_append,HX.out];simp [runs,fulls])
    have hfl:(fulls (runs O2)).length+3≤1073741824:=HF2.out
    obtain ⟨F2,hF2⟩:∃F2,F2=fulls (runs O2):=⟨_,rfl⟩
    have c2:w2.cell? ⟨sb,2,none⟩=some (.slice A2 (fulls (runs O2)).length ca2):=HS2.out.blk.cell 2
    have c20:w2.cell? ⟨wr.heap.size,0,none⟩=some (.int .i32 x):=HPB2.out.cell 0
    rw [←hF2] at HOW HFR hfl c2
    obtain ⟨f2,hf2⟩:∃f2,f2=F2.length:=⟨_,rfl⟩
    rw [←hf2] at HOW hfl c2
    have hs2:=HS2.out
    have hv2:=HV2.out
    rw [←hF2,←hf2] at hs2 hv2
    clear HS2 HV2
    have HS2:=Lib.hid hs2
    have HV2:=Lib.hid hv2
    have HF2L:=Lib.hid hf2
    clear hs2 hv2
    obtain ⟨D,hDD⟩:∃D,D=fullF x:=⟨_,rfl⟩
    rw [←hDD] at HFR h3
    have HDD:=Lib.hid hDD
    have hsbp:sb≠wr.heap.size:=blk_apart HS2.out.blk HPB2.out (by decide)
    have HSBP:=Lib.hid hsbp
    clear hF2 hf2 hDD hsbp
    go_wp2_with fail
    go_region_law (first
     | (
      refine step_append_rd rfl (.tmp 25) (.tmp 28) _ rfl base 21 i0 _ 1 4 Tryz.underlying73 hi hz0 hz1 hz2 rfl (by decide) (.slice A2 f2 ca2) f2 (nums F2) rfl HOW3.out _ A3 D.length c3 (nums D) rfl (by rw [nums_len,Nat.mul_one]) HR3.out (nums_one D) (by unfold maxLen;omega) (by omega) HSZ3.out ?_
      intro v6 w6 hown6 hgr6 hat6
      obtain ⟨A6,c6,rfl,_,_,_⟩:=own_form hown6
      have HO6:=Lib.hid hown6
      have HG6:=Lib.hid hgr6
      have HA6:=Lib.hid hat6
      have HB6:=Lib.hid (HB3.out.grown hgr6 (fun h=>HNE.out h.symm))
      have c2:=HB6.out.cell 2
      have f26:=HB6.out.frozen 2
      have HPB6:=Lib.hid (HPB3.out.grown hgr6 (fun h=>HNP.out h.symm))
      have HA7:=Lib.hid (show ∀g,(Value.slice A6 (f2+D.length) c6).ownBlock=some g→w2.heap.size≤g∨(Value.slice A2 f2 ca2).ownBlock=some g from fun g hg=>by
       rcases hat6 with h | h
       ·exact .inr (h ▸ hg)
       ·left;rw [h] at hg;injection hg with hg;have:=HB23.out.size;simp at this;omega)
      have HC6:=Lib.hid ((((Chg.refl w2 (Two sb (.slice A2 f2 ca2))).and_below (Below.refl _ _).drew).and_below HB23.out).grown hgr6 (fun i _ h=>.inr h))
      simp only [scs,List.getElem?_cons_succ,List.getElem?_cons_zero] at c2
      clear hown6 hgr6 hat6)
     | (
      go_simp
      go_at_call 179
      refine (HD.out w2.drew HL2.out.drew).mono ?_
      rintro e3 w3 ⟨v3,rfl,ho3,hb3⟩
      rw [←HDD.out] at ho3
      have HB23:=Lib.hid hb3
      have HS3:=Lib.hid (HS2.out.next ((Below.refl _ _).drew.trans (hb3.mono (Nat.le_refl _))))
      have HB3:=Lib.hid HS3.out.blk
      have hne3:=HS3.out.ne
      have HNE:=Lib.hid hne3
      have HPB3:=Lib.hid (Blk.below (w:=w2.drew) HPB2.out hb3 HPB2.out.lt)
      have HOW3:=Lib.hid (Ucd.own_below HOW.out.drew hb3)
      obtain ⟨A3,c3,rfl,_,_,hr3⟩:=own_form ho3
      have HR3:=Lib.hid hr3
      have HNP:=Lib.hid (own_ne HOW3.out HPB3.out (by decide))
      have HSZ3:=Lib.hid (show base≤w3.heap.size from Nat.le_trans (Nat.le_trans hb HC2.out.size) hb3.size)
      have c2:w3.cell? ⟨sb,2,none⟩=some (.slice A2 f2 ca2):=by have:=HS3.out.blk.cell 2;simp only [scs,List.getElem?_cons_succ,List.getElem?_cons_zero] at this;exact this
      have c20:w3.cell? ⟨wr.heap.size,0,none⟩=some (.int .i32 x):=(Blk.below (w:=w2.drew) HPB2.out hb3 HPB2.out.lt).cell 0
      clear ho3 hr3 hb3 hne3))
    all_goals
     have hB7:=HB6.out.set_ 2 (.slice A6 (f2+D.length) c6)
     have hP7:Blk (w6.setCell ⟨sb,2,none⟩ (.slice A6 (f2+D.length) c6)) wr.heap.size 117 [.int .i32 x,.int .i64 y,.int .i64 z]:=HPB6.out.far (fun h=>HSBP.out h.symm) _
     have hO7:=own_set HO6.out (own_ne HO6.out HB6.out (by decide)) (o:=2) (.slice A6 (f2+D.length) c6)
     have hC7:Chg w2 (w6.setCell ⟨sb,2,none⟩ (.slice A6 (f2+D.length) c6)) (Two sb (.slice A2 f2 ca2)):=HC6.out.setCell (p:=⟨sb,2,none⟩) _ (.inl rfl)
     have HN7:=Lib.hid (show f2+D.length=(F2++D).length by rw [List.length_append,HF2L.out])
     have hN7b:f2+D.length≤1073741824:=by omega
     obtain ⟨u7,hu7⟩:∃u7,u7=w6.setCell ⟨sb,2,none⟩ (.slice A6 (f2+D.length) c6):=⟨_,rfl⟩
     rw [←hu7] at hB7 hP7 hO7 hC7 ⊢
     rw [←nums_append] at hO7
     have HA8:=HA7
     clear c2 f26 hu7 HB6 HPB6 HO6 HC6 HA7 HA6 HG6 HOW3 HS3 HB3 HNE HR3 HB23 HSZ3 HPB3 HNP c20
     generalize f2+D.length=N7 at *
     have c0:=hB7.cell 0
     have c2:=hB7.cell 2
     have c4:=hB7.cell 4
     have f4:=hB7.frozen 4
     have d1:=hP7.cell 1
     have d2:=hP7.cell 2
     simp only [scs,List.getElem?_cons_succ,List.getElem?_cons_zero,List.set_cons_zero,List.set_cons_succ] at c0 c2 c4 d1 d2
     have HB7:=Lib.hid hB7
     have HO7:=Lib.hid hO7
     have HC7:=Lib.hid hC7
     clear hB7 hO7 hC7 hP7
     by_cases hbig:lim < N7
     ·have hd:decide (lim < N7)=true:=decide_eq_true hbig
      go_wp2_with fail
      go_quiet (fail)
      have hB9:=(HB7.out.set_ 4 (.int .i64 (y+z))).drewN nq
      have e9:((scs (lim:Int) (.pointer (some ⟨db,0,none⟩)) (.slice A2 f2 ca2) E E 0).set 2 (.slice A6 N7 c6)).set 4 (.int .i64 (y+z))=scs lim (.pointer (some ⟨db,0,none⟩)) (.slice A6 N7 c6) E (p.p+p.w) 0:=by rw [HYZ.out];rfl
      rw [e9] at hB9
      have HB9:=Lib.hid hB9
      have HC9:=Lib.hid ((HC7.out.setCell (p:=⟨sb,4,none⟩) (.int .i64 (y+z)) (.inl rfl)).and_below (below_drewN (Below.refl _ _) nq))
      have HGO:=Lib.hid (go_big HGS.out HG2.out (show N7=flen (O2++[p]) by rw [flen,HFR.out,HN7.out]) hbig)
      clear hB9 e9 hbig hd c0 c2 c4 f4 d1 d2
      go_wp2_with fail
      refine (stop_any sb lim 0 6 _ _ E (p.p+p.w) _ HB9.out).mono ?_
      rintro e9 w9 ⟨rfl,hD9,hC9⟩
      have HC10:=Lib.hid (HC9.out.trans hC9 (fun i _ h=>.inl h))
      have HD9:=Lib.hid hD9
      clear hD9 hC9 HC9 HB9
      go_wp2_with fail
      go_ret2
      exact ⟨vl2,T2,O2++[p],true,HGO.out,rfl,told_step HT2.out HS2.out HC10.out,chg_step HC2.out HV2.out HC10.out,(fun h=>by cases h),fun _=>HD9.out⟩
     ·have hd:decide (lim < N7)=false:=decide_eq_false hbig
      go_wp2_with fail
      go_quiet (fail)
      have hB9:=(HB7.out.set_ 4 (.int .i64 (y+z))).drewN nq
      have e9:((scs (lim:Int) (.pointer (some ⟨db,0,none⟩)) (.slice A2 f2 ca2) E E 0).set 2 (.slice A6 N7 c6)).set 4 (.int .i64 (y+z))=scs lim (.pointer (some ⟨db,0,none⟩)) (.slice A6 N7 c6) E (p.p+p.w) 0:=by rw [HYZ.out];rfl
      rw [e9] at hB9
      have HB9:=Lib.hid hB9
      have HC9:=Lib.hid ((HC7.out.setCell (p:=⟨sb,4,none⟩) (.int .i64 (y+z)) (.inl rfl)).and_below (below_drewN (Below.refl _ _) nq))
      have HO9:=Lib.hid (Ucd.own_below (own_set HO7.out (own_ne HO7.out HB7.out (by decide)) (o:=4) (.int .i64 (y+z))) (below_drewN (Below.refl _ _) nq))
      have HGO:=Lib.hid (go_small HGS.out HG2.out (show N7=flen (O2++[p]) by rw [flen,HFR.out,HN7.out]) hbig)
      clear hB9 e9 hbig hd c0 c2 c4 f4 d1 d2
      go_wp2_with fail
      go_roundw
      case rel =>
       refine ⟨k+1,T2,O2++[p],.slice A6 N7 c6,E,by omega,by go_num,Lib.hid ⟨HGO.out,told_step HT2.out HS2.out HC9.out,?_,chg_step HC2.out HV2.out HC9.out,org_step HC2.out.size HV2.out HA8.out,pts_step HP2.out HS2.out HC9.out⟩⟩
       have hsm:=sm_step HS2.out HC9.out HQ1.out HN7.out HFR.out HB9.out HO9.out
       have e5:e+ww (ps.take (k+1))=E+p.w:=by rw [HTS.out,ww_append,ww_cons,ww_nil,HEE.out];omega
       rw [e5]
       exact hsm
      case measure=>simp [intOf];omega
   | false =>
    have hox:opn x=false:=by rw [HX.out];exact hop
    rw [hox] at HOP
    have HG2:=Lib.hid (HG0.out.2 hop)
    clear hox hop HG0
    refine HOP.out.mono ?_
    rintro e1 w2 ⟨rfl,hb1⟩
    have HB1:=Lib.hid (HBP.out.trans (hb1.mono HBP.out.size))
    have HS2:=Lib.hid (HS1.out.next HB1.out)
    have HT2:=Lib.hid (Ucd.own_below H1.out.told HB1.out)
    have HP2:=Lib.hid (Ucd.own_below H1.out.pts HB1.out)
    have HPB2:=Lib.hid (HPB.out.below hb1 HPLT.out)
    have HL2:=Lib.hid (HLR.out.next HB1.out)
    have HC2:=Lib.hid (H1.out.chg.and_below HB1.out)
    have HV2:=Lib.hid H1.out.org
    have HF2:=Lib.hid HO1.out
    clear hb1 HB1 HS1 HO1
    obtain ⟨A2,ca2,rfl,_⟩:=own_form HS2.out.own
    have HOW:=Lib.hid HS2.out.own
    have HD:=Lib.hid (decompose_any x)
    have h3:=full_three x
    have HFR:=Lib.hid (show fulls (runs (O1++[p]))=fulls (runs O1)++fullF x by rw [runs_append,fulls_append,HX.out];simp [runs,fulls])
    have hfl:(fulls (runs O1)).length+3≤1073741824:=HF2.out
    obtain ⟨F2,hF2⟩:∃F2,F2=fulls (runs O1):=⟨_,rfl⟩
    have c2:w2.cell? ⟨sb,2,none⟩=some (.slice A2 (fulls (runs O1)).length ca2):=HS2.out.blk.cell 2
    have c20:w2.cell? ⟨wr.heap.size,0,none⟩=some (.int .i32 x):=HPB2.out.cell 0
    rw [←hF2] at HOW HFR hfl c2
    obtain ⟨f2,hf2⟩:∃f2,f2=F2.length:=⟨_,rfl⟩
    rw [←hf2] at HOW hfl c2
    have hs2:=HS2.out
    have hv2:=HV2.out
    rw [←hF2,←hf2] at hs2 hv2
    clear HS2 HV2
    have HS2:=Lib.hid hs2
    have HV2:=Lib.hid hv2
    have HF2L:=Lib.hid hf2
    clear hs2 hv2
    obtain ⟨D,hDD⟩:∃D,D=fullF x:=⟨_,rfl⟩
    rw [←hDD] at HFR h3
    have HDD:=Lib.hid hDD
    have hsbp:sb≠wr.heap.size:=blk_apart HS2.out.blk HPB2.out (by decide)
    have HSBP:=Lib.hid hsbp
    clear hF2 hf2 hDD hsbp
    go_wp2_with fail
    go_region_law (first
     | (
      refine step_append_rd rfl (.tmp 25) (.tmp 28) _ rfl base 21 i0 _ 1 4 Tryz.underlying73 hi hz0 hz1 hz2 rfl (by decide) (.slice A2 f2 ca2) f2 (nums F2) rfl HOW3.out _ A3 D.length c3 (nums D) rfl (by rw [nums_len,Nat.mul_one]) HR3.out (nums_one D) (by unfold maxLen;omega) (by omega) HSZ3.out ?_
      intro v6 w6 hown6 hgr6 hat6
      obtain ⟨A6,c6,rfl,_,_,_⟩:=own_form hown6
      have HO6:=Lib.hid hown6
      have HG6:=Lib.hid hgr6
      have HA6:=Lib.hid hat6
      have HB6:=Lib.hid (HB3.out.grown hgr6 (fun h=>HNE.out h.symm))
      have c2:=HB6.out.cell 2
      have f26:=HB6.out.frozen 2
      have HPB6:=Lib.hid (HPB3.out.grown hgr6 (fun h=>HNP.out h.symm))
      have HA7:=Lib.hid (show ∀g,(Value.slice A6 (f2+D.length) c6).ownBlock=some g→w2.heap.size≤g∨(Value.slice A2 f2 ca2).ownBlock=some g from fun g hg=>by
       rcases hat6 with h | h
       ·exact .inr (h ▸ hg)
       ·left;rw [h] at hg;injection hg with hg;have:=HB23.out.size;simp at this;omega)
      have HC6:=Lib.hid ((((Chg.refl w2 (Two sb (.slice A2 f2 ca2))).and_below (Below.refl _ _).drew).and_below HB23.out).grown hgr6 (fun i _ h=>.inr h))
      simp only [scs,List.getElem?_cons_succ,List.getElem?_cons_zero] at c2
      clear hown6 hgr6 hat6)
     | (
      go_simp
      go_at_call 179
      refine (HD.out w2.drew HL2.out.drew).mono ?_
      rintro e3 w3 ⟨v3,rfl,ho3,hb3⟩
      rw [←HDD.out] at ho3
      have HB23:=Lib.hid hb3
      have HS3:=Lib.hid (HS2.out.next ((Below.refl _ _).drew.trans (hb3.mono (Nat.le_refl _))))
      have HB3:=Lib.hid HS3.out.blk
      have hne3:=HS3.out.ne
      have HNE:=Lib.hid hne3
      have HPB3:=Lib.hid (Blk.below (w:=w2.drew) HPB2.out hb3 HPB2.out.lt)
      have HOW3:=Lib.hid (Ucd.own_below HOW.out.drew hb3)
      obtain ⟨A3,c3,rfl,_,_,hr3⟩:=own_form ho3
      have HR3:=Lib.hid hr3
      have HNP:=Lib.hid (own_ne HOW3.out HPB3.out (by decide))
      have HSZ3:=Lib.hid (show base≤w3.heap.size from Nat.le_trans (Nat.le_trans hb HC2.out.size) hb3.size)
      have c2:w3.cell? ⟨sb,2,none⟩=some (.slice A2 f2 ca2):=by have:=HS3.out.blk.cell 2;simp only [scs,List.getElem?_cons_succ,List.getElem?_cons_zero] at this;exact this
      have c20:w3.cell? ⟨wr.heap.size,0,none⟩=some (.int .i32 x):=(Blk.below (w:=w2.drew) HPB2.out hb3 HPB2.out.lt).cell 0
      clear ho3 hr3 hb3 hne3))
    all_goals
     have hB7:=HB6.out.set_ 2 (.slice A6 (f2+D.length) c6)
     have hP7:Blk (w6.setCell ⟨sb,2,none⟩ (.slice A6 (f2+D.length) c6)) wr.heap.size 117 [.int .i32 x,.int .i64 y,.int .i64 z]:=HPB6.out.far (fun h=>HSBP.out h.symm) _
     have hO7:=own_set HO6.out (own_ne HO6.out HB6.out (by decide)) (o:=2) (.slice A6 (f2+D.length) c6)
     have hC7:Chg w2 (w6.setCell ⟨sb,2,none⟩ (.slice A6 (f2+D.length) c6)) (Two sb (.slice A2 f2 ca2)):=HC6.out.setCell (p:=⟨sb,2,none⟩) _ (.inl rfl)
     have HN7:=Lib.hid (show f2+D.length=(F2++D).length by rw [List.length_append,HF2L.out])
     have hN7b:f2+D.length≤1073741824:=by omega
     obtain ⟨u7,hu7⟩:∃u7,u7=w6.setCell ⟨sb,2,none⟩ (.slice A6 (f2+D.length) c6):=⟨_,rfl⟩
     rw [←hu7] at hB7 hP7 hO7 hC7 ⊢
     rw [←nums_append] at hO7
     have HA8:=HA7
     clear c2 f26 hu7 HB6 HPB6 HO6 HC6 HA7 HA6 HG6 HOW3 HS3 HB3 HNE HR3 HB23 HSZ3 HPB3 HNP c20
     generalize f2+D.length=N7 at *
     have c0:=hB7.cell 0
     have c2:=hB7.cell 2
     have c4:=hB7.cell 4
     have f4:=hB7.frozen 4
     have d1:=hP7.cell 1
     have d2:=hP7.cell 2
     simp only [scs,List.getElem?_cons_succ,List.getElem?_cons_zero,List.set_cons_zero,List.set_cons_succ] at c0 c2 c4 d1 d2
     have HB7:=Lib.hid hB7
     have HO7:=Lib.hid hO7
     have HC7:=Lib.hid hC7
     clear hB7 hO7 hC7 hP7
     by_cases hbig:lim < N7
     ·have hd:decide (lim < N7)=true:=decide_eq_true hbig
      go_wp2_with fail
      go_quiet (fail)
      have hB9:=(HB7.out.set_ 4 (.int .i64 (y+z))).drewN nq
      have e9:((scs (lim:Int) (.pointer (some ⟨db,0,none⟩)) (.slice A2 f2 ca2) a1 E 0).set 2 (.slice A6 N7 c6)).set 4 (.int .i64 (y+z))=scs lim (.pointer (some ⟨db,0,none⟩)) (.slice A6 N7 c6) a1 (p.p+p.w) 0:=by rw [HYZ.out];rfl
      rw [e9] at hB9
      have HB9:=Lib.hid hB9
      have HC9:=Lib.hid ((HC7.out.setCell (p:=⟨sb,4,none⟩) (.int .i64 (y+z)) (.inl rfl)).and_below (below_drewN (Below.refl _ _) nq))
      have HGO:=Lib.hid (go_big HGS.out HG2.out (show N7=flen (O1++[p]) by rw [flen,HFR.out,HN7.out]) hbig)
      clear hB9 e9 hbig hd c0 c2 c4 f4 d1 d2
      go_wp2_with fail
      refine (stop_any sb lim 0 6 _ _ a1 (p.p+p.w) _ HB9.out).mono ?_
      rintro e9 w9 ⟨rfl,hD9,hC9⟩
      have HC10:=Lib.hid (HC9.out.trans hC9 (fun i _ h=>.inl h))
      have HD9:=Lib.hid hD9
      clear hD9 hC9 HC9 HB9
      go_wp2_with fail
      go_ret2
      exact ⟨u6,T,O1++[p],true,HGO.out,rfl,told_step HT2.out HS2.out HC10.out,chg_step HC2.out HV2.out HC10.out,(fun h=>by cases h),fun _=>HD9.out⟩
     ·have hd:decide (lim < N7)=false:=decide_eq_false hbig
      go_wp2_with fail
      go_quiet (fail)
      have hB9:=(HB7.out.set_ 4 (.int .i64 (y+z))).drewN nq
      have e9:((scs (lim:Int) (.pointer (some ⟨db,0,none⟩)) (.slice A2 f2 ca2) a1 E 0).set 2 (.slice A6 N7 c6)).set 4 (.int .i64 (y+z))=scs lim (.pointer (some ⟨db,0,none⟩)) (.slice A6 N7 c6) a1 (p.p+p.w) 0:=by rw [HYZ.out];rfl
      rw [e9] at hB9
      have HB9:=Lib.hid hB9
      have HC9:=Lib.hid ((HC7.out.setCell (p:=⟨sb,4,none⟩) (.int .i64 (y+z)) (.inl rfl)).and_below (below_drewN (Below.refl _ _) nq))
      have HO9:=Lib.hid (Ucd.own_below (own_set HO7.out (own_ne HO7.out HB7.out (by decide)) (o:=4) (.int .i64 (y+z))) (below_drewN (Below.refl _ _) nq))
      have HGO:=Lib.hid (go_small HGS.out HG2.out (show N7=flen (O1++[p]) by rw [flen,HFR.out,HN7.out]) hbig)
      clear hB9 e9 hbig hd c0 c2 c4 f4 d1 d2
      go_wp2_with fail
      go_roundw
      case rel =>
       refine ⟨k+1,T,O1++[p],.slice A6 N7 c6,a1,by omega,by go_num,Lib.hid ⟨HGO.out,told_step HT2.out HS2.out HC9.out,?_,chg_step HC2.out HV2.out HC9.out,org_step HC2.out.size HV2.out HA8.out,pts_step HP2.out HS2.out HC9.out⟩⟩
       have hsm:=sm_step HS2.out HC9.out HQ1.out HN7.out HFR.out HB9.out HO9.out
       have e5:e+ww (ps.take (k+1))=E+p.w:=by rw [HTS.out,ww_append,ww_cons,ww_nil,HEE.out];omega
       rw [e5]
       exact hsm
      case measure=>simp [intOf];omega
  ·obtain rfl:k=m:=by omega
   have HXT:=Lib.hid (show ps.take k=ps by rw [←HM.out];exact List.take_length)
   go_wp2_with fail
   go_ret2
   have h:=H1.out
   have hgo:=h.go
   have hsm:=h.sm
   rw [HXT.out] at hgo hsm
   exact ⟨_,T,O1,false,hgo,rfl,h.told,h.chg,fun _=>⟨vo1,a1,hsm,h.org⟩,(fun h=>by cases h)⟩
end Go.Proofs.YtkgeiokckfpjlaaGreatDoor.Seg
