/-
  Texts of stage 7, part 23.
-/
import Derived.Test.YtdngaddggcmjgaaGreatDoorT19
import Derived.Test.YtdngaddggcmjgaaGreatDoorT20
import Derived.Test.YtdngaddggcmjgaaGreatDoorT22
namespace Go.Proofs.YtdngaddggcmjgaaGreatDoor.Seg
open Go.Shelf Go.RowKit Go.Sort
open Utf hiding infoI32 rd_new own_form rdec_any below_drewN new_any write_any close_any
open Ucd hiding grow same Told
open Norm hiding new_any write_any close_any
set_option maxRecDepth 100000
def Segs (w:World) (S:List Sg) (e:Ending) (w':World):Prop:=∃v,e=.returned v∧w'.ownsRow w.heap.size 48 3 v S.length (sgs S)∧Below w.heap.size w w'
set_option maxHeartbeats 2000000 in
theorem length_any (s:ByteArray) (a e:Int) (w:World) (hb:s.size≤34359738368) :
  Calls Tryz.prog 48 #[.agg #[.string s,.int .i64 a,.int .i64 e]] w (Ret w (.int .i64 (runesF s.data.toList).length)):=by
 obtain ⟨w0,hw0⟩:∃w0,w0=w.alloc (.cells #[.string s,.int .i64 a,.int .i64 e] 48):=⟨_,rfl⟩
 have hcv:=run_bytes_of_string (P:=Tryz.prog) w0 9 22 5 s Tryz.underlying9 Tryz.underlying22 Tryz.underlying5
 have hge:=grownCap_ge w0 s.size 0 5
 have hle:=grownCap_le_maxLen w0 s.size 0 5 (by unfold maxLen;omega)
 generalize grownCap w0 s.size 0 5=cap at hcv hge hle
 unfold maxLen at hle
 obtain ⟨u,hu⟩:∃u,u=w0.drew.alloc (.cells (bytesRow s cap) 5 ((bytesRow s cap).size,(bytesRow s cap).size+1)):=⟨_,rfl⟩
 rw [←hu] at hcv
 obtain ⟨hrd,hbl⟩:=rd_str w0 s cap _ _ u hu
 have HC:=Lib.hid (rrunes_any (some ⟨w0.heap.size,0,none⟩) s.data.toList s.size cap u hrd (show s.data.toList.length=s.data.size from Array.length_toList) hb)
 have hb0:Below w.heap.size w w0:=by rw [hw0];exact (Below.refl _ _).alloc (Nat.le_refl _) _
 have HB:=Lib.hid (hb0.trans (hbl.mono hb0.size))
 have HW0:=Lib.hid hw0
 rw [hw0] at hcv
 clear hw0 hu hrd hbl hge hle hb hb0
 generalize runesF s.data.toList=R at HC ⊢
 go_enter Tryz.func48,Tryz.ntmps48
 go_wp2_with fail
 have hsz:w0.heap.size=w.heap.size+1:=by rw [HW0.out];simp
 have HC2:=HC.out
 rw [hsz] at HC2
 refine HC2.mono ?_
 rintro e1 w1 ⟨v,rfl,ho,hb1⟩
 obtain ⟨A1,c1,rfl,_⟩:=own_form ho
 have HB1:=Lib.hid (HB.out.trans (hb1.mono HB.out.size))
 clear ho hb1 hcv HC HC2 hsz
 go_wp2_with fail
 go_ret
 exact ⟨rfl,HB1.out⟩
theorem says_runes (g:List Pt):(runesF (says g).data.toList).length=flen g:=by
 show (runesF (enc (normal (runs g)))).length=_
 rw [runes_enc_len,normal_len];rfl
theorem says_size (g:List Pt):(says g).size≤12*g.length:=by
 show (enc (normal (runs g))).toArray.size≤_
 rw [List.size_toArray]
 have h1:=enc_le (normal (runs g))
 have h2:=flen_le g
 rw [normal_len] at h1
 unfold flen at h2
 omega
theorem length_at (g:List Pt) (a e:Int) (w:World) (hg:g.length≤1073741824):Calls Tryz.prog 48 #[.agg #[.string (says g),.int .i64 a,.int .i64 e]] w (Ret w (.int .i64 (flen g))):=by
 have:=length_any (says g) a e w (by have:=says_size g;omega)
 rwa [says_runes] at this
theorem seg_to {w:World} {B n c t:Nat} {A:Option Addr} {S:List Sg} (h:Rd w B A (sgs S)) (ht:t≤n) (hc:n≤c) :
  ∃A1,(∀u:World,(Instr.slice 30 (.slice A n c) none (some (.int .i64 t)) none).run Tryz.prog u=.ok (.slice A1 t c) u)∧Rd w B A1 (sgs (S.take t)):=by
 have he:Tryz.prog.elem 30=48:=by simp [Program.elem,Tryz.underlying30]
 refine ⟨if c=0 then A else A.map fun a=>a.add 0,fun u=>?_,?_⟩
 ·rw [run_slice_h u 30 A n c (by rw [he];exact Tryz.underlying30) .i64 (t:Int) (by omega) (by omega),he,Tryz.sizeOf48]
  simp [Result.andThen,sliced]
 ·have hA:(if c=0 then A else A.map fun a=>a.add 0)=A:=by
   split
   ·rfl
   ·cases A with
    | none=>rfl
    | some a=>rw [Option.map_some];congr 1
  rw [hA,←sgs_take]
  exact h.take_ _
def Goods (w:World) (gs:List (List Pt)) (lim:Nat) (e:Ending) (w':World):Prop :=
 ∃A n c,e=.returned (.tuple #[.slice A n c,.bool (badG flen lim gs)])∧n=(okG flen lim gs).length∧Rd w' w'.heap.size A (sgs ((okG flen lim gs).map sgOf))∧n≤c∧c≤9223372036854775807∧Below w.heap.size w w'
set_option maxHeartbeats 4000000 in
theorem good_any (A:Option Addr) (gs:List (List Pt)) (lim n c:Nat) (w:World) (hr:Rd w w.heap.size A (sgs (gs.map sgOf))) (hn:gs.length=n) (hc:n≤c) (hcm:c≤9223372036854775807) (hl:∀g∈gs,g.length≤1073741824) :
  Calls Tryz.prog 27 #[.slice A n c,.int .i64 lim] w (Goods w gs lim):=by
 have HR:=Lib.hid hr;have HN:=Lib.hid hn;have HL:=Lib.hid hl
 clear hr hn hl
 go_enter Tryz.func27,Tryz.ntmps27
 go_wp2_with fail
 go_loopw [6] (fun i wr=>∃k:Nat,k≤n∧i=.int .i64 k∧Hid (∀g∈gs.take k,flen g≤lim)∧Hid (Below w.heap.size w wr)) (fun i _=>n - (intOf i).toNat)
 case atStart=>exact ⟨0,Nat.zero_le _,rfl,Lib.hid (by simp),Lib.hid (Below.refl _ _)⟩
 case round =>
  obtain ⟨k,hk,rfl,HA,HB⟩:=hrel
  by_cases hlt:k < n
  ·have hkl:k < gs.length:=by rw [HN.out];exact hlt
   have hkm:k < (gs.map sgOf).length:=by rw [List.length_map];exact hkl
   obtain ⟨b,o,rfl,hbl⟩:=HR.out.form (by rw [sgs_len];omega)
   obtain ⟨p1,p2,p3⟩:=Rd_sg (HR.out.below HB.out) hkm
   rw [List.getElem_map] at p1 p2 p3
   have HT:=Lib.hid (show gs.take (k+1)=gs.take k++[gs[k]] from List.take_succ_eq_append_getElem hkl)
   have hsp:gs=gs.take k++gs[k] :: gs.drop (k+1):=by rw [←List.drop_eq_getElem_cons hkl,List.take_append_drop]
   have HSP:=Lib.hid hsp
   have hgl:=HL.out gs[k] (List.getElem_mem hkl)
   obtain ⟨g,hg⟩:∃g,g=gs[k]:=⟨_,rfl⟩
   rw [←hg] at p1 p2 p3 HT hgl HSP
   change wr.cell? ⟨b,o+k*3,none⟩=some (.string (says g)) at p1
   change wr.cell? ⟨b,o+k*3+1,none⟩=some (.int .i64 (beg g)) at p2
   change wr.cell? ⟨b,o+k*3+2,none⟩=some (.int .i64 (fin g)) at p3
   have HLN:=Lib.hid (length_at g (beg g) (fin g) wr hgl)
   obtain ⟨A1,hsl,hr1⟩:=seg_to (t:=k) HR.out hk hc
   have HR1:=Lib.hid hr1
   generalize says g=sg at *
   obtain ⟨y,hy⟩:∃y:Int,y=(beg g:Int):=⟨_,rfl⟩
   obtain ⟨z,hz⟩:∃z:Int,z=(fin g:Int):=⟨_,rfl⟩
   rw [←hy] at p2 HLN
   rw [←hz] at p3 HLN
   obtain ⟨f,hf⟩:∃f,f=flen g:=⟨_,rfl⟩
   rw [←hf] at HLN
   have HF:=Lib.hid hf
   have hfb:f≤3221225472:=by have:=flen_le g;omega
   clear hkl hkm hsp hg hy hz hf hr1 hgl hbl
   by_cases hbig:lim < f
   ·have hd:decide (lim < f)=true:=decide_eq_true hbig
    have hst:=okG_stop flen lim HA.out (x:=g) (by rw [←HF.out];exact hbig) (gs.drop (k+1))
    rw [←HSP.out] at hst
    have HST:=Lib.hid hst
    have HKT:=Lib.hid (show k=(gs.take k).length by rw [List.length_take];have:=HN.out;omega)
    clear hst hbig
    go_wp2_with (go_at_call 48;refine HLN.out.mono ?_;rintro e1 w1 ⟨rfl,hb1⟩;have HB1:=Lib.hid (HB.out.trans (hb1.mono HB.out.size));clear hb1)
    go_ret2
    refine ⟨A1,k,c,by rw [HST.out.2];rfl,by rw [HST.out.1];exact HKT.out,?_,by omega,hcm,HB1.out⟩
    rw [HST.out.1,List.map_take]
    exact (HR1.out.below HB1.out).more HB1.out.size
   ·have hd:decide (lim < f)=false:=decide_eq_false hbig
    have HA1:=Lib.hid (show ∀x∈gs.take (k+1),flen x≤lim from fun x hx=>by
     rw [HT.out] at hx
     rcases List.mem_append.1 hx with hx | hx
     ·exact HA.out x hx
     ·rw [List.mem_singleton.1 hx,←HF.out];omega)
    clear hbig HA
    go_wp2_with (go_at_call 48;refine HLN.out.mono ?_;rintro e1 w1 ⟨rfl,hb1⟩;have HB1:=Lib.hid (HB.out.trans (hb1.mono HB.out.size));clear hb1)
    go_roundw
    case rel=>exact ⟨k+1,by omega,by go_num,HA1,HB1⟩
    case measure=>simp [intOf];omega
  ·have HXT:=Lib.hid (show gs.take k=gs by rw [List.take_of_length_le (by rw [HN.out];omega)])
   rw [HXT.out] at HA
   have HOK:=Lib.hid (okG_all flen lim HA.out)
   go_wp2
   go_ret2
   refine ⟨A,n,c,by rw [HOK.out.2];rfl,by rw [HOK.out.1];exact HN.out.symm,?_,hc,hcm,HB.out⟩
   rw [HOK.out.1]
   exact (HR.out.below HB.out).more HB.out.size
end Go.Proofs.YtdngaddggcmjgaaGreatDoor.Seg
namespace Go.Proofs.YtdngaddggcmjgaaGreatDoor.Seg
open Go.Shelf Go.RowKit Go.Sort
open Utf hiding infoI32 rd_new own_form rdec_any below_drewN new_any write_any close_any
open Ucd hiding grow same Told
open Norm hiding new_any write_any close_any
set_option maxRecDepth 100000
structure Ct (w wr:World) (ps:List Pt) (n k fr:Nat) (T:List (List Pt)) (vl:Value):Prop where
 row:wr.ownsRow w.heap.size 48 3 vl (T.map sgOf).length (sgs (T.map sgOf))
 bel:Below w.heap.size w wr
 mid:k≤n→fr < k∧gfold opP ([],[]) (ps.take k)=(T,(ps.take k).drop fr)
 fin:n < k→T=grp ps
theorem group_at {ps:List Pt} {fr j:Nat} (h:fr≤j) (hj:j < ps.length):sgOf ((ps.take (j+1)).drop fr)=⟨says ((ps.take (j+1)).drop fr),(ps[fr]'(by omega)).p,ps[j].p+ps[j].w⟩:=by
 have e1:(ps.take (j+1)).drop fr=(ps.take j).drop fr++[ps[j]]:=by
  rw [List.take_succ_eq_append_getElem hj,List.drop_append_of_le_length (by rw [List.length_take];omega)]
 have e2:(ps.take (j+1)).drop fr=ps[fr]'(by omega) :: (ps.take (j+1)).drop (fr+1):=by
  rw [List.drop_eq_getElem_cons (by rw [List.length_take];omega),List.getElem_take]
 unfold sgOf
 congr 1
 ·rw [e2];rfl
 ·rw [e1,fin_snoc]
theorem gfold_more {ps:List Pt} {k fr:Nat} {T:List (List Pt)} (hk:k < ps.length) (hf:fr < k) (h:gfold opP ([],[]) (ps.take k)=(T,(ps.take k).drop fr)) (ho:opP ps[k]=false):gfold opP ([],[]) (ps.take (k+1))=(T,(ps.take (k+1)).drop fr):=by
 rw [List.take_succ_eq_append_getElem hk,gfold_snoc,h,gstep_on opP (.inl ho),List.drop_append_of_le_length (by rw [List.length_take];omega)]
theorem gfold_next {ps:List Pt} {k fr:Nat} {T:List (List Pt)} (hk:k < ps.length) (hf:fr < k) (h:gfold opP ([],[]) (ps.take k)=(T,(ps.take k).drop fr)) (ho:opP ps[k]=true):gfold opP ([],[]) (ps.take (k+1))=(T++[(ps.take k).drop fr],(ps.take (k+1)).drop k):=by
 have hne:(ps.take k).drop fr≠[]:=by
  intro e;have:=congrArg List.length e;rw [List.length_drop,List.length_take] at this;simp at this;omega
 rw [List.take_succ_eq_append_getElem hk,gfold_snoc,h,gstep_new opP ho hne,List.drop_append_of_le_length (by rw [List.length_take];omega)]
 have:(ps.take k).drop k=[]:=List.drop_of_length_le (by rw [List.length_take];omega)
 rw [this];rfl
theorem gfold_last {ps:List Pt} {fr:Nat} {T:List (List Pt)} (hf:fr < ps.length) (h:gfold opP ([],[]) ps=(T,ps.drop fr)):T++[ps.drop fr]=grp ps:=by
 have hne:ps.drop fr≠[]:=by
  intro e;have:=congrArg List.length e;rw [List.length_drop] at this;simp at this;omega
 rw [grp,cuts,h,shut,if_neg (by simpa using hne)]
theorem gfold_len {α:Type} (op:α→Bool):∀(ps:List α) (s:List (List α) × List α),(gfold op s ps).1.length≤s.1.length+ps.length
 | [],s=>Nat.le_refl _
 | q :: t,s=>by
  have h1:=gstep_len op s q
  have h2:=gfold_len op t (gstep op s q)
  rw [gfold_cons,List.length_cons];omega
set_option maxHeartbeats 8000000 in
theorem rcut_any (A:Option Addr) (ps:List Pt) (n c:Nat) (w:World) (hr:Rd w w.heap.size A (pts ps)) (hn:ps.length=n) (hsm:n≤134217728) (hq:∀q∈ps,q.p+q.w≤1099511627776) :
  Calls Tryz.prog 49 #[.slice A n c] w (Segs w ((grp ps).map sgOf)):=by
 obtain ⟨i0,hi,hz0,hz1,hz2⟩:=info_parts infoSg
 obtain ⟨i1,hi',hy0,hy1,hy2⟩:=info_parts Ucd.infoI32
 have HR:=Lib.hid hr;have HN:=Lib.hid hn;have HQ:=Lib.hid hq
 have H0:=Lib.hid (show Ct w w ps n 1 0 [] (.slice none 0 0) from ⟨World.ownsRow_nil _ _ _ _,Below.refl _ _,fun h=>by
  refine ⟨by omega,?_⟩
  cases ps with
  | nil=>simp at hn;omega
  | cons q t=>exact gfold_one opP q,fun h=>by
  have:ps=[]:=List.eq_nil_of_length_eq_zero (by omega)
  rw [this];rfl⟩)
 clear hr hn hq
 go_enter Tryz.func49,Tryz.ntmps49
 go_wp2_with fail
 go_loopw [3,4,5] (fun vl vf vi wr=>∃(j fr:Nat) (T:List (List Pt)),j≤n∧fr≤j∧vi=.int .i64 ((j:Int)+1)∧vf=.int .i64 fr∧Hid (Ct w wr ps n (j+1) fr T vl)) (fun _ _ vi _=>n+1 - (intOf vi).toNat)
 case atStart=>exact ⟨0,0,[],Nat.zero_le _,Nat.le_refl _,by go_num,by go_num,H0⟩
 case round =>
  obtain ⟨j,fr,T,hj,hfj,rfl,rfl,H1⟩:=hrel
  obtain ⟨wo,rfl⟩:∃wo:World,wo=wr:=⟨_,rfl⟩
  clear H0
  by_cases hlt:j < n
  ·have hjl:j < ps.length:=by rw [HN.out];exact hlt
   have hfl:fr < ps.length:=by omega
   obtain ⟨hfk,hgf⟩:=H1.out.mid (by omega)
   obtain ⟨b,o,rfl,hbl⟩:=HR.out.form (by rw [pts_len];omega)
   have hrd:=HR.out.below H1.out.bel
   obtain ⟨_,q2,_⟩:=hrd.pt hfl
   obtain ⟨_,p2,p3⟩:=hrd.pt hjl
   have hgr:=group_at hfj hjl
   have hpq:=HQ.out ps[j] (List.getElem_mem hjl)
   have hin:∀i (h:i < ps.length),wo.cell? ⟨b,o+i*3,none⟩=some (.int .i32 (ps[i]'h).r):=fun i h=>(hrd.pt h).1
   have hTl:(T.map sgOf).length≤134217728:=by
    have h1:=gfold_len opP (ps.take (j+1)) ([],[])
    rw [hgf] at h1
    simp only [List.length_nil,List.length_take,Nat.zero_add] at h1
    rw [List.length_map];omega
   have HTLN:=Lib.hid hTl
   clear hTl
   have HIN:=Lib.hid hin
   have HGF:=Lib.hid hgf
   have HGR:=Lib.hid hgr
   clear hin hgf hgr hrd hbl
   by_cases hk2:j+1 < n
   ·have hkl:j+1 < ps.length:=by rw [HN.out];exact hk2
    have c1:=HIN.out (j+1) hkl
    have hmore:=gfold_more hkl hfk HGF.out
    have hnext:=gfold_next hkl hfk HGF.out
    have hopp:opP ps[j+1]=opn (ps[j+1].r:Int):=rfl
    obtain ⟨x,hx⟩:∃x:Int,x=(ps[j+1].r:Int):=⟨_,rfl⟩
    rw [←hx] at c1 hopp
    have HOP:=Lib.hid (ropens_any x wo)
    have HMORE:=Lib.hid hmore;have HNEXT:=Lib.hid hnext
    cases hop:opP ps[j+1] with
    | false =>
     rw [hopp] at hop
     rw [hop] at HOP
     have HG2:=Lib.hid (HMORE.out (hopp.trans hop))
     have hd:decide ((j:Int)+1 < (n:Int))=true:=decide_eq_true (by omega)
     clear hmore hnext hopp hx hop HMORE HNEXT hkl
     go_wp2_with (go_at_call 70;refine HOP.out.mono ?_;rintro e1 w1 ⟨rfl,hb1⟩;have HB1:=Lib.hid hb1;clear hb1)
     go_roundw
     case rel=>exact ⟨j+1,fr,T,by omega,by omega,by go_num,rfl,Lib.hid ⟨Ucd.own_below H1.out.row HB1.out,H1.out.bel.trans (HB1.out.mono H1.out.bel.size),fun _=>⟨by omega,HG2.out⟩,fun h=>by omega⟩⟩
     case measure=>simp [intOf];omega
    | true =>
     rw [hopp] at hop
     rw [hop] at HOP
     have HG2:=Lib.hid (HNEXT.out (hopp.trans hop))
     have hd:decide ((j:Int)+1 < (n:Int))=true:=decide_eq_true (by omega)
     clear hmore hnext hopp hx hop HMORE HNEXT hkl
     go_wp2_with (go_at_call 70;refine HOP.out.mono ?_;rintro e1 w1 ⟨rfl,hb1⟩;have HB1:=Lib.hid hb1;clear hb1)
     have HOR:=Lib.hid (Ucd.own_below H1.out.row HB1.out)
     have HBL:=Lib.hid (H1.out.bel.trans (HB1.out.mono H1.out.bel.size))
     have HRW:=Lib.hid (HR.out.below HBL.out)
     have HNIL:=Lib.hid (show runs ((ps.take fr).drop fr)=[] by rw [List.drop_of_length_le (by rw [List.length_take];omega)];rfl)
     go_loopw [6,7] (fun vr vk wx=>∃i:Nat,fr≤i∧i≤j+1∧vk=.int .i64 i∧Hid (wx.ownsRow w1.heap.size 21 1 vr (runs ((ps.take i).drop fr)).length (nums (runs ((ps.take i).drop fr))))∧Hid (Below w1.heap.size w1 wx)) (fun _ vk _=>j+1 - (intOf vk).toNat)
     case atStart=>exact ⟨fr,Nat.le_refl _,by omega,rfl,Lib.hid (by rw [HNIL.out];exact World.ownsRow_nil _ _ _ _),Lib.hid (Below.refl _ _)⟩
     case round =>
      obtain ⟨i,hfi,hij,rfl,HO,HB⟩:=hrel
      by_cases hlt2:i < j+1
      ·have hil:i < ps.length:=by omega
       have hd2:decide ((i:Int) < (j:Int)+1)=true:=decide_eq_true (by omega)
       obtain ⟨c1,cx1,cx2⟩:=(HRW.out.below (HB.out.mono HBL.out.size)).pt hil
       clear cx1 cx2
       have HT:=Lib.hid (show runs ((ps.take (i+1)).drop fr)=runs ((ps.take i).drop fr)++[(ps[i].r:Int)] by
        rw [List.take_succ_eq_append_getElem hil,List.drop_append_of_le_length (by rw [List.length_take];omega),runs_append];rfl)
       have hlen:(runs ((ps.take i).drop fr)).length≤134217728:=by rw [runs,List.length_map,List.length_drop,List.length_take];omega
       generalize runs ((ps.take i).drop fr)=L at HO HT hlen
       obtain ⟨ln,hln⟩:∃ln,ln=L.length:=⟨_,rfl⟩
       rw [←hln] at HO hlen
       have HLN:=Lib.hid hln
       obtain ⟨x2,hx2⟩:∃x:Int,x=(ps[i].r:Int):=⟨_,rfl⟩
       rw [←hx2] at c1 HT
       have hbw:=HB.out.size
       clear hil hx2 hln
       go_wp2_with (at_builtin;refine wpList_append_rd _ rfl (.tmp 33) (.tmp 39) _ rfl w1.heap.size 21 i1 _ 1 4 Tryz.underlying49 hi' hy0 hy1 hy2 rfl (by decide) _ ln (nums L) rfl (HO.out.alloc _) _ (some ⟨wr.heap.size,0,none⟩) 1 1 [.int .i32 x2] rfl rfl (rd_new _ _ [.int .i32 x2] _ (by simp)) (nums_one [x2]) (by unfold maxLen;omega) (by omega) (by simp;omega) ?_;intro v6 w6 hown6 hgr6 _)
       have HO6:=Lib.hid (show w6.ownsRow w1.heap.size 21 1 v6 (runs ((ps.take (i+1)).drop fr)).length (nums (runs ((ps.take (i+1)).drop fr))) by
        rw [HT.out,List.length_append,←HLN.out,nums_append];exact hown6)
       have HB6:=Lib.hid ((HB.out.alloc hbw _).grown hgr6 (by simp;omega) (fun g hg=>(HO.out.lt g hg).1))
       clear hown6 hgr6 HO HT
       go_roundw
       case rel=>exact ⟨i+1,by omega,by omega,by go_num,HO6,HB6⟩
       case measure=>simp [intOf];omega
      ·obtain rfl:i=j+1:=by omega
       have hd2:decide (((j+1:Nat):Int) < (j:Int)+1)=false:=decide_eq_false (by omega)
       obtain ⟨G,hG⟩:∃G,G=(ps.take (j+1)).drop fr:=⟨_,rfl⟩
       have hGl:(runs G).length≤134217728:=by rw [hG,runs,List.length_map,List.length_drop,List.length_take];omega
       have HGE:=Lib.hid hG
       rw [←hG] at HO
       obtain ⟨R,hR⟩:∃R,R=runs G:=⟨_,rfl⟩
       have HRE:=Lib.hid hR
       rw [←hR] at HO hGl
       obtain ⟨Ar,cr,rfl,_,_,hrr⟩:=own_form HO.out
       have HRR:=Lib.hid hrr
       have hXl:(normal R).length≤402653184:=by have:=fulls_len R;rw [normal_len];omega
       obtain ⟨rl,hrl⟩:∃rl,rl=R.length:=⟨_,rfl⟩
       have HNM:=Lib.hid (fun (u:World) (h:Rd u u.heap.size Ar (nums R))=>rnormal_any Ar R rl cr u h hrl.symm (by omega))
       have HSY:=Lib.hid (show says G=str (enc (normal R)) by rw [hR];rfl)
       generalize normal R=X at HNM HSY hXl
       rw [←hrl] at hGl ⊢
       have HRL:=Lib.hid hrl
       have HXL:=Lib.hid hXl
       have HENC:=Lib.hid (fun (A2:Option Addr) (c2:Nat) (u:World) (h:Rd u u.heap.size A2 (nums X))=>rencode_any A2 X X.length c2 u h rfl (by omega))
       have HORx:=Lib.hid (Ucd.own_below HOR.out HB.out)
       have HBX:=Lib.hid (HBL.out.trans (HB.out.mono HBL.out.size))
       have hrx:=HR.out.below HBX.out
       have g1:=(hrx.pt hfl).2.1
       have g2:=(hrx.pt hjl).2.1
       have g3:=(hrx.pt hjl).2.2
       obtain ⟨y1,hy1'⟩:∃y:Int,y=(ps[fr].p:Int):=⟨_,rfl⟩
       obtain ⟨y2,hy2'⟩:∃y:Int,y=(ps[j].p:Int):=⟨_,rfl⟩
       obtain ⟨y3,hy3'⟩:∃y:Int,y=(ps[j].w:Int):=⟨_,rfl⟩
       have hyb:0≤y2∧0≤y3∧y2+y3≤1099511627776:=by omega
       obtain ⟨hyb1,hyb2,hyb3⟩:=hyb
       have HGV:=Lib.hid (show sgs [sgOf G]=[.string (says G),.int .i64 y1,.int .i64 (y2+y3)] by
        have h:=HGR.out
        rw [←hG] at h
        rw [h,hy1',hy2',hy3']
        rfl)
       rw [←hy1'] at g1;rw [←hy2'] at g2;rw [←hy3'] at g3
       have hwb:w.heap.size≤wr.heap.size:=HBX.out.size
       have hbb:b < w.heap.size:=by obtain ⟨b',o',e,h,_⟩:=HR.out (by intro e;have:=congrArg List.length e;rw [pts_len] at this;simp at this;omega);injection e with e;injection e with e1 _;omega
       have hjw:IntKind.i64.wrap (j:Int)=(j:Int):=IntWalk.i64_in _ (by omega)
       have hyw:IntKind.i64.wrap (y2+y3)=y2+y3:=IntWalk.i64_in _ (by omega)
       have HY:=Lib.hid hy1'
       clear hG hR hrr hXl hrl hrx hy1' hy2' hy3' HO HRW HNIL HOR
       go_wp2_with fail
       have HSW:=Lib.hid (show ∀u:World,Below wr.heap.size wr u→u.cell? ⟨b,o+fr*3+1,none⟩=some (.int .i64 y1)∧u.cell? ⟨b,o+j*3+1,none⟩=some (.int .i64 y2)∧u.cell? ⟨b,o+j*3+2,none⟩=some (.int .i64 y3) from fun u hu =>
        ⟨(hu.cell (p:=⟨b,o+fr*3+1,none⟩) (show b < _ by omega)).trans g1,(hu.cell (p:=⟨b,o+j*3+1,none⟩) (show b < _ by omega)).trans g2,(hu.cell (p:=⟨b,o+j*3+2,none⟩) (show b < _ by omega)).trans g3⟩)
       have hfn:fr < n:=by omega
       have hTl:=HTLN.out
       refine wp_region_held_drew (S:=fun u=>u.cell? ⟨b,o+fr*3+1,none⟩=some (.int .i64 y1)∧u.cell? ⟨b,o+j*3+1,none⟩=some (.int .i64 y2)∧u.cell? ⟨b,o+j*3+2,none⟩=some (.int .i64 y3)) (by kernel_rfl) ⟨g1,g2,g3⟩ (fun hHeld=>?_)
       refine wpAnyH_take (i:=0) (oi:=_) (v:=?_) rfl (by kernel_rfl) (by kernel_rfl) (by kernel_rfl) (fun _ _ _ h=>h) (Or.inl ⟨by rfl,?_⟩) (by assumption) ?_
       rotate_left
       ·(intro w hSw;(try dsimp only at hSw);(try obtain ⟨s1_,s2_,s3_⟩:=hSw);go_simp <;> with_reducible rfl)
       simp only [List.getElem_toArray,List.getElem_cons_zero,Act.put,List.setIfInBounds_toArray,List.set_cons_zero,List.set_cons_succ]
       refine wpAnyH_take (i:=1) (oi:=_) (v:=?_) rfl (by kernel_rfl) (by kernel_rfl) (by kernel_rfl) (fun _ _ _ h=>h) (Or.inl ⟨by rfl,?_⟩) (by assumption) ?_
       rotate_left
       ·(intro w hSw;(try dsimp only at hSw);(try obtain ⟨s1_,s2_,s3_⟩:=hSw);go_simp <;> with_reducible rfl)
       simp only [List.getElem_toArray,List.getElem_cons_succ,List.getElem_cons_zero,Act.put,List.setIfInBounds_toArray,List.set_cons_zero,List.set_cons_succ]
       refine wpAnyH_take (i:=5) (oi:=_) (v:=?_) rfl (by kernel_rfl) (by kernel_rfl) (by kernel_rfl) (fun _ _ _ h=>h) (Or.inl ⟨by rfl,?_⟩) (by assumption) ?_
       rotate_left
       ·(intro w hSw;(try dsimp only at hSw);(try obtain ⟨s1_,s2_,s3_⟩:=hSw);go_simp <;> with_reducible rfl)
       simp only [List.getElem_toArray,List.getElem_cons_succ,List.getElem_cons_zero,Act.put,List.setIfInBounds_toArray,List.set_cons_zero,List.set_cons_succ]
       refine wpAnyH_take (i:=6) (oi:=_) (v:=?_) rfl (by kernel_rfl) (by kernel_rfl) (by kernel_rfl) (fun _ _ _ h=>h) (Or.inl ⟨by rfl,?_⟩) (by assumption) ?_
       rotate_left
       ·(intro w hSw;(try dsimp only at hSw);(try obtain ⟨s1_,s2_,s3_⟩:=hSw);go_simp <;> with_reducible rfl)
       simp only [List.getElem_toArray,List.getElem_cons_succ,List.getElem_cons_zero,Act.put,List.setIfInBounds_toArray,List.set_cons_zero,List.set_cons_succ]
       refine wpAnyH_take (i:=7) (oi:=_) (v:=?_) rfl (by kernel_rfl) (by kernel_rfl) (by kernel_rfl) (fun _ _ _ h=>h) (Or.inl ⟨by rfl,?_⟩) (by assumption) ?_
       rotate_left
       ·(intro w hSw;(try dsimp only at hSw);(try obtain ⟨s1_,s2_,s3_⟩:=hSw);go_simp <;> with_reducible rfl)
       simp only [List.getElem_toArray,List.getElem_cons_succ,List.getElem_cons_zero,Act.put,List.setIfInBounds_toArray,List.set_cons_zero,List.set_cons_succ]
       refine wpAnyH_take (i:=8) (oi:=_) (v:=?_) rfl (by kernel_rfl) (by kernel_rfl) (by kernel_rfl) (fun _ _ _ h=>h) (Or.inl ⟨by rfl,?_⟩) (by assumption) ?_
       rotate_left
       ·(intro w hSw;(try dsimp only at hSw);(try obtain ⟨s1_,s2_,s3_⟩:=hSw);go_simp <;> with_reducible rfl)
       simp only [List.getElem_toArray,List.getElem_cons_succ,List.getElem_cons_zero,Act.put,List.setIfInBounds_toArray,List.set_cons_zero,List.set_cons_succ]
       refine wpAnyH_take (i:=9) (oi:=_) (v:=?_) rfl (by kernel_rfl) (by kernel_rfl) (by kernel_rfl) (fun _ _ _ h=>h) (Or.inl ⟨by rfl,?_⟩) (by assumption) ?_
       rotate_left
       ·(intro w hSw;(try dsimp only at hSw);(try obtain ⟨s1_,s2_,s3_⟩:=hSw);go_simp <;> with_reducible rfl)
       simp only [List.getElem_toArray,List.getElem_cons_succ,List.getElem_cons_zero,Act.put,List.setIfInBounds_toArray,List.set_cons_zero,List.set_cons_succ]
       refine wpAnyH_take (i:=10) (oi:=_) (v:=?_) rfl (by kernel_rfl) (by kernel_rfl) (by kernel_rfl) (fun _ _ _ h=>h) (Or.inl ⟨by rfl,?_⟩) (by assumption) ?_
       rotate_left
       ·(intro w hSw;(try dsimp only at hSw);(try obtain ⟨s1_,s2_,s3_⟩:=hSw);go_simp <;> with_reducible rfl)
       simp only [List.getElem_toArray,List.getElem_cons_succ,List.getElem_cons_zero,Act.put,List.setIfInBounds_toArray,List.set_cons_zero,List.set_cons_succ]
       refine wpAnyH_take (i:=11) (oi:=_) (v:=?_) rfl (by kernel_rfl) (by kernel_rfl) (by kernel_rfl) (fun _ _ _ h=>h) (Or.inl ⟨by rfl,?_⟩) (by assumption) ?_
       rotate_left
       ·(intro w hSw;(try dsimp only at hSw);(try obtain ⟨s1_,s2_,s3_⟩:=hSw);go_simp <;> with_reducible rfl)
       simp only [List.getElem_toArray,List.getElem_cons_succ,List.getElem_cons_zero,Act.put,List.setIfInBounds_toArray,List.set_cons_zero,List.set_cons_succ]
       refine wpAnyH_take (i:=12) (oi:=_) (v:=?_) rfl (by kernel_rfl) (by kernel_rfl) (by kernel_rfl) (fun _ _ _ h=>h) (Or.inl ⟨by rfl,?_⟩) (by assumption) ?_
       rotate_left
       ·(intro w hSw;(try dsimp only at hSw);(try obtain ⟨s1_,s2_,s3_⟩:=hSw);go_simp <;> with_reducible rfl)
       simp only [List.getElem_toArray,List.getElem_cons_succ,List.getElem_cons_zero,Act.put,List.setIfInBounds_toArray,List.set_cons_zero,List.set_cons_succ]
       refine wpAnyH_take (i:=13) (oi:=_) (v:=?_) rfl (by kernel_rfl) (by kernel_rfl) (by kernel_rfl) (fun _ _ _ h=>h) (Or.inl ⟨by rfl,?_⟩) (by assumption) ?_
       rotate_left
       ·(intro w hSw;(try dsimp only at hSw);(try obtain ⟨s1_,s2_,s3_⟩:=hSw);go_simp <;> with_reducible rfl)
       simp only [List.getElem_toArray,List.getElem_cons_succ,List.getElem_cons_zero,Act.put,List.setIfInBounds_toArray,List.set_cons_zero,List.set_cons_succ]
       refine wpAnyH_take (i:=14) (oi:=_) (v:=?_) rfl (by kernel_rfl) (by kernel_rfl) (by kernel_rfl) (fun _ _ _ h=>h) (Or.inl ⟨by rfl,?_⟩) (by assumption) ?_
       rotate_left
       ·(intro w hSw;(try dsimp only at hSw);(try obtain ⟨s1_,s2_,s3_⟩:=hSw);go_simp <;> with_reducible rfl)
       simp only [List.getElem_toArray,List.getElem_cons_succ,List.getElem_cons_zero,Act.put,List.setIfInBounds_toArray,List.set_cons_zero,List.set_cons_succ]
       refine wpAnyH_take (i:=15) (oi:=_) (v:=?_) rfl (by kernel_rfl) (by kernel_rfl) (by kernel_rfl) (fun _ _ _ h=>h) (Or.inl ⟨by rfl,?_⟩) (by assumption) ?_
       rotate_left
       ·(intro w hSw;(try dsimp only at hSw);(try obtain ⟨s1_,s2_,s3_⟩:=hSw);go_simp <;> with_reducible rfl)
       simp only [List.getElem_toArray,List.getElem_cons_succ,List.getElem_cons_zero,Act.put,List.setIfInBounds_toArray,List.set_cons_zero,List.set_cons_succ]
       refine wpAnyH_take (i:=16) (oi:=_) (v:=?_) rfl (by kernel_rfl) (by kernel_rfl) (by kernel_rfl) (fun _ _ _ h=>h) (Or.inl ⟨by rfl,?_⟩) (by assumption) ?_
       rotate_left
       ·(intro w hSw;(try dsimp only at hSw);(try obtain ⟨s1_,s2_,s3_⟩:=hSw);go_simp <;> with_reducible rfl)
       simp only [List.getElem_toArray,List.getElem_cons_succ,List.getElem_cons_zero,Act.put,List.setIfInBounds_toArray,List.set_cons_zero,List.set_cons_succ]
       refine wpAnyH_take (i:=17) (oi:=_) (v:=?_) rfl (by kernel_rfl) (by kernel_rfl) (by kernel_rfl) (fun _ _ _ h=>h) (Or.inl ⟨by rfl,?_⟩) (by assumption) ?_
       rotate_left
       ·(intro w hSw;(try dsimp only at hSw);(try obtain ⟨s1_,s2_,s3_⟩:=hSw);go_simp <;> with_reducible rfl)
       simp only [List.getElem_toArray,List.getElem_cons_succ,List.getElem_cons_zero,Act.put,List.setIfInBounds_toArray,List.set_cons_zero,List.set_cons_succ]
       refine wpAnyH_take (i:=18) (oi:=_) (v:=?_) rfl (by kernel_rfl) (by kernel_rfl) (by kernel_rfl) (fun _ _ _ h=>h) (Or.inl ⟨by rfl,?_⟩) (by assumption) ?_
       rotate_left
       ·(intro w hSw;(try dsimp only at hSw);(try obtain ⟨s1_,s2_,s3_⟩:=hSw);go_simp <;> with_reducible rfl)
       simp only [List.getElem_toArray,List.getElem_cons_succ,List.getElem_cons_zero,Act.put,List.setIfInBounds_toArray,List.set_cons_zero,List.set_cons_succ]
       refine wpAnyH_take (i:=19) (oi:=_) (v:=?_) rfl (by kernel_rfl) (by kernel_rfl) (by kernel_rfl) (fun _ _ _ h=>h) (Or.inl ⟨by rfl,?_⟩) (by assumption) ?_
       rotate_left
       ·(intro w hSw;(try dsimp only at hSw);(try obtain ⟨s1_,s2_,s3_⟩:=hSw);go_simp <;> with_reducible rfl)
       simp only [List.getElem_toArray,List.getElem_cons_succ,List.getElem_cons_zero,Act.put,List.setIfInBounds_toArray,List.set_cons_zero,List.set_cons_succ]
       refine wpAnyH_take (i:=20) (oi:=_) (v:=?_) rfl (by kernel_rfl) (by kernel_rfl) (by kernel_rfl) (fun _ _ _ h=>h) (Or.inl ⟨by rfl,?_⟩) (by assumption) ?_
       rotate_left
       ·(intro w hSw;(try dsimp only at hSw);(try obtain ⟨s1_,s2_,s3_⟩:=hSw);go_simp <;> with_reducible rfl)
       simp only [List.getElem_toArray,List.getElem_cons_succ,List.getElem_cons_zero,Act.put,List.setIfInBounds_toArray,List.set_cons_zero,List.set_cons_succ]
       refine wpAnyH_take (i:=21) (oi:=_) (v:=?_) rfl (by kernel_rfl) (by kernel_rfl) (by kernel_rfl) (fun _ _ _ h=>h) (Or.inl ⟨by rfl,?_⟩) (by assumption) ?_
       rotate_left
       ·(intro w hSw;(try dsimp only at hSw);(try obtain ⟨s1_,s2_,s3_⟩:=hSw);go_simp <;> with_reducible rfl)
       simp only [List.getElem_toArray,List.getElem_cons_succ,List.getElem_cons_zero,Act.put,List.setIfInBounds_toArray,List.set_cons_zero,List.set_cons_succ]
       refine wpAnyH_take (i:=22) (oi:=_) (v:=?_) rfl (by kernel_rfl) (by kernel_rfl) (by kernel_rfl) (fun _ _ _ h=>h) (Or.inl ⟨by rfl,?_⟩) (by assumption) ?_
       rotate_left
       ·(intro w hSw;(try dsimp only at hSw);(try obtain ⟨s1_,s2_,s3_⟩:=hSw);go_simp <;> with_reducible rfl)
       simp only [List.getElem_toArray,List.getElem_cons_succ,List.getElem_cons_zero,Act.put,List.setIfInBounds_toArray,List.set_cons_zero,List.set_cons_succ]
       refine wpAnyH_ready (rs:=[2]) (by kernel_rfl) (by simp) (AllReadyH.cons rfl (fun K hK=>?_) AllReadyH.nil)
       go_simp
       go_at_call 37
       refine (HNM.out wr.drew HRR.out.drew).mono ?_
       rintro e5 w5 ⟨v5,rfl,ho5,hb5⟩
       obtain ⟨A5,c5,rfl,_,_,hr5⟩:=own_form ho5
       have HR5:=Lib.hid hr5
       have HB5:=Lib.hid (show Below wr.heap.size wr w5 from (Below.refl _ _).drew.trans hb5)
       clear ho5 hr5 hb5
       refine hK.out _ _ (HSW.out w5 HB5.out) (fun hHeld2=>?_)
       clear hK K hHeld
       have hHeld:=hHeld2
       clear hHeld2
       refine wpAnyH_ready (rs:=[3]) (by kernel_rfl) (by simp) (AllReadyH.cons rfl (fun K hK=>?_) AllReadyH.nil)
       go_simp
       go_at_call 35
       refine (HENC.out A5 c5 w5 HR5.out).mono ?_
       rintro e6 w6 ⟨v6,rfl,ho6,hb6⟩
       obtain ⟨A6,c6,rfl,_,_,hr6⟩:=Utf.own_form ho6
       have hcv:=conv_rd (c:=c6) hr6 rfl
       rw [show (⟨(enc X).toArray⟩:ByteArray)=says G from HSY.out.symm] at hcv
       have HB6:=Lib.hid (HB5.out.trans (hb6.mono HB5.out.size))
       have HOL6:=Lib.hid (Ucd.own_below HORx.out HB6.out)
       clear ho6 hr6 hb6
       refine hK.out _ _ (HSW.out w6 HB6.out) (fun hHeld2=>?_)
       clear hK K hHeld
       have hHeld:=hHeld2
       clear hHeld2
       refine wpAnyH_ready (rs:=[4]) (by kernel_rfl) (by simp) (AllReadyH.cons rfl (fun K hK=>?_) AllReadyH.nil)
       go_simp
       refine hK.out _ _ (HSW.out w6 HB6.out) (fun hHeld2=>?_)
       clear hK K hHeld
       have hHeld:=hHeld2
       clear hHeld2
       refine wpAnyH_take (i:=23) (oi:=_) (v:=?_) rfl (by kernel_rfl) (by kernel_rfl) (by kernel_rfl) (fun _ _ _ h=>h) (Or.inl ⟨by rfl,?_⟩) (by assumption) ?_
       rotate_left
       ·(intro w hSw;(try dsimp only at hSw);(try obtain ⟨s1_,s2_,s3_⟩:=hSw);go_simp <;> with_reducible rfl)
       simp only [List.getElem_toArray,List.getElem_cons_succ,List.getElem_cons_zero,Act.put,List.setIfInBounds_toArray,List.set_cons_zero,List.set_cons_succ]
       refine wpAnyH_ready (rs:=[24]) (by kernel_rfl) (by simp) (AllReadyH.cons rfl (fun K hK=>?_) AllReadyH.nil)
       go_simp
       refine hK.out _ _ (HSW.out _ (HB6.out.alloc HB6.out.size _)) (fun hHeld2=>?_)
       clear hK K hHeld
       have hHeld:=hHeld2
       clear hHeld2
       refine wpAnyH_ready (rs:=[25]) (by kernel_rfl) (by simp) (AllReadyH.cons rfl (fun K hK=>?_) AllReadyH.nil)
       have hsz6:=HB6.out.size
       refine step_append_rd (by rfl) (.tmp 41) (.tmp 65) _ (by rfl) w.heap.size 48 i0 _ 3 32 Tryz.underlying30 hi hz0 hz1 hz2 rfl (by decide) u3 (T.map sgOf).length (sgs (T.map sgOf)) (by rfl) (HOL6.out.alloc _) _ (some ⟨w6.heap.size,0,none⟩) 1 1 [.string (says G),.int .i64 y1,.int .i64 (y2+y3)] (by rfl) (by rfl) (rd_new _ _ [.string (says G),.int .i64 y1,.int .i64 (y2+y3)] _ (by simp)) (by simp [Value.oneCell']) (by unfold maxLen;omega) (by omega) (by simp;omega) ?_
       intro v7 w7 hown7 hgr7 hat7
       have HO7:=Lib.hid hown7
       have HG7:=Lib.hid hgr7
       have hcx:=HSW.out _ (HB6.out.alloc HB6.out.size (.cells #[.string (says G),.int .i64 y1,.int .i64 (y2+y3)] 48))
       have hnb:∀g,u3.ownBlock=some g→g≠b:=fun g hg e=>by have:=(HOL6.out.lt g hg).1;omega
       have hfar:∀p:Addr,p.block=b→w7.cell? p=(w6.alloc (.cells #[.string (says G),.int .i64 y1,.int .i64 (y2+y3)] 48)).cell? p:=fun p hp=>World.cell?_of_block (HG7.out.block p.block (by simp;omega) (fun e=>hnb _ e.symm hp))
       have hsw7:w7.cell? ⟨b,o+fr*3+1,none⟩=some (.int .i64 y1)∧w7.cell? ⟨b,o+j*3+1,none⟩=some (.int .i64 y2)∧w7.cell? ⟨b,o+j*3+2,none⟩=some (.int .i64 y3):=⟨(hfar _ rfl).trans hcx.1,(hfar _ rfl).trans hcx.2.1,(hfar _ rfl).trans hcx.2.2⟩
       clear hown7 hgr7 hat7 hcx hnb hfar
       refine hK.out _ _ hsw7 (fun hHeld2=>?_)
       clear hK K hHeld
       have hHeld:=hHeld2
       clear hHeld2
       refine wpAnyH_take (i:=26) (oi:=_) (v:=?_) rfl (by kernel_rfl) (by kernel_rfl) (by kernel_rfl) (fun _ _ _ h=>h) (Or.inl ⟨by rfl,?_⟩) (by assumption) ?_
       rotate_left
       ·(intro w hSw;(try dsimp only at hSw);(try obtain ⟨s1_,s2_,s3_⟩:=hSw);go_simp <;> with_reducible rfl)
       simp only [List.getElem_toArray,List.getElem_cons_succ,List.getElem_cons_zero,Act.put,List.setIfInBounds_toArray,List.set_cons_zero,List.set_cons_succ]
       refine wpAnyH_done (by kernel_rfl) ?_ _
       have HB7:=Lib.hid (((HBX.out.trans (HB6.out.mono HBX.out.size)).alloc (Nat.le_trans hwb HB6.out.size) (.cells #[.string (says G),.int .i64 y1,.int .i64 (y2+y3)] 48)).grown HG7.out (by have:=HB6.out.size;simp;omega) (fun g hg=>(HOL6.out.lt g hg).1))
       have HO8:=Lib.hid (show w7.ownsRow w.heap.size 48 3 v7 ((T++[G]).map sgOf).length (sgs ((T++[G]).map sgOf)) by
        rw [List.map_append,List.map_singleton,List.length_append,sgs_append,HGV.out];exact HO7.out)
       clear g1 g2 g3 hjw hyw hcv hHeld
       go_wp2_with fail
       go_roundw
       case rel=>exact ⟨j+1,j+1,T++[G],by omega,Nat.le_refl _,by go_num,by go_num,Lib.hid ⟨HO8.out,HB7.out,fun _=>⟨by omega,by rw [HGE.out];exact HG2.out⟩,fun h=>by omega⟩⟩
       case measure=>simp [intOf];omega
   ·have hjn:n=j+1:=by omega
    have HBW:=Lib.hid (Below.refl wo.heap.size wo)
    have HG2:=Lib.hid (show T++[(ps.take (j+1)).drop fr]=grp ps by
     have hh:=HGF.out
     have ht:ps.take (j+1)=ps:=List.take_of_length_le (by rw [HN.out];omega)
     rw [ht] at hh ⊢
     exact gfold_last hfl hh)
    have hd:decide ((j:Int)+1 < (n:Int))=false:=decide_eq_false (by omega)
    have hd0:decide ((j:Int)+1≤(n:Int))=true:=decide_eq_true (by omega)
    clear hjn
    go_wp2_with fail
    have HOR:=Lib.hid (Ucd.own_below H1.out.row HBW.out)
    have HBL:=Lib.hid (H1.out.bel.trans (HBW.out.mono H1.out.bel.size))
    have HRW:=Lib.hid (HR.out.below HBL.out)
    have HNIL:=Lib.hid (show runs ((ps.take fr).drop fr)=[] by rw [List.drop_of_length_le (by rw [List.length_take];omega)];rfl)
    go_loopw [6,7] (fun vr vk wx=>∃i:Nat,fr≤i∧i≤j+1∧vk=.int .i64 i∧Hid (wx.ownsRow wo.heap.size 21 1 vr (runs ((ps.take i).drop fr)).length (nums (runs ((ps.take i).drop fr))))∧Hid (Below wo.heap.size wo wx)) (fun _ vk _=>j+1 - (intOf vk).toNat)
    case atStart=>exact ⟨fr,Nat.le_refl _,by omega,rfl,Lib.hid (by rw [HNIL.out];exact World.ownsRow_nil _ _ _ _),Lib.hid (Below.refl _ _)⟩
    case round =>
     obtain ⟨i,hfi,hij,rfl,HO,HB⟩:=hrel
     by_cases hlt2:i < j+1
     ·have hil:i < ps.length:=by omega
      have hd2:decide ((i:Int) < (j:Int)+1)=true:=decide_eq_true (by omega)
      obtain ⟨c1,cx1,cx2⟩:=(HRW.out.below (HB.out.mono HBL.out.size)).pt hil
      clear cx1 cx2
      have HT:=Lib.hid (show runs ((ps.take (i+1)).drop fr)=runs ((ps.take i).drop fr)++[(ps[i].r:Int)] by
       rw [List.take_succ_eq_append_getElem hil,List.drop_append_of_le_length (by rw [List.length_take];omega),runs_append];rfl)
      have hlen:(runs ((ps.take i).drop fr)).length≤134217728:=by rw [runs,List.length_map,List.length_drop,List.length_take];omega
      generalize runs ((ps.take i).drop fr)=L at HO HT hlen
      obtain ⟨ln,hln⟩:∃ln,ln=L.length:=⟨_,rfl⟩
      rw [←hln] at HO hlen
      have HLN:=Lib.hid hln
      obtain ⟨x2,hx2⟩:∃x:Int,x=(ps[i].r:Int):=⟨_,rfl⟩
      rw [←hx2] at c1 HT
      have hbw:=HB.out.size
      clear hil hx2 hln
      go_wp2_with (at_builtin;refine wpList_append_rd _ rfl (.tmp 33) (.tmp 39) _ rfl wo.heap.size 21 i1 _ 1 4 Tryz.underlying49 hi' hy0 hy1 hy2 rfl (by decide) _ ln (nums L) rfl (HO.out.alloc _) _ (some ⟨wr.heap.size,0,none⟩) 1 1 [.int .i32 x2] rfl rfl (rd_new _ _ [.int .i32 x2] _ (by simp)) (nums_one [x2]) (by unfold maxLen;omega) (by omega) (by simp;omega) ?_;intro v6 w6 hown6 hgr6 _)
      have HO6:=Lib.hid (show w6.ownsRow wo.heap.size 21 1 v6 (runs ((ps.take (i+1)).drop fr)).length (nums (runs ((ps.take (i+1)).drop fr))) by
       rw [HT.out,List.length_append,←HLN.out,nums_append];exact hown6)
      have HB6:=Lib.hid ((HB.out.alloc hbw _).grown hgr6 (by simp;omega) (fun g hg=>(HO.out.lt g hg).1))
      clear hown6 hgr6 HO HT
      go_roundw
      case rel=>exact ⟨i+1,by omega,by omega,by go_num,HO6,HB6⟩
      case measure=>simp [intOf];omega
     ·obtain rfl:i=j+1:=by omega
      have hd2:decide (((j+1:Nat):Int) < (j:Int)+1)=false:=decide_eq_false (by omega)
      obtain ⟨G,hG⟩:∃G,G=(ps.take (j+1)).drop fr:=⟨_,rfl⟩
      have hGl:(runs G).length≤134217728:=by rw [hG,runs,List.length_map,List.length_drop,List.length_take];omega
      have HGE:=Lib.hid hG
      rw [←hG] at HO
      obtain ⟨R,hR⟩:∃R,R=runs G:=⟨_,rfl⟩
      have HRE:=Lib.hid hR
      rw [←hR] at HO hGl
      obtain ⟨Ar,cr,rfl,_,_,hrr⟩:=own_form HO.out
      have HRR:=Lib.hid hrr
      have hXl:(normal R).length≤402653184:=by have:=fulls_len R;rw [normal_len];omega
      obtain ⟨rl,hrl⟩:∃rl,rl=R.length:=⟨_,rfl⟩
      have HNM:=Lib.hid (fun (u:World) (h:Rd u u.heap.size Ar (nums R))=>rnormal_any Ar R rl cr u h hrl.symm (by omega))
      have HSY:=Lib.hid (show says G=str (enc (normal R)) by rw [hR];rfl)
      generalize normal R=X at HNM HSY hXl
      rw [←hrl] at hGl ⊢
      have HRL:=Lib.hid hrl
      have HXL:=Lib.hid hXl
      have HENC:=Lib.hid (fun (A2:Option Addr) (c2:Nat) (u:World) (h:Rd u u.heap.size A2 (nums X))=>rencode_any A2 X X.length c2 u h rfl (by omega))
      have HORx:=Lib.hid (Ucd.own_below HOR.out HB.out)
      have HBX:=Lib.hid (HBL.out.trans (HB.out.mono HBL.out.size))
      have hrx:=HR.out.below HBX.out
      have g1:=(hrx.pt hfl).2.1
      have g2:=(hrx.pt hjl).2.1
      have g3:=(hrx.pt hjl).2.2
      obtain ⟨y1,hy1'⟩:∃y:Int,y=(ps[fr].p:Int):=⟨_,rfl⟩
      obtain ⟨y2,hy2'⟩:∃y:Int,y=(ps[j].p:Int):=⟨_,rfl⟩
      obtain ⟨y3,hy3'⟩:∃y:Int,y=(ps[j].w:Int):=⟨_,rfl⟩
      have hyb:0≤y2∧0≤y3∧y2+y3≤1099511627776:=by omega
      obtain ⟨hyb1,hyb2,hyb3⟩:=hyb
      have HGV:=Lib.hid (show sgs [sgOf G]=[.string (says G),.int .i64 y1,.int .i64 (y2+y3)] by
       have h:=HGR.out
       rw [←hG] at h
       rw [h,hy1',hy2',hy3']
       rfl)
      rw [←hy1'] at g1;rw [←hy2'] at g2;rw [←hy3'] at g3
      have hwb:w.heap.size≤wr.heap.size:=HBX.out.size
      have hbb:b < w.heap.size:=by obtain ⟨b',o',e,h,_⟩:=HR.out (by intro e;have:=congrArg List.length e;rw [pts_len] at this;simp at this;omega);injection e with e;injection e with e1 _;omega
      have hjw:IntKind.i64.wrap (j:Int)=(j:Int):=IntWalk.i64_in _ (by omega)
      have hyw:IntKind.i64.wrap (y2+y3)=y2+y3:=IntWalk.i64_in _ (by omega)
      have HY:=Lib.hid hy1'
      clear hG hR hrr hXl hrl hrx hy1' hy2' hy3' HO HRW HNIL HOR
      go_wp2_with fail
      have HSW:=Lib.hid (show ∀u:World,Below wr.heap.size wr u→u.cell? ⟨b,o+fr*3+1,none⟩=some (.int .i64 y1)∧u.cell? ⟨b,o+j*3+1,none⟩=some (.int .i64 y2)∧u.cell? ⟨b,o+j*3+2,none⟩=some (.int .i64 y3) from fun u hu =>
       ⟨(hu.cell (p:=⟨b,o+fr*3+1,none⟩) (show b < _ by omega)).trans g1,(hu.cell (p:=⟨b,o+j*3+1,none⟩) (show b < _ by omega)).trans g2,(hu.cell (p:=⟨b,o+j*3+2,none⟩) (show b < _ by omega)).trans g3⟩)
      have hfn:fr < n:=by omega
      have hTl:=HTLN.out
      refine wp_region_held_drew (S:=fun u=>u.cell? ⟨b,o+fr*3+1,none⟩=some (.int .i64 y1)∧u.cell? ⟨b,o+j*3+1,none⟩=some (.int .i64 y2)∧u.cell? ⟨b,o+j*3+2,none⟩=some (.int .i64 y3)) (by kernel_rfl) ⟨g1,g2,g3⟩ (fun hHeld=>?_)
      refine wpAnyH_take (i:=0) (oi:=_) (v:=?_) rfl (by kernel_rfl) (by kernel_rfl) (by kernel_rfl) (fun _ _ _ h=>h) (Or.inl ⟨by rfl,?_⟩) (by assumption) ?_
      rotate_left
      ·(intro w hSw;(try dsimp only at hSw);(try obtain ⟨s1_,s2_,s3_⟩:=hSw);go_simp <;> with_reducible rfl)
      simp only [List.getElem_toArray,List.getElem_cons_zero,Act.put,List.setIfInBounds_toArray,List.set_cons_zero,List.set_cons_succ]
      refine wpAnyH_take (i:=1) (oi:=_) (v:=?_) rfl (by kernel_rfl) (by kernel_rfl) (by kernel_rfl) (fun _ _ _ h=>h) (Or.inl ⟨by rfl,?_⟩) (by assumption) ?_
      rotate_left
      ·(intro w hSw;(try dsimp only at hSw);(try obtain ⟨s1_,s2_,s3_⟩:=hSw);go_simp <;> with_reducible rfl)
      simp only [List.getElem_toArray,List.getElem_cons_succ,List.getElem_cons_zero,Act.put,List.setIfInBounds_toArray,List.set_cons_zero,List.set_cons_succ]
      refine wpAnyH_take (i:=5) (oi:=_) (v:=?_) rfl (by kernel_rfl) (by kernel_rfl) (by kernel_rfl) (fun _ _ _ h=>h) (Or.inl ⟨by rfl,?_⟩) (by assumption) ?_
      rotate_left
      ·(intro w hSw;(try dsimp only at hSw);(try obtain ⟨s1_,s2_,s3_⟩:=hSw);go_simp <;> with_reducible rfl)
      simp only [List.getElem_toArray,List.getElem_cons_succ,List.getElem_cons_zero,Act.put,List.setIfInBounds_toArray,List.set_cons_zero,List.set_cons_succ]
      refine wpAnyH_take (i:=6) (oi:=_) (v:=?_) rfl (by kernel_rfl) (by kernel_rfl) (by kernel_rfl) (fun _ _ _ h=>h) (Or.inl ⟨by rfl,?_⟩) (by assumption) ?_
      rotate_left
      ·(intro w hSw;(try dsimp only at hSw);(try obtain ⟨s1_,s2_,s3_⟩:=hSw);go_simp <;> with_reducible rfl)
      simp only [List.getElem_toArray,List.getElem_cons_succ,List.getElem_cons_zero,Act.put,List.setIfInBounds_toArray,List.set_cons_zero,List.set_cons_succ]
      refine wpAnyH_take (i:=7) (oi:=_) (v:=?_) rfl (by kernel_rfl) (by kernel_rfl) (by kernel_rfl) (fun _ _ _ h=>h) (Or.inl ⟨by rfl,?_⟩) (by assumption) ?_
      rotate_left
      ·(intro w hSw;(try dsimp only at hSw);(try obtain ⟨s1_,s2_,s3_⟩:=hSw);go_simp <;> with_reducible rfl)
      simp only [List.getElem_toArray,List.getElem_cons_succ,List.getElem_cons_zero,Act.put,List.setIfInBounds_toArray,List.set_cons_zero,List.set_cons_succ]
      refine wpAnyH_take (i:=8) (oi:=_) (v:=?_) rfl (by kernel_rfl) (by kernel_rfl) (by kernel_rfl) (fun _ _ _ h=>h) (Or.inl ⟨by rfl,?_⟩) (by assumption) ?_
      rotate_left
      ·(intro w hSw;(try dsimp only at hSw);(try obtain ⟨s1_,s2_,s3_⟩:=hSw);go_simp <;> with_reducible rfl)
      simp only [List.getElem_toArray,List.getElem_cons_succ,List.getElem_cons_zero,Act.put,List.setIfInBounds_toArray,List.set_cons_zero,List.set_cons_succ]
      refine wpAnyH_take (i:=9) (oi:=_) (v:=?_) rfl (by kernel_rfl) (by kernel_rfl) (by kernel_rfl) (fun _ _ _ h=>h) (Or.inl ⟨by rfl,?_⟩) (by assumption) ?_
      rotate_left
      ·(intro w hSw;(try dsimp only at hSw);(try obtain ⟨s1_,s2_,s3_⟩:=hSw);go_simp <;> with_reducible rfl)
      simp only [List.getElem_toArray,List.getElem_cons_succ,List.getElem_cons_zero,Act.put,List.setIfInBounds_toArray,List.set_cons_zero,List.set_cons_succ]
      refine wpAnyH_take (i:=10) (oi:=_) (v:=?_) rfl (by kernel_rfl) (by kernel_rfl) (by kernel_rfl) (fun _ _ _ h=>h) (Or.inl ⟨by rfl,?_⟩) (by assumption) ?_
      rotate_left
      ·(intro w hSw;(try dsimp only at hSw);(try obtain ⟨s1_,s2_,s3_⟩:=hSw);go_simp <;> with_reducible rfl)
      simp only [List.getElem_toArray,List.getElem_cons_succ,List.getElem_cons_zero,Act.put,List.setIfInBounds_toArray,List.set_cons_zero,List.set_cons_succ]
      refine wpAnyH_take (i:=11) (oi:=_) (v:=?_) rfl (by kernel_rfl) (by kernel_rfl) (by kernel_rfl) (fun _ _ _ h=>h) (Or.inl ⟨by rfl,?_⟩) (by assumption) ?_
      rotate_left
      ·(intro w hSw;(try dsimp only at hSw);(try obtain ⟨s1_,s2_,s3_⟩:=hSw);go_simp <;> with_reducible rfl)
      simp only [List.getElem_toArray,List.getElem_cons_succ,List.getElem_cons_zero,Act.put,List.setIfInBounds_toArray,List.set_cons_zero,List.set_cons_succ]
      refine wpAnyH_take (i:=12) (oi:=_) (v:=?_) rfl (by kernel_rfl) (by kernel_rfl) (by kernel_rfl) (fun _ _ _ h=>h) (Or.inl ⟨by rfl,?_⟩) (by assumption) ?_
      rotate_left
      ·(intro w hSw;(try dsimp only at hSw);(try obtain ⟨s1_,s2_,s3_⟩:=hSw);go_simp <;> with_reducible rfl)
      simp only [List.getElem_toArray,List.getElem_cons_succ,List.getElem_cons_zero,Act.put,List.setIfInBounds_toArray,List.set_cons_zero,List.set_cons_succ]
      refine wpAnyH_take (i:=13) (oi:=_) (v:=?_) rfl (by kernel_rfl) (by kernel_rfl) (by kernel_rfl) (fun _ _ _ h=>h) (Or.inl ⟨by rfl,?_⟩) (by assumption) ?_
      rotate_left
      ·(intro w hSw;(try dsimp only at hSw);(try obtain ⟨s1_,s2_,s3_⟩:=hSw);go_simp <;> with_reducible rfl)
      simp only [List.getElem_toArray,List.getElem_cons_succ,List.getElem_cons_zero,Act.put,List.setIfInBounds_toArray,List.set_cons_zero,List.set_cons_succ]
      refine wpAnyH_take (i:=14) (oi:=_) (v:=?_) rfl (by kernel_rfl) (by kernel_rfl) (by kernel_rfl) (fun _ _ _ h=>h) (Or.inl ⟨by rfl,?_⟩) (by assumption) ?_
      rotate_left
      ·(intro w hSw;(try dsimp only at hSw);(try obtain ⟨s1_,s2_,s3_⟩:=hSw);go_simp <;> with_reducible rfl)
      simp only [List.getElem_toArray,List.getElem_cons_succ,List.getElem_cons_zero,Act.put,List.setIfInBounds_toArray,List.set_cons_zero,List.set_cons_succ]
      refine wpAnyH_take (i:=15) (oi:=_) (v:=?_) rfl (by kernel_rfl) (by kernel_rfl) (by kernel_rfl) (fun _ _ _ h=>h) (Or.inl ⟨by rfl,?_⟩) (by assumption) ?_
      rotate_left
      ·(intro w hSw;(try dsimp only at hSw);(try obtain ⟨s1_,s2_,s3_⟩:=hSw);go_simp <;> with_reducible rfl)
      simp only [List.getElem_toArray,List.getElem_cons_succ,List.getElem_cons_zero,Act.put,List.setIfInBounds_toArray,List.set_cons_zero,List.set_cons_succ]
      refine wpAnyH_take (i:=16) (oi:=_) (v:=?_) rfl (by kernel_rfl) (by kernel_rfl) (by kernel_rfl) (fun _ _ _ h=>h) (Or.inl ⟨by rfl,?_⟩) (by assumption) ?_
      rotate_left
      ·(intro w hSw;(try dsimp only at hSw);(try obtain ⟨s1_,s2_,s3_⟩:=hSw);go_simp <;> with_reducible rfl)
      simp only [List.getElem_toArray,List.getElem_cons_succ,List.getElem_cons_zero,Act.put,List.setIfInBounds_toArray,List.set_cons_zero,List.set_cons_succ]
      refine wpAnyH_take (i:=17) (oi:=_) (v:=?_) rfl (by kernel_rfl) (by kernel_rfl) (by kernel_rfl) (fun _ _ _ h=>h) (Or.inl ⟨by rfl,?_⟩) (by assumption) ?_
      rotate_left
      ·(intro w hSw;(try dsimp only at hSw);(try obtain ⟨s1_,s2_,s3_⟩:=hSw);go_simp <;> with_reducible rfl)
      simp only [List.getElem_toArray,List.getElem_cons_succ,List.getElem_cons_zero,Act.put,List.setIfInBounds_toArray,List.set_cons_zero,List.set_cons_succ]
      refine wpAnyH_take (i:=18) (oi:=_) (v:=?_) rfl (by kernel_rfl) (by kernel_rfl) (by kernel_rfl) (fun _ _ _ h=>h) (Or.inl ⟨by rfl,?_⟩) (by assumption) ?_
      rotate_left
      ·(intro w hSw;(try dsimp only at hSw);(try obtain ⟨s1_,s2_,s3_⟩:=hSw);go_simp <;> with_reducible rfl)
      simp only [List.getElem_toArray,List.getElem_cons_succ,List.getElem_cons_zero,Act.put,List.setIfInBounds_toArray,List.set_cons_zero,List.set_cons_succ]
      refine wpAnyH_take (i:=19) (oi:=_) (v:=?_) rfl (by kernel_rfl) (by kernel_rfl) (by kernel_rfl) (fun _ _ _ h=>h) (Or.inl ⟨by rfl,?_⟩) (by assumption) ?_
      rotate_left
      ·(intro w hSw;(try dsimp only at hSw);(try obtain ⟨s1_,s2_,s3_⟩:=hSw);go_simp <;> with_reducible rfl)
      simp only [List.getElem_toArray,List.getElem_cons_succ,List.getElem_cons_zero,Act.put,List.setIfInBounds_toArray,List.set_cons_zero,List.set_cons_succ]
      refine wpAnyH_take (i:=20) (oi:=_) (v:=?_) rfl (by kernel_rfl) (by kernel_rfl) (by kernel_rfl) (fun _ _ _ h=>h) (Or.inl ⟨by rfl,?_⟩) (by assumption) ?_
      rotate_left
      ·(intro w hSw;(try dsimp only at hSw);(try obtain ⟨s1_,s2_,s3_⟩:=hSw);go_simp <;> with_reducible rfl)
      simp only [List.getElem_toArray,List.getElem_cons_succ,List.getElem_cons_zero,Act.put,List.setIfInBounds_toArray,List.set_cons_zero,List.set_cons_succ]
      refine wpAnyH_take (i:=21) (oi:=_) (v:=?_) rfl (by kernel_rfl) (by kernel_rfl) (by kernel_rfl) (fun _ _ _ h=>h) (Or.inl ⟨by rfl,?_⟩) (by assumption) ?_
      rotate_left
      ·(intro w hSw;(try dsimp only at hSw);(try obtain ⟨s1_,s2_,s3_⟩:=hSw);go_simp <;> with_reducible rfl)
      simp only [List.getElem_toArray,List.getElem_cons_succ,List.getElem_cons_zero,Act.put,List.setIfInBounds_toArray,List.set_cons_zero,List.set_cons_succ]
      refine wpAnyH_take (i:=22) (oi:=_) (v:=?_) rfl (by kernel_rfl) (by kernel_rfl) (by kernel_rfl) (fun _ _ _ h=>h) (Or.inl ⟨by rfl,?_⟩) (by assumption) ?_
      rotate_left
      ·(intro w hSw;(try dsimp only at hSw);(try obtain ⟨s1_,s2_,s3_⟩:=hSw);go_simp <;> with_reducible rfl)
      simp only [List.getElem_toArray,List.getElem_cons_succ,List.getElem_cons_zero,Act.put,List.setIfInBounds_toArray,List.set_cons_zero,List.set_cons_succ]
      refine wpAnyH_ready (rs:=[2]) (by kernel_rfl) (by simp) (AllReadyH.cons rfl (fun K hK=>?_) AllReadyH.nil)
      go_simp
      go_at_call 37
      refine (HNM.out wr.drew HRR.out.drew).mono ?_
      rintro e5 w5 ⟨v5,rfl,ho5,hb5⟩
      obtain ⟨A5,c5,rfl,_,_,hr5⟩:=own_form ho5
      have HR5:=Lib.hid hr5
      have HB5:=Lib.hid (show Below wr.heap.size wr w5 from (Below.refl _ _).drew.trans hb5)
      clear ho5 hr5 hb5
      refine hK.out _ _ (HSW.out w5 HB5.out) (fun hHeld2=>?_)
      clear hK K hHeld
      have hHeld:=hHeld2
      clear hHeld2
      refine wpAnyH_ready (rs:=[3]) (by kernel_rfl) (by simp) (AllReadyH.cons rfl (fun K hK=>?_) AllReadyH.nil)
      go_simp
      go_at_call 35
      refine (HENC.out A5 c5 w5 HR5.out).mono ?_
      rintro e6 w6 ⟨v6,rfl,ho6,hb6⟩
      obtain ⟨A6,c6,rfl,_,_,hr6⟩:=Utf.own_form ho6
      have hcv:=conv_rd (c:=c6) hr6 rfl
      rw [show (⟨(enc X).toArray⟩:ByteArray)=says G from HSY.out.symm] at hcv
      have HB6:=Lib.hid (HB5.out.trans (hb6.mono HB5.out.size))
      have HOL6:=Lib.hid (Ucd.own_below HORx.out HB6.out)
      clear ho6 hr6 hb6
      refine hK.out _ _ (HSW.out w6 HB6.out) (fun hHeld2=>?_)
      clear hK K hHeld
      have hHeld:=hHeld2
      clear hHeld2
      refine wpAnyH_ready (rs:=[4]) (by kernel_rfl) (by simp) (AllReadyH.cons rfl (fun K hK=>?_) AllReadyH.nil)
      go_simp
      refine hK.out _ _ (HSW.out w6 HB6.out) (fun hHeld2=>?_)
      clear hK K hHeld
      have hHeld:=hHeld2
      clear hHeld2
      refine wpAnyH_take (i:=23) (oi:=_) (v:=?_) rfl (by kernel_rfl) (by kernel_rfl) (by kernel_rfl) (fun _ _ _ h=>h) (Or.inl ⟨by rfl,?_⟩) (by assumption) ?_
      rotate_left
      ·(intro w hSw;(try dsimp only at hSw);(try obtain ⟨s1_,s2_,s3_⟩:=hSw);go_simp <;> with_reducible rfl)
      simp only [List.getElem_toArray,List.getElem_cons_succ,List.getElem_cons_zero,Act.put,List.setIfInBounds_toArray,List.set_cons_zero,List.set_cons_succ]
      refine wpAnyH_ready (rs:=[24]) (by kernel_rfl) (by simp) (AllReadyH.cons rfl (fun K hK=>?_) AllReadyH.nil)
      go_simp
      refine hK.out _ _ (HSW.out _ (HB6.out.alloc HB6.out.size _)) (fun hHeld2=>?_)
      clear hK K hHeld
      have hHeld:=hHeld2
      clear hHeld2
      refine wpAnyH_ready (rs:=[25]) (by kernel_rfl) (by simp) (AllReadyH.cons rfl (fun K hK=>?_) AllReadyH.nil)
      have hsz6:=HB6.out.size
      refine step_append_rd (by rfl) (.tmp 41) (.tmp 65) _ (by rfl) w.heap.size 48 i0 _ 3 32 Tryz.underlying30 hi hz0 hz1 hz2 rfl (by decide) u3 (T.map sgOf).length (sgs (T.map sgOf)) (by rfl) (HOL6.out.alloc _) _ (some ⟨w6.heap.size,0,none⟩) 1 1 [.string (says G),.int .i64 y1,.int .i64 (y2+y3)] (by rfl) (by rfl) (rd_new _ _ [.string (says G),.int .i64 y1,.int .i64 (y2+y3)] _ (by simp)) (by simp [Value.oneCell']) (by unfold maxLen;omega) (by omega) (by simp;omega) ?_
      intro v7 w7 hown7 hgr7 hat7
      have HO7:=Lib.hid hown7
      have HG7:=Lib.hid hgr7
      have hcx:=HSW.out _ (HB6.out.alloc HB6.out.size (.cells #[.string (says G),.int .i64 y1,.int .i64 (y2+y3)] 48))
      have hnb:∀g,u3.ownBlock=some g→g≠b:=fun g hg e=>by have:=(HOL6.out.lt g hg).1;omega
      have hfar:∀p:Addr,p.block=b→w7.cell? p=(w6.alloc (.cells #[.string (says G),.int .i64 y1,.int .i64 (y2+y3)] 48)).cell? p:=fun p hp=>World.cell?_of_block (HG7.out.block p.block (by simp;omega) (fun e=>hnb _ e.symm hp))
      have hsw7:w7.cell? ⟨b,o+fr*3+1,none⟩=some (.int .i64 y1)∧w7.cell? ⟨b,o+j*3+1,none⟩=some (.int .i64 y2)∧w7.cell? ⟨b,o+j*3+2,none⟩=some (.int .i64 y3):=⟨(hfar _ rfl).trans hcx.1,(hfar _ rfl).trans hcx.2.1,(hfar _ rfl).trans hcx.2.2⟩
      clear hown7 hgr7 hat7 hcx hnb hfar
      refine hK.out _ _ hsw7 (fun hHeld2=>?_)
      clear hK K hHeld
      have hHeld:=hHeld2
      clear hHeld2
      refine wpAnyH_take (i:=26) (oi:=_) (v:=?_) rfl (by kernel_rfl) (by kernel_rfl) (by kernel_rfl) (fun _ _ _ h=>h) (Or.inl ⟨by rfl,?_⟩) (by assumption) ?_
      rotate_left
      ·(intro w hSw;(try dsimp only at hSw);(try obtain ⟨s1_,s2_,s3_⟩:=hSw);go_simp <;> with_reducible rfl)
      simp only [List.getElem_toArray,List.getElem_cons_succ,List.getElem_cons_zero,Act.put,List.setIfInBounds_toArray,List.set_cons_zero,List.set_cons_succ]
      refine wpAnyH_done (by kernel_rfl) ?_ _
      have HB7:=Lib.hid (((HBX.out.trans (HB6.out.mono HBX.out.size)).alloc (Nat.le_trans hwb HB6.out.size) (.cells #[.string (says G),.int .i64 y1,.int .i64 (y2+y3)] 48)).grown HG7.out (by have:=HB6.out.size;simp;omega) (fun g hg=>(HOL6.out.lt g hg).1))
      have HO8:=Lib.hid (show w7.ownsRow w.heap.size 48 3 v7 ((T++[G]).map sgOf).length (sgs ((T++[G]).map sgOf)) by
       rw [List.map_append,List.map_singleton,List.length_append,sgs_append,HGV.out];exact HO7.out)
      clear g1 g2 g3 hjw hyw hcv hHeld
      go_wp2_with fail
      go_roundw
      case rel=>exact ⟨j+1,j+1,T++[G],by omega,Nat.le_refl _,by go_num,by go_num,Lib.hid ⟨HO8.out,HB7.out,fun h=>by omega,fun _=>by rw [HGE.out];exact HG2.out⟩⟩
      case measure=>simp [intOf];omega
  ·have HT:=Lib.hid (H1.out.fin (by omega))
   go_wp2_with fail
   go_ret
   rw [←HT.out]
   exact ⟨_,rfl,H1.out.row,H1.out.bel⟩
theorem dec_ends (o:Bool) (l:List UInt8):∀q∈dec o 0 l,q.p+q.w≤l.length:=by
 have key:∀(ps:List Pt) (k:Nat),Tile k ps→∀q∈ps,q.p+q.w≤k+ww ps:=fun ps=>by
  induction ps with
  | nil=>intro k _ q hq;simp at hq
  | cons x t ih =>
   intro k ht q hq
   rw [ww_cons]
   rcases List.mem_cons.1 hq with rfl | hq
   ·have:=ht.1;omega
   ·have:=ih _ ht.2.2 q hq;omega
 intro q hq
 have h:=key _ 0 (dec_tile o l 0) q hq
 have hw:ww (dec o 0 l)≤l.length:=by
  cases o with
  | true=>rw [ww_eat];exact eat_le l
  | false=>rw [ww_all];exact Nat.le_refl _
 omega
set_option maxHeartbeats 2000000 in
theorem all_any (A:Option Addr) (l:List UInt8) (n c:Nat) (w:World) (hr:Rd w w.heap.size A (bys l)) (hn:l.length=n) (hsm:n≤134217728) :
  Calls Tryz.prog 28 #[.slice A n c] w (Segs w ((grp (dec false 0 l)).map sgOf)):=by
 have HD:=Lib.hid (Utf.rdec_any A l n c false w hr hn (by omega))
 have hdl:=dec_len_le false l 0
 rw [hn] at hdl
 have hde:=dec_ends false l
 rw [hn] at hde
 have HDE:=Lib.hid hde
 generalize dec false 0 l=ps at HD hdl HDE ⊢
 obtain ⟨m,hm⟩:∃m,m=ps.length:=⟨_,rfl⟩
 rw [←hm] at hdl
 have HM:=Lib.hid hm
 clear hr hn hde hm
 go_enter Tryz.func28,Tryz.ntmps28
 go_wp2_with fail
 refine HD.out.mono ?_
 rintro e1 w1 ⟨v,rfl,ho,hb1⟩
 obtain ⟨A1,c1,rfl,_,_,hr1⟩:=Utf.own_form ho
 rw [←HM.out] at ho ⊢
 have HR1:=Lib.hid hr1
 have HB1:=Lib.hid hb1
 clear ho hr1 hb1 HD
 go_wp2_with fail
 refine (rcut_any A1 ps m c1 w1 HR1.out HM.out.symm (by omega) (fun q hq=>by have:=HDE.out q hq;omega)).mono ?_
 rintro e2 w2 ⟨v2,rfl,ho2,hb2⟩
 have HO2:=Lib.hid ho2
 have HB2:=Lib.hid (HB1.out.trans (hb2.mono HB1.out.size))
 clear ho2 hb2
 go_wp2_with fail
 go_ret
 exact ⟨v2,rfl,Norm.own_mono HO2.out HB1.out.size,HB2.out⟩
end Go.Proofs.YtdngaddggcmjgaaGreatDoor.Seg
namespace Go.Proofs.YtdngaddggcmjgaaGreatDoor.Seg
open Go.Shelf Go.RowKit Go.Sort
open Utf hiding infoI32 rd_new own_form rdec_any below_drewN new_any write_any close_any
open Ucd hiding grow same Told
open Norm hiding new_any write_any close_any
set_option maxRecDepth 100000
theorem grp_size (o:Bool) (l:List UInt8) {g:List Pt} (hg:g∈grp (dec o 0 l)):g.length≤l.length:=by
 have h1:=(List.sublist_flatten_of_mem hg).length_le
 rw [grp,cuts_flat] at h1
 exact Nat.le_trans h1 (dec_len_le o l 0)
def RSplit (w:World) (lim:Int) (l:List UInt8) (e:Ending) (w':World):Prop :=
 ∃A n c,e=.returned (.tuple #[.slice A n c,.int .i64 (spE lim l)])∧n=(spS lim l).length∧Rd w' w'.heap.size A (sgs (spS lim l))∧Below w.heap.size w w'
set_option maxHeartbeats 4000000 in
theorem rsplit_any (lim:Int) (l:List UInt8) (A:Option Addr) (m c:Nat) (w:World)
  (hr:Rd w w.heap.size A (bys l)) (hm:l.length=m) (hsm:m≤134217728) :
  Calls Tryz.prog 14 #[.slice A m c,.int .i64 lim] w (RSplit w lim l):=by
 by_cases hlim:1≤lim∧lim≤64
 ·have HA:=Lib.hid (all_any A l m c w hr hm hsm)
  have HGS:=Lib.hid (fun g (hg:g∈grp (dec false 0 l))=>show g.length≤1073741824 by have:=grp_size false l hg;omega)
  have hgl:=grp_len false l
  obtain ⟨lm,rfl⟩:∃lm:Nat,lim=lm:=⟨lim.toNat,by omega⟩
  have HE:=Lib.hid (show spE lm l=if badS lm l then 6 else 0 by unfold spE;rw [if_pos hlim];rfl)
  have HS:=Lib.hid (show spS lm l=(okS lm l).map sgOf by unfold spS;rw [if_pos hlim];rfl)
  have d1:decide ((lm:Int) < 1)=false:=decide_eq_false (by omega)
  have d2:decide (64 < (lm:Int))=false:=decide_eq_false (by omega)
  have n1:¬(lm:Int) < 1:=by omega
  have n2:¬64 < (lm:Int):=by omega
  have HOKE:=Lib.hid (show okS lm l=okG flen lm (grp (dec false 0 l)) from rfl)
  have HBDE:=Lib.hid (show badS lm l=badG flen lm (grp (dec false 0 l)) from rfl)
  generalize grp (dec false 0 l)=gs at HA HGS hgl HOKE HBDE
  obtain ⟨gl,hgl2⟩:∃gl,gl=gs.length:=⟨_,rfl⟩
  have HGL:=Lib.hid hgl2
  clear hr hm hlim hgl hgl2
  go_enter Tryz.func14,Tryz.ntmps14
  go_wp2_with fail
  refine HA.out.mono ?_
  rintro e1 w1 ⟨v,rfl,ho,hb1⟩
  rw [List.length_map,←HGL.out] at ho
  obtain ⟨A1,c1,rfl,hc1,hcm1,hr1⟩:=own_form ho
  have HR1:=Lib.hid hr1
  have HB1:=Lib.hid hb1
  have HG:=Lib.hid (good_any A1 gs lm gl c1 w1 HR1.out HGL.out.symm hc1 hcm1 HGS.out)
  clear ho hr1 hb1 hc1 HA
  go_wp2_with fail
  refine HG.out.mono ?_
  rintro e2 w2 ⟨A2,n2',c2,rfl,hn2,hr2,_,_,hb2⟩
  rw [←HOKE.out] at hn2 hr2
  have HN2:=Lib.hid hn2
  have HR2:=Lib.hid hr2
  have HB2:=Lib.hid (HB1.out.trans (hb2.mono HB1.out.size))
  clear hn2 hr2 hb2 HG
  cases hbb:badG flen lm gs
  all_goals
   have HBB:=Lib.hid hbb
   clear hbb
   go_wp2_with fail
   go_ret2
   exact ⟨A2,n2',c2,by rw [HE.out,HBDE.out,HBB.out];rfl,by rw [HS.out,List.length_map];exact HN2.out,by rw [HS.out];exact HR2.out,HB2.out⟩
 ·have HE:=Lib.hid (show spE lim l=1 by unfold spE;rw [if_neg hlim])
  have HS:=Lib.hid (show spS lim l=[] by unfold spS;rw [if_neg hlim])
  by_cases h1:lim < 1
  ·have d1:decide (lim < 1)=true:=decide_eq_true h1
   clear hr hm hlim
   go_enter Tryz.func14,Tryz.ntmps14
   go_wp2_with fail
   go_ret2
   exact ⟨none,0,0,by rw [HE.out];rfl,by rw [HS.out];rfl,by rw [HS.out];exact Rd.empty _ _ _,Below.refl _ _⟩
  ·have h2:64 < lim:=by omega
   have d1:decide (lim < 1)=false:=decide_eq_false h1
   have d2:decide (64 < lim)=true:=decide_eq_true h2
   clear hr hm hlim
   go_enter Tryz.func14,Tryz.ntmps14
   go_wp2_with fail
   go_ret2
   exact ⟨none,0,0,by rw [HE.out];rfl,by rw [HS.out];rfl,by rw [HS.out];exact Rd.empty _ _ _,Below.refl _ _⟩
end Go.Proofs.YtdngaddggcmjgaaGreatDoor.Seg
namespace Go.Proofs.YtdngaddggcmjgaaGreatDoor.Words
open Go.Shelf Go.RowKit Go.Sort
open Utf hiding infoI32 rd_new own_form own_below rdec_any below_drewN new_any write_any close_any
open Norm Seg
open Ucd hiding grow same Told
def rowS (x:Sx):List Value:=[.string x.t,.int .i64 x.a,.int .i64 x.e]
def sxs (l:List Sx):List Value:=l.flatMap rowS
def rowW (x:Wd):List Value:=[.string ⟨x.k.toArray⟩,.int .i64 x.f,.int .i64 x.g,.int .i64 x.a,.int .i64 x.e]
def wds (l:List Wd):List Value:=l.flatMap rowW
def ns (l:List Int):List Value:=l.map (.int .i64)
theorem sxs_up:∀l:List Sg,sxs (l.map up)=sgs l
 | []=>rfl
 | x :: t=>by
  have:=sxs_up t
  show rowS (up x)++sxs (t.map up)=_
  rw [this];rfl
theorem sxs_len (l:List Sx):(sxs l).length=l.length*3:=by
 induction l with
 | nil=>rfl
 | cons x t ih=>show (rowS x++sxs t).length=_;rw [List.length_append,ih,List.length_cons];show 3+_=_;omega
theorem wds_len (l:List Wd):(wds l).length=l.length*5:=by
 induction l with
 | nil=>rfl
 | cons x t ih=>show (rowW x++wds t).length=_;rw [List.length_append,ih,List.length_cons];show 5+_=_;omega
theorem wds_append (l m:List Wd):wds (l++m)=wds l++wds m:=List.flatMap_append
theorem ns_len (l:List Int):(ns l).length=l.length:=List.length_map _
theorem ns_append (l m:List Int):ns (l++m)=ns l++ns m:=List.map_append
theorem ns_one (l:List Int):∀u∈ns l,u.oneCell'=true:=by intro u hu;simp only [ns,List.mem_map] at hu;obtain ⟨n,_,rfl⟩:=hu;rfl
theorem sxs_get:∀(l:List Sx) {k:Nat} (h:k < l.length) (i:Nat),i < 3→(sxs l)[k*3+i]? = (rowS l[k])[i]?
 | x :: t,0,_,i,hi=>by
  show (rowS x++sxs t)[0*3+i]? = _
  rw [List.getElem?_append_left (by show _ < 3;omega)];simp
 | x :: t,k+1,h,i,hi=>by
  show (rowS x++sxs t)[(k+1)*3+i]? = _
  rw [List.getElem?_append_right (by show 3≤_;omega)]
  show (sxs t)[(k+1)*3+i - 3]? = _
  rw [show (k+1)*3+i - 3=k*3+i by omega,sxs_get t (by simpa using h) i hi];rfl
theorem wds_get:∀(l:List Wd) {k:Nat} (h:k < l.length) (i:Nat),i < 5→(wds l)[k*5+i]? = (rowW l[k])[i]?
 | x :: t,0,_,i,hi=>by
  show (rowW x++wds t)[0*5+i]? = _
  rw [List.getElem?_append_left (by show _ < 5;omega)];simp
 | x :: t,k+1,h,i,hi=>by
  show (rowW x++wds t)[(k+1)*5+i]? = _
  rw [List.getElem?_append_right (by show 5≤_;omega)]
  show (wds t)[(k+1)*5+i - 5]? = _
  rw [show (k+1)*5+i - 5=k*5+i by omega,wds_get t (by simpa using h) i hi];rfl
theorem wds_set:∀(D:List Wd) (i:Nat) (y:Wd),i < D.length→wds (D.set i y)=(wds D).take (i*5)++rowW y++(wds D).drop (i*5+(rowW y).length)
 | d :: D,0,y,_=>by
  show rowW y++wds D=([]:List Value)++rowW y++(rowW d++wds D).drop (0*5+(rowW d).length)
  simp
 | d :: D,i+1,y,h=>by
  have ih:=wds_set D i y (by simpa using h)
  show rowW d++wds (D.set i y)=((rowW d++wds D).take ((i+1)*5))++rowW y++(rowW d++wds D).drop ((i+1)*5+(rowW y).length)
  have e1:(i+1)*5=(rowW d).length+i*5:=by show _=5+_;omega
  rw [e1,Nat.add_assoc,List.take_append,List.drop_append,ih]
  simp
  rw [List.take_of_length_le (Nat.le_add_right _ _),List.drop_eq_nil_of_le (Nat.le_add_right _ _),List.nil_append]
theorem wds_key:∀(D:List Wd) (i:Nat) (y:Wd) (h:i < D.length),y.f=D[i].f→y.g=D[i].g→y.a=D[i].a→y.e=D[i].e→(wds D).set (i*5) (.string ⟨y.k.toArray⟩)=wds (D.set i y)
 | d :: D,0,y,_,h1,h2,h3,h4=>by
  simp only [List.getElem_cons_zero] at h1 h2 h3 h4
  show (rowW d++wds D).set (0*5) _=rowW y++wds D
  simp [rowW,h1,h2,h3,h4]
 | d :: D,i+1,y,h,h1,h2,h3,h4=>by
  have ih:=wds_key D i y (by simpa using h) h1 h2 h3 h4
  show (rowW d++wds D).set ((i+1)*5) _=rowW d++wds (D.set i y)
  rw [←ih,List.set_append_right _ _ (by show 5≤_;omega)]
  congr 2
  show (i+1)*5 - 5=i*5
  omega
section
variable {w w':World} {B size:Nat} {e:TypeId}
theorem Rd_sx {l:List Sx} {b o:Nat} (h:Rd w B (some ⟨b,o,none⟩) (sxs l)) {k:Nat} (hk:k < l.length) :
  w.cell? ⟨b,o+k*3,none⟩=some (.string l[k].t)∧w.cell? ⟨b,o+k*3+1,none⟩=some (.int .i64 l[k].a)∧w.cell? ⟨b,o+k*3+2,none⟩=some (.int .i64 l[k].e):=by
 obtain ⟨b',o',e,_,hc⟩:=h (fun e=>by have:=sxs_len l;rw [e] at this;simp at this;omega)
 simp only [Option.some.injEq,Addr.mk.injEq,and_true] at e
 obtain ⟨rfl,rfl⟩:=e
 exact ⟨hc (k*3) _ (by have:=sxs_get l hk 0 (by omega);simpa [rowS] using this),by rw [Nat.add_assoc];exact hc _ _ (sxs_get l hk 1 (by omega)),by rw [Nat.add_assoc];exact hc _ _ (sxs_get l hk 2 (by omega))⟩
theorem Rd_ns {l:List Int} {b o:Nat} (h:Rd w B (some ⟨b,o,none⟩) (ns l)) {k:Nat} (hk:k < l.length):w.cell? ⟨b,o+k,none⟩=some (.int .i64 l[k]):=by
 obtain ⟨b',o',e,_,hc⟩:=h (fun e=>by have:=ns_len l;rw [e] at this;simp at this;omega)
 simp only [Option.some.injEq,Addr.mk.injEq,and_true] at e
 obtain ⟨rfl,rfl⟩:=e
 exact hc k _ (by simp [ns,List.getElem?_eq_getElem hk])
theorem own_setCells {g n cap:Nat}:∀(vs:List Value) (o:Nat) (w:World) (xs:List Value),w.ownsRow B e size (.slice (some ⟨g,0,none⟩) n cap) n xs→o+vs.length≤xs.length →
  (w.setCells g o vs).ownsRow B e size (.slice (some ⟨g,0,none⟩) n cap) n (xs.take o++vs++xs.drop (o+vs.length))∧w.grownBy (w.setCells g o vs) (some g)
 | [],o,w,xs,h,_=>by
  refine ⟨?_,World.grownBy.refl _ _⟩
  rw [List.append_nil,List.length_nil,Nat.add_zero,List.take_append_drop]
  exact h
 | v :: vs,o,w,xs,h,hl=>by
  rw [List.length_cons] at hl
  obtain ⟨h1,h2⟩:=h.stored o v
  obtain ⟨k1,k2⟩:=own_setCells vs (o+1) _ _ h1 (by rw [List.length_set];omega)
  refine ⟨?_,h2.trans k2⟩
  have e1:(xs.set o v).take (o+1)=xs.take o++[v]:=by
   rw [List.take_succ_eq_append_getElem (by rw [List.length_set];omega),List.take_set_of_le (Nat.le_refl o),List.getElem_set_self]
  have e2:(xs.set o v).drop (o+1+vs.length)=xs.drop (o+(v :: vs).length):=by
   rw [List.drop_set_of_lt (by omega),List.length_cons];congr 1;omega
  rw [e1,e2,List.append_assoc (xs.take o)] at k1
  exact k1
theorem own_frozen {g n cap:Nat} {xs:List Value} (h:w.ownsRow B e size (.slice (some ⟨g,0,none⟩) n cap) n xs) (j:Nat):w.frozen? ⟨g,j,none⟩=false:=by
 rcases h.2 with ⟨hv,_⟩ | ⟨g',cap',cur,hv,h1,h2,_⟩
 ·cases hv
 ·simp only [Value.slice.injEq,Option.some.injEq,Addr.mk.injEq,and_true,true_and] at hv
  obtain ⟨rfl,rfl⟩:=hv
  simp [World.frozen?,h2]
theorem own_word {B n g c:Nat} {D:List Wd} (h:w.ownsRow B 36 5 (.slice (some ⟨g,0,none⟩) n c) n (wds D)) (i:Nat) (y:Wd) (hi:i < n) (hl:D.length=n) :
  (w.setCells g (i*5) (rowW y)).ownsRow B 36 5 (.slice (some ⟨g,0,none⟩) n c) n (wds (D.set i y))∧w.grownBy (w.setCells g (i*5) (rowW y)) (some g):=by
 obtain ⟨k1,q1⟩:=own_setCells (rowW y) (i*5) w _ h (by rw [h.1];show i*5+5≤_;omega)
 rw [←wds_set D i y (by omega)] at k1
 exact ⟨k1,q1⟩
theorem mix_set {α β:Type} (f h:α→β) {P:List α} {q:Nat} (hq:q < P.length):((P.take q).map f++(P.drop q).map h).set q (f P[q])=(P.take (q+1)).map f++(P.drop (q+1)).map h:=by
 have hl:((P.take q).map f).length=q:=by rw [List.length_map,List.length_take,Nat.min_eq_left (Nat.le_of_lt hq)]
 rw [List.set_append_right _ _ (by omega),hl,Nat.sub_self,List.drop_eq_getElem_cons hq,List.map_cons,List.set_cons_zero,List.take_succ_eq_append_getElem hq,List.map_append,List.append_assoc]
 rfl
theorem mix_get {α β:Type} (f h:α→β) {P:List α} {q:Nat} (hq:q < P.length) (hd:q < ((P.take q).map f++(P.drop q).map h).length):((P.take q).map f++(P.drop q).map h)[q]=h P[q]:=by
 have hl:((P.take q).map f).length=q:=by rw [List.length_map,List.length_take,Nat.min_eq_left (Nat.le_of_lt hq)]
 rw [List.getElem_append_right (by omega)]
 simp only [hl,Nat.sub_self,List.getElem_map,List.getElem_drop,Nat.add_zero]
theorem cat_next {l:List Sx} {s k:Nat} (hs:s≤k) (hk:k < l.length):catF l s (k+1)=catF l s k++txt l[k]:=by
 unfold catF
 rw [List.take_succ_eq_append_getElem hk,List.drop_append_of_le_length (by rw [List.length_take];omega),List.map_append,List.flatten_append]
 simp
theorem cat_none (l:List Sx) (s:Nat):catF l s s=[]:=by
 unfold catF
 rw [List.drop_of_length_le (by rw [List.length_take];omega)]
 rfl
theorem set_last (a:List Wd) (x y:Wd) (N:Nat) (h:N=a.length):(a++[x]).set N y=a++[y]:=by subst h;simp
theorem five {B n g c:Nat} {D:List Wd} (h:w.ownsRow B 36 5 (.slice (some ⟨g,0,none⟩) n c) n (wds D)) {i:Nat} (hi:i < n) (hl:D.length=n) (hD:i < D.length) (j:Nat) (hj:j < 5) :
  w.cell? ⟨g,i*5+j,none⟩=(rowW D[i])[j]?:=by
 have:=wds_get D (k:=i) (by omega) j hj
 rw [←this]
 have hl2:i*5+j < (wds D).length:=by rw [wds_len];omega
 rw [h.cellAt (i*5+j) (by rw [h.1] at hl2;omega),List.getElem?_eq_getElem hl2]
end
theorem infoInt:(Tryz.prog.info? 3).map (fun i=>(i.zero,i.size,i.bytes))=some (some (.int .i64 0),1,8):=by kernel_rfl
theorem infoU8:(Tryz.prog.info? 5).map (fun i=>(i.zero,i.size,i.bytes))=some (some (.int .u8 0),1,1):=by kernel_rfl
theorem infoWd:(Tryz.prog.info? 36).map (fun i=>(i.zero,i.size,i.bytes))=some (some (.agg #[.string ⟨#[]⟩,.int .i64 0,.int .i64 0,.int .i64 0,.int .i64 0]),5,48):=by kernel_rfl
end Go.Proofs.YtdngaddggcmjgaaGreatDoor.Words
