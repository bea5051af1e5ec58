/-
  Texts of stage 7, part 20.
-/
import Derived.Test.YtdngaddggcmjgaaGreatDoorT3
import Derived.Test.YtdngaddggcmjgaaGreatDoorT6
import Derived.Test.YtdngaddggcmjgaaGreatDoorT13
import Derived.Test.YtdngaddggcmjgaaGreatDoorT14
import Derived.Test.YtdngaddggcmjgaaGreatDoorT16
import Derived.Test.YtdngaddggcmjgaaGreatDoorT19
namespace Go.Proofs.YtdngaddggcmjgaaGreatDoor.Norm
open Go.Shelf Go.RowKit Go.Sort
open Utf hiding infoI32 rd_new own_form rdec_any below_drewN new_any write_any close_any
open Ucd hiding grow same Told
def runesF (l:List UInt8):List Int:=(dec false 0 l).map fun q=>(q.r:Int)
def textF (l:List UInt8):List UInt8:=enc (normal (runesF l))
theorem runes_len (l:List UInt8):(runesF l).length≤l.length:=by
 unfold runesF
 rw [List.length_map]
 exact dec_len_le false l 0
set_option maxHeartbeats 4000000 in
set_option maxRecDepth 100000 in
theorem numbers_any (A:Option Addr) (l:List UInt8) (m c:Nat) (w:World) (hr:Rd w w.heap.size A (bys l)) (hm:l.length=m) (hc:m≤c) (hcm:c≤9223372036854775807) (hb:m≤34359738368) :
  Calls Tryz.prog 39 #[.slice A m c] w (Mine w.heap.size w (runesF l)):=by
 obtain ⟨i0,hi,hz0,hz1,hz2⟩:=info_parts infoI32
 have HD:=Lib.hid (decode_any A l m c w hr hm hc hcm (by omega))
 have hl:=dec_len_le false l 0
 rw [hm] at hl
 have HE:=Lib.hid (show runesF l=(dec false 0 l).map fun q=>(q.r:Int) from rfl)
 generalize dec false 0 l=ps at HD HE hl
 obtain ⟨B0,hB0⟩:∃B0,B0=w.heap.size:=⟨_,rfl⟩
 have HB0:=Lib.hid hB0
 rw [HE.out,←hB0]
 clear hr hm hB0
 go_enter Tryz.func39,Tryz.ntmps39
 go_wp2_with fail
 refine HD.out.mono ?_
 rintro e w1 ⟨v,rfl,ho,hb1⟩
 rw [←HB0.out] at ho hb1
 obtain ⟨A1,c1,rfl,_,_,hr1⟩:=own_form ho
 have HR1:=Lib.hid hr1
 have HB1:=Lib.hid hb1
 obtain ⟨n,hn⟩:∃n,n=ps.length:=⟨_,rfl⟩
 rw [←hn] at hl ⊢
 have HN:=Lib.hid hn
 have HW1:=Lib.hid (show B0≤w1.heap.size by have:=hb1.size;have:=HB0.out;omega)
 have HG:=Lib.hid (fun g (h:(Value.slice A1 ps.length c1).ownBlock=some g)=>ho.lt g h)
 clear ho hb1 hr1 hn HD
 go_wp2_with fail
 go_loopw [3,9] (fun vo i wr=>∃k:Nat,k≤n∧i=.int .i64 k∧Hid (wr.ownsRow w1.heap.size 21 1 vo ((ps.take k).map fun q=>(q.r:Int)).length (nums ((ps.take k).map fun q=>(q.r:Int))))∧Hid (Below w1.heap.size w1 wr)) (fun _ i _=>n - (intOf i).toNat)
 case atStart=>exact ⟨0,Nat.zero_le _,rfl,Lib.hid (World.ownsRow_nil _ _ _ _),Lib.hid (Below.refl _ _)⟩
 case round =>
  obtain ⟨k,hk,rfl,HO,HB⟩:=hrel
  by_cases hlt:k < n
  ·have hkl:k < ps.length:=by rw [←HN.out];exact hlt
   obtain ⟨b,o,rfl,hbl⟩:=HR1.out.form (by rw [pts_len];omega)
   obtain ⟨p1,p2,p3⟩:=(HR1.out.below HB.out).pt hkl
   have HT:=Lib.hid (show (ps.take (k+1)).map (fun q=>(q.r:Int))=(ps.take k).map (fun q=>(q.r:Int))++[(ps[k].r:Int)] by rw [List.take_succ_eq_append_getElem hkl,List.map_append];rfl)
   have hlen:((ps.take k).map fun q=>(q.r:Int)).length=k:=by rw [List.length_map,List.length_take];omega
   generalize (ps.take k).map (fun q=>(q.r:Int))=L at HO HT hlen
   have hbw:=HB.out.size
   rw [hlen] at HO
   have HLN:=Lib.hid hlen
   obtain ⟨x,hx⟩:∃x:Int,x=(ps[k].r:Int):=⟨_,rfl⟩
   obtain ⟨y,hy⟩:∃y:Int,y=(ps[k].p:Int):=⟨_,rfl⟩
   obtain ⟨z,hz⟩:∃z:Int,z=(ps[k].w:Int):=⟨_,rfl⟩
   rw [←hx] at p1 HT
   rw [←hy] at p2
   rw [←hz] at p3
   have hbk:k≤34359738368:=by omega
   clear hkl hx hy hz hlen hbl
   go_wp2_with (at_builtin;refine wpList_append_rd _ rfl (.tmp 13) (.tmp 16) _ rfl w1.heap.size 21 i0 _ 1 4 Tryz.underlying49 hi hz0 hz1 hz2 rfl (by decide) u3 k (nums L) rfl ((HO.out.alloc _).alloc _) _ (some ⟨wr.heap.size+1,0,none⟩) 1 1 [.int .i32 x] rfl rfl (rd_new _ _ [.int .i32 x] _ (by simp)) (nums_one [x]) (by unfold maxLen;omega) (by omega) (by simp;omega) ?_;intro v6 w6 hown6 hgr6 _)
   have HO6:=Lib.hid (show w6.ownsRow w1.heap.size 21 1 v6 ((ps.take (k+1)).map fun q=>(q.r:Int)).length (nums ((ps.take (k+1)).map fun q=>(q.r:Int))) by
    rw [HT.out,List.length_append,HLN.out,nums_append];exact hown6)
   have HB6:=Lib.hid (((HB.out.alloc hbw _).alloc (by simp;omega) _).grown hgr6 (by simp;omega) (fun g hg=>(HO.out.lt g hg).1))
   clear hown6 hgr6 HO HT
   go_roundw
   case rel=>exact ⟨k+1,by omega,by go_num,HO6,HB6⟩
   case measure=>simp [intOf];omega
  ·have HXT:=Lib.hid (show ps.take k=ps by rw [List.take_of_length_le (by rw [←HN.out];omega)])
   rw [HXT.out] at HO
   go_wp2
   go_ret
   exact ⟨u3,rfl,own_mono HO.out HW1.out,HB1.out.trans (HB.out.mono HW1.out)⟩
set_option maxHeartbeats 4000000 in
set_option maxRecDepth 100000 in
theorem rrunes_any (A:Option Addr) (l:List UInt8) (m c:Nat) (w:World) (hr:Rd w w.heap.size A (bys l)) (hm:l.length=m) (hb:m≤34359738368) :
  Calls Tryz.prog 33 #[.slice A m c] w (Mine w.heap.size w (runesF l)):=by
 obtain ⟨i0,hi,hz0,hz1,hz2⟩:=info_parts infoI32
 have HD:=Lib.hid (Utf.rdec_any A l m c false w hr hm (by omega))
 have hl:=dec_len_le false l 0
 rw [hm] at hl
 have HE:=Lib.hid (show runesF l=(dec false 0 l).map fun q=>(q.r:Int) from rfl)
 generalize dec false 0 l=ps at HD HE hl
 obtain ⟨B0,hB0⟩:∃B0,B0=w.heap.size:=⟨_,rfl⟩
 have HB0:=Lib.hid hB0
 rw [HE.out,←hB0]
 clear hr hm hB0
 go_enter Tryz.func33,Tryz.ntmps33
 go_wp2_with fail
 refine HD.out.mono ?_
 rintro e w1 ⟨v,rfl,ho,hb1⟩
 rw [←HB0.out] at ho hb1
 obtain ⟨A1,c1,rfl,_,_,hr1⟩:=own_form ho
 have HR1:=Lib.hid hr1
 have HB1:=Lib.hid hb1
 obtain ⟨n,hn⟩:∃n,n=ps.length:=⟨_,rfl⟩
 rw [←hn] at hl ⊢
 have HN:=Lib.hid hn
 have HW1:=Lib.hid (show B0≤w1.heap.size by have:=hb1.size;have:=HB0.out;omega)
 clear ho hb1 hr1 hn HD
 go_wp2_with fail
 go_loopw [3,5] (fun vo i wr=>∃k:Nat,k≤n∧i=.int .i64 k∧Hid (wr.ownsRow w1.heap.size 21 1 vo ((ps.take k).map fun q=>(q.r:Int)).length (nums ((ps.take k).map fun q=>(q.r:Int))))∧Hid (Below w1.heap.size w1 wr)) (fun _ i _=>n - (intOf i).toNat)
 case atStart=>exact ⟨0,Nat.zero_le _,rfl,Lib.hid (World.ownsRow_nil _ _ _ _),Lib.hid (Below.refl _ _)⟩
 case round =>
  obtain ⟨k,hk,rfl,HO,HB⟩:=hrel
  by_cases hlt:k < n
  ·have hkl:k < ps.length:=by rw [←HN.out];exact hlt
   obtain ⟨b,o,rfl,hbl⟩:=HR1.out.form (by rw [pts_len];omega)
   obtain ⟨p1,p2,p3⟩:=(HR1.out.below HB.out).pt hkl
   clear p2 p3
   have HT:=Lib.hid (show (ps.take (k+1)).map (fun q=>(q.r:Int))=(ps.take k).map (fun q=>(q.r:Int))++[(ps[k].r:Int)] by rw [List.take_succ_eq_append_getElem hkl,List.map_append];rfl)
   have hlen:((ps.take k).map fun q=>(q.r:Int)).length=k:=by rw [List.length_map,List.length_take];omega
   generalize (ps.take k).map (fun q=>(q.r:Int))=L at HO HT hlen
   have hbw:=HB.out.size
   rw [hlen] at HO
   have HLN:=Lib.hid hlen
   obtain ⟨x,hx⟩:∃x:Int,x=(ps[k].r:Int):=⟨_,rfl⟩
   rw [←hx] at p1 HT
   have hbk:k≤34359738368:=by omega
   clear hkl hx hlen hbl
   go_wp2_with (at_builtin;refine wpList_append_rd _ rfl (.tmp 14) (.tmp 20) _ rfl w1.heap.size 21 i0 _ 1 4 Tryz.underlying49 hi hz0 hz1 hz2 rfl (by decide) u3 k (nums L) rfl (HO.out.alloc _) _ (some ⟨wr.heap.size,0,none⟩) 1 1 [.int .i32 x] rfl rfl (rd_new _ _ [.int .i32 x] _ (by simp)) (nums_one [x]) (by unfold maxLen;omega) (by omega) (by simp;omega) ?_;intro v6 w6 hown6 hgr6 _)
   have HO6:=Lib.hid (show w6.ownsRow w1.heap.size 21 1 v6 ((ps.take (k+1)).map fun q=>(q.r:Int)).length (nums ((ps.take (k+1)).map fun q=>(q.r:Int))) by
    rw [HT.out,List.length_append,HLN.out,nums_append];exact hown6)
   have HB6:=Lib.hid ((HB.out.alloc hbw _).grown hgr6 (by simp;omega) (fun g hg=>(HO.out.lt g hg).1))
   clear hown6 hgr6 HO HT
   go_roundw
   case rel=>exact ⟨k+1,by omega,by go_num,HO6,HB6⟩
   case measure=>simp [intOf];omega
  ·have HXT:=Lib.hid (show ps.take k=ps by rw [List.take_of_length_le (by rw [←HN.out];omega)])
   rw [HXT.out] at HO
   go_wp2
   go_ret
   exact ⟨u3,rfl,own_mono HO.out HW1.out,HB1.out.trans (HB.out.mono HW1.out)⟩
theorem text_any (A:Option Addr) (l:List UInt8) (m c:Nat) (w:World) (hL:Laid w) (hr:Rd w w.heap.size A (bys l)) (hm:l.length=m) (hc:m≤c) (hcm:c≤9223372036854775807) (hb:m≤34359738368) :
  Calls Tryz.prog 21 #[.slice A m c] w (Ret w (.string ⟨(textF l).toArray⟩)):=by
 have HC:=Lib.hid (numbers_any A l m c w hr hm hc hcm hb)
 have hl:=runes_len l
 rw [hm] at hl
 have HL:=Lib.hid hL
 have HE:=Lib.hid (show textF l=enc (normal (runesF l)) from rfl)
 have hnl:(normal (runesF l)).length≤103079215104:=by have:=nf_len (fulls (runesF l));have:=fulls_len (runesF l);unfold normal;omega
 generalize runesF l=R at HC hl HE hnl
 have HN:=Lib.hid (fun (A:Option Addr) (c:Nat) (u:World) (h:Laid u) (hr:Rd u u.heap.size A (nums R))=>normal_any A R R.length c u h hr rfl (by omega))
 generalize normal R=X at HE HN hnl
 have HX:=Lib.hid hnl
 clear hL hr hm hl hnl
 go_enter Tryz.func21,Tryz.ntmps21
 go_wp2_with fail
 refine HC.out.mono ?_
 rintro e w1 ⟨v,rfl,ho,hb1⟩
 obtain ⟨A1,c1,rfl,_,_,hr1⟩:=own_form ho
 have HR1:=Lib.hid hr1
 have HB1:=Lib.hid hb1
 have HL1:=Lib.hid (HL.out.next hb1)
 clear ho hr1 hb1
 go_wp2_with fail
 refine (HN.out A1 c1 w1 HL1.out HR1.out).mono ?_
 rintro e w2 ⟨v,rfl,ho,hb2⟩
 obtain ⟨A2,c2,rfl,_,_,hr2⟩:=own_form ho
 have HR2:=Lib.hid hr2
 have HB2:=Lib.hid (HB1.out.trans (hb2.mono HB1.out.size))
 clear ho hr2 hb2
 go_wp2_with fail
 refine (encode_any A2 X X.length c2 w2 HR2.out rfl (by have:=HX.out;omega)).mono ?_
 rintro e w3 ⟨v,rfl,ho,hb3⟩
 obtain ⟨A3,c3,rfl,_,_,hr3⟩:=Utf.own_form ho
 have hcv:=conv_rd (c:=c3) hr3 rfl
 rw [←HE.out] at hcv ⊢
 have HB3:=Lib.hid (HB2.out.trans (hb3.mono HB2.out.size))
 clear ho hr3 hb3
 go_wp2_with fail
 go_ret
 exact ⟨rfl,HB3.out⟩
theorem rtext_any (A:Option Addr) (l:List UInt8) (m c:Nat) (w:World) (hr:Rd w w.heap.size A (bys l)) (hm:l.length=m) (hb:m≤34359738368) :
  Calls Tryz.prog 34 #[.slice A m c] w (Ret w (.string ⟨(textF l).toArray⟩)):=by
 have HC:=Lib.hid (rrunes_any A l m c w hr hm hb)
 have hl:=runes_len l
 rw [hm] at hl
 have HE:=Lib.hid (show textF l=enc (normal (runesF l)) from rfl)
 have hnl:(normal (runesF l)).length≤103079215104:=by have:=nf_len (fulls (runesF l));have:=fulls_len (runesF l);unfold normal;omega
 generalize runesF l=R at HC hl HE hnl
 have HN:=Lib.hid (fun (A:Option Addr) (c:Nat) (u:World) (hr:Rd u u.heap.size A (nums R))=>rnormal_any A R R.length c u hr rfl (by omega))
 generalize normal R=X at HE HN hnl
 have HX:=Lib.hid hnl
 clear hr hm hl hnl
 go_enter Tryz.func34,Tryz.ntmps34
 go_wp2_with fail
 refine HC.out.mono ?_
 rintro e w1 ⟨v,rfl,ho,hb1⟩
 obtain ⟨A1,c1,rfl,_,_,hr1⟩:=own_form ho
 have HR1:=Lib.hid hr1
 have HB1:=Lib.hid hb1
 clear ho hr1 hb1
 go_wp2_with fail
 refine (HN.out A1 c1 w1 HR1.out).mono ?_
 rintro e w2 ⟨v,rfl,ho,hb2⟩
 obtain ⟨A2,c2,rfl,_,_,hr2⟩:=own_form ho
 have HR2:=Lib.hid hr2
 have HB2:=Lib.hid (HB1.out.trans (hb2.mono HB1.out.size))
 clear ho hr2 hb2
 go_wp2_with fail
 refine (rencode_any A2 X X.length c2 w2 HR2.out rfl (by have:=HX.out;omega)).mono ?_
 rintro e w3 ⟨v,rfl,ho,hb3⟩
 obtain ⟨A3,c3,rfl,_,_,hr3⟩:=Utf.own_form ho
 have hcv:=conv_rd (c:=c3) hr3 rfl
 rw [←HE.out] at hcv ⊢
 have HB3:=Lib.hid (HB2.out.trans (hb3.mono HB2.out.size))
 clear ho hr3 hb3
 go_wp2_with fail
 go_ret
 exact ⟨rfl,HB3.out⟩
theorem rd_str (w:World) (s:ByteArray) (cap:Nat) (t:TypeId) (fr:Nat × Nat) (u:World) (hu:u=w.drew.alloc (.cells (bytesRow s cap) t fr)):Rd u u.heap.size (some ⟨w.heap.size,0,none⟩) (bys s.data.toList)∧Below w.heap.size w u:=by
 subst hu
 refine ⟨fun _=>⟨w.heap.size,0,rfl,by simp,fun j v hv=>?_⟩,(Below.refl _ _).drew.alloc (Nat.le_refl _) _⟩
 have hj:j < s.data.size:=by
  have:=(List.getElem?_eq_some_iff.1 hv).1
  simpa [bys] using this
 rw [cell_of_row (w.drew.alloc (.cells (bytesRow s cap) t fr)) w.heap.size (0+j) _ t fr (heap_alloc_new w.drew _)]
 rw [←hv,Nat.zero_add,bytesRow,Array.getElem?_append_left (by simpa using hj)]
 simp [bys]
theorem runes_any (s:ByteArray) (w:World) (hb:s.size≤34359738368):Calls Tryz.prog 20 #[.string s] w (Mine w.heap.size w (runesF s.data.toList)):=by
 have hcv:=run_bytes_of_string (P:=Tryz.prog) w 9 22 5 s Tryz.underlying9 Tryz.underlying22 Tryz.underlying5
 have hge:=grownCap_ge w s.size 0 5
 have hle:=grownCap_le_maxLen w s.size 0 5 (by unfold maxLen;omega)
 generalize grownCap w s.size 0 5=cap at hcv hge hle
 unfold maxLen at hle
 obtain ⟨u,hu⟩:∃u,u=w.drew.alloc (.cells (bytesRow s cap) 5 ((bytesRow s cap).size,(bytesRow s cap).size+1)):=⟨_,rfl⟩
 rw [←hu] at hcv
 obtain ⟨hrd,hbl⟩:=rd_str w s cap _ _ u hu
 have HC:=Lib.hid (numbers_any (some ⟨w.heap.size,0,none⟩) s.data.toList s.size cap u hrd (show s.data.toList.length=s.data.size from Array.length_toList) hge (by omega) hb)
 have HB:=Lib.hid hbl
 clear hu hrd hbl hge hle hb
 generalize runesF s.data.toList=R at HC ⊢
 go_enter Tryz.func20,Tryz.ntmps20
 go_wp2_with fail
 refine HC.out.mono ?_
 rintro e w1 ⟨v,rfl,ho,hb1⟩
 have HO:=Lib.hid ho
 have HB1:=Lib.hid hb1
 clear ho hb1
 go_wp2_with fail
 go_ret
 exact ⟨v,rfl,own_mono HO.out HB.out.size,HB.out.trans (HB1.out.mono HB.out.size)⟩
end Go.Proofs.YtdngaddggcmjgaaGreatDoor.Norm
namespace Go.Proofs.YtdngaddggcmjgaaGreatDoor.Norm
open Go.Shelf Go.RowKit Go.Sort
open Utf hiding infoI32 rd_new own_form rdec_any below_drewN new_any write_any close_any
open Ucd hiding grow same Told
theorem rd_lit (u:World) (t:TypeId) (fr:Nat × Nat) (cs:List Value):Rd (u.alloc (.cells cs.toArray t fr)) (u.heap.size+1) (some ⟨u.heap.size,0,none⟩) cs:=fun _ =>
 ⟨u.heap.size,0,rfl,by omega,fun j x hx=>by
  rw [cell_of_row (u.alloc (.cells cs.toArray t fr)) u.heap.size (0+j) _ t fr (heap_alloc_new u _),Nat.zero_add]
  simpa using hx⟩
end Go.Proofs.YtdngaddggcmjgaaGreatDoor.Norm
namespace Go.Proofs.YtdngaddggcmjgaaGreatDoor.Seg
open Utf Norm
open Ucd hiding same
section generic
variable {α β:Type} (op:α→Bool)
def gstep (s:List (List α) × List α) (q:α):List (List α) × List α:=if op q && !s.2.isEmpty then (s.1++[s.2],[q]) else (s.1,s.2++[q])
def gfold (s:List (List α) × List α) (ps:List α):List (List α) × List α:=ps.foldl (gstep op) s
def shut (s:List (List α) × List α):List (List α):=if s.2.isEmpty then s.1 else s.1++[s.2]
def cuts (ps:List α):List (List α):=shut (gfold op ([],[]) ps)
theorem gfold_nil (s:List (List α) × List α):gfold op s []=s:=rfl
theorem gfold_cons (s:List (List α) × List α) (q:α) (t:List α):gfold op s (q :: t)=gfold op (gstep op s q) t:=rfl
theorem gfold_append (s:List (List α) × List α) (a b:List α):gfold op s (a++b)=gfold op (gfold op s a) b:=List.foldl_append
theorem gfold_snoc (s:List (List α) × List α) (a:List α) (q:α):gfold op s (a++[q])=gstep op (gfold op s a) q:=by rw [gfold_append];rfl
theorem gstep_new {T:List (List α)} {O:List α} {q:α} (h:op q=true) (hO:O≠[]):gstep op (T,O) q=(T++[O],[q]):=by
 have:O.isEmpty=false:=by simpa using hO
 simp [gstep,h,this]
theorem gstep_on {T:List (List α)} {O:List α} {q:α} (h:op q=false∨O=[]):gstep op (T,O) q=(T,O++[q]):=by
 rcases h with h | h
 ·simp [gstep,h]
 ·simp [gstep,h]
theorem gstep_ne (s:List (List α) × List α) (q:α):(gstep op s q).2≠[]:=by unfold gstep;split <;> simp
theorem gstep_flat (s:List (List α) × List α) (q:α):(gstep op s q).1.flatten++(gstep op s q).2=s.1.flatten++s.2++[q]:=by unfold gstep;split <;> simp
theorem gfold_ne:∀(ps:List α) (s:List (List α) × List α),s.2≠[]→(gfold op s ps).2≠[]
 | [],_,h=>h
 | q :: t,s,_=>gfold_ne t _ (gstep_ne op s q)
theorem gfold_some {ps:List α} (h:ps≠[]) (s:List (List α) × List α):(gfold op s ps).2≠[]:=by
 cases ps with
 | nil=>exact absurd rfl h
 | cons q t=>exact gfold_ne op t _ (gstep_ne op s q)
theorem gfold_flat:∀(ps:List α) (s:List (List α) × List α),(gfold op s ps).1.flatten++(gfold op s ps).2=s.1.flatten++s.2++ps
 | [],s=>by simp [gfold_nil]
 | q :: t,s=>by rw [gfold_cons,gfold_flat t,gstep_flat];simp
theorem gstep_pre (T:List (List α)) (s:List (List α) × List α) (q:α):gstep op (T++s.1,s.2) q=(T++(gstep op s q).1,(gstep op s q).2):=by unfold gstep;simp only;split <;> simp
theorem shut_pre (T:List (List α)) (s:List (List α) × List α):shut (T++s.1,s.2)=T++shut s:=by unfold shut;simp only;split <;> simp
theorem shut_flat (s:List (List α) × List α):(shut s).flatten=s.1.flatten++s.2:=by
 unfold shut
 split
 ·rename_i h;simp [List.isEmpty_iff.1 h]
 ·simp
theorem cuts_flat (ps:List α):(cuts op ps).flatten=ps:=by rw [cuts,shut_flat,gfold_flat];simp
theorem cuts_nil:cuts op []=[]:=rfl
theorem cuts_some {ps:List α} (h:ps≠[]):cuts op ps=(gfold op ([],[]) ps).1++[(gfold op ([],[]) ps).2]:=by
 have:=gfold_some op h ([],[])
 rw [cuts,shut,if_neg (by simpa using this)]
theorem gfold_closed:∀(t O:List α) (T:List (List α)),(∀x∈t,op x=false)→gfold op (T,O) t=(T,O++t)
 | [],O,T,_=>by simp [gfold_nil]
 | q :: t,O,T,h=>by
  rw [gfold_cons,gstep_on op (.inl (h q (by simp))),gfold_closed t _ _ fun x hx=>h x (by simp [hx])]
  simp
theorem cuts_one (q:α) (t:List α) (h:∀x∈t,op x=false):cuts op (q :: t)=[q :: t]:=by
 rw [cuts,gfold_cons,gstep_on op (.inr rfl),gfold_closed op t _ _ h];rfl
def One (g:List α):Prop:=∃q t,g=q :: t∧∀x∈t,op x=false
def Opn (g:List α):Prop:=∃q t,g=q :: t∧op q=true∧∀x∈t,op x=false
def Good (gs:List (List α)):Prop:=(∀g∈gs,One op g)∧∀g∈gs.tail,Opn op g
theorem Opn.one {g:List α} (h:Opn op g):One op g:=by obtain ⟨q,t,h1,_,h2⟩:=h;exact ⟨q,t,h1,h2⟩
theorem tail_snoc (gs:List (List α)) (g:List α) (h:gs≠[]):(gs++[g]).tail=gs.tail++[g]:=by
 cases gs with
 | nil=>exact absurd rfl h
 | cons x t=>rfl
theorem Good.snoc {gs:List (List α)} {g:List α} (h:Good op gs) (hg:Opn op g):Good op (gs++[g]):=by
 refine ⟨fun x hx=>?_,fun x hx=>?_⟩
 ·rcases List.mem_append.1 hx with hx | hx
  ·exact h.1 x hx
  ·rw [List.mem_singleton.1 hx];exact hg.one
 ·by_cases hn:gs=[]
  ·subst hn;simp at hx
  ·rw [tail_snoc gs g hn] at hx
   rcases List.mem_append.1 hx with hx | hx
   ·exact h.2 x hx
   ·rw [List.mem_singleton.1 hx];exact hg
theorem Good.unsnoc {gs:List (List α)} {g:List α} (h:Good op (gs++[g])):Good op gs∧One op g∧(gs≠[]→Opn op g):=by
 refine ⟨⟨fun x hx=>h.1 x (by simp [hx]),fun x hx=>?_⟩,h.1 g (by simp),fun hn=>h.2 g (by rw [tail_snoc gs g hn];simp)⟩
 have hn:gs≠[]:=by rintro rfl;simp at hx
 exact h.2 x (by rw [tail_snoc gs g hn];simp [hx])
theorem Good.one_ {g:List α} (h:One op g):Good op [g]:=⟨fun x hx=>by rw [List.mem_singleton.1 hx];exact h,fun x hx=>by simp at hx⟩
theorem Good.put {gs:List (List α)} {g:List α} (h:Good op gs) (h1:One op g) (h2:gs≠[]→Opn op g):Good op (gs++[g]):=by
 by_cases hn:gs=[]
 ·subst hn;exact Good.one_ op h1
 ·exact h.snoc op (h2 hn)
theorem snoc_ind {p:List α→Prop} (h0:p []) (h1:∀l x,p l→p (l++[x])) (l:List α):p l:=by
 have:∀r:List α,p r.reverse:=fun r=>by
  induction r with
  | nil=>exact h0
  | cons x t ih=>rw [List.reverse_cons];exact h1 _ _ ih
 have h:=this l.reverse
 rwa [List.reverse_reverse] at h
theorem gfold_one (q:α):gfold op ([],[]) [q]=([],[q]):=by rw [gfold_cons,gstep_on op (.inr rfl)];rfl
theorem cuts_good (ps:List α):Good op (cuts op ps):=by
 refine snoc_ind (p:=fun ps=>Good op (cuts op ps)) ⟨fun g hg=>by simp [cuts_nil] at hg,fun g hg=>by simp [cuts_nil] at hg⟩ (fun l q ih=>?_) ps
 by_cases hl:l=[]
 ·subst hl
  rw [List.nil_append,cuts_one op q [] (by simp)]
  exact Good.one_ op ⟨q,[],rfl,by simp⟩
 ·have hO:=gfold_some op hl ([],[])
  rw [cuts_some op hl] at ih
  rw [cuts_some op (by simp),gfold_snoc]
  obtain ⟨T,O,hs⟩:∃T O,gfold op ([],[]) l=(T,O):=⟨_,_,rfl⟩
  rw [hs] at ih hO ⊢
  by_cases hq:op q=true
  ·rw [gstep_new op hq hO]
   exact ih.snoc op ⟨q,[],rfl,hq,by simp⟩
  ·have hq:op q=false:=by simpa using hq
   rw [gstep_on op (.inl hq)]
   obtain ⟨g1,⟨x,t,rfl,ht⟩,g3⟩:=ih.unsnoc op
   refine g1.put op ⟨x,t++[q],rfl,fun y hy=>?_⟩ fun hT=>?_
   ·rcases List.mem_append.1 hy with hy | hy
    ·exact ht y hy
    ·rw [List.mem_singleton.1 hy];exact hq
   ·obtain ⟨x',t',e,hx',_⟩:=g3 hT
    injection e with e1 e2
    subst e1 e2
    refine ⟨x,t++[q],rfl,hx',fun y hy=>?_⟩
    rcases List.mem_append.1 hy with hy | hy
    ·exact ht y hy
    ·rw [List.mem_singleton.1 hy];exact hq
theorem cuts_group {ps g:List α} (h:g∈cuts op ps):∃q t,g=q :: t:=by
 obtain ⟨q,t,h,_⟩:=(cuts_good op ps).1 g h;exact ⟨q,t,h⟩
end generic
section maps
variable {α β:Type} {op:α→Bool} {op':β→Bool} (f:α→β) (hf:∀q,op' (f q)=op q)
include hf
end maps
section limit
variable {α:Type} (op:α→Bool) (f:List α→Nat) (L:Nat)
def go:List (List α)→List α→List α→List (List α) × List α × Bool
 | T,O,[]=>(T,O,false)
 | T,O,q :: t=>if L < f (gstep op (T,O) q).2 then ((gstep op (T,O) q).1,(gstep op (T,O) q).2,true) else go (gstep op (T,O) q).1 (gstep op (T,O) q).2 t
theorem go_append:∀(a b:List α) (T:List (List α)) (O:List α),
  go op f L T O (a++b)=if (go op f L T O a).2.2 then go op f L T O a else go op f L (go op f L T O a).1 (go op f L T O a).2.1 b
 | [],b,T,O=>rfl
 | q :: t,b,T,O=>by
  simp only [List.cons_append,go]
  split
  ·simp
  ·exact go_append t b _ _
theorem go_snoc (a:List α) (q:α) (T:List (List α)) (O:List α) {T':List (List α)} {O':List α} (h:go op f L T O a=(T',O',false)) :
  go op f L T O (a++[q])=((gstep op (T',O') q).1,(gstep op (T',O') q).2,decide (L < f (gstep op (T',O') q).2)):=by
 rw [go_append,h]
 simp only [Bool.false_eq_true,if_false,go]
 split <;> simp_all
theorem go_pre (X:List (List α)):∀(a:List α) (T:List (List α)) (O:List α),go op f L (X++T) O a=(X++(go op f L T O a).1,(go op f L T O a).2)
 | [],T,O=>rfl
 | q :: t,T,O=>by
  have h:=gstep_pre op X (T,O) q
  simp only at h
  simp only [go,h]
  split
  ·rfl
  ·exact go_pre X t _ _
theorem go_false:∀(a:List α) (T:List (List α)) (O:List α) {T':List (List α)} {O':List α},go op f L T O a=(T',O',false) →
  gfold op (T,O) a=(T',O')∧((∀g∈shut (T,O),f g≤L)→∀g∈shut (T',O'),f g≤L)
 | [],T,O,T',O',h=>by simp only [go,Prod.mk.injEq,and_true] at h;obtain ⟨rfl,rfl⟩:=h;exact ⟨rfl,id⟩
 | q :: t,T,O,T',O',h=>by
  simp only [go] at h
  split at h
  ·simp at h
  ·rename_i hl
   obtain ⟨h1,h2⟩:=go_false t _ _ h
   refine ⟨h1,fun hg=>h2 fun g hg'=>?_⟩
   have hne:=gstep_ne op (T,O) q
   unfold shut at hg' hg
   rw [if_neg (by simpa using hne)] at hg'
   rcases List.mem_append.1 hg' with h | h
   ·by_cases hO:O=[]
    ·subst hO
     rw [gstep_on op (.inr rfl)] at h
     exact hg g (by simpa using h)
    ·rw [if_neg (by simpa using hO)] at hg
     unfold gstep at h
     split at h
     ·exact hg g h
     ·exact hg g (by simp at h ⊢;exact .inl h)
   ·rw [List.mem_singleton.1 h];exact Nat.le_of_not_lt hl
theorem go_true:∀(a:List α) (T:List (List α)) (O:List α) {T':List (List α)} {O':List α},go op f L T O a=(T',O',true) →
  ∃b q c,a=b++q :: c∧∃T1 O1,go op f L T O b=(T1,O1,false)∧gstep op (T1,O1) q=(T',O')∧L < f O'
 | [],T,O,T',O',h=>by simp [go] at h
 | q :: t,T,O,T',O',h=>by
  simp only [go] at h
  split at h
  ·rename_i hl
   simp only [Prod.mk.injEq,and_true] at h
   obtain ⟨h1,h2⟩:=h
   exact ⟨[],q,t,rfl,T,O,rfl,by rw [←h1,←h2],by rw [←h2];exact hl⟩
  ·rename_i hl
   obtain ⟨b,q',c,rfl,T1,O1,h1,h2,h3⟩:=go_true t _ _ h
   exact ⟨q :: b,q',c,rfl,T1,O1,by simp only [go];rw [if_neg hl];exact h1,h2,h3⟩
def okG (gs:List (List α)):List (List α):=gs.takeWhile fun g=>decide (f g≤L)
def badG (gs:List (List α)):Bool:=gs.any fun g=>decide (L < f g)
theorem okG_all {gs:List (List α)} (h:∀g∈gs,f g≤L):okG f L gs=gs∧badG f L gs=false:=by
 refine ⟨?_,?_⟩
 ·have:=List.takeWhile_append_of_pos (p:=fun g=>decide (f g≤L)) (l₁:=gs) (l₂:=[]) (fun g hg=>by simpa using h g hg)
  simpa [okG] using this
 ·unfold badG;rw [List.any_eq_false];intro g hg;have:=h g hg;simp;omega
theorem okG_stop {gs:List (List α)} (h:∀g∈gs,f g≤L) {x:List α} (hx:L < f x) (r:List (List α)):okG f L (gs++x :: r)=gs∧badG f L (gs++x :: r)=true:=by
 refine ⟨?_,?_⟩
 ·unfold okG
  rw [List.takeWhile_append_of_pos (fun g hg=>by simpa using h g hg),List.takeWhile_cons_of_neg (by simp;omega),List.append_nil]
 ·unfold badG;rw [List.any_append,List.any_cons];simp [hx]
theorem gfold_grows (b:List α):∀(T:List (List α)) (O:List α),O≠[]→∃m r,shut (gfold op (T,O) b)=T++(O++m) :: r:=by
 induction b with
 | nil=>intro T O hO;exact ⟨[],[],by simp [gfold_nil,shut,hO]⟩
 | cons q t ih =>
  intro T O hO
  rw [gfold_cons]
  by_cases hq:op q=true
  ·rw [gstep_new op hq hO]
   obtain ⟨m,r,h⟩:=ih (T++[O]) [q] (by simp)
   exact ⟨[],([q]++m) :: r,by rw [h];simp⟩
  ·have hq:op q=false:=by simpa using hq
   rw [gstep_on op (.inl hq)]
   obtain ⟨m,r,h⟩:=ih T (O++[q]) (by simp)
   exact ⟨[q]++m,r,by rw [h];simp⟩
variable (hm:∀a b,f a≤f (a++b))
include hm
theorem go_all {a:List α} {T:List (List α)} {O:List α} {b:Bool} (h:go op f L [] [] a=(T,O,b)) :
  (b=false→shut (T,O)=cuts op a∧gfold op ([],[]) a=(T,O)∧∀g∈cuts op a,f g≤L)∧(b=true→∀c,okG f L (cuts op (a++c))=T∧badG f L (cuts op (a++c))=true):=by
 refine ⟨?_,?_⟩
 ·rintro rfl
  obtain ⟨h1,h2⟩:=go_false op f L a [] [] h
  have e:shut (T,O)=cuts op a:=by rw [←h1];rfl
  exact ⟨e,h1,fun g hg=>h2 (fun g hg=>by simp [shut] at hg) g (e ▸ hg)⟩
 ·rintro rfl c
  obtain ⟨x,q,y,rfl,T1,O1,h1,h2,h3⟩:=go_true op f L a [] [] h
  obtain ⟨g1,g2⟩:=go_false op f L x [] [] h1
  have hsh:=g2 (fun g hg=>by simp [shut] at hg)
  have hT:∀g∈T,f g≤L:=fun g hg=>by
   by_cases hO:O1=[]
   ·subst hO
    rw [gstep_on op (.inr rfl)] at h2
    injection h2 with e1 _
    subst e1
    exact hsh g (by simpa [shut] using hg)
   ·have hs:shut (T1,O1)=T1++[O1]:=by simp [shut,hO]
    rw [hs] at hsh
    unfold gstep at h2
    split at h2
    ·injection h2 with e1 _
     subst e1
     exact hsh g hg
    ·injection h2 with e1 _
     subst e1
     exact hsh g (by simp [hg])
  have hO:O≠[]:=by have:=gstep_ne op (T1,O1) q;rw [h2] at this;exact this
  obtain ⟨m,r,hs⟩:=gfold_grows op (y++c) T O hO
  have e:cuts op (x++q :: y++c)=T++(O++m) :: r:=by
   rw [cuts,List.append_assoc,List.cons_append,gfold_append,g1,gfold_cons,h2];exact hs
  rw [e]
  exact okG_stop f L hT (Nat.lt_of_lt_of_le h3 (hm O m)) r
end limit
end Go.Proofs.YtdngaddggcmjgaaGreatDoor.Seg
namespace Go.Proofs.YtdngaddggcmjgaaGreatDoor.Seg
open Utf Norm
open Ucd hiding same
def opP (q:Pt):Bool:=opn (q.r:Int)
def runs (g:List Pt):List Int:=g.map fun q=>(q.r:Int)
def flen (g:List Pt):Nat:=(fulls (runs g)).length
def str (l:List UInt8):ByteArray:=⟨l.toArray⟩
def beg (g:List Pt):Nat:=(g.head?.map fun q=>q.p).getD 0
def fin (g:List Pt):Nat:=(g.getLast?.map fun q=>q.p+q.w).getD 0
structure Sg where
 t:ByteArray
 a:Nat
 e:Nat
def saysN (R:List Int):ByteArray:=str (enc (normal R))
def says (g:List Pt):ByteArray:=saysN (runs g)
def sgOf (g:List Pt):Sg:=⟨says g,beg g,fin g⟩
def grp (ps:List Pt):List (List Pt):=cuts opP ps
theorem runs_append (a b:List Pt):runs (a++b)=runs a++runs b:=List.map_append
theorem flen_append (a b:List Pt):flen (a++b)=flen a+flen b:=by rw [flen,runs_append,fulls_append,List.length_append];rfl
theorem flen_grows (a b:List Pt):flen a≤flen (a++b):=by rw [flen_append];omega
theorem flen_le (g:List Pt):flen g≤3*g.length:=by have:=fulls_len (runs g);rw [runs,List.length_map] at this;exact this
theorem flen_pos {g:List Pt} (h:g≠[]):1≤flen g:=by
 cases g with
 | nil=>exact absurd rfl h
 | cons q t=>have:=full_some (q.r:Int);rw [flen,runs,List.map_cons,fulls_cons,List.length_append];omega
theorem normal_len (R:List Int):(normal R).length=(fulls R).length:=nf_len _
theorem normal_fulls (R:List Int):normal (fulls R)=normal R:=by rw [normal,fulls_self (fulls_bottom R)];rfl
theorem full_vld (r:Int):vld r=true→(fullF r).all vld=true:=by
 refine kinds (fun r=>vld r=true→(fullF r).all vld=true) (fun r h hv=>by rw [fullF,full_plain 3 h];simp [hv]) (by decide +kernel) (fun s h0 h1 _=>?_) (by decide +kernel) r
 have v1:vld (4352+s / 588)=true:=(vld_iff _).2 (by omega)
 have v2:vld (4449+s % 588 / 28)=true:=(vld_iff _).2 (by omega)
 have v3:vld (4519+s % 28)=true:=(vld_iff _).2 (by omega)
 by_cases hz:s % 28=0
 ·rw [fullF,full_open 2 h0 h1 hz];simp [v1,v2]
 ·rw [fullF,full_closed 1 h0 h1 hz];simp [v1,v2,v3]
theorem normal_vld {R:List Int} (h:∀x∈R,vld x=true):∀x∈normal R,vld x=true:=fun x hx=>by
 obtain ⟨r,hr,hx⟩:=List.mem_flatMap.1 ((mem_nf _).1 hx)
 exact List.all_eq_true.1 (full_vld r (h r hr)) x hx
theorem dec_vld (o:Bool) (l:List UInt8):∀k,∀q∈dec o k l,vld (q.r:Int)=true:=by
 refine pieces (P:=fun l=>∀k,∀q∈dec o k l,vld (q.r:Int)=true) (fun k q h=>by simp [dec_nil] at h) (fun l hl ih k q h=>?_) l
 rw [dec_cons o k hl] at h
 split at h
 ·simp at h
 ·rcases List.mem_cons.1 h with rfl | h
  ·exact (vld_pt (rune_pt hl)).1
  ·exact ih _ q h
theorem runes_vld (l:List UInt8):∀x∈runesF l,vld x=true:=fun x hx=>by
 obtain ⟨q,hq,rfl⟩:=List.mem_map.1 hx
 exact dec_vld false l 0 q hq
theorem fix_vld {x:Int} (h:vld x=true):(fix x:Int)=x:=by
 have:=(vld_iff x).1 h
 unfold fix;rw [if_pos h];omega
theorem runes_enc {l:List Int} (h:∀x∈l,vld x=true):runesF (enc l)=l:=by
 obtain ⟨h1,h2⟩:=dec_enc l 0
 refine List.ext_getElem (by simp [runesF,h1]) fun i hi hj=>?_
 have h3:=h2 i hj
 have hi':i < (dec false 0 (enc l)).length:=by rw [h1];exact hj
 rw [List.getElem?_eq_getElem hi',Option.map_some,Option.some.injEq] at h3
 simp only [runesF,List.getElem_map,h3]
 exact fix_vld (h _ (List.getElem_mem hj))
theorem runes_enc_len (l:List Int):(runesF (enc l)).length=l.length:=by rw [runesF,List.length_map];exact (dec_enc l 0).1
theorem runes_text (l:List UInt8):runesF (textF l)=normal (runesF l):=runes_enc (normal_vld (runes_vld l))
def ww (ps:List Pt):Nat:=(ps.map fun q=>q.w).sum
def Tile:Nat→List Pt→Prop
 | _,[]=>True
 | k,q :: t=>q.p=k∧1≤q.w∧Tile (k+q.w) t
theorem ww_nil:ww []=0:=rfl
theorem ww_cons (q:Pt) (t:List Pt):ww (q :: t)=q.w+ww t:=by simp [ww]
theorem ww_append (a b:List Pt):ww (a++b)=ww a+ww b:=by simp [ww]
theorem tile_append:∀{a b:List Pt} {k:Nat},Tile k (a++b)↔Tile k a∧Tile (k+ww a) b
 | [],b,k=>by simp [Tile,ww_nil]
 | q :: t,b,k=>by simp only [List.cons_append,Tile,tile_append (a:=t),ww_cons,Nat.add_assoc];exact ⟨fun ⟨h1,h2,h3,h4⟩=>⟨⟨h1,h2,h3⟩,h4⟩,fun ⟨⟨h1,h2,h3⟩,h4⟩=>⟨h1,h2,h3,h4⟩⟩
theorem dec_tile (o:Bool) (l:List UInt8):∀k,Tile k (dec o k l):=by
 refine pieces (P:=fun l=>∀k,Tile k (dec o k l)) (fun k=>trivial) (fun l hl ih k=>?_) l
 rw [dec_cons o k hl]
 split
 ·trivial
 ·exact ⟨rfl,wid_pos hl,ih _⟩
theorem ww_eat (l:List UInt8):∀k,ww (dec true k l)=eat l:=by
 refine pieces (P:=fun l=>∀k,ww (dec true k l)=eat l) (fun k=>rfl) (fun l hl ih k=>?_) l
 cases hm:more l with
 | true=>rw [dec_stop hl hm,eat_stop hl hm];rfl
 | false=>rw [dec_step true k hl (by simp [hm]),eat_step hl hm,ww_cons,ih]
theorem ww_all (l:List UInt8):∀k,ww (dec false k l)=l.length:=by
 refine pieces (P:=fun l=>∀k,ww (dec false k l)=l.length) (fun k=>rfl) (fun l hl ih k=>?_) l
 rw [dec_step false k hl (by simp),ww_cons,ih,List.length_drop]
 have:=wid_le l
 show wid l+_=_
 omega
theorem fin_snoc (g:List Pt) (q:Pt):fin (g++[q])=q.p+q.w:=by simp [fin]
theorem beg_snoc {g:List Pt} (hg:g≠[]) (q:Pt):beg (g++[q])=beg g:=by
 cases g with
 | nil=>exact absurd rfl hg
 | cons x t=>rfl
end Go.Proofs.YtdngaddggcmjgaaGreatDoor.Seg
namespace Go.Proofs.YtdngaddggcmjgaaGreatDoor.Words
open Utf Norm Seg
open Ucd hiding same
def foldsF (l:List Int):List Int:=l.flatMap foldF
theorem folds_append (a b:List Int):foldsF (a++b)=foldsF a++foldsF b:=List.flatMap_append
theorem fold_len (r:Int):1≤(foldF r).length∧(foldF r).length≤2:=by unfold foldF;split <;> (try split) <;> simp
def keyN (R:List Int):List Int:=normal (foldsF (normal R))
def keyF (l:List UInt8):List UInt8:=enc (keyN (runesF l))
theorem folds_len (l:List Int):(foldsF l).length≤2*l.length:=by
 induction l with
 | nil=>simp [foldsF]
 | cons x t ih =>
  have:=(fold_len x).2
  rw [foldsF,List.flatMap_cons,List.length_append,List.length_cons]
  rw [foldsF] at ih
  omega
def joint (t:List UInt8):Bool:=decide (t=[39]∨t=[226,128,153]∨t=[194,183])
def restF (t:List UInt8) (r:Int):Int:=if t=[46]∨t=[44] then 5 else if r=95 then 3 else if cat r=1 then 1 else if cat r=3 then 2 else 0
def kindF (t:List UInt8):Int:=if joint t=true then 4 else match runesF t with
 | []=>0
 | r :: _=>restF t r
theorem joint_all {t:List UInt8} (h:joint t=true):(runesF t=[39]∨runesF t=[8217]∨runesF t=[183])∧textF t=t∧enc (runesF t)=t:=by
 rcases of_decide_eq_true h with rfl | rfl | rfl <;> decide +kernel
theorem joint_of {t:List UInt8} {x:Int} (h:enc [x]=t) (hx:x=39∨x=8217∨x=183):joint t=true:=by
 rcases hx with rfl | rfl | rfl <;> (subst h;decide +kernel)
theorem normal_three {x:Int} (hx:x=39∨x=8217∨x=183):normal [x]=[x]:=by
 rcases hx with rfl | rfl | rfl <;> decide +kernel
theorem joint_text {t:List UInt8} {x:Int} (hr:runesF t=[x]) (hx:x=39∨x=8217∨x=183) (h:textF t=t):enc [x]=t∧joint t=true:=by
 have e:enc [x]=t:=by rw [textF,hr,normal_three hx] at h;exact h
 exact ⟨e,joint_of e hx⟩
theorem kind_none {t:List UInt8} (h:runesF t=[]):kindF t=0:=by
 have hj:joint t=false:=by
  cases hj:joint t with
  | false=>rfl
  | true=>have:=(joint_all hj).1;rw [h] at this;simp at this
 rw [kindF,hj,h];rfl
theorem kind_rest {t:List UInt8} {x:Int} {rs:List Int} (h:runesF t=x :: rs) (hj:joint t=false):kindF t=restF t x:=by
 rw [kindF,hj,h];rfl
theorem not_joint {t:List UInt8} (h:∀x,(x=39∨x=8217∨x=183)→runesF t=[x]→textF t≠t):joint t=false:=by
 cases hj:joint t with
 | false=>rfl
 | true =>
  obtain ⟨h1,h2,_⟩:=joint_all hj
  rcases h1 with h1 | h1 | h1 <;> exact absurd h2 (h _ (by simp) h1)
theorem rest_range (t:List UInt8) (r:Int):0≤restF t r∧restF t r≤5:=by
 unfold restF
 split
 ·simp
 ·split
  ·simp
  ·split
   ·simp
   ·split <;> simp
theorem kind_range (t:List UInt8):0≤kindF t∧kindF t≤5:=by
 unfold kindF
 split
 ·simp
 ·split
  ·simp
  ·exact rest_range _ _
def inF (ks:List Int) (i:Nat):Bool :=
 let k:=ks.getD i 0
 if k > 3 then decide (0 < i∧i+1 < ks.length) && (ks.getD (i - 1) 0 == k - 3 && ks.getD (i+1) 0 == k - 3) else decide (1≤k)
def marksF (ks:List Int):List Bool:=(List.range ks.length).map (inF ks)
def runsB:Nat→Option Nat→List Bool→List (Nat × Nat)
 | _,none,[]=>[]
 | k,some s,[]=>[(s,k)]
 | k,none,false :: t=>runsB (k+1) none t
 | k,none,true :: t=>runsB (k+1) (some k) t
 | k,some s,true :: t=>runsB (k+1) (some s) t
 | k,some s,false :: t=>(s,k) :: runsB (k+1) none t
def runsF (m:List Bool):List (Nat × Nat):=runsB 0 none m
def lstep (st:List (Nat × Nat) × Option Nat) (k:Nat) (b:Bool):List (Nat × Nat) × Option Nat :=
 match st.2,b with
 | none,false=>(st.1,none)
 | none,true=>(st.1,some k)
 | some s,true=>(st.1,some s)
 | some s,false=>(st.1++[(s,k)],none)
def lfold:List (Nat × Nat) × Option Nat→Nat→List Bool→List (Nat × Nat) × Option Nat
 | st,_,[]=>st
 | st,k,b :: t=>lfold (lstep st k b) (k+1) t
def outL (k:Nat) (st:List (Nat × Nat) × Option Nat):List (Nat × Nat):=st.1++(st.2.map fun s=>(s,k)).toList
theorem lfold_snoc (b:Bool):∀(m:List Bool) (st:List (Nat × Nat) × Option Nat) (k:Nat),lfold st k (m++[b])=lstep (lfold st k m) (k+m.length) b
 | [],st,k=>rfl
 | x :: t,st,k=>by rw [List.cons_append,lfold,lfold,lfold_snoc b t];congr 1;simp;omega
theorem lfold_runs:∀(m:List Bool) (c:List (Nat × Nat)) (o:Option Nat) (k:Nat),outL (k+m.length) (lfold (c,o) k m)=c++runsB k o m
 | [],c,none,k=>by simp [lfold,outL,runsB]
 | [],c,some s,k=>by simp [lfold,outL,runsB]
 | false :: t,c,none,k=>by
  rw [lfold,runsB,List.length_cons,show k+(t.length+1)=(k+1)+t.length by omega];exact lfold_runs t c none (k+1)
 | true :: t,c,none,k=>by
  rw [lfold,runsB,List.length_cons,show k+(t.length+1)=(k+1)+t.length by omega];exact lfold_runs t c (some k) (k+1)
 | true :: t,c,some s,k=>by
  rw [lfold,runsB,List.length_cons,show k+(t.length+1)=(k+1)+t.length by omega];exact lfold_runs t c (some s) (k+1)
 | false :: t,c,some s,k=>by
  rw [lfold,runsB,List.length_cons,show k+(t.length+1)=(k+1)+t.length by omega]
  have:=lfold_runs t (c++[(s,k)]) none (k+1)
  rw [List.append_assoc] at this
  exact this
def stF (m:List Bool) (k:Nat):List (Nat × Nat) × Option Nat:=lfold ([],none) 0 (m.take k)
theorem st_next {m:List Bool} {k:Nat} (h:k < m.length):stF m (k+1)=lstep (stF m k) k m[k]:=by
 rw [stF,List.take_succ_eq_append_getElem h,lfold_snoc]
 simp [stF,List.length_take,Nat.min_eq_left (Nat.le_of_lt h)]
theorem st_end (m:List Bool):outL m.length (stF m m.length)=runsF m:=by
 have:=lfold_runs m [] none 0
 rw [stF,List.take_length]
 show _=runsB 0 none m
 simpa using this
def outF (m:List Bool) (k:Nat):List (Nat × Nat):=outL k (stF m k)
theorem out_zero (m:List Bool):outF m 0=[]:=rfl
def opF (m:List Bool) (k:Nat):Bool:=(stF m k).2.isSome
theorem op_next {m:List Bool} {k:Nat} (h:k < m.length):opF m (k+1)=m[k]:=by
 rw [opF,st_next h]
 rcases stF m k with ⟨c,_ | s⟩ <;> cases m[k] <;> rfl
theorem out_new {m:List Bool} {k:Nat} (h:k < m.length) (hb:m[k]=true) (ho:opF m k=false):outF m (k+1)=outF m k++[(k,k+1)]:=by
 rw [outF,outF,st_next h,hb]
 rw [opF] at ho
 rcases hs:stF m k with ⟨c,_ | s⟩
 ·simp [lstep,outL]
 ·rw [hs] at ho;simp at ho
theorem out_on {m:List Bool} {k:Nat} (h:k < m.length) (hb:m[k]=true) (ho:opF m k=true):∃c s,outF m k=c++[(s,k)]∧outF m (k+1)=c++[(s,k+1)]:=by
 rw [opF] at ho
 rcases hs:stF m k with ⟨c,_ | s⟩
 ·rw [hs] at ho;simp at ho
 ·exact ⟨c,s,by simp [outF,hs,outL],by simp [outF,st_next h,hs,hb,lstep,outL]⟩
theorem out_off {m:List Bool} {k:Nat} (h:k < m.length) (hb:m[k]=false):outF m (k+1)=outF m k:=by
 rw [outF,outF,st_next h,hb]
 rcases stF m k with ⟨c,_ | s⟩ <;> simp [lstep,outL]
theorem runs_below:∀(m:List Bool) (k:Nat) (o:Option Nat),(∀s,o=some s→s < k)→∀x∈runsB k o m,x.1 < x.2∧x.2≤k+m.length
 | [],k,none,_,x,hx=>by simp [runsB] at hx
 | [],k,some s,h,x,hx=>by rw [runsB,List.mem_singleton] at hx;subst hx;exact ⟨h s rfl,by simp⟩
 | false :: t,k,none,_,x,hx=>by have:=runs_below t (k+1) none (by simp) x hx;rw [List.length_cons];omega
 | true :: t,k,none,_,x,hx=>by have:=runs_below t (k+1) (some k) (by simp) x hx;rw [List.length_cons];omega
 | true :: t,k,some s,h,x,hx=>by have:=runs_below t (k+1) (some s) (fun x hx=>by have:=h x hx;omega) x hx;rw [List.length_cons];omega
 | false :: t,k,some s,h,x,hx=>by
  rw [runsB] at hx
  rcases List.mem_cons.1 hx with rfl | hx
  ·exact ⟨h s rfl,by simp⟩
  ·have:=runs_below t (k+1) none (by simp) x hx
   rw [List.length_cons];omega
theorem runs_within {m:List Bool} {x:Nat × Nat} (hx:x∈runsF m):x.1 < x.2∧x.2≤m.length:=by
 have:=runs_below m 0 none (by simp) x hx
 omega
theorem marks_len (ks:List Int):(marksF ks).length=ks.length:=by simp [marksF]
theorem marks_get {ks:List Int} {i:Nat} (h:i < (marksF ks).length):(marksF ks)[i]=inF ks i:=by simp [marksF]
theorem in_low {ks:List Int} {k:Nat} (h:k < ks.length) (hk:ks[k]≤3):inF ks k=decide (1≤ks[k]):=by
 have e:ks.getD k 0=ks[k]:=by simp [List.getD_eq_getElem?_getD,List.getElem?_eq_getElem h]
 simp only [inF,e]
 rw [if_neg (by omega)]
theorem in_edge {ks:List Int} {k:Nat} (h:k < ks.length) (hk:3 < ks[k]) (he:k=0∨¬k+1 < ks.length):inF ks k=false:=by
 have e:ks.getD k 0=ks[k]:=by simp [List.getD_eq_getElem?_getD,List.getElem?_eq_getElem h]
 simp only [inF,e]
 rw [if_pos hk,decide_eq_false (by omega),Bool.false_and]
theorem in_mid {ks:List Int} {k:Nat} (h:k < ks.length) (hk:3 < ks[k]) (h0:0 < k) (h1:k+1 < ks.length):inF ks k=(ks[k - 1] == ks[k] - 3 && ks[k+1] == ks[k] - 3):=by
 have e:ks.getD k 0=ks[k]:=by simp [List.getD_eq_getElem?_getD,List.getElem?_eq_getElem h]
 have e1:ks.getD (k - 1) 0=ks[k - 1]:=by simp [List.getD_eq_getElem?_getD,List.getElem?_eq_getElem (show k - 1 < ks.length by omega)]
 have e2:ks.getD (k+1) 0=ks[k+1]:=by simp [List.getD_eq_getElem?_getD,List.getElem?_eq_getElem h1]
 simp only [inF,e,e1,e2]
 rw [if_pos hk,decide_eq_true ⟨h0,h1⟩,Bool.true_and]
theorem out_len (m:List Bool):∀k,(outF m k).length≤k
 | 0=>by rw [out_zero];exact Nat.le_refl _
 | k+1=>by
  have ih:=out_len m k
  by_cases h:k < m.length
  ·cases hb:m[k] with
   | false=>rw [out_off h hb];omega
   | true =>
    cases ho:opF m k with
    | false=>rw [out_new h hb ho,List.length_append];simp;omega
    | true =>
     obtain ⟨c,s,e1,e2⟩:=out_on h hb ho
     rw [e1,List.length_append] at ih
     rw [e2,List.length_append]
     simp at ih ⊢;omega
  ·have e:stF m (k+1)=stF m k:=by rw [stF,stF,List.take_of_length_le (by omega),List.take_of_length_le (by omega)]
   have e2:(outF m (k+1)).length=(outF m k).length:=by
    rw [outF,outF,e,outL,outL]
    cases (stF m k).2 <;> simp
   omega
structure Sx where
 t:ByteArray
 a:Int
 e:Int
def up (x:Sg):Sx:=⟨x.t,x.a,x.e⟩
structure Wd where
 k:List UInt8
 f:Nat
 g:Nat
 a:Int
 e:Int
def txt (x:Sx):List UInt8:=x.t.data.toList
def kindsF (l:List Sx):List Int:=l.map fun x=>kindF (txt x)
def catF (l:List Sx) (i j:Nat):List UInt8:=(((l.take j).drop i).map txt).flatten
def atF (l:List Sx) (i:Nat):Int:=(l[i]?.map Sx.a).getD 0
def endF (l:List Sx) (i:Nat):Int:=(l[i]?.map Sx.e).getD 0
def wdF (l:List Sx) (x:Nat × Nat):Wd:=⟨keyF (catF l x.1 x.2),x.1,x.2,atF l x.1,endF l (x.2 - 1)⟩
def joinF (l:List Sx):List Wd:=(runsF (marksF (kindsF l))).map (wdF l)
theorem kinds_len (l:List Sx):(kindsF l).length=l.length:=List.length_map _
theorem kinds_get {l:List Sx} {i:Nat} (h:i < l.length):(kindsF l)[i]'(by rw [kinds_len];exact h)=kindF (txt l[i]):=by simp [kindsF]
theorem marks_kinds_len (l:List Sx):(marksF (kindsF l)).length=l.length:=by rw [marks_len,kinds_len]
end Go.Proofs.YtdngaddggcmjgaaGreatDoor.Words
namespace Go.Proofs.YtdngaddggcmjgaaGreatDoor.Words
open Go.Shelf Go.RowKit Go.Sort
open Utf hiding infoI32 rd_new own_form own_below rdec_any below_drewN new_any write_any close_any
open Norm Seg
open Ucd hiding grow same Told
set_option maxHeartbeats 16000000 in
set_option maxRecDepth 100000 in
theorem rkey_any (A:Option Addr) (l:List UInt8) (m c:Nat) (w:World) (hr:Rd w w.heap.size A (bys l)) (hm:l.length=m) (hb:m≤34359738368) (hnb:(normal (runesF l)).length≤17179869184) :
  Calls Tryz.prog 19 #[.slice A m c] w (Ret w (.string ⟨(keyF l).toArray⟩)):=by
 obtain ⟨i0,hi,hz0,hz1,hz2⟩:=info_parts infoI32
 have HC:=Lib.hid (rrunes_any A l m c w hr hm hb)
 have hl:=runes_len l
 rw [hm] at hl
 have HE:=Lib.hid (show keyF l=enc (normal (foldsF (normal (runesF l)))) from rfl)
 have hv:=normal_vld (runes_vld l)
 generalize runesF l=R at HC hl HE hnb hv
 have HN:=Lib.hid (fun (A:Option Addr) (c:Nat) (u:World) (hr:Rd u u.heap.size A (nums R))=>rnormal_any A R R.length c u hr rfl (by omega))
 generalize normal R=X at HE HN hnb hv
 have HV:=Lib.hid hv
 have HX:=Lib.hid hnb
 clear hr hm hl hnb hv
 obtain ⟨n,hn⟩:∃n,n=X.length:=⟨_,rfl⟩
 have HXN:=Lib.hid hn
 have hnl:n≤17179869184:=by rw [hn];exact HX.out
 clear hn
 go_enter Tryz.func19,Tryz.ntmps19
 go_wp2_with fail
 refine HC.out.mono ?_
 rintro e w1 ⟨v,rfl,ho,hb1⟩
 obtain ⟨A1,c1,rfl,_,_,hr1⟩:=own_form ho
 have HR1:=Lib.hid hr1
 have HB1:=Lib.hid hb1
 clear ho hr1 hb1
 go_wp2_with fail
 refine (HN.out A1 c1 w1 HR1.out).mono ?_
 rintro e w2 ⟨v,rfl,ho,hb2⟩
 obtain ⟨A2,c2,rfl,_,_,hr2⟩:=own_form ho
 rw [←HXN.out]
 have HR2:=Lib.hid hr2
 have HB2:=Lib.hid (HB1.out.trans (hb2.mono HB1.out.size))
 clear ho hr2 hb2 HN HR1
 obtain ⟨B0,hB0⟩:∃B0,B0=w2.heap.size:=⟨_,rfl⟩
 have HB0:=Lib.hid hB0
 rw [←hB0] at HR2
 clear hB0
 go_wp2_with fail
 go_loopw [4,5] (fun vo i wr=>∃k:Nat,k≤n∧i=.int .i64 k∧Hid (wr.ownsRow B0 21 1 vo (foldsF (X.take k)).length (nums (foldsF (X.take k))))∧Hid (Below B0 w2 wr)) (fun _ i _=>n - (intOf i).toNat)
 case atStart=>exact ⟨0,Nat.zero_le _,rfl,Lib.hid (by simp only [List.take_zero,foldsF,List.flatMap_nil];exact World.ownsRow_nil _ _ _ _),Lib.hid (Below.refl _ _)⟩
 case round =>
  obtain ⟨k,hk,rfl,HO,HB⟩:=hrel
  by_cases hlt:k < n
  ·have hkl:k < X.length:=by rw [←HXN.out];exact hlt
   obtain ⟨b,o,rfl,hbl⟩:=HR2.out.form (by rw [nums_len];omega)
   have hcell:wr.cell? ⟨b,o+k,none⟩=some (.int .i32 X[k]):=(HR2.out.below HB.out).num hkl
   have hvd:=HV.out X[k] (List.getElem_mem hkl)
   have hbd:=(vld_iff X[k]).1 hvd
   have HTK:=Lib.hid (show foldsF (X.take (k+1))=foldsF (X.take k)++foldF X[k] by rw [List.take_succ_eq_append_getElem hkl,folds_append];simp [foldsF])
   have h3:=(fold_len X[k]).2
   have h1:=(fold_len X[k]).1
   have HC:=Lib.hid (rfold_any X[k] wr (by omega) (by omega))
   have HDL:=Lib.hid (show (foldsF (X.take k)).length≤2*k by have:=folds_len (X.take k);rw [List.length_take] at this;omega)
   obtain ⟨D,hD⟩:∃D,D=foldsF (X.take k):=⟨_,rfl⟩
   rw [←hD] at HO HTK HDL
   generalize X[k]=r at hcell HTK h3 h1 HC
   generalize foldF r=xs at HTK h3 h1 HC
   clear hkl hD hvd hbd
   go_wp2_with fail
   refine HC.out.mono ?_
   rintro e w3 ⟨Ad,cd,rfl,hd1,hd2,hrd,hb3,hnew⟩
   obtain ⟨gd,od,rfl,hgd⟩:=hrd.form (by rw [nums_len];exact h1)
   have HNG:=Lib.hid (show ∀g,u4.ownBlock=some g→gd≠g from fun g hv=>by have:=(HO.out.lt g hv).2;have:=hnew gd od rfl;omega)
   have HO1:=Lib.hid (own_below HO.out hb3)
   have HB3:=Lib.hid (HB.out.trans (hb3.mono (by have:=HB.out.size;have:=HB0.out;omega)))
   obtain ⟨q,hq⟩:∃q,q=xs.length:=⟨_,rfl⟩
   have HM:=Lib.hid hq
   have HCL:=Lib.hid (show ∀j (h:j < xs.length),w3.cell? ⟨gd,od+j,none⟩=some (.int .i32 xs[j]) from fun j h=>hrd.num h)
   have HGD:=Lib.hid hgd
   rw [←hq] at h1 h3 hd1 ⊢
   clear hq hb3 hrd hnew HC HO HB hgd
   go_wp2_with fail
   go_loopw [4,7] (fun vo i wx=>∃j:Nat,j≤q∧i=.int .i64 j∧Hid (wx.ownsRow B0 21 1 vo (D++xs.take j).length (nums (D++xs.take j)))∧Hid (Below B0 w2 wx)∧Hid (∀g,vo.ownBlock=some g→gd≠g)∧Hid (∀j (h:j < xs.length),wx.cell? ⟨gd,od+j,none⟩=some (.int .i32 xs[j]))∧Hid (gd < wx.heap.size)) (fun _ i _=>q - (intOf i).toNat)
   case atStart=>exact ⟨0,Nat.zero_le _,rfl,by simpa using HO1,HB3,HNG,HCL,HGD⟩
   case round =>
    clear HO1 HB3 HNG HCL HGD
    obtain ⟨j,hj,rfl,HO,HB,HNG,HCL,HGD⟩:=hrel
    by_cases hjt:j < q
    ·have hjl:j < xs.length:=by rw [←HM.out];exact hjt
     have hcell:wr.cell? ⟨gd,od+j,none⟩=some (.int .i32 xs[j]):=HCL.out j hjl
     have HTK2:=Lib.hid (show D++xs.take (j+1)=(D++xs.take j)++[xs[j]] by rw [List.take_succ_eq_append_getElem hjl,List.append_assoc])
     obtain ⟨x,hx⟩:∃x,x=xs[j]:=⟨_,rfl⟩
     rw [←hx] at hcell HTK2
     have HFN:=Lib.hid (show (D++xs.take j).length≤274877906944 by rw [List.length_append,List.length_take];have:=HDL.out;have:=HX.out;have:=HXN.out;omega)
     obtain ⟨F,hF⟩:∃F,F=D++xs.take j:=⟨_,rfl⟩
     rw [←hF] at HO HFN HTK2
     obtain ⟨f,hf⟩:∃f,f=F.length:=⟨_,rfl⟩
     rw [←hf] at HO HFN
     have HFL:=Lib.hid hf
     have hb4:B0≤wr.heap.size:=Nat.le_trans (Nat.le_of_eq HB0.out) HB.out.size
     have hfn:=HFN.out
     clear hF hjl hx hf
     go_wp2_with (at_builtin;refine wpList_append_rd _ rfl (.tmp 28) (.tmp 33) _ rfl B0 21 i0 _ 1 4 Tryz.underlying49 hi hz0 hz1 hz2 rfl (by decide) u4 f (nums F) rfl (HO.out.alloc _) _ (some ⟨wr.heap.size,0,none⟩) 1 1 [.int .i32 x] rfl rfl (rd_new _ _ [.int .i32 x] _ rfl) (nums_one [x]) (by unfold maxLen;omega) (by omega) (by simp;omega) ?_;intro v6 w6 hown6 hgr6 hat6;obtain ⟨A6,c6,hv6,_⟩:=own_form hown6;subst hv6)
     have HO6:=Lib.hid (show w6.ownsRow B0 21 1 (.slice A6 (f+1) c6) (D++xs.take (j+1)).length (nums (D++xs.take (j+1))) by
      rw [HTK2.out,List.length_append,←HFL.out,nums_append];exact hown6)
     have HB6:=Lib.hid ((HB.out.alloc hb4 (.cells [Value.int .i32 x].toArray 21)).grown hgr6 (by simp;omega) (fun y hy=>(HO.out.lt y hy).1))
     have HNG6:=Lib.hid (show ∀g,(Value.slice A6 (f+1) c6).ownBlock=some g→gd≠g from fun g hg'=>by
      rcases hat6 with e | e
      ·exact HNG.out g (e ▸ hg')
      ·rw [e] at hg';injection hg' with hg';have:=HGD.out;simp at hg';omega)
     have HCL6:=Lib.hid (show ∀i (h:i < xs.length),w6.cell? ⟨gd,od+i,none⟩=some (.int .i32 xs[i]) from fun i h=>by
      have hgd:=HGD.out
      rw [hgr6.cell_far ⟨gd,od+i,none⟩ (by simp;omega) (fun e=>HNG.out gd e.symm rfl),World.cell?_alloc_lt _ _ _ hgd]
      exact HCL.out i h)
     have HGD6:=Lib.hid (show gd < w6.heap.size by have:=hgr6.size;have:=HGD.out;simp at *;omega)
     clear hown6 hgr6 hat6 HO HB HNG HCL HGD
     go_roundw
     case rel=>exact ⟨j+1,by omega,by go_num,HO6,HB6,HNG6,HCL6,HGD6⟩
     case measure=>simp [intOf];omega
    ·have HT2:=Lib.hid (show D++xs.take j=foldsF (X.take (k+1)) by rw [HTK.out,List.take_of_length_le (by rw [←HM.out];omega)])
     rw [HT2.out] at HO
     go_wp2
     go_roundw
     case rel=>exact ⟨k+1,by omega,by go_num,HO,HB⟩
     case measure=>simp [intOf];omega
  ·have HXT:=Lib.hid (show X.take k=X by rw [List.take_of_length_le (by rw [←HXN.out];omega)])
   rw [HXT.out] at HO
   have hfl:=folds_len X
   obtain ⟨Y,hY⟩:∃Y,Y=foldsF X:=⟨_,rfl⟩
   rw [←hY] at HO hfl HE
   have HYL:=Lib.hid (show Y.length≤34359738368 by have:=HX.out;omega)
   have HNL:=Lib.hid (show (normal Y).length≤103079215104 by have:=nf_len (fulls Y);have:=fulls_len Y;have:=HYL.out;unfold normal;omega)
   obtain ⟨A4,c4,rfl,_,_,hr4⟩:=own_form HO.out
   have HR4:=Lib.hid hr4
   have HB4:=Lib.hid (HB2.out.trans (HB.out.mono (by have:=HB2.out.size;have:=HB0.out;omega)))
   clear hY hfl hr4 HO HB
   go_wp2_with fail
   refine (rnormal_any A4 Y Y.length c4 wr HR4.out rfl HYL.out).mono ?_
   rintro e w5 ⟨v,rfl,ho,hb5⟩
   obtain ⟨A5,c5,rfl,_,_,hr5⟩:=own_form ho
   have HR5:=Lib.hid hr5
   have HB5:=Lib.hid (HB4.out.trans (hb5.mono HB4.out.size))
   clear ho hr5 hb5
   go_wp2_with fail
   refine (rencode_any A5 (normal Y) (normal Y).length c5 w5 HR5.out rfl (by have:=HNL.out;omega)).mono ?_
   rintro e w6 ⟨v,rfl,ho,hb6⟩
   obtain ⟨A6,c6,rfl,_,_,hr6⟩:=Utf.own_form ho
   have hcv:=conv_rd (c:=c6) hr6 rfl
   rw [←HE.out] at hcv ⊢
   have HB6:=Lib.hid (HB5.out.trans (hb6.mono HB5.out.size))
   clear ho hr6 hb6
   go_wp2_with fail
   go_ret
   exact ⟨rfl,HB6.out⟩
end Go.Proofs.YtdngaddggcmjgaaGreatDoor.Words
namespace Go.Proofs.YtdngaddggcmjgaaGreatDoor.Words
open Go.Shelf Go.RowKit Go.Sort
open Utf hiding infoI32 rd_new own_form rdec_any below_drewN new_any write_any close_any
open Norm Seg
open Ucd hiding grow same Told
theorem bytes_list (X:ByteArray):X.toList=X.data.toList:=ByteArray.toList_eq X
theorem conv_str (w:World) (X:ByteArray) (x:List UInt8) (hX:X.data.toList=x) (n:Nat) (hn:x.length=n) (hb:n≤1099511627770) :
  ∃(g C:Nat) (W1:World),(convert 9 22 (.string X)).run Tryz.prog w=.ok (.slice (some ⟨g,0,none⟩) n C) W1∧Rd W1 W1.heap.size (some ⟨g,0,none⟩) (bys x)∧Below w.heap.size w W1∧n≤C∧C≤9223372036854775807∧w.heap.size≤g:=by
 subst hX
 have hs:X.size=n:=by rw [←hn];exact Array.length_toList.symm
 have h:=run_bytes_of_string (P:=Tryz.prog) w 9 22 5 X Tryz.underlying9 Tryz.underlying22 Tryz.underlying5
 rw [hs] at h
 have hge:=grownCap_ge w n 0 5
 have hle:=grownCap_le_maxLen w n 0 5 (by unfold maxLen;omega)
 unfold maxLen at hle
 obtain ⟨h1,h2⟩:=rd_str w X (grownCap w n 0 5) 5 _ _ rfl
 exact ⟨_,_,_,h,h1,h2,by omega,by omega,Nat.le_refl _⟩
set_option maxHeartbeats 16000000 in
set_option maxRecDepth 100000 in
theorem rkind_any (T:ByteArray) (l:List UInt8) (hT:T.data.toList=l) (w:World) (hb:l.length≤34359738368) :
  Calls Tryz.prog 18 #[.string T] w (Ret w (.int .i64 (kindF l))):=by
 have HTL:=Lib.hid (show T.toList=l by rw [bytes_list];exact hT)
 have HT:=Lib.hid hT
 have HLN:=Lib.hid hb
 obtain ⟨m,hm⟩:∃m,m=l.length:=⟨_,rfl⟩
 have HM:=Lib.hid hm
 obtain ⟨g,C,W1,hcv,hrd,hbl,hC1,hC2,_⟩:=conv_str w T l hT m hm.symm (by omega)
 have HC:=Lib.hid (rrunes_any (some ⟨g,0,none⟩) l m C W1 hrd hm.symm (by omega))
 have HB:=Lib.hid hbl
 clear hrd hbl hC1 hC2 hT hb hm
 obtain ⟨R,hR⟩:∃R,R=runesF l:=⟨_,rfl⟩
 have HR:=Lib.hid hR
 rw [←hR] at HC
 clear hR
 obtain ⟨S1,hS1⟩:∃S1:ByteArray,S1=⟨(textF l).toArray⟩:=⟨_,rfl⟩
 have HS1:=Lib.hid (show S1.toList=textF l by rw [hS1,bytes_list])
 have HTX:=Lib.hid (fun (A:Option Addr) (c:Nat) (u:World) (hr:Rd u u.heap.size A (bys l))=>rtext_any A l m c u hr HM.out.symm (by rw [HM.out];exact HLN.out))
 rw [←hS1] at HTX
 clear hS1
 rcases R with _ | ⟨x,rs⟩
 ·have HK:=Lib.hid (kind_none HR.out.symm)
  rw [HK.out]
  go_enter Tryz.func18,Tryz.ntmps18
  go_wp2_with fail
  refine HC.out.mono ?_
  rintro e w1 ⟨v,rfl,ho,hb1⟩
  obtain ⟨A1,c1,rfl,_,_,hr1⟩:=own_form ho
  have HB1:=Lib.hid (HB.out.trans (hb1.mono HB.out.size))
  clear ho hr1 hb1
  go_wp2_with fail
  go_ret
  exact ⟨rfl,HB1.out⟩
 ·have HX1:=Lib.hid (show runesF l=x :: rs from HR.out.symm)
  obtain ⟨n,hn⟩:∃n,n=(x :: rs).length:=⟨_,rfl⟩
  have HN:=Lib.hid hn
  have n0:(((n:Nat):Int) == 0)=false:=by rw [beq_eq_false_iff_ne,hn];simp;omega
  have npos:0 < n:=by rw [hn];simp
  by_cases hrs:rs=[]
  ·subst hrs
   clear n0 npos HN hn
   by_cases x39:x=39
   ·subst x39
    by_cases ht:textF l=l
    ·obtain ⟨he,hj⟩:=joint_text HX1.out (by omega) ht
     have HK:=Lib.hid (show kindF l=4 by rw [kindF,if_pos hj])
     have HEN:=Lib.hid he
     have q1:(S1.toList == T.toList)=true:=by rw [HS1.out,HTL.out];simp [ht]
     clear he hj ht
     go_enter Tryz.func18,Tryz.ntmps18
     go_wp2_with fail
     refine HC.out.mono ?_
     rintro e w1 ⟨v,rfl,ho,hb1⟩
     obtain ⟨A1,c1,rfl,_,_,hr1⟩:=own_form ho
     obtain ⟨b1,o1,rfl,hbl1⟩:=hr1.form (by rw [nums_len];simp)
     have hcell:w1.cell? ⟨b1,o1,none⟩=some (.int .i32 39):=by have:=hr1.num (k:=0) (by simp);simpa using this
     have HB1:=Lib.hid (HB.out.trans (hb1.mono HB.out.size))
     have HR1:=Lib.hid hr1
     clear ho hr1 hb1
     rw [show ([39]:List Int).length=1 from rfl]
     obtain ⟨g2,C2,W2,hcv2,hrd2,hbl2,hC3,hC4,_⟩:=conv_str w1 T l HT.out m HM.out.symm (by have:=HLN.out;have:=HM.out;omega)
     have HB2:=Lib.hid (HB1.out.trans (hbl2.mono HB1.out.size))
     have HC2:=Lib.hid (HTX.out _ C2 W2 hrd2)
     have HR2:=Lib.hid ((HR1.out.below hbl2).more hbl2.size)
     clear hrd2 hbl2 hC3 hC4
     go_wp2_with fail
     refine HC2.out.mono ?_
     rintro e w3 ⟨rfl,hb3⟩
     have HB3:=Lib.hid (HB2.out.trans (hb3.mono HB2.out.size))
     have HR3:=Lib.hid ((HR2.out.below hb3).more hb3.size)
     clear hb3
     go_wp2_with fail
     refine (rencode_any _ [39] 1 _ w3 HR3.out rfl (by omega)).mono ?_
     rintro e w4 ⟨v,rfl,ho4,hb4⟩
     obtain ⟨A4,c4,rfl,_,_,hr4⟩:=Utf.own_form ho4
     have hcv4:=conv_rd (c:=c4) hr4 rfl
     have HB4:=Lib.hid (HB3.out.trans (hb4.mono HB3.out.size))
     obtain ⟨S2,hS2⟩:∃S2:ByteArray,S2=⟨(enc [39]).toArray⟩:=⟨_,rfl⟩
     have q2:(S2.toList == T.toList)=true:=by rw [hS2,bytes_list,HTL.out];simp [HEN.out]
     rw [←hS2] at hcv4
     clear ho4 hr4 hb4 hS2
     go_wp2_with fail
     go_ret
     exact ⟨by (rw [HK.out]) <;> rfl,HB4.out⟩
    ·have HJ:=Lib.hid (not_joint (t:=l) (fun y _ hy=>ht))
     have hk:=kind_rest HX1.out HJ.out
     have l46:l≠[46]:=fun h=>by have h1:=HX1.out;rw [h] at h1;exact absurd h1 (by decide +kernel)
     have l44:l≠[44]:=fun h=>by have h1:=HX1.out;rw [h] at h1;exact absurd h1 (by decide +kernel)
     have q46:(T.toList == [46])=false:=by rw [HTL.out];simpa using l46
     have q44:(T.toList == [44])=false:=by rw [HTL.out];simpa using l44
     have q1:(S1.toList == T.toList)=false:=by rw [HS1.out,HTL.out];simpa using ht
     have hcat:cat 39=4:=by decide +kernel
     have HK:=Lib.hid (show kindF l=0 by rw [hk,restF,if_neg (by simp [l46,l44]),if_neg (by decide),hcat];rfl)
     have HCT:=Lib.hid (fun u=>rcat_any 39 u)
     rw [hcat] at HCT
     clear hk l46 l44 hcat ht
     go_enter Tryz.func18,Tryz.ntmps18
     go_wp2_with fail
     refine HC.out.mono ?_
     rintro e w1 ⟨v,rfl,ho,hb1⟩
     obtain ⟨A1,c1,rfl,_,_,hr1⟩:=own_form ho
     obtain ⟨b1,o1,rfl,hbl1⟩:=hr1.form (by rw [nums_len];simp)
     have hcell:w1.cell? ⟨b1,o1,none⟩=some (.int .i32 39):=by have:=hr1.num (k:=0) (by simp);simpa using this
     have HB1:=Lib.hid (HB.out.trans (hb1.mono HB.out.size))
     have HR1:=Lib.hid hr1
     clear ho hr1 hb1
     rw [show ([39]:List Int).length=1 from rfl]
     obtain ⟨g2,C2,W2,hcv2,hrd2,hbl2,hC3,hC4,_⟩:=conv_str w1 T l HT.out m HM.out.symm (by have:=HLN.out;have:=HM.out;omega)
     have HB2:=Lib.hid (HB1.out.trans (hbl2.mono HB1.out.size))
     have HC2:=Lib.hid (HTX.out _ C2 W2 hrd2)
     have HR2:=Lib.hid ((HR1.out.below hbl2).more hbl2.size)
     clear hrd2 hbl2 hC3 hC4
     go_wp2_with fail
     refine HC2.out.mono ?_
     rintro e w3 ⟨rfl,hb3⟩
     have HB3:=Lib.hid (HB2.out.trans (hb3.mono HB2.out.size))
     have HR3:=Lib.hid ((HR2.out.below hb3).more hb3.size)
     have hcell3:w3.cell? ⟨b1,o1,none⟩=some (.int .i32 39):=by have:=HR3.out.num (k:=0) (by simp);simpa using this
     clear hb3
     go_wp2_with fail
     refine (HCT.out _).mono ?_
     rintro e w4 ⟨rfl,rfl⟩
     go_wp2_with fail
     go_ret
     exact ⟨by (rw [HK.out]) <;> rfl,HB3.out⟩
   by_cases x8217:x=8217
   ·subst x8217
    by_cases ht:textF l=l
    ·obtain ⟨he,hj⟩:=joint_text HX1.out (by omega) ht
     have HK:=Lib.hid (show kindF l=4 by rw [kindF,if_pos hj])
     have HEN:=Lib.hid he
     have q1:(S1.toList == T.toList)=true:=by rw [HS1.out,HTL.out];simp [ht]
     clear he hj ht
     go_enter Tryz.func18,Tryz.ntmps18
     go_wp2_with fail
     refine HC.out.mono ?_
     rintro e w1 ⟨v,rfl,ho,hb1⟩
     obtain ⟨A1,c1,rfl,_,_,hr1⟩:=own_form ho
     obtain ⟨b1,o1,rfl,hbl1⟩:=hr1.form (by rw [nums_len];simp)
     have hcell:w1.cell? ⟨b1,o1,none⟩=some (.int .i32 8217):=by have:=hr1.num (k:=0) (by simp);simpa using this
     have HB1:=Lib.hid (HB.out.trans (hb1.mono HB.out.size))
     have HR1:=Lib.hid hr1
     clear ho hr1 hb1
     rw [show ([8217]:List Int).length=1 from rfl]
     obtain ⟨g2,C2,W2,hcv2,hrd2,hbl2,hC3,hC4,_⟩:=conv_str w1 T l HT.out m HM.out.symm (by have:=HLN.out;have:=HM.out;omega)
     have HB2:=Lib.hid (HB1.out.trans (hbl2.mono HB1.out.size))
     have HC2:=Lib.hid (HTX.out _ C2 W2 hrd2)
     have HR2:=Lib.hid ((HR1.out.below hbl2).more hbl2.size)
     clear hrd2 hbl2 hC3 hC4
     go_wp2_with fail
     refine HC2.out.mono ?_
     rintro e w3 ⟨rfl,hb3⟩
     have HB3:=Lib.hid (HB2.out.trans (hb3.mono HB2.out.size))
     have HR3:=Lib.hid ((HR2.out.below hb3).more hb3.size)
     clear hb3
     go_wp2_with fail
     refine (rencode_any _ [8217] 1 _ w3 HR3.out rfl (by omega)).mono ?_
     rintro e w4 ⟨v,rfl,ho4,hb4⟩
     obtain ⟨A4,c4,rfl,_,_,hr4⟩:=Utf.own_form ho4
     have hcv4:=conv_rd (c:=c4) hr4 rfl
     have HB4:=Lib.hid (HB3.out.trans (hb4.mono HB3.out.size))
     obtain ⟨S2,hS2⟩:∃S2:ByteArray,S2=⟨(enc [8217]).toArray⟩:=⟨_,rfl⟩
     have q2:(S2.toList == T.toList)=true:=by rw [hS2,bytes_list,HTL.out];simp [HEN.out]
     rw [←hS2] at hcv4
     clear ho4 hr4 hb4 hS2
     go_wp2_with fail
     go_ret
     exact ⟨by (rw [HK.out]) <;> rfl,HB4.out⟩
    ·have HJ:=Lib.hid (not_joint (t:=l) (fun y _ hy=>ht))
     have hk:=kind_rest HX1.out HJ.out
     have l46:l≠[46]:=fun h=>by have h1:=HX1.out;rw [h] at h1;exact absurd h1 (by decide +kernel)
     have l44:l≠[44]:=fun h=>by have h1:=HX1.out;rw [h] at h1;exact absurd h1 (by decide +kernel)
     have q46:(T.toList == [46])=false:=by rw [HTL.out];simpa using l46
     have q44:(T.toList == [44])=false:=by rw [HTL.out];simpa using l44
     have q1:(S1.toList == T.toList)=false:=by rw [HS1.out,HTL.out];simpa using ht
     have hcat:cat 8217=4:=by decide +kernel
     have HK:=Lib.hid (show kindF l=0 by rw [hk,restF,if_neg (by simp [l46,l44]),if_neg (by decide),hcat];rfl)
     have HCT:=Lib.hid (fun u=>rcat_any 8217 u)
     rw [hcat] at HCT
     clear hk l46 l44 hcat ht
     go_enter Tryz.func18,Tryz.ntmps18
     go_wp2_with fail
     refine HC.out.mono ?_
     rintro e w1 ⟨v,rfl,ho,hb1⟩
     obtain ⟨A1,c1,rfl,_,_,hr1⟩:=own_form ho
     obtain ⟨b1,o1,rfl,hbl1⟩:=hr1.form (by rw [nums_len];simp)
     have hcell:w1.cell? ⟨b1,o1,none⟩=some (.int .i32 8217):=by have:=hr1.num (k:=0) (by simp);simpa using this
     have HB1:=Lib.hid (HB.out.trans (hb1.mono HB.out.size))
     have HR1:=Lib.hid hr1
     clear ho hr1 hb1
     rw [show ([8217]:List Int).length=1 from rfl]
     obtain ⟨g2,C2,W2,hcv2,hrd2,hbl2,hC3,hC4,_⟩:=conv_str w1 T l HT.out m HM.out.symm (by have:=HLN.out;have:=HM.out;omega)
     have HB2:=Lib.hid (HB1.out.trans (hbl2.mono HB1.out.size))
     have HC2:=Lib.hid (HTX.out _ C2 W2 hrd2)
     have HR2:=Lib.hid ((HR1.out.below hbl2).more hbl2.size)
     clear hrd2 hbl2 hC3 hC4
     go_wp2_with fail
     refine HC2.out.mono ?_
     rintro e w3 ⟨rfl,hb3⟩
     have HB3:=Lib.hid (HB2.out.trans (hb3.mono HB2.out.size))
     have HR3:=Lib.hid ((HR2.out.below hb3).more hb3.size)
     have hcell3:w3.cell? ⟨b1,o1,none⟩=some (.int .i32 8217):=by have:=HR3.out.num (k:=0) (by simp);simpa using this
     clear hb3
     go_wp2_with fail
     refine (HCT.out _).mono ?_
     rintro e w4 ⟨rfl,rfl⟩
     go_wp2_with fail
     go_ret
     exact ⟨by (rw [HK.out]) <;> rfl,HB3.out⟩
   by_cases x183:x=183
   ·subst x183
    by_cases ht:textF l=l
    ·obtain ⟨he,hj⟩:=joint_text HX1.out (by omega) ht
     have HK:=Lib.hid (show kindF l=4 by rw [kindF,if_pos hj])
     have HEN:=Lib.hid he
     have q1:(S1.toList == T.toList)=true:=by rw [HS1.out,HTL.out];simp [ht]
     clear he hj ht
     go_enter Tryz.func18,Tryz.ntmps18
     go_wp2_with fail
     refine HC.out.mono ?_
     rintro e w1 ⟨v,rfl,ho,hb1⟩
     obtain ⟨A1,c1,rfl,_,_,hr1⟩:=own_form ho
     obtain ⟨b1,o1,rfl,hbl1⟩:=hr1.form (by rw [nums_len];simp)
     have hcell:w1.cell? ⟨b1,o1,none⟩=some (.int .i32 183):=by have:=hr1.num (k:=0) (by simp);simpa using this
     have HB1:=Lib.hid (HB.out.trans (hb1.mono HB.out.size))
     have HR1:=Lib.hid hr1
     clear ho hr1 hb1
     rw [show ([183]:List Int).length=1 from rfl]
     obtain ⟨g2,C2,W2,hcv2,hrd2,hbl2,hC3,hC4,_⟩:=conv_str w1 T l HT.out m HM.out.symm (by have:=HLN.out;have:=HM.out;omega)
     have HB2:=Lib.hid (HB1.out.trans (hbl2.mono HB1.out.size))
     have HC2:=Lib.hid (HTX.out _ C2 W2 hrd2)
     have HR2:=Lib.hid ((HR1.out.below hbl2).more hbl2.size)
     clear hrd2 hbl2 hC3 hC4
     go_wp2_with fail
     refine HC2.out.mono ?_
     rintro e w3 ⟨rfl,hb3⟩
     have HB3:=Lib.hid (HB2.out.trans (hb3.mono HB2.out.size))
     have HR3:=Lib.hid ((HR2.out.below hb3).more hb3.size)
     clear hb3
     go_wp2_with fail
     refine (rencode_any _ [183] 1 _ w3 HR3.out rfl (by omega)).mono ?_
     rintro e w4 ⟨v,rfl,ho4,hb4⟩
     obtain ⟨A4,c4,rfl,_,_,hr4⟩:=Utf.own_form ho4
     have hcv4:=conv_rd (c:=c4) hr4 rfl
     have HB4:=Lib.hid (HB3.out.trans (hb4.mono HB3.out.size))
     obtain ⟨S2,hS2⟩:∃S2:ByteArray,S2=⟨(enc [183]).toArray⟩:=⟨_,rfl⟩
     have q2:(S2.toList == T.toList)=true:=by rw [hS2,bytes_list,HTL.out];simp [HEN.out]
     rw [←hS2] at hcv4
     clear ho4 hr4 hb4 hS2
     go_wp2_with fail
     go_ret
     exact ⟨by (rw [HK.out]) <;> rfl,HB4.out⟩
    ·have HJ:=Lib.hid (not_joint (t:=l) (fun y _ hy=>ht))
     have hk:=kind_rest HX1.out HJ.out
     have l46:l≠[46]:=fun h=>by have h1:=HX1.out;rw [h] at h1;exact absurd h1 (by decide +kernel)
     have l44:l≠[44]:=fun h=>by have h1:=HX1.out;rw [h] at h1;exact absurd h1 (by decide +kernel)
     have q46:(T.toList == [46])=false:=by rw [HTL.out];simpa using l46
     have q44:(T.toList == [44])=false:=by rw [HTL.out];simpa using l44
     have q1:(S1.toList == T.toList)=false:=by rw [HS1.out,HTL.out];simpa using ht
     have hcat:cat 183=4:=by decide +kernel
     have HK:=Lib.hid (show kindF l=0 by rw [hk,restF,if_neg (by simp [l46,l44]),if_neg (by decide),hcat];rfl)
     have HCT:=Lib.hid (fun u=>rcat_any 183 u)
     rw [hcat] at HCT
     clear hk l46 l44 hcat ht
     go_enter Tryz.func18,Tryz.ntmps18
     go_wp2_with fail
     refine HC.out.mono ?_
     rintro e w1 ⟨v,rfl,ho,hb1⟩
     obtain ⟨A1,c1,rfl,_,_,hr1⟩:=own_form ho
     obtain ⟨b1,o1,rfl,hbl1⟩:=hr1.form (by rw [nums_len];simp)
     have hcell:w1.cell? ⟨b1,o1,none⟩=some (.int .i32 183):=by have:=hr1.num (k:=0) (by simp);simpa using this
     have HB1:=Lib.hid (HB.out.trans (hb1.mono HB.out.size))
     have HR1:=Lib.hid hr1
     clear ho hr1 hb1
     rw [show ([183]:List Int).length=1 from rfl]
     obtain ⟨g2,C2,W2,hcv2,hrd2,hbl2,hC3,hC4,_⟩:=conv_str w1 T l HT.out m HM.out.symm (by have:=HLN.out;have:=HM.out;omega)
     have HB2:=Lib.hid (HB1.out.trans (hbl2.mono HB1.out.size))
     have HC2:=Lib.hid (HTX.out _ C2 W2 hrd2)
     have HR2:=Lib.hid ((HR1.out.below hbl2).more hbl2.size)
     clear hrd2 hbl2 hC3 hC4
     go_wp2_with fail
     refine HC2.out.mono ?_
     rintro e w3 ⟨rfl,hb3⟩
     have HB3:=Lib.hid (HB2.out.trans (hb3.mono HB2.out.size))
     have HR3:=Lib.hid ((HR2.out.below hb3).more hb3.size)
     have hcell3:w3.cell? ⟨b1,o1,none⟩=some (.int .i32 183):=by have:=HR3.out.num (k:=0) (by simp);simpa using this
     clear hb3
     go_wp2_with fail
     refine (HCT.out _).mono ?_
     rintro e w4 ⟨rfl,rfl⟩
     go_wp2_with fail
     go_ret
     exact ⟨by (rw [HK.out]) <;> rfl,HB3.out⟩
   have HJ:=Lib.hid (not_joint (t:=l) (fun y hy hr=>absurd (by have h1:=HX1.out;rw [hr] at h1;injection h1 with h1;omega) x39))
   have q39:(x == 39)=false:=by simpa using x39
   have q8217:(x == 8217)=false:=by simpa using x8217
   have q183:(x == 183)=false:=by simpa using x183
   clear x39 x8217 x183
   have hk:=kind_rest HX1.out HJ.out
   unfold restF at hk
   by_cases h46:l=[46]
   ·have HK:=Lib.hid (show kindF l=5 by rw [hk,if_pos (.inl h46)])
    have q46:(T.toList == [46])=true:=by rw [HTL.out];simp [h46]
    clear hk h46
    go_enter Tryz.func18,Tryz.ntmps18
    go_wp2_with fail
    refine HC.out.mono ?_
    rintro e w1 ⟨v,rfl,ho,hb1⟩
    obtain ⟨A1,c1,rfl,_,_,hr1⟩:=own_form ho
    obtain ⟨b1,o1,rfl,hbl1⟩:=hr1.form (by rw [nums_len];simp)
    have hcell:w1.cell? ⟨b1,o1,none⟩=some (.int .i32 x):=by have:=hr1.num (k:=0) (by simp);simpa using this
    have HB1:=Lib.hid (HB.out.trans (hb1.mono HB.out.size))
    clear ho hr1 hb1
    rw [show ([x]:List Int).length=1 from rfl]
    go_wp2_with fail
    go_ret
    exact ⟨by (rw [HK.out]) <;> rfl,HB1.out⟩
   by_cases h44:l=[44]
   ·have HK:=Lib.hid (show kindF l=5 by rw [hk,if_pos (.inr h44)])
    have q46:(T.toList == [46])=false:=by rw [HTL.out];simp [h44]
    have q44:(T.toList == [44])=true:=by rw [HTL.out];simp [h44]
    clear hk h44 h46
    go_enter Tryz.func18,Tryz.ntmps18
    go_wp2_with fail
    refine HC.out.mono ?_
    rintro e w1 ⟨v,rfl,ho,hb1⟩
    obtain ⟨A1,c1,rfl,_,_,hr1⟩:=own_form ho
    obtain ⟨b1,o1,rfl,hbl1⟩:=hr1.form (by rw [nums_len];simp)
    have hcell:w1.cell? ⟨b1,o1,none⟩=some (.int .i32 x):=by have:=hr1.num (k:=0) (by simp);simpa using this
    have HB1:=Lib.hid (HB.out.trans (hb1.mono HB.out.size))
    clear ho hr1 hb1
    rw [show ([x]:List Int).length=1 from rfl]
    go_wp2_with fail
    go_ret
    exact ⟨by (rw [HK.out]) <;> rfl,HB1.out⟩
   have q46:(T.toList == [46])=false:=by rw [HTL.out];simpa using h46
   have q44:(T.toList == [44])=false:=by rw [HTL.out];simpa using h44
   rw [if_neg (by simp [h46,h44])] at hk
   clear h46 h44
   by_cases h95:x=95
   ·have HK:=Lib.hid (show kindF l=3 by rw [hk,if_pos h95])
    have q95:(x == 95)=true:=by simp [h95]
    clear hk h95
    go_enter Tryz.func18,Tryz.ntmps18
    go_wp2_with fail
    refine HC.out.mono ?_
    rintro e w1 ⟨v,rfl,ho,hb1⟩
    obtain ⟨A1,c1,rfl,_,_,hr1⟩:=own_form ho
    obtain ⟨b1,o1,rfl,hbl1⟩:=hr1.form (by rw [nums_len];simp)
    have hcell:w1.cell? ⟨b1,o1,none⟩=some (.int .i32 x):=by have:=hr1.num (k:=0) (by simp);simpa using this
    have HB1:=Lib.hid (HB.out.trans (hb1.mono HB.out.size))
    clear ho hr1 hb1
    rw [show ([x]:List Int).length=1 from rfl]
    go_wp2_with fail
    go_ret
    exact ⟨by (rw [HK.out]) <;> rfl,HB1.out⟩
   have q95:(x == 95)=false:=by simpa using h95
   rw [if_neg h95] at hk
   clear h95
   have HCT:=Lib.hid (fun u=>rcat_any x u)
   generalize cat x=cx at hk HCT
   by_cases hc1:cx=1
   ·have HK:=Lib.hid (show kindF l=1 by rw [hk,if_pos hc1])
    subst hc1
    clear hk
    go_enter Tryz.func18,Tryz.ntmps18
    go_wp2_with fail
    refine HC.out.mono ?_
    rintro e w1 ⟨v,rfl,ho,hb1⟩
    obtain ⟨A1,c1,rfl,_,_,hr1⟩:=own_form ho
    obtain ⟨b1,o1,rfl,hbl1⟩:=hr1.form (by rw [nums_len];simp)
    have hcell:w1.cell? ⟨b1,o1,none⟩=some (.int .i32 x):=by have:=hr1.num (k:=0) (by simp);simpa using this
    have HB1:=Lib.hid (HB.out.trans (hb1.mono HB.out.size))
    clear ho hr1 hb1
    rw [show ([x]:List Int).length=1 from rfl]
    go_wp2_with fail
    refine (HCT.out _).mono ?_
    rintro e w4 ⟨rfl,rfl⟩
    go_wp2_with fail
    go_ret
    exact ⟨by (rw [HK.out]) <;> rfl,HB1.out⟩
   by_cases hc3:cx=3
   ·have HK:=Lib.hid (show kindF l=2 by rw [hk,if_neg hc1,if_pos hc3])
    subst hc3
    clear hk hc1
    go_enter Tryz.func18,Tryz.ntmps18
    go_wp2_with fail
    refine HC.out.mono ?_
    rintro e w1 ⟨v,rfl,ho,hb1⟩
    obtain ⟨A1,c1,rfl,_,_,hr1⟩:=own_form ho
    obtain ⟨b1,o1,rfl,hbl1⟩:=hr1.form (by rw [nums_len];simp)
    have hcell:w1.cell? ⟨b1,o1,none⟩=some (.int .i32 x):=by have:=hr1.num (k:=0) (by simp);simpa using this
    have HB1:=Lib.hid (HB.out.trans (hb1.mono HB.out.size))
    clear ho hr1 hb1
    rw [show ([x]:List Int).length=1 from rfl]
    go_wp2_with fail
    refine (HCT.out _).mono ?_
    rintro e w4 ⟨rfl,rfl⟩
    go_wp2_with fail
    go_ret
    exact ⟨by (rw [HK.out]) <;> rfl,HB1.out⟩
   have HK:=Lib.hid (show kindF l=0 by rw [hk,if_neg hc1,if_neg hc3])
   have qc1:(cx == 1)=false:=by simpa using hc1
   have qc3:(cx == 3)=false:=by simpa using hc3
   clear hk hc1 hc3
   go_enter Tryz.func18,Tryz.ntmps18
   go_wp2_with fail
   refine HC.out.mono ?_
   rintro e w1 ⟨v,rfl,ho,hb1⟩
   obtain ⟨A1,c1,rfl,_,_,hr1⟩:=own_form ho
   obtain ⟨b1,o1,rfl,hbl1⟩:=hr1.form (by rw [nums_len];simp)
   have hcell:w1.cell? ⟨b1,o1,none⟩=some (.int .i32 x):=by have:=hr1.num (k:=0) (by simp);simpa using this
   have HB1:=Lib.hid (HB.out.trans (hb1.mono HB.out.size))
   clear ho hr1 hb1
   rw [show ([x]:List Int).length=1 from rfl]
   go_wp2_with fail
   refine (HCT.out _).mono ?_
   rintro e w4 ⟨rfl,rfl⟩
   go_wp2_with fail
   go_ret
   exact ⟨by (rw [HK.out]) <;> rfl,HB1.out⟩
  ·have n1:(((n:Nat):Int) == 1)=false:=by
    rw [beq_eq_false_iff_ne,hn]
    have:rs.length≠0:=fun h=>hrs (List.length_eq_zero_iff.1 h)
    simp;omega
   have HJ:=Lib.hid (not_joint (t:=l) (fun y _ hr=>absurd (by have h1:=HX1.out;rw [hr] at h1;injection h1 with _ h1;exact h1.symm) hrs))
   clear hrs hn
   have hk:=kind_rest HX1.out HJ.out
   unfold restF at hk
   by_cases h46:l=[46]
   ·have HK:=Lib.hid (show kindF l=5 by rw [hk,if_pos (.inl h46)])
    have q46:(T.toList == [46])=true:=by rw [HTL.out];simp [h46]
    clear hk h46
    go_enter Tryz.func18,Tryz.ntmps18
    go_wp2_with fail
    refine HC.out.mono ?_
    rintro e w1 ⟨v,rfl,ho,hb1⟩
    obtain ⟨A1,c1,rfl,_,_,hr1⟩:=own_form ho
    obtain ⟨b1,o1,rfl,hbl1⟩:=hr1.form (by rw [nums_len];simp)
    have hcell:w1.cell? ⟨b1,o1,none⟩=some (.int .i32 x):=by have:=hr1.num (k:=0) (by simp);simpa using this
    have HB1:=Lib.hid (HB.out.trans (hb1.mono HB.out.size))
    clear ho hr1 hb1
    rw [←HN.out]
    go_wp2_with fail
    go_ret
    exact ⟨by (rw [HK.out]) <;> rfl,HB1.out⟩
   by_cases h44:l=[44]
   ·have HK:=Lib.hid (show kindF l=5 by rw [hk,if_pos (.inr h44)])
    have q46:(T.toList == [46])=false:=by rw [HTL.out];simp [h44]
    have q44:(T.toList == [44])=true:=by rw [HTL.out];simp [h44]
    clear hk h44 h46
    go_enter Tryz.func18,Tryz.ntmps18
    go_wp2_with fail
    refine HC.out.mono ?_
    rintro e w1 ⟨v,rfl,ho,hb1⟩
    obtain ⟨A1,c1,rfl,_,_,hr1⟩:=own_form ho
    obtain ⟨b1,o1,rfl,hbl1⟩:=hr1.form (by rw [nums_len];simp)
    have hcell:w1.cell? ⟨b1,o1,none⟩=some (.int .i32 x):=by have:=hr1.num (k:=0) (by simp);simpa using this
    have HB1:=Lib.hid (HB.out.trans (hb1.mono HB.out.size))
    clear ho hr1 hb1
    rw [←HN.out]
    go_wp2_with fail
    go_ret
    exact ⟨by (rw [HK.out]) <;> rfl,HB1.out⟩
   have q46:(T.toList == [46])=false:=by rw [HTL.out];simpa using h46
   have q44:(T.toList == [44])=false:=by rw [HTL.out];simpa using h44
   rw [if_neg (by simp [h46,h44])] at hk
   clear h46 h44
   by_cases h95:x=95
   ·have HK:=Lib.hid (show kindF l=3 by rw [hk,if_pos h95])
    have q95:(x == 95)=true:=by simp [h95]
    clear hk h95
    go_enter Tryz.func18,Tryz.ntmps18
    go_wp2_with fail
    refine HC.out.mono ?_
    rintro e w1 ⟨v,rfl,ho,hb1⟩
    obtain ⟨A1,c1,rfl,_,_,hr1⟩:=own_form ho
    obtain ⟨b1,o1,rfl,hbl1⟩:=hr1.form (by rw [nums_len];simp)
    have hcell:w1.cell? ⟨b1,o1,none⟩=some (.int .i32 x):=by have:=hr1.num (k:=0) (by simp);simpa using this
    have HB1:=Lib.hid (HB.out.trans (hb1.mono HB.out.size))
    clear ho hr1 hb1
    rw [←HN.out]
    go_wp2_with fail
    go_ret
    exact ⟨by (rw [HK.out]) <;> rfl,HB1.out⟩
   have q95:(x == 95)=false:=by simpa using h95
   rw [if_neg h95] at hk
   clear h95
   have HCT:=Lib.hid (fun u=>rcat_any x u)
   generalize cat x=cx at hk HCT
   by_cases hc1:cx=1
   ·have HK:=Lib.hid (show kindF l=1 by rw [hk,if_pos hc1])
    subst hc1
    clear hk
    go_enter Tryz.func18,Tryz.ntmps18
    go_wp2_with fail
    refine HC.out.mono ?_
    rintro e w1 ⟨v,rfl,ho,hb1⟩
    obtain ⟨A1,c1,rfl,_,_,hr1⟩:=own_form ho
    obtain ⟨b1,o1,rfl,hbl1⟩:=hr1.form (by rw [nums_len];simp)
    have hcell:w1.cell? ⟨b1,o1,none⟩=some (.int .i32 x):=by have:=hr1.num (k:=0) (by simp);simpa using this
    have HB1:=Lib.hid (HB.out.trans (hb1.mono HB.out.size))
    clear ho hr1 hb1
    rw [←HN.out]
    go_wp2_with fail
    refine (HCT.out _).mono ?_
    rintro e w4 ⟨rfl,rfl⟩
    go_wp2_with fail
    go_ret
    exact ⟨by (rw [HK.out]) <;> rfl,HB1.out⟩
   by_cases hc3:cx=3
   ·have HK:=Lib.hid (show kindF l=2 by rw [hk,if_neg hc1,if_pos hc3])
    subst hc3
    clear hk hc1
    go_enter Tryz.func18,Tryz.ntmps18
    go_wp2_with fail
    refine HC.out.mono ?_
    rintro e w1 ⟨v,rfl,ho,hb1⟩
    obtain ⟨A1,c1,rfl,_,_,hr1⟩:=own_form ho
    obtain ⟨b1,o1,rfl,hbl1⟩:=hr1.form (by rw [nums_len];simp)
    have hcell:w1.cell? ⟨b1,o1,none⟩=some (.int .i32 x):=by have:=hr1.num (k:=0) (by simp);simpa using this
    have HB1:=Lib.hid (HB.out.trans (hb1.mono HB.out.size))
    clear ho hr1 hb1
    rw [←HN.out]
    go_wp2_with fail
    refine (HCT.out _).mono ?_
    rintro e w4 ⟨rfl,rfl⟩
    go_wp2_with fail
    go_ret
    exact ⟨by (rw [HK.out]) <;> rfl,HB1.out⟩
   have HK:=Lib.hid (show kindF l=0 by rw [hk,if_neg hc1,if_neg hc3])
   have qc1:(cx == 1)=false:=by simpa using hc1
   have qc3:(cx == 3)=false:=by simpa using hc3
   clear hk hc1 hc3
   go_enter Tryz.func18,Tryz.ntmps18
   go_wp2_with fail
   refine HC.out.mono ?_
   rintro e w1 ⟨v,rfl,ho,hb1⟩
   obtain ⟨A1,c1,rfl,_,_,hr1⟩:=own_form ho
   obtain ⟨b1,o1,rfl,hbl1⟩:=hr1.form (by rw [nums_len];simp)
   have hcell:w1.cell? ⟨b1,o1,none⟩=some (.int .i32 x):=by have:=hr1.num (k:=0) (by simp);simpa using this
   have HB1:=Lib.hid (HB.out.trans (hb1.mono HB.out.size))
   clear ho hr1 hb1
   rw [←HN.out]
   go_wp2_with fail
   refine (HCT.out _).mono ?_
   rintro e w4 ⟨rfl,rfl⟩
   go_wp2_with fail
   go_ret
   exact ⟨by (rw [HK.out]) <;> rfl,HB1.out⟩
end Go.Proofs.YtdngaddggcmjgaaGreatDoor.Words
