/-
  Texts of stage 7, part 20.
-/
import Derived.Test.YtdngaddggcmjgaaDoorW3
import Derived.Test.YtdngaddggcmjgaaDoorW6
import Derived.Test.YtdngaddggcmjgaaDoorW13
import Derived.Test.YtdngaddggcmjgaaDoorW14
import Derived.Test.YtdngaddggcmjgaaDoorW16
import Derived.Test.YtdngaddggcmjgaaDoorW19
namespace Go.Proofs.YtdngaddggcmjgaaDoor.Norm
open Go.Shelf Go.RowKit Go.Sort
open Utf hiding infoI32 rd_new own_form rdec_any below_drewN new_any write_any close_any
open Ucd hiding grow same Told
def runesF (l:List UInt8):List Int:=(dec false 0 l).map fun q=>(q.r:Int)
def textF (l:List UInt8):List UInt8:=enc (normal (runesF l))
theorem runes_len (l:List UInt8):(runesF l).length≤l.length:=by
 unfold runesF
 rw [List.length_map]
 exact dec_len_le false l 0
set_option maxHeartbeats 4000000 in
set_option maxRecDepth 100000 in
theorem numbers_any (A:Option Addr) (l:List UInt8) (m c:Nat) (w:World) (hr:Rd w w.heap.size A (bys l)) (hm:l.length=m) (hc:m≤c) (hcm:c≤9223372036854775807) (hb:m≤34359738368) :
  Calls Tryd.prog 34 #[.slice A m c] w (Mine w.heap.size w (runesF l)):=by
 obtain ⟨i0,hi,hz0,hz1,hz2⟩:=info_parts infoI32
 have HD:=Lib.hid (decode_any A l m c w hr hm hc hcm (by omega))
 have hl:=dec_len_le false l 0
 rw [hm] at hl
 have HE:=Lib.hid (show runesF l=(dec false 0 l).map fun q=>(q.r:Int) from rfl)
 generalize dec false 0 l=ps at HD HE hl
 obtain ⟨B0,hB0⟩:∃B0,B0=w.heap.size:=⟨_,rfl⟩
 have HB0:=Lib.hid hB0
 rw [HE.out,←hB0]
 clear hr hm hB0
 go_enter Tryd.func34,Tryd.ntmps34
 go_wp2_with fail
 refine HD.out.mono ?_
 rintro e w1 ⟨v,rfl,ho,hb1⟩
 rw [←HB0.out] at ho hb1
 obtain ⟨A1,c1,rfl,_,_,hr1⟩:=own_form ho
 have HR1:=Lib.hid hr1
 have HB1:=Lib.hid hb1
 obtain ⟨n,hn⟩:∃n,n=ps.length:=⟨_,rfl⟩
 rw [←hn] at hl ⊢
 have HN:=Lib.hid hn
 have HW1:=Lib.hid (show B0≤w1.heap.size by have:=hb1.size;have:=HB0.out;omega)
 have HG:=Lib.hid (fun g (h:(Value.slice A1 ps.length c1).ownBlock=some g)=>ho.lt g h)
 clear ho hb1 hr1 hn HD
 go_wp2_with fail
 go_loopw [3,9] (fun vo i wr=>∃k:Nat,k≤n∧i=.int .i64 k∧Hid (wr.ownsRow w1.heap.size 21 1 vo ((ps.take k).map fun q=>(q.r:Int)).length (nums ((ps.take k).map fun q=>(q.r:Int))))∧Hid (Below w1.heap.size w1 wr)) (fun _ i _=>n - (intOf i).toNat)
 case atStart=>exact ⟨0,Nat.zero_le _,rfl,Lib.hid (World.ownsRow_nil _ _ _ _),Lib.hid (Below.refl _ _)⟩
 case round =>
  obtain ⟨k,hk,rfl,HO,HB⟩:=hrel
  by_cases hlt:k < n
  ·have hkl:k < ps.length:=by rw [←HN.out];exact hlt
   obtain ⟨b,o,rfl,hbl⟩:=HR1.out.form (by rw [pts_len];omega)
   obtain ⟨p1,p2,p3⟩:=(HR1.out.below HB.out).pt hkl
   have HT:=Lib.hid (show (ps.take (k+1)).map (fun q=>(q.r:Int))=(ps.take k).map (fun q=>(q.r:Int))++[(ps[k].r:Int)] by rw [List.take_succ_eq_append_getElem hkl,List.map_append];rfl)
   have hlen:((ps.take k).map fun q=>(q.r:Int)).length=k:=by rw [List.length_map,List.length_take];omega
   generalize (ps.take k).map (fun q=>(q.r:Int))=L at HO HT hlen
   have hbw:=HB.out.size
   rw [hlen] at HO
   have HLN:=Lib.hid hlen
   obtain ⟨x,hx⟩:∃x:Int,x=(ps[k].r:Int):=⟨_,rfl⟩
   obtain ⟨y,hy⟩:∃y:Int,y=(ps[k].p:Int):=⟨_,rfl⟩
   obtain ⟨z,hz⟩:∃z:Int,z=(ps[k].w:Int):=⟨_,rfl⟩
   rw [←hx] at p1 HT
   rw [←hy] at p2
   rw [←hz] at p3
   have hbk:k≤34359738368:=by omega
   clear hkl hx hy hz hlen hbl
   go_wp2_with (at_builtin;refine wpList_append_rd _ rfl (.tmp 13) (.tmp 16) _ rfl w1.heap.size 21 i0 _ 1 4 Tryd.underlying35 hi hz0 hz1 hz2 rfl (by decide) u3 k (nums L) rfl ((HO.out.alloc _).alloc _) _ (some ⟨wr.heap.size+1,0,none⟩) 1 1 [.int .i32 x] rfl rfl (rd_new _ _ [.int .i32 x] _ (by simp)) (nums_one [x]) (by unfold maxLen;omega) (by omega) (by simp;omega) ?_;intro v6 w6 hown6 hgr6 _)
   have HO6:=Lib.hid (show w6.ownsRow w1.heap.size 21 1 v6 ((ps.take (k+1)).map fun q=>(q.r:Int)).length (nums ((ps.take (k+1)).map fun q=>(q.r:Int))) by
    rw [HT.out,List.length_append,HLN.out,nums_append];exact hown6)
   have HB6:=Lib.hid (((HB.out.alloc hbw _).alloc (by simp;omega) _).grown hgr6 (by simp;omega) (fun g hg=>(HO.out.lt g hg).1))
   clear hown6 hgr6 HO HT
   go_roundw
   case rel=>exact ⟨k+1,by omega,by go_num,HO6,HB6⟩
   case measure=>simp [intOf];omega
  ·have HXT:=Lib.hid (show ps.take k=ps by rw [List.take_of_length_le (by rw [←HN.out];omega)])
   rw [HXT.out] at HO
   go_wp2
   go_ret
   exact ⟨u3,rfl,own_mono HO.out HW1.out,HB1.out.trans (HB.out.mono HW1.out)⟩
set_option maxHeartbeats 4000000 in
set_option maxRecDepth 100000 in
theorem rrunes_any (A:Option Addr) (l:List UInt8) (m c:Nat) (w:World) (hr:Rd w w.heap.size A (bys l)) (hm:l.length=m) (hb:m≤34359738368) :
  Calls Tryd.prog 14 #[.slice A m c] w (Mine w.heap.size w (runesF l)):=by
 obtain ⟨i0,hi,hz0,hz1,hz2⟩:=info_parts infoI32
 have HD:=Lib.hid (Utf.rdec_any A l m c false w hr hm (by omega))
 have hl:=dec_len_le false l 0
 rw [hm] at hl
 have HE:=Lib.hid (show runesF l=(dec false 0 l).map fun q=>(q.r:Int) from rfl)
 generalize dec false 0 l=ps at HD HE hl
 obtain ⟨B0,hB0⟩:∃B0,B0=w.heap.size:=⟨_,rfl⟩
 have HB0:=Lib.hid hB0
 rw [HE.out,←hB0]
 clear hr hm hB0
 go_enter Tryd.func14,Tryd.ntmps14
 go_wp2_with fail
 refine HD.out.mono ?_
 rintro e w1 ⟨v,rfl,ho,hb1⟩
 rw [←HB0.out] at ho hb1
 obtain ⟨A1,c1,rfl,_,_,hr1⟩:=own_form ho
 have HR1:=Lib.hid hr1
 have HB1:=Lib.hid hb1
 obtain ⟨n,hn⟩:∃n,n=ps.length:=⟨_,rfl⟩
 rw [←hn] at hl ⊢
 have HN:=Lib.hid hn
 have HW1:=Lib.hid (show B0≤w1.heap.size by have:=hb1.size;have:=HB0.out;omega)
 clear ho hb1 hr1 hn HD
 go_wp2_with fail
 go_loopw [3,5] (fun vo i wr=>∃k:Nat,k≤n∧i=.int .i64 k∧Hid (wr.ownsRow w1.heap.size 21 1 vo ((ps.take k).map fun q=>(q.r:Int)).length (nums ((ps.take k).map fun q=>(q.r:Int))))∧Hid (Below w1.heap.size w1 wr)) (fun _ i _=>n - (intOf i).toNat)
 case atStart=>exact ⟨0,Nat.zero_le _,rfl,Lib.hid (World.ownsRow_nil _ _ _ _),Lib.hid (Below.refl _ _)⟩
 case round =>
  obtain ⟨k,hk,rfl,HO,HB⟩:=hrel
  by_cases hlt:k < n
  ·have hkl:k < ps.length:=by rw [←HN.out];exact hlt
   obtain ⟨b,o,rfl,hbl⟩:=HR1.out.form (by rw [pts_len];omega)
   obtain ⟨p1,p2,p3⟩:=(HR1.out.below HB.out).pt hkl
   clear p2 p3
   have HT:=Lib.hid (show (ps.take (k+1)).map (fun q=>(q.r:Int))=(ps.take k).map (fun q=>(q.r:Int))++[(ps[k].r:Int)] by rw [List.take_succ_eq_append_getElem hkl,List.map_append];rfl)
   have hlen:((ps.take k).map fun q=>(q.r:Int)).length=k:=by rw [List.length_map,List.length_take];omega
   generalize (ps.take k).map (fun q=>(q.r:Int))=L at HO HT hlen
   have hbw:=HB.out.size
   rw [hlen] at HO
   have HLN:=Lib.hid hlen
   obtain ⟨x,hx⟩:∃x:Int,x=(ps[k].r:Int):=⟨_,rfl⟩
   rw [←hx] at p1 HT
   have hbk:k≤34359738368:=by omega
   clear hkl hx hlen hbl
   go_wp2_with (at_builtin;refine wpList_append_rd _ rfl (.tmp 14) (.tmp 20) _ rfl w1.heap.size 21 i0 _ 1 4 Tryd.underlying35 hi hz0 hz1 hz2 rfl (by decide) u3 k (nums L) rfl (HO.out.alloc _) _ (some ⟨wr.heap.size,0,none⟩) 1 1 [.int .i32 x] rfl rfl (rd_new _ _ [.int .i32 x] _ (by simp)) (nums_one [x]) (by unfold maxLen;omega) (by omega) (by simp;omega) ?_;intro v6 w6 hown6 hgr6 _)
   have HO6:=Lib.hid (show w6.ownsRow w1.heap.size 21 1 v6 ((ps.take (k+1)).map fun q=>(q.r:Int)).length (nums ((ps.take (k+1)).map fun q=>(q.r:Int))) by
    rw [HT.out,List.length_append,HLN.out,nums_append];exact hown6)
   have HB6:=Lib.hid ((HB.out.alloc hbw _).grown hgr6 (by simp;omega) (fun g hg=>(HO.out.lt g hg).1))
   clear hown6 hgr6 HO HT
   go_roundw
   case rel=>exact ⟨k+1,by omega,by go_num,HO6,HB6⟩
   case measure=>simp [intOf];omega
  ·have HXT:=Lib.hid (show ps.take k=ps by rw [List.take_of_length_le (by rw [←HN.out];omega)])
   rw [HXT.out] at HO
   go_wp2
   go_ret
   exact ⟨u3,rfl,own_mono HO.out HW1.out,HB1.out.trans (HB.out.mono HW1.out)⟩
theorem text_any (A:Option Addr) (l:List UInt8) (m c:Nat) (w:World) (hL:Laid w) (hr:Rd w w.heap.size A (bys l)) (hm:l.length=m) (hc:m≤c) (hcm:c≤9223372036854775807) (hb:m≤34359738368) :
  Calls Tryd.prog 19 #[.slice A m c] w (Ret w (.string ⟨(textF l).toArray⟩)):=by
 have HC:=Lib.hid (numbers_any A l m c w hr hm hc hcm hb)
 have hl:=runes_len l
 rw [hm] at hl
 have HL:=Lib.hid hL
 have HE:=Lib.hid (show textF l=enc (normal (runesF l)) from rfl)
 have hnl:(normal (runesF l)).length≤103079215104:=by have:=nf_len (fulls (runesF l));have:=fulls_len (runesF l);unfold normal;omega
 generalize runesF l=R at HC hl HE hnl
 have HN:=Lib.hid (fun (A:Option Addr) (c:Nat) (u:World) (h:Laid u) (hr:Rd u u.heap.size A (nums R))=>normal_any A R R.length c u h hr rfl (by omega))
 generalize normal R=X at HE HN hnl
 have HX:=Lib.hid hnl
 clear hL hr hm hl hnl
 go_enter Tryd.func19,Tryd.ntmps19
 go_wp2_with fail
 refine HC.out.mono ?_
 rintro e w1 ⟨v,rfl,ho,hb1⟩
 obtain ⟨A1,c1,rfl,_,_,hr1⟩:=own_form ho
 have HR1:=Lib.hid hr1
 have HB1:=Lib.hid hb1
 have HL1:=Lib.hid (HL.out.next hb1)
 clear ho hr1 hb1
 go_wp2_with fail
 refine (HN.out A1 c1 w1 HL1.out HR1.out).mono ?_
 rintro e w2 ⟨v,rfl,ho,hb2⟩
 obtain ⟨A2,c2,rfl,_,_,hr2⟩:=own_form ho
 have HR2:=Lib.hid hr2
 have HB2:=Lib.hid (HB1.out.trans (hb2.mono HB1.out.size))
 clear ho hr2 hb2
 go_wp2_with fail
 refine (encode_any A2 X X.length c2 w2 HR2.out rfl (by have:=HX.out;omega)).mono ?_
 rintro e w3 ⟨v,rfl,ho,hb3⟩
 obtain ⟨A3,c3,rfl,_,_,hr3⟩:=Utf.own_form ho
 have hcv:=conv_rd (c:=c3) hr3 rfl
 rw [←HE.out] at hcv ⊢
 have HB3:=Lib.hid (HB2.out.trans (hb3.mono HB2.out.size))
 clear ho hr3 hb3
 go_wp2_with fail
 go_ret
 exact ⟨rfl,HB3.out⟩
theorem rtext_any (A:Option Addr) (l:List UInt8) (m c:Nat) (w:World) (hr:Rd w w.heap.size A (bys l)) (hm:l.length=m) (hb:m≤34359738368) :
  Calls Tryd.prog 11 #[.slice A m c] w (Ret w (.string ⟨(textF l).toArray⟩)):=by
 have HC:=Lib.hid (rrunes_any A l m c w hr hm hb)
 have hl:=runes_len l
 rw [hm] at hl
 have HE:=Lib.hid (show textF l=enc (normal (runesF l)) from rfl)
 have hnl:(normal (runesF l)).length≤103079215104:=by have:=nf_len (fulls (runesF l));have:=fulls_len (runesF l);unfold normal;omega
 generalize runesF l=R at HC hl HE hnl
 have HN:=Lib.hid (fun (A:Option Addr) (c:Nat) (u:World) (hr:Rd u u.heap.size A (nums R))=>rnormal_any A R R.length c u hr rfl (by omega))
 generalize normal R=X at HE HN hnl
 have HX:=Lib.hid hnl
 clear hr hm hl hnl
 go_enter Tryd.func11,Tryd.ntmps11
 go_wp2_with fail
 refine HC.out.mono ?_
 rintro e w1 ⟨v,rfl,ho,hb1⟩
 obtain ⟨A1,c1,rfl,_,_,hr1⟩:=own_form ho
 have HR1:=Lib.hid hr1
 have HB1:=Lib.hid hb1
 clear ho hr1 hb1
 go_wp2_with fail
 refine (HN.out A1 c1 w1 HR1.out).mono ?_
 rintro e w2 ⟨v,rfl,ho,hb2⟩
 obtain ⟨A2,c2,rfl,_,_,hr2⟩:=own_form ho
 have HR2:=Lib.hid hr2
 have HB2:=Lib.hid (HB1.out.trans (hb2.mono HB1.out.size))
 clear ho hr2 hb2
 go_wp2_with fail
 refine (rencode_any A2 X X.length c2 w2 HR2.out rfl (by have:=HX.out;omega)).mono ?_
 rintro e w3 ⟨v,rfl,ho,hb3⟩
 obtain ⟨A3,c3,rfl,_,_,hr3⟩:=Utf.own_form ho
 have hcv:=conv_rd (c:=c3) hr3 rfl
 rw [←HE.out] at hcv ⊢
 have HB3:=Lib.hid (HB2.out.trans (hb3.mono HB2.out.size))
 clear ho hr3 hb3
 go_wp2_with fail
 go_ret
 exact ⟨rfl,HB3.out⟩
theorem rd_str (w:World) (s:ByteArray) (cap:Nat) (t:TypeId) (fr:Nat × Nat) (u:World) (hu:u=w.drew.alloc (.cells (bytesRow s cap) t fr)):Rd u u.heap.size (some ⟨w.heap.size,0,none⟩) (bys s.data.toList)∧Below w.heap.size w u:=by
 subst hu
 refine ⟨fun _=>⟨w.heap.size,0,rfl,by simp,fun j v hv=>?_⟩,(Below.refl _ _).drew.alloc (Nat.le_refl _) _⟩
 have hj:j < s.data.size:=by
  have:=(List.getElem?_eq_some_iff.1 hv).1
  simpa [bys] using this
 rw [cell_of_row (w.drew.alloc (.cells (bytesRow s cap) t fr)) w.heap.size (0+j) _ t fr (heap_alloc_new w.drew _)]
 rw [←hv,Nat.zero_add,bytesRow,Array.getElem?_append_left (by simpa using hj)]
 simp [bys]
theorem runes_any (s:ByteArray) (w:World) (hb:s.size≤34359738368):Calls Tryd.prog 18 #[.string s] w (Mine w.heap.size w (runesF s.data.toList)):=by
 have hcv:=run_bytes_of_string (P:=Tryd.prog) w 9 22 5 s Tryd.underlying9 Tryd.underlying22 Tryd.underlying5
 have hge:=grownCap_ge w s.size 0 5
 have hle:=grownCap_le_maxLen w s.size 0 5 (by unfold maxLen;omega)
 generalize grownCap w s.size 0 5=cap at hcv hge hle
 unfold maxLen at hle
 obtain ⟨u,hu⟩:∃u,u=w.drew.alloc (.cells (bytesRow s cap) 5 ((bytesRow s cap).size,(bytesRow s cap).size+1)):=⟨_,rfl⟩
 rw [←hu] at hcv
 obtain ⟨hrd,hbl⟩:=rd_str w s cap _ _ u hu
 have HC:=Lib.hid (numbers_any (some ⟨w.heap.size,0,none⟩) s.data.toList s.size cap u hrd (show s.data.toList.length=s.data.size from Array.length_toList) hge (by omega) hb)
 have HB:=Lib.hid hbl
 clear hu hrd hbl hge hle hb
 generalize runesF s.data.toList=R at HC ⊢
 go_enter Tryd.func18,Tryd.ntmps18
 go_wp2_with fail
 refine HC.out.mono ?_
 rintro e w1 ⟨v,rfl,ho,hb1⟩
 have HO:=Lib.hid ho
 have HB1:=Lib.hid hb1
 clear ho hb1
 go_wp2_with fail
 go_ret
 exact ⟨v,rfl,own_mono HO.out HB.out.size,HB.out.trans (HB1.out.mono HB.out.size)⟩
end Go.Proofs.YtdngaddggcmjgaaDoor.Norm
namespace Go.Proofs.YtdngaddggcmjgaaDoor.Norm
open Go.Shelf Go.RowKit Go.Sort
open Utf hiding infoI32 rd_new own_form rdec_any below_drewN new_any write_any close_any
open Ucd hiding grow same Told
theorem rd_lit (u:World) (t:TypeId) (fr:Nat × Nat) (cs:List Value):Rd (u.alloc (.cells cs.toArray t fr)) (u.heap.size+1) (some ⟨u.heap.size,0,none⟩) cs:=fun _ =>
 ⟨u.heap.size,0,rfl,by omega,fun j x hx=>by
  rw [cell_of_row (u.alloc (.cells cs.toArray t fr)) u.heap.size (0+j) _ t fr (heap_alloc_new u _),Nat.zero_add]
  simpa using hx⟩
end Go.Proofs.YtdngaddggcmjgaaDoor.Norm
namespace Go.Proofs.YtdngaddggcmjgaaDoor.Seg
open Utf Norm
open Ucd hiding same
section generic
variable {α β:Type} (op:α→Bool)
def gstep (s:List (List α) × List α) (q:α):List (List α) × List α:=if op q && !s.2.isEmpty then (s.1++[s.2],[q]) else (s.1,s.2++[q])
def gfold (s:List (List α) × List α) (ps:List α):List (List α) × List α:=ps.foldl (gstep op) s
def shut (s:List (List α) × List α):List (List α):=if s.2.isEmpty then s.1 else s.1++[s.2]
def cuts (ps:List α):List (List α):=shut (gfold op ([],[]) ps)
theorem gfold_nil (s:List (List α) × List α):gfold op s []=s:=rfl
theorem gfold_cons (s:List (List α) × List α) (q:α) (t:List α):gfold op s (q :: t)=gfold op (gstep op s q) t:=rfl
theorem gfold_append (s:List (List α) × List α) (a b:List α):gfold op s (a++b)=gfold op (gfold op s a) b:=List.foldl_append
theorem gfold_snoc (s:List (List α) × List α) (a:List α) (q:α):gfold op s (a++[q])=gstep op (gfold op s a) q:=by rw [gfold_append];rfl
theorem gstep_new {T:List (List α)} {O:List α} {q:α} (h:op q=true) (hO:O≠[]):gstep op (T,O) q=(T++[O],[q]):=by
 have:O.isEmpty=false:=by simpa using hO
 simp [gstep,h,this]
theorem gstep_on {T:List (List α)} {O:List α} {q:α} (h:op q=false∨O=[]):gstep op (T,O) q=(T,O++[q]):=by
 rcases h with h | h
 ·simp [gstep,h]
 ·simp [gstep,h]
theorem gstep_ne (s:List (List α) × List α) (q:α):(gstep op s q).2≠[]:=by unfold gstep;split <;> simp
theorem gstep_flat (s:List (List α) × List α) (q:α):(gstep op s q).1.flatten++(gstep op s q).2=s.1.flatten++s.2++[q]:=by unfold gstep;split <;> simp
theorem gfold_ne:∀(ps:List α) (s:List (List α) × List α),s.2≠[]→(gfold op s ps).2≠[]
 | [],_,h=>h
 | q :: t,s,_=>gfold_ne t _ (gstep_ne op s q)
theorem gfold_some {ps:List α} (h:ps≠[]) (s:List (List α) × List α):(gfold op s ps).2≠[]:=by
 cases ps with
 | nil=>exact absurd rfl h
 | cons q t=>exact gfold_ne op t _ (gstep_ne op s q)
theorem gfold_flat:∀(ps:List α) (s:List (List α) × List α),(gfold op s ps).1.flatten++(gfold op s ps).2=s.1.flatten++s.2++ps
 | [],s=>by simp [gfold_nil]
 | q :: t,s=>by rw [gfold_cons,gfold_flat t,gstep_flat];simp
theorem gstep_pre (T:List (List α)) (s:List (List α) × List α) (q:α):gstep op (T++s.1,s.2) q=(T++(gstep op s q).1,(gstep op s q).2):=by unfold gstep;simp only;split <;> simp
theorem gfold_pre (T:List (List α)):∀(ps:List α) (s:List (List α) × List α),gfold op (T++s.1,s.2) ps=(T++(gfold op s ps).1,(gfold op s ps).2)
 | [],s=>rfl
 | q :: t,s=>by rw [gfold_cons,gstep_pre,gfold_pre T t,gfold_cons]
theorem shut_pre (T:List (List α)) (s:List (List α) × List α):shut (T++s.1,s.2)=T++shut s:=by unfold shut;simp only;split <;> simp
theorem shut_flat (s:List (List α) × List α):(shut s).flatten=s.1.flatten++s.2:=by
 unfold shut
 split
 ·rename_i h;simp [List.isEmpty_iff.1 h]
 ·simp
theorem cuts_flat (ps:List α):(cuts op ps).flatten=ps:=by rw [cuts,shut_flat,gfold_flat];simp
theorem cuts_nil:cuts op []=[]:=rfl
theorem cuts_some {ps:List α} (h:ps≠[]):cuts op ps=(gfold op ([],[]) ps).1++[(gfold op ([],[]) ps).2]:=by
 have:=gfold_some op h ([],[])
 rw [cuts,shut,if_neg (by simpa using this)]
theorem cuts_open {a:List α} (ha:a≠[]) {x:α} (hx:op x=true) (b:List α):cuts op (a++x :: b)=cuts op a++cuts op (x :: b):=by
 have h:=gfold_some op ha ([],[])
 rw [cuts_some op ha,cuts,gfold_append,gfold_cons]
 obtain ⟨T,O,hs⟩:∃T O,gfold op ([],[]) a=(T,O):=⟨_,_,rfl⟩
 rw [hs] at h ⊢
 rw [gstep_new op hx h,cuts,gfold_cons,gstep_on op (.inr rfl)]
 have:=gfold_pre op (T++[O]) b ([],[x])
 rw [List.append_nil] at this
 rw [this,shut_pre]
 rfl
theorem gfold_closed:∀(t O:List α) (T:List (List α)),(∀x∈t,op x=false)→gfold op (T,O) t=(T,O++t)
 | [],O,T,_=>by simp [gfold_nil]
 | q :: t,O,T,h=>by
  rw [gfold_cons,gstep_on op (.inl (h q (by simp))),gfold_closed t _ _ fun x hx=>h x (by simp [hx])]
  simp
theorem cuts_one (q:α) (t:List α) (h:∀x∈t,op x=false):cuts op (q :: t)=[q :: t]:=by
 rw [cuts,gfold_cons,gstep_on op (.inr rfl),gfold_closed op t _ _ h];rfl
def One (g:List α):Prop:=∃q t,g=q :: t∧∀x∈t,op x=false
def Opn (g:List α):Prop:=∃q t,g=q :: t∧op q=true∧∀x∈t,op x=false
def Good (gs:List (List α)):Prop:=(∀g∈gs,One op g)∧∀g∈gs.tail,Opn op g
theorem Opn.one {g:List α} (h:Opn op g):One op g:=by obtain ⟨q,t,h1,_,h2⟩:=h;exact ⟨q,t,h1,h2⟩
theorem tail_snoc (gs:List (List α)) (g:List α) (h:gs≠[]):(gs++[g]).tail=gs.tail++[g]:=by
 cases gs with
 | nil=>exact absurd rfl h
 | cons x t=>rfl
theorem Good.snoc {gs:List (List α)} {g:List α} (h:Good op gs) (hg:Opn op g):Good op (gs++[g]):=by
 refine ⟨fun x hx=>?_,fun x hx=>?_⟩
 ·rcases List.mem_append.1 hx with hx | hx
  ·exact h.1 x hx
  ·rw [List.mem_singleton.1 hx];exact hg.one
 ·by_cases hn:gs=[]
  ·subst hn;simp at hx
  ·rw [tail_snoc gs g hn] at hx
   rcases List.mem_append.1 hx with hx | hx
   ·exact h.2 x hx
   ·rw [List.mem_singleton.1 hx];exact hg
theorem Good.unsnoc {gs:List (List α)} {g:List α} (h:Good op (gs++[g])):Good op gs∧One op g∧(gs≠[]→Opn op g):=by
 refine ⟨⟨fun x hx=>h.1 x (by simp [hx]),fun x hx=>?_⟩,h.1 g (by simp),fun hn=>h.2 g (by rw [tail_snoc gs g hn];simp)⟩
 have hn:gs≠[]:=by rintro rfl;simp at hx
 exact h.2 x (by rw [tail_snoc gs g hn];simp [hx])
theorem Good.one_ {g:List α} (h:One op g):Good op [g]:=⟨fun x hx=>by rw [List.mem_singleton.1 hx];exact h,fun x hx=>by simp at hx⟩
theorem Good.put {gs:List (List α)} {g:List α} (h:Good op gs) (h1:One op g) (h2:gs≠[]→Opn op g):Good op (gs++[g]):=by
 by_cases hn:gs=[]
 ·subst hn;exact Good.one_ op h1
 ·exact h.snoc op (h2 hn)
theorem snoc_ind {p:List α→Prop} (h0:p []) (h1:∀l x,p l→p (l++[x])) (l:List α):p l:=by
 have:∀r:List α,p r.reverse:=fun r=>by
  induction r with
  | nil=>exact h0
  | cons x t ih=>rw [List.reverse_cons];exact h1 _ _ ih
 have h:=this l.reverse
 rwa [List.reverse_reverse] at h
theorem cuts_good (ps:List α):Good op (cuts op ps):=by
 refine snoc_ind (p:=fun ps=>Good op (cuts op ps)) ⟨fun g hg=>by simp [cuts_nil] at hg,fun g hg=>by simp [cuts_nil] at hg⟩ (fun l q ih=>?_) ps
 by_cases hl:l=[]
 ·subst hl
  rw [List.nil_append,cuts_one op q [] (by simp)]
  exact Good.one_ op ⟨q,[],rfl,by simp⟩
 ·have hO:=gfold_some op hl ([],[])
  rw [cuts_some op hl] at ih
  rw [cuts_some op (by simp),gfold_snoc]
  obtain ⟨T,O,hs⟩:∃T O,gfold op ([],[]) l=(T,O):=⟨_,_,rfl⟩
  rw [hs] at ih hO ⊢
  by_cases hq:op q=true
  ·rw [gstep_new op hq hO]
   exact ih.snoc op ⟨q,[],rfl,hq,by simp⟩
  ·have hq:op q=false:=by simpa using hq
   rw [gstep_on op (.inl hq)]
   obtain ⟨g1,⟨x,t,rfl,ht⟩,g3⟩:=ih.unsnoc op
   refine g1.put op ⟨x,t++[q],rfl,fun y hy=>?_⟩ fun hT=>?_
   ·rcases List.mem_append.1 hy with hy | hy
    ·exact ht y hy
    ·rw [List.mem_singleton.1 hy];exact hq
   ·obtain ⟨x',t',e,hx',_⟩:=g3 hT
    injection e with e1 e2
    subst e1 e2
    refine ⟨x,t++[q],rfl,hx',fun y hy=>?_⟩
    rcases List.mem_append.1 hy with hy | hy
    ·exact ht y hy
    ·rw [List.mem_singleton.1 hy];exact hq
theorem good_cuts (gs:List (List α)):Good op gs→cuts op gs.flatten=gs:=by
 have key:∀r:List (List α),Good op r.reverse→cuts op r.reverse.flatten=r.reverse:=fun r=>by
  induction r with
  | nil=>exact fun _=>rfl
  | cons g t ih =>
   intro h
   rw [List.reverse_cons] at h ⊢
   obtain ⟨h1,⟨q,u,rfl,hu⟩,h3⟩:=h.unsnoc op
   rw [List.flatten_append,List.flatten_singleton]
   by_cases hn:t.reverse=[]
   ·rw [hn];exact cuts_one op q u hu
   ·obtain ⟨q',u',e,hq,_⟩:=h3 hn
    injection e with e1 e2
    subst e1
    have hf:t.reverse.flatten≠[]:=by
     cases hr:t.reverse with
     | nil=>exact absurd hr hn
     | cons a b =>
      obtain ⟨y,v,hy,_⟩:=h1.1 a (by rw [hr];simp)
      rw [hy];simp
    rw [cuts_open op hf hq,ih h1,cuts_one op q u hu]
 intro h
 have:=key gs.reverse
 rw [List.reverse_reverse] at this
 exact this h
theorem cuts_group {ps g:List α} (h:g∈cuts op ps):∃q t,g=q :: t:=by
 obtain ⟨q,t,h,_⟩:=(cuts_good op ps).1 g h;exact ⟨q,t,h⟩
end generic
section maps
variable {α β:Type} {op:α→Bool} {op':β→Bool} (f:α→β) (hf:∀q,op' (f q)=op q)
include hf
theorem gstep_map (s:List (List α) × List α) (q:α):gstep op' (s.1.map (List.map f),s.2.map f) (f q)=((gstep op s q).1.map (List.map f),(gstep op s q).2.map f):=by
 have e:(s.2.map f).isEmpty=s.2.isEmpty:=by simp
 simp only [gstep,hf,e]
 split <;> simp
theorem gfold_map:∀(ps:List α) (s:List (List α) × List α),gfold op' (s.1.map (List.map f),s.2.map f) (ps.map f)=((gfold op s ps).1.map (List.map f),(gfold op s ps).2.map f)
 | [],s=>rfl
 | q :: t,s=>by rw [List.map_cons,gfold_cons,gstep_map f hf,gfold_map t,gfold_cons]
theorem cuts_map (ps:List α):cuts op' (ps.map f)=(cuts op ps).map (List.map f):=by
 have h:=gfold_map f hf ps ([],[])
 have e:(([],[]):List (List β) × List β)=((([],[]):List (List α) × List α).1.map (List.map f),(([],[]):List (List α) × List α).2.map f):=rfl
 rw [cuts,e,h,cuts]
 unfold shut
 simp only [List.isEmpty_map]
 split <;> simp
end maps
section limit
variable {α:Type} (op:α→Bool) (f:List α→Nat) (L:Nat)
def go:List (List α)→List α→List α→List (List α) × List α × Bool
 | T,O,[]=>(T,O,false)
 | T,O,q :: t=>if L < f (gstep op (T,O) q).2 then ((gstep op (T,O) q).1,(gstep op (T,O) q).2,true) else go (gstep op (T,O) q).1 (gstep op (T,O) q).2 t
theorem go_append:∀(a b:List α) (T:List (List α)) (O:List α),
  go op f L T O (a++b)=if (go op f L T O a).2.2 then go op f L T O a else go op f L (go op f L T O a).1 (go op f L T O a).2.1 b
 | [],b,T,O=>rfl
 | q :: t,b,T,O=>by
  simp only [List.cons_append,go]
  split
  ·simp
  ·exact go_append t b _ _
theorem go_snoc (a:List α) (q:α) (T:List (List α)) (O:List α) {T':List (List α)} {O':List α} (h:go op f L T O a=(T',O',false)) :
  go op f L T O (a++[q])=((gstep op (T',O') q).1,(gstep op (T',O') q).2,decide (L < f (gstep op (T',O') q).2)):=by
 rw [go_append,h]
 simp only [Bool.false_eq_true,if_false,go]
 split <;> simp_all
theorem go_pre (X:List (List α)):∀(a:List α) (T:List (List α)) (O:List α),go op f L (X++T) O a=(X++(go op f L T O a).1,(go op f L T O a).2)
 | [],T,O=>rfl
 | q :: t,T,O=>by
  have h:=gstep_pre op X (T,O) q
  simp only at h
  simp only [go,h]
  split
  ·rfl
  ·exact go_pre X t _ _
theorem go_false:∀(a:List α) (T:List (List α)) (O:List α) {T':List (List α)} {O':List α},go op f L T O a=(T',O',false) →
  gfold op (T,O) a=(T',O')∧((∀g∈shut (T,O),f g≤L)→∀g∈shut (T',O'),f g≤L)
 | [],T,O,T',O',h=>by simp only [go,Prod.mk.injEq,and_true] at h;obtain ⟨rfl,rfl⟩:=h;exact ⟨rfl,id⟩
 | q :: t,T,O,T',O',h=>by
  simp only [go] at h
  split at h
  ·simp at h
  ·rename_i hl
   obtain ⟨h1,h2⟩:=go_false t _ _ h
   refine ⟨h1,fun hg=>h2 fun g hg'=>?_⟩
   have hne:=gstep_ne op (T,O) q
   unfold shut at hg' hg
   rw [if_neg (by simpa using hne)] at hg'
   rcases List.mem_append.1 hg' with h | h
   ·by_cases hO:O=[]
    ·subst hO
     rw [gstep_on op (.inr rfl)] at h
     exact hg g (by simpa using h)
    ·rw [if_neg (by simpa using hO)] at hg
     unfold gstep at h
     split at h
     ·exact hg g h
     ·exact hg g (by simp at h ⊢;exact .inl h)
   ·rw [List.mem_singleton.1 h];exact Nat.le_of_not_lt hl
theorem go_true:∀(a:List α) (T:List (List α)) (O:List α) {T':List (List α)} {O':List α},go op f L T O a=(T',O',true) →
  ∃b q c,a=b++q :: c∧∃T1 O1,go op f L T O b=(T1,O1,false)∧gstep op (T1,O1) q=(T',O')∧L < f O'
 | [],T,O,T',O',h=>by simp [go] at h
 | q :: t,T,O,T',O',h=>by
  simp only [go] at h
  split at h
  ·rename_i hl
   simp only [Prod.mk.injEq,and_true] at h
   obtain ⟨h1,h2⟩:=h
   exact ⟨[],q,t,rfl,T,O,rfl,by rw [←h1,←h2],by rw [←h2];exact hl⟩
  ·rename_i hl
   obtain ⟨b,q',c,rfl,T1,O1,h1,h2,h3⟩:=go_true t _ _ h
   exact ⟨q :: b,q',c,rfl,T1,O1,by simp only [go];rw [if_neg hl];exact h1,h2,h3⟩
def okG (gs:List (List α)):List (List α):=gs.takeWhile fun g=>decide (f g≤L)
def badG (gs:List (List α)):Bool:=gs.any fun g=>decide (L < f g)
theorem okG_all {gs:List (List α)} (h:∀g∈gs,f g≤L):okG f L gs=gs∧badG f L gs=false:=by
 refine ⟨?_,?_⟩
 ·have:=List.takeWhile_append_of_pos (p:=fun g=>decide (f g≤L)) (l₁:=gs) (l₂:=[]) (fun g hg=>by simpa using h g hg)
  simpa [okG] using this
 ·unfold badG;rw [List.any_eq_false];intro g hg;have:=h g hg;simp;omega
theorem okG_stop {gs:List (List α)} (h:∀g∈gs,f g≤L) {x:List α} (hx:L < f x) (r:List (List α)):okG f L (gs++x :: r)=gs∧badG f L (gs++x :: r)=true:=by
 refine ⟨?_,?_⟩
 ·unfold okG
  rw [List.takeWhile_append_of_pos (fun g hg=>by simpa using h g hg),List.takeWhile_cons_of_neg (by simp;omega),List.append_nil]
 ·unfold badG;rw [List.any_append,List.any_cons];simp [hx]
theorem gfold_grows (b:List α):∀(T:List (List α)) (O:List α),O≠[]→∃m r,shut (gfold op (T,O) b)=T++(O++m) :: r:=by
 induction b with
 | nil=>intro T O hO;exact ⟨[],[],by simp [gfold_nil,shut,hO]⟩
 | cons q t ih =>
  intro T O hO
  rw [gfold_cons]
  by_cases hq:op q=true
  ·rw [gstep_new op hq hO]
   obtain ⟨m,r,h⟩:=ih (T++[O]) [q] (by simp)
   exact ⟨[],([q]++m) :: r,by rw [h];simp⟩
  ·have hq:op q=false:=by simpa using hq
   rw [gstep_on op (.inl hq)]
   obtain ⟨m,r,h⟩:=ih T (O++[q]) (by simp)
   exact ⟨[q]++m,r,by rw [h];simp⟩
variable (hm:∀a b,f a≤f (a++b))
include hm
theorem go_all {a:List α} {T:List (List α)} {O:List α} {b:Bool} (h:go op f L [] [] a=(T,O,b)) :
  (b=false→shut (T,O)=cuts op a∧gfold op ([],[]) a=(T,O)∧∀g∈cuts op a,f g≤L)∧(b=true→∀c,okG f L (cuts op (a++c))=T∧badG f L (cuts op (a++c))=true):=by
 refine ⟨?_,?_⟩
 ·rintro rfl
  obtain ⟨h1,h2⟩:=go_false op f L a [] [] h
  have e:shut (T,O)=cuts op a:=by rw [←h1];rfl
  exact ⟨e,h1,fun g hg=>h2 (fun g hg=>by simp [shut] at hg) g (e ▸ hg)⟩
 ·rintro rfl c
  obtain ⟨x,q,y,rfl,T1,O1,h1,h2,h3⟩:=go_true op f L a [] [] h
  obtain ⟨g1,g2⟩:=go_false op f L x [] [] h1
  have hsh:=g2 (fun g hg=>by simp [shut] at hg)
  have hT:∀g∈T,f g≤L:=fun g hg=>by
   by_cases hO:O1=[]
   ·subst hO
    rw [gstep_on op (.inr rfl)] at h2
    injection h2 with e1 _
    subst e1
    exact hsh g (by simpa [shut] using hg)
   ·have hs:shut (T1,O1)=T1++[O1]:=by simp [shut,hO]
    rw [hs] at hsh
    unfold gstep at h2
    split at h2
    ·injection h2 with e1 _
     subst e1
     exact hsh g hg
    ·injection h2 with e1 _
     subst e1
     exact hsh g (by simp [hg])
  have hO:O≠[]:=by have:=gstep_ne op (T1,O1) q;rw [h2] at this;exact this
  obtain ⟨m,r,hs⟩:=gfold_grows op (y++c) T O hO
  have e:cuts op (x++q :: y++c)=T++(O++m) :: r:=by
   rw [cuts,List.append_assoc,List.cons_append,gfold_append,g1,gfold_cons,h2];exact hs
  rw [e]
  exact okG_stop f L hT (Nat.lt_of_lt_of_le h3 (hm O m)) r
end limit
end Go.Proofs.YtdngaddggcmjgaaDoor.Seg
namespace Go.Proofs.YtdngaddggcmjgaaDoor.Seg
open Utf Norm
open Ucd hiding same
def opP (q:Pt):Bool:=opn (q.r:Int)
def runs (g:List Pt):List Int:=g.map fun q=>(q.r:Int)
def flen (g:List Pt):Nat:=(fulls (runs g)).length
def str (l:List UInt8):ByteArray:=⟨l.toArray⟩
def beg (g:List Pt):Nat:=(g.head?.map fun q=>q.p).getD 0
def fin (g:List Pt):Nat:=(g.getLast?.map fun q=>q.p+q.w).getD 0
structure Sg where
 t:ByteArray
 a:Nat
 e:Nat
def saysN (R:List Int):ByteArray:=str (enc (normal R))
def says (g:List Pt):ByteArray:=saysN (runs g)
def sgOf (g:List Pt):Sg:=⟨says g,beg g,fin g⟩
def grp (ps:List Pt):List (List Pt):=cuts opP ps
theorem runs_append (a b:List Pt):runs (a++b)=runs a++runs b:=List.map_append
theorem flen_append (a b:List Pt):flen (a++b)=flen a+flen b:=by rw [flen,runs_append,fulls_append,List.length_append];rfl
theorem flen_grows (a b:List Pt):flen a≤flen (a++b):=by rw [flen_append];omega
theorem flen_le (g:List Pt):flen g≤3*g.length:=by have:=fulls_len (runs g);rw [runs,List.length_map] at this;exact this
theorem flen_pos {g:List Pt} (h:g≠[]):1≤flen g:=by
 cases g with
 | nil=>exact absurd rfl h
 | cons q t=>have:=full_some (q.r:Int);rw [flen,runs,List.map_cons,fulls_cons,List.length_append];omega
theorem normal_len (R:List Int):(normal R).length=(fulls R).length:=nf_len _
theorem normal_fulls (R:List Int):normal (fulls R)=normal R:=by rw [normal,fulls_self (fulls_bottom R)];rfl
theorem grp_runs (ps:List Pt):cuts opn (runs ps)=(grp ps).map runs:=cuts_map (fun q:Pt=>(q.r:Int)) (fun _=>rfl) ps
theorem full_opn (r:Int):∃x t,fullF r=x :: t∧opn x=opn r∧∀y∈t,opn y=false:=by
 obtain ⟨h1,_,_,h4,h5⟩:=bottom_parts r
 cases h:fullF r with
 | nil=>rw [h] at h1;simp at h1
 | cons x t=>rw [h] at h4 h5;exact ⟨x,t,rfl,h5,h4⟩
theorem opn_cls {x:Int} (h:opn x=true) (hb:(pairF x).2.2=0):cls x=0:=by
 have e:fullF x=[x]:=full_self hb
 have:opn x=(cls (fstF x) == 0 && !trl (fstF x)):=rfl
 rw [h,fstF,e] at this
 simp only [List.headD_cons] at this
 simpa using ((Bool.and_eq_true _ _).mp this.symm).1
theorem fulls_closed:∀{t:List Int},(∀x∈t,opn x=false)→∀x∈fulls t,opn x=false
 | [],_,x,hx=>by simp [fulls] at hx
 | r :: t,h,x,hx=>by
  rw [fulls_cons] at hx
  rcases List.mem_append.1 hx with hx | hx
  ·obtain ⟨y,u,e,h1,h2⟩:=full_opn r
   rw [e] at hx
   rcases List.mem_cons.1 hx with rfl | hx
   ·rw [h1];exact h r (by simp)
   ·exact h2 x hx
  ·exact fulls_closed (t:=t) (fun y hy=>h y (by simp [hy])) x hx
theorem normal_some {R:List Int} (h:R≠[]):normal R≠[]:=by
 intro e
 have:=normal_len R
 rw [e] at this
 cases R with
 | nil=>exact h rfl
 | cons r t=>have:=full_some r;rw [fulls_cons] at *;simp at *;omega
theorem normal_opn {R:List Int} (h:Opn opn R):Opn opn (normal R):=by
 obtain ⟨q,t,rfl,hq,ht⟩:=h
 obtain ⟨x,u,e,h1,h2⟩:=full_opn q
 have hx:opn x=true:=h1.trans hq
 have hb:(pairF x).2.2=0:=fulls_bottom (q :: t) x (by rw [fulls_cons,e];simp)
 have hn:normal (q :: t)=x :: nf (u++fulls t):=by
  rw [normal,fulls_cons,e,List.cons_append,nf,nfm_start [] _ (opn_cls hx hb)];rfl
 rw [hn]
 refine ⟨x,_,rfl,hx,fun y hy=>?_⟩
 rcases List.mem_append.1 ((mem_nf _).1 hy) with hy | hy
 ·exact h2 y hy
 ·exact fulls_closed ht y hy
theorem normal_one {R:List Int} (h:One opn R):One opn (normal R):=by
 obtain ⟨q,t,rfl,ht⟩:=h
 by_cases hq:opn q=true
 ·exact (normal_opn ⟨q,t,rfl,hq,ht⟩).one
 ·have hc:∀x∈normal (q :: t),opn x=false:=fun x hx=>by
   refine fulls_closed (t:=q :: t) (fun y hy=>?_) x ((mem_nf _).1 hx)
   rcases List.mem_cons.1 hy with rfl | hy
   ·simpa using hq
   ·exact ht y hy
  cases hn:normal (q :: t) with
  | nil=>exact absurd hn (normal_some (by simp))
  | cons y u=>rw [hn] at hc;exact ⟨y,u,rfl,fun z hz=>hc z (by simp [hz])⟩
theorem good_normal (gs:List (List Int)):Good opn gs→normal gs.flatten=(gs.map normal).flatten∧Good opn (gs.map normal):=by
 refine snoc_ind (p:=fun gs=>Good opn gs→normal gs.flatten=(gs.map normal).flatten∧Good opn (gs.map normal)) (fun _=>⟨rfl,fun g hg=>by simp at hg,fun g hg=>by simp at hg⟩) (fun gs g ih h=>?_) gs
 obtain ⟨h1,h2,h3⟩:=h.unsnoc opn
 obtain ⟨i1,i2⟩:=ih h1
 rw [List.map_append,List.map_singleton,List.flatten_append,List.flatten_append,List.flatten_singleton,List.flatten_singleton]
 refine ⟨?_,i2.put opn (normal_one h2) fun hn=>normal_opn (h3 (by rintro rfl;exact hn rfl))⟩
 by_cases hn:gs=[]
 ·subst hn;simp
 ·obtain ⟨q,t,rfl,hq,_⟩:=h3 hn
  rw [normal_cut _ _ _ hq,i1]
theorem normal_flat (R:List Int):normal R=((cuts opn R).map normal).flatten:=by
 have h:=(good_normal _ (cuts_good opn R)).1
 rwa [cuts_flat] at h
theorem cuts_normal (R:List Int):cuts opn (normal R)=(cuts opn R).map normal:=by
 have h:=good_cuts opn _ (good_normal _ (cuts_good opn R)).2
 rwa [←normal_flat] at h
theorem full_vld (r:Int):vld r=true→(fullF r).all vld=true:=by
 refine kinds (fun r=>vld r=true→(fullF r).all vld=true) (fun r h hv=>by rw [fullF,full_plain 3 h];simp [hv]) (by decide +kernel) (fun s h0 h1 _=>?_) (by decide +kernel) r
 have v1:vld (4352+s / 588)=true:=(vld_iff _).2 (by omega)
 have v2:vld (4449+s % 588 / 28)=true:=(vld_iff _).2 (by omega)
 have v3:vld (4519+s % 28)=true:=(vld_iff _).2 (by omega)
 by_cases hz:s % 28=0
 ·rw [fullF,full_open 2 h0 h1 hz];simp [v1,v2]
 ·rw [fullF,full_closed 1 h0 h1 hz];simp [v1,v2,v3]
theorem normal_vld {R:List Int} (h:∀x∈R,vld x=true):∀x∈normal R,vld x=true:=fun x hx=>by
 obtain ⟨r,hr,hx⟩:=List.mem_flatMap.1 ((mem_nf _).1 hx)
 exact List.all_eq_true.1 (full_vld r (h r hr)) x hx
theorem dec_vld (o:Bool) (l:List UInt8):∀k,∀q∈dec o k l,vld (q.r:Int)=true:=by
 refine pieces (P:=fun l=>∀k,∀q∈dec o k l,vld (q.r:Int)=true) (fun k q h=>by simp [dec_nil] at h) (fun l hl ih k q h=>?_) l
 rw [dec_cons o k hl] at h
 split at h
 ·simp at h
 ·rcases List.mem_cons.1 h with rfl | h
  ·exact (vld_pt (rune_pt hl)).1
  ·exact ih _ q h
theorem runes_vld (l:List UInt8):∀x∈runesF l,vld x=true:=fun x hx=>by
 obtain ⟨q,hq,rfl⟩:=List.mem_map.1 hx
 exact dec_vld false l 0 q hq
theorem fix_vld {x:Int} (h:vld x=true):(fix x:Int)=x:=by
 have:=(vld_iff x).1 h
 unfold fix;rw [if_pos h];omega
theorem runes_enc {l:List Int} (h:∀x∈l,vld x=true):runesF (enc l)=l:=by
 obtain ⟨h1,h2⟩:=dec_enc l 0
 refine List.ext_getElem (by simp [runesF,h1]) fun i hi hj=>?_
 have h3:=h2 i hj
 have hi':i < (dec false 0 (enc l)).length:=by rw [h1];exact hj
 rw [List.getElem?_eq_getElem hi',Option.map_some,Option.some.injEq] at h3
 simp only [runesF,List.getElem_map,h3]
 exact fix_vld (h _ (List.getElem_mem hj))
theorem runes_enc_len (l:List Int):(runesF (enc l)).length=l.length:=by rw [runesF,List.length_map];exact (dec_enc l 0).1
theorem runes_text (l:List UInt8):runesF (textF l)=normal (runesF l):=runes_enc (normal_vld (runes_vld l))
theorem text_text (l:List UInt8):textF (textF l)=textF l:=by rw [textF,runes_text,normal_normal];rfl
theorem text_eq {a b:List UInt8} (h:textF a=textF b):normal (runesF a)=normal (runesF b):=by rw [←runes_text,←runes_text,h]
theorem enc_append (a b:List Int):enc (a++b)=enc a++enc b:=List.flatMap_append
theorem enc_flat (gs:List (List Int)):enc gs.flatten=(gs.map enc).flatten:=by
 induction gs with
 | nil=>rfl
 | cons g t ih=>rw [List.flatten_cons,enc_append,ih];rfl
theorem runes_dec (l:List UInt8):runesF l=runs (dec false 0 l):=rfl
def ww (ps:List Pt):Nat:=(ps.map fun q=>q.w).sum
def Tile:Nat→List Pt→Prop
 | _,[]=>True
 | k,q :: t=>q.p=k∧1≤q.w∧Tile (k+q.w) t
theorem ww_nil:ww []=0:=rfl
theorem ww_cons (q:Pt) (t:List Pt):ww (q :: t)=q.w+ww t:=by simp [ww]
theorem ww_append (a b:List Pt):ww (a++b)=ww a+ww b:=by simp [ww]
theorem tile_append:∀{a b:List Pt} {k:Nat},Tile k (a++b)↔Tile k a∧Tile (k+ww a) b
 | [],b,k=>by simp [Tile,ww_nil]
 | q :: t,b,k=>by simp only [List.cons_append,Tile,tile_append (a:=t),ww_cons,Nat.add_assoc];exact ⟨fun ⟨h1,h2,h3,h4⟩=>⟨⟨h1,h2,h3⟩,h4⟩,fun ⟨⟨h1,h2,h3⟩,h4⟩=>⟨h1,h2,h3,h4⟩⟩
theorem dec_tile (o:Bool) (l:List UInt8):∀k,Tile k (dec o k l):=by
 refine pieces (P:=fun l=>∀k,Tile k (dec o k l)) (fun k=>trivial) (fun l hl ih k=>?_) l
 rw [dec_cons o k hl]
 split
 ·trivial
 ·exact ⟨rfl,wid_pos hl,ih _⟩
theorem ww_eat (l:List UInt8):∀k,ww (dec true k l)=eat l:=by
 refine pieces (P:=fun l=>∀k,ww (dec true k l)=eat l) (fun k=>rfl) (fun l hl ih k=>?_) l
 cases hm:more l with
 | true=>rw [dec_stop hl hm,eat_stop hl hm];rfl
 | false=>rw [dec_step true k hl (by simp [hm]),eat_step hl hm,ww_cons,ih]
theorem ww_all (l:List UInt8):∀k,ww (dec false k l)=l.length:=by
 refine pieces (P:=fun l=>∀k,ww (dec false k l)=l.length) (fun k=>rfl) (fun l hl ih k=>?_) l
 rw [dec_step false k hl (by simp),ww_cons,ih,List.length_drop]
 have:=wid_le l
 show wid l+_=_
 omega
theorem tile_beg {k:Nat} {g:List Pt} (h:Tile k g) (hg:g≠[]):beg g=k:=by
 cases g with
 | nil=>exact absurd rfl hg
 | cons q t=>exact h.1
theorem fin_snoc (g:List Pt) (q:Pt):fin (g++[q])=q.p+q.w:=by simp [fin]
theorem beg_snoc {g:List Pt} (hg:g≠[]) (q:Pt):beg (g++[q])=beg g:=by
 cases g with
 | nil=>exact absurd rfl hg
 | cons x t=>rfl
theorem tile_fin {k:Nat} {g:List Pt} (h:Tile k g) (hg:g≠[]):fin g=k+ww g:=by
 refine snoc_ind (p:=fun g=>Tile k g→g≠[]→fin g=k+ww g) (fun _ h=>absurd rfl h) (fun l q _ h _=>?_) g h hg
 rw [fin_snoc,ww_append,ww_cons,ww_nil]
 have:=(tile_append.1 h).2.1
 omega
theorem tile_len:∀{k:Nat} {g:List Pt},Tile k g→g.length≤ww g
 | _,[],_=>Nat.le_refl _
 | k,q :: t,h=>by have:=tile_len h.2.2;rw [ww_cons,List.length_cons];have:=h.2.1;omega
theorem run_take (l:List UInt8):∀(k n a b m:Nat),run k n a b l≤k+m→run k n a b (l.take m)=run k n a b l:=by
 induction l with
 | nil=>intro k n a b m _;simp
 | cons c t ih =>
  intro k n a b m h
  cases m with
  | zero =>
   have:=run_ge (c :: t) k n a b
   have e:run k n a b (c :: t)=k:=by omega
   rw [e]
   rfl
  | succ m =>
   simp only [List.take_succ_cons,run] at h ⊢
   split
   ·rename_i hc
    rw [if_pos hc] at h
    exact ih _ _ _ _ _ (by omega)
   ·rfl
theorem wid_take {l:List UInt8} (hl:l≠[]) {n:Nat} (h:wid l≤n):wid (l.take n)=wid l∧nd (l.take n)=nd l∧rune (l.take n)=rune l∧l.take n≠[]:=by
 cases l with
 | nil=>exact absurd rfl hl
 | cons c t =>
  have hp:=wid_pos hl
  cases n with
  | zero=>omega
  | succ n =>
   have hw:wid (c :: t.take n)=wid (c :: t):=run_take t _ _ _ _ n (by simp only [wid] at h;omega)
   refine ⟨hw,rfl,?_,by simp⟩
   rw [List.take_succ_cons]
   unfold rune
   rw [hw]
   have e:(c :: t.take n).take (wid (c :: t))=(c :: t).take (wid (c :: t)):=by
    rw [←List.take_succ_cons,List.take_take,Nat.min_eq_left h]
   rw [e]
   rfl
theorem dec_cut:∀(a b:List Pt) (l:List UInt8) (k:Nat),dec false k l=a++b→dec false (k+ww a) (l.drop (ww a))=b∧dec false k (l.take (ww a))=a
 | [],b,l,k,h=>by simp [ww_nil,dec_nil];exact h
 | q :: t,b,l,k,h=>by
  have hl:l≠[]:=by rintro rfl;simp [dec_nil] at h
  rw [dec_step false k hl (by simp),List.cons_append] at h
  injection h with h1 h2
  have hw:q.w=wid l:=by rw [←h1]
  obtain ⟨i1,i2⟩:=dec_cut t b _ _ h2
  have hle:wid l≤ww (q :: t):=by rw [ww_cons];omega
  obtain ⟨t1,t2,t3,t4⟩:=wid_take hl hle
  refine ⟨?_,?_⟩
  ·rw [ww_cons,hw,←Nat.add_assoc,←i1,List.drop_drop]
  ·rw [dec_step false k t4 (by simp),t1,t3,h1]
   congr 1
   rw [List.drop_take,ww_cons,hw,Nat.add_sub_cancel_left]
   exact i2
theorem dec_runs (o:Bool) (l:List UInt8):∀k j,runs (dec o k l)=runs (dec o j l):=by
 refine pieces (P:=fun l=>∀k j,runs (dec o k l)=runs (dec o j l)) (fun k j=>rfl) (fun l hl ih k j=>?_) l
 rw [dec_cons o k hl,dec_cons o j hl]
 split
 ·rfl
 ·have:=ih (k+wid l) (j+wid l)
  simp only [runs,List.map_cons] at this ⊢
  rw [this]
theorem piece_text {l:List UInt8} {a g b:List Pt} (h:dec false 0 l=a++g++b):textF ((l.drop (ww a)).take (ww g))=enc (normal (runs g)):=by
 rw [List.append_assoc] at h
 obtain ⟨h1,_⟩:=dec_cut _ _ _ _ h
 obtain ⟨_,h3⟩:=dec_cut _ _ _ _ h1
 rw [textF,runes_dec,dec_runs false _ 0 (0+ww a),h3]
theorem more_ascii {l:List UInt8} {c:UInt8} (hc:c.toNat < 128):more (l++[c])=false:=by
 cases hm:more (l++[c]) with
 | false=>rfl
 | true =>
  obtain ⟨h1,h2,h3,_⟩:=more_short hm
  by_cases hl:l=[]
  ·subst hl
   have:nd [c]=1:=by simp [nd,need,hc]
   rw [List.nil_append] at h2 h3
   rw [this,h2] at h3
   simp at h3
  ·cases l with
   | nil=>exact absurd rfl hl
   | cons d t =>
    exfalso
    rw [List.cons_append] at h2 h3
    simp only [wid,nd,List.length_cons,List.length_append,List.length_nil] at h2 h3
    have hlo:128≤lo d.toNat:=by
     unfold lo;split;· omega
     ·split <;> omega
    have:=run_stop c hc t 1 (need d.toNat) (lo d.toNat) (hi d.toNat) hlo
    have h4:=run_le (t++[c]) 1 (need d.toNat) (lo d.toNat) (hi d.toNat)
    have h5:run 1 (need d.toNat) (lo d.toNat) (hi d.toNat) t=1+t.length→False:=fun e=>by
     have:=this e;omega
    have h6:run 1 (need d.toNat) (lo d.toNat) (hi d.toNat) (t++[c])=run 1 (need d.toNat) (lo d.toNat) (hi d.toNat) t:=by
     refine run_append t [c] _ _ _ _ (.inr ?_)
     have:=run_le t 1 (need d.toNat) (lo d.toNat) (hi d.toNat)
     omega
    rw [h6] at h2
    have:=run_le t 1 (need d.toNat) (lo d.toNat) (hi d.toNat)
    omega
theorem eat_ascii (l:List UInt8) (c:UInt8) (hc:c.toNat < 128):eat (l++[c])=(l++[c]).length:=by
 have hle:=eat_le (l++[c])
 rcases rest_more (l++[c]) with h | h
 ·have:=congrArg List.length h;rw [List.length_drop] at this;simp only [List.length_nil] at this;omega
 ·exfalso
  by_cases hn:eat (l++[c])≤l.length
  ·rw [List.drop_append_of_le_length hn] at h
   rw [more_ascii hc] at h;cases h
  ·have:(l++[c]).drop (eat (l++[c]))=[]:=List.drop_of_length_le (by rw [List.length_append,List.length_singleton];omega)
   rw [this] at h
   simp [more,wid,nd] at h
end Go.Proofs.YtdngaddggcmjgaaDoor.Seg
namespace Go.Proofs.YtdngaddggcmjgaaDoor.Words
open Utf Norm Seg
open Ucd hiding same
def foldsF (l:List Int):List Int:=l.flatMap foldF
theorem folds_append (a b:List Int):foldsF (a++b)=foldsF a++foldsF b:=List.flatMap_append
theorem shf_out {r:Int}:∀{rows:List (Int × Int × Int × Int)},(∀x∈rows,¬(x.1≤r∧r≤x.2.1))→shf rows r=r:=by
 intro rows
 induction rows with
 | nil=>intro _;rfl
 | cons x t ih =>
  intro h
  have h0:=h x (by simp)
  rw [shf,if_neg (fun hh=>h0 ⟨hh.1,hh.2.1⟩),ih fun y hy=>h y (by simp [hy])]
def okF (r:Int):Bool:=(pairF r).2.2 != 0 || (foldF r).all fun f=>vld f && (fullF f).all fun x=>foldF x == [x]
def okV (r:Int):Bool:=!vld r || (foldF r).all vld
def spec:List Int:=[223,7838,304,215,930,181,376,383,837,902,962,8486,8490,8491]
theorem fold_rows:∀x∈shRows,∀i < 150,x.1+(i:Nat)≤x.2.1→okF (x.1+(i:Nat))=true∧okV (x.1+(i:Nat))=true:=by decide +kernel
theorem fold_spec:∀r∈spec,okF r=true∧okV r=true:=by decide +kernel
theorem rows_len:∀x∈shRows,x.2.1 < x.1+150:=by decide +kernel
theorem fold_self {r:Int} (h1:r∉spec) (h2:∀x∈shRows,¬(x.1≤r∧r≤x.2.1)):foldF r=[r]:=by
 simp only [spec,List.mem_cons,List.not_mem_nil,or_false,not_or] at h1
 unfold foldF
 rw [if_neg (by omega),if_neg (by omega)]
 unfold foldA
 rw [shf_out h2]
 repeat rw [if_neg (by omega)]
theorem fold_kinds (r:Int):(okF r=true∧okV r=true)∨foldF r=[r]:=by
 by_cases hs:r∈spec
 ·exact .inl (fold_spec r hs)
 by_cases hr:∃y∈shRows,y.1≤r∧r≤y.2.1
 ·obtain ⟨y,hy,ha,hb⟩:=hr
  have hl:=rows_len y hy
  have:=fold_rows y hy (r - y.1).toNat (by omega) (by omega)
  rw [show y.1+(((r - y.1).toNat:Nat):Int)=r from by omega] at this
  exact .inl this
 ·exact .inr (fold_self hs fun y hy h=>hr ⟨y,hy,h⟩)
theorem fold_vld {r:Int} (h:vld r=true):∀f∈foldF r,vld f=true:=fun f hf=>by
 rcases fold_kinds r with ⟨_,h2⟩ | h2
 ·simp only [okV,h,Bool.not_true,Bool.false_or,List.all_eq_true] at h2
  exact h2 f hf
 ·rw [h2] at hf;rw [List.mem_singleton.1 hf];exact h
theorem folds_vld {l:List Int} (h:∀x∈l,vld x=true):∀x∈foldsF l,vld x=true:=fun x hx=>by
 obtain ⟨r,hr,hx⟩:=List.mem_flatMap.1 hx
 exact fold_vld (h r hr) x hx
theorem fold_deep {r:Int} (h:(pairF r).2.2=0):∀f∈foldF r,∀x∈fullF f,foldF x=[x]:=fun f hf x hx=>by
 rcases fold_kinds r with ⟨h2,_⟩ | h2
 ·simp only [okF,h,bne_self_eq_false,Bool.false_or,List.all_eq_true,Bool.and_eq_true,beq_iff_eq] at h2
  exact (h2 f hf).2 x hx
 ·rw [h2] at hf
  obtain rfl:=List.mem_singleton.1 hf
  rw [fullF,full,h] at hx
  simp at hx
  rw [hx,h2]
theorem fold_len (r:Int):1≤(foldF r).length∧(foldF r).length≤2:=by unfold foldF;split <;> (try split) <;> simp
def keyN (R:List Int):List Int:=normal (foldsF (normal R))
def keyF (l:List UInt8):List UInt8:=enc (keyN (runesF l))
theorem key_vld {R:List Int} (h:∀x∈R,vld x=true):∀x∈keyN R,vld x=true:=normal_vld (folds_vld (normal_vld h))
theorem runes_key (l:List UInt8):runesF (keyF l)=keyN (runesF l):=runes_enc (key_vld (runes_vld l))
theorem folds_self {l:List Int} (h:∀x∈l,foldF x=[x]):foldsF l=l:=by
 induction l with
 | nil=>rfl
 | cons x t ih=>rw [foldsF,List.flatMap_cons,h x (by simp)];exact congrArg (x :: ·) (ih fun y hy=>h y (by simp [hy]))
theorem key_folded (R:List Int):∀x∈keyN R,foldF x=[x]:=fun x hx=>by
 obtain ⟨f,hf,hx⟩:=List.mem_flatMap.1 ((mem_nf _).1 hx)
 obtain ⟨r,hr,hf⟩:=List.mem_flatMap.1 hf
 exact fold_deep (normal_bottom R r hr) f hf x hx
theorem keyN_key (R:List Int):keyN (keyN R)=keyN R:=by
 have h:normal (keyN R)=keyN R:=normal_normal _
 rw [keyN,h,folds_self (key_folded R),h]
theorem keyN_normal (R:List Int):keyN (normal R)=keyN R:=by rw [keyN,normal_normal];rfl
theorem key_key (l:List UInt8):keyF (keyF l)=keyF l:=by rw [keyF,runes_key,keyN_key];rfl
theorem key_text (l:List UInt8):keyF (textF l)=keyF l:=by rw [keyF,runes_text,keyN_normal];rfl
theorem text_key (l:List UInt8):textF (keyF l)=keyF l:=by rw [textF,runes_key];exact congrArg enc (normal_normal _)
theorem key_eq {a b:List UInt8} (h:textF a=textF b):keyF a=keyF b:=by rw [←key_text a,h,key_text]
theorem folds_some {l:List Int} (h:l≠[]):foldsF l≠[]:=by
 cases l with
 | nil=>exact absurd rfl h
 | cons x t =>
  have:=(fold_len x).1
  intro hh
  rw [foldsF,List.flatMap_cons] at hh
  rw [(List.append_eq_nil_iff.1 hh).1] at this
  simp at this
theorem keyN_some {R:List Int} (h:R≠[]):keyN R≠[]:=normal_some (folds_some (normal_some h))
theorem folds_len (l:List Int):(foldsF l).length≤2*l.length:=by
 induction l with
 | nil=>simp [foldsF]
 | cons x t ih =>
  have:=(fold_len x).2
  rw [foldsF,List.flatMap_cons,List.length_append,List.length_cons]
  rw [foldsF] at ih
  omega
def joint (t:List UInt8):Bool:=decide (t=[39]∨t=[226,128,153]∨t=[194,183])
def restF (t:List UInt8) (r:Int):Int:=if t=[46]∨t=[44] then 5 else if r=95 then 3 else if cat r=1 then 1 else if cat r=3 then 2 else 0
def kindF (t:List UInt8):Int:=if joint t=true then 4 else match runesF t with
 | []=>0
 | r :: _=>restF t r
theorem joint_all {t:List UInt8} (h:joint t=true):(runesF t=[39]∨runesF t=[8217]∨runesF t=[183])∧textF t=t∧enc (runesF t)=t:=by
 rcases of_decide_eq_true h with rfl | rfl | rfl <;> decide +kernel
theorem kind_none {t:List UInt8} (h:runesF t=[]):kindF t=0:=by
 have hj:joint t=false:=by
  cases hj:joint t with
  | false=>rfl
  | true=>have:=(joint_all hj).1;rw [h] at this;simp at this
 rw [kindF,hj,h];rfl
theorem kind_rest {t:List UInt8} {x:Int} {rs:List Int} (h:runesF t=x :: rs) (hj:joint t=false):kindF t=restF t x:=by
 rw [kindF,hj,h];rfl
theorem rest_range (t:List UInt8) (r:Int):0≤restF t r∧restF t r≤5:=by
 unfold restF
 split
 ·simp
 ·split
  ·simp
  ·split
   ·simp
   ·split <;> simp
theorem kind_range (t:List UInt8):0≤kindF t∧kindF t≤5:=by
 unfold kindF
 split
 ·simp
 ·split
  ·simp
  ·exact rest_range _ _
def inF (ks:List Int) (i:Nat):Bool :=
 let k:=ks.getD i 0
 if k > 3 then decide (0 < i∧i+1 < ks.length) && (ks.getD (i - 1) 0 == k - 3 && ks.getD (i+1) 0 == k - 3) else decide (1≤k)
def marksF (ks:List Int):List Bool:=(List.range ks.length).map (inF ks)
def runsB:Nat→Option Nat→List Bool→List (Nat × Nat)
 | _,none,[]=>[]
 | k,some s,[]=>[(s,k)]
 | k,none,false :: t=>runsB (k+1) none t
 | k,none,true :: t=>runsB (k+1) (some k) t
 | k,some s,true :: t=>runsB (k+1) (some s) t
 | k,some s,false :: t=>(s,k) :: runsB (k+1) none t
def runsF (m:List Bool):List (Nat × Nat):=runsB 0 none m
def lstep (st:List (Nat × Nat) × Option Nat) (k:Nat) (b:Bool):List (Nat × Nat) × Option Nat :=
 match st.2,b with
 | none,false=>(st.1,none)
 | none,true=>(st.1,some k)
 | some s,true=>(st.1,some s)
 | some s,false=>(st.1++[(s,k)],none)
def lfold:List (Nat × Nat) × Option Nat→Nat→List Bool→List (Nat × Nat) × Option Nat
 | st,_,[]=>st
 | st,k,b :: t=>lfold (lstep st k b) (k+1) t
def outL (k:Nat) (st:List (Nat × Nat) × Option Nat):List (Nat × Nat):=st.1++(st.2.map fun s=>(s,k)).toList
theorem lfold_snoc (b:Bool):∀(m:List Bool) (st:List (Nat × Nat) × Option Nat) (k:Nat),lfold st k (m++[b])=lstep (lfold st k m) (k+m.length) b
 | [],st,k=>rfl
 | x :: t,st,k=>by rw [List.cons_append,lfold,lfold,lfold_snoc b t];congr 1;simp;omega
theorem lfold_runs:∀(m:List Bool) (c:List (Nat × Nat)) (o:Option Nat) (k:Nat),outL (k+m.length) (lfold (c,o) k m)=c++runsB k o m
 | [],c,none,k=>by simp [lfold,outL,runsB]
 | [],c,some s,k=>by simp [lfold,outL,runsB]
 | false :: t,c,none,k=>by
  rw [lfold,runsB,List.length_cons,show k+(t.length+1)=(k+1)+t.length by omega];exact lfold_runs t c none (k+1)
 | true :: t,c,none,k=>by
  rw [lfold,runsB,List.length_cons,show k+(t.length+1)=(k+1)+t.length by omega];exact lfold_runs t c (some k) (k+1)
 | true :: t,c,some s,k=>by
  rw [lfold,runsB,List.length_cons,show k+(t.length+1)=(k+1)+t.length by omega];exact lfold_runs t c (some s) (k+1)
 | false :: t,c,some s,k=>by
  rw [lfold,runsB,List.length_cons,show k+(t.length+1)=(k+1)+t.length by omega]
  have:=lfold_runs t (c++[(s,k)]) none (k+1)
  rw [List.append_assoc] at this
  exact this
def stF (m:List Bool) (k:Nat):List (Nat × Nat) × Option Nat:=lfold ([],none) 0 (m.take k)
theorem st_next {m:List Bool} {k:Nat} (h:k < m.length):stF m (k+1)=lstep (stF m k) k m[k]:=by
 rw [stF,List.take_succ_eq_append_getElem h,lfold_snoc]
 simp [stF,List.length_take,Nat.min_eq_left (Nat.le_of_lt h)]
theorem st_end (m:List Bool):outL m.length (stF m m.length)=runsF m:=by
 have:=lfold_runs m [] none 0
 rw [stF,List.take_length]
 show _=runsB 0 none m
 simpa using this
def outF (m:List Bool) (k:Nat):List (Nat × Nat):=outL k (stF m k)
theorem out_zero (m:List Bool):outF m 0=[]:=rfl
def opF (m:List Bool) (k:Nat):Bool:=(stF m k).2.isSome
theorem out_new {m:List Bool} {k:Nat} (h:k < m.length) (hb:m[k]=true) (ho:opF m k=false):outF m (k+1)=outF m k++[(k,k+1)]:=by
 rw [outF,outF,st_next h,hb]
 rw [opF] at ho
 rcases hs:stF m k with ⟨c,_ | s⟩
 ·simp [lstep,outL]
 ·rw [hs] at ho;simp at ho
theorem out_on {m:List Bool} {k:Nat} (h:k < m.length) (hb:m[k]=true) (ho:opF m k=true):∃c s,outF m k=c++[(s,k)]∧outF m (k+1)=c++[(s,k+1)]:=by
 rw [opF] at ho
 rcases hs:stF m k with ⟨c,_ | s⟩
 ·rw [hs] at ho;simp at ho
 ·exact ⟨c,s,by simp [outF,hs,outL],by simp [outF,st_next h,hs,hb,lstep,outL]⟩
theorem out_off {m:List Bool} {k:Nat} (h:k < m.length) (hb:m[k]=false):outF m (k+1)=outF m k:=by
 rw [outF,outF,st_next h,hb]
 rcases stF m k with ⟨c,_ | s⟩ <;> simp [lstep,outL]
def Apart:Nat→List (Nat × Nat)→Prop
 | _,[]=>True
 | k,(s,e) :: t=>k≤s∧s < e∧Apart (e+1) t
theorem runs_apart:∀(m:List Bool) (k:Nat) (o:Option Nat),(∀s,o=some s→s < k)→∀j,j≤k→(∀s,o=some s→j≤s)→Apart j (runsB k o m)
 | [],k,none,_,j,hj,_=>trivial
 | [],k,some s,h,j,hj,hs=>⟨hs s rfl,h s rfl,trivial⟩
 | false :: t,k,none,_,j,hj,_=>runs_apart t (k+1) none (by simp) j (by omega) (by simp)
 | true :: t,k,none,_,j,hj,_=>runs_apart t (k+1) (some k) (by simp) j (by omega) (fun s hs=>by cases hs;exact hj)
 | true :: t,k,some s,h,j,hj,hs=>runs_apart t (k+1) (some s) (fun x hx=>by have:=h x hx;omega) j (by omega) hs
 | false :: t,k,some s,h,j,hj,hs=>⟨hs s rfl,h s rfl,runs_apart t (k+1) none (by simp) (k+1) (Nat.le_refl _) (by simp)⟩
theorem runs_below:∀(m:List Bool) (k:Nat) (o:Option Nat),(∀s,o=some s→s < k)→∀x∈runsB k o m,x.1 < x.2∧x.2≤k+m.length
 | [],k,none,_,x,hx=>by simp [runsB] at hx
 | [],k,some s,h,x,hx=>by rw [runsB,List.mem_singleton] at hx;subst hx;exact ⟨h s rfl,by simp⟩
 | false :: t,k,none,_,x,hx=>by have:=runs_below t (k+1) none (by simp) x hx;rw [List.length_cons];omega
 | true :: t,k,none,_,x,hx=>by have:=runs_below t (k+1) (some k) (by simp) x hx;rw [List.length_cons];omega
 | true :: t,k,some s,h,x,hx=>by have:=runs_below t (k+1) (some s) (fun x hx=>by have:=h x hx;omega) x hx;rw [List.length_cons];omega
 | false :: t,k,some s,h,x,hx=>by
  rw [runsB] at hx
  rcases List.mem_cons.1 hx with rfl | hx
  ·exact ⟨h s rfl,by simp⟩
  ·have:=runs_below t (k+1) none (by simp) x hx
   rw [List.length_cons];omega
theorem runs_within {m:List Bool} {x:Nat × Nat} (hx:x∈runsF m):x.1 < x.2∧x.2≤m.length:=by
 have:=runs_below m 0 none (by simp) x hx
 omega
def shiftP (n:Nat) (x:Nat × Nat):Nat × Nat:=(x.1+n,x.2+n)
theorem runs_shift (n:Nat):∀(m:List Bool) (k:Nat) (o:Option Nat),runsB (k+n) (o.map (·+n)) m=(runsB k o m).map (shiftP n)
 | [],k,none=>rfl
 | [],k,some s=>rfl
 | false :: t,k,none=>by have:=runs_shift n t (k+1) none;rw [show k+1+n=k+n+1 by omega] at this;exact this
 | true :: t,k,none=>by have:=runs_shift n t (k+1) (some k);rw [show k+1+n=k+n+1 by omega] at this;exact this
 | true :: t,k,some s=>by have:=runs_shift n t (k+1) (some s);rw [show k+1+n=k+n+1 by omega] at this;exact this
 | false :: t,k,some s=>by
  have:=runs_shift n t (k+1) none
  rw [show k+1+n=k+n+1 by omega] at this
  show (s+n,k+n) :: runsB (k+n+1) none t=_
  rw [show (none:Option Nat)=none.map (·+n) from rfl,this];rfl
theorem runs_join (b:List Bool):∀(a:List Bool) (k:Nat) (o:Option Nat),runsB k o (a++false :: b)=runsB k o a++runsB (k+a.length+1) none b
 | [],k,none=>rfl
 | [],k,some s=>rfl
 | false :: t,k,none=>by rw [List.cons_append,runsB,runs_join b t,runsB,List.length_cons];congr 2;omega
 | true :: t,k,none=>by rw [List.cons_append,runsB,runs_join b t,runsB,List.length_cons];congr 2;omega
 | true :: t,k,some s=>by rw [List.cons_append,runsB,runs_join b t,runsB,List.length_cons];congr 2;omega
 | false :: t,k,some s=>by rw [List.cons_append,runsB,runs_join b t,runsB,List.length_cons,List.cons_append];congr 3;omega
theorem runsF_join (a b:List Bool):runsF (a++false :: b)=runsF a++(runsF b).map (shiftP (a.length+1)):=by
 show runsB 0 none (a++false :: b)=runsB 0 none a++(runsB 0 none b).map (shiftP (a.length+1))
 rw [runs_join,←runs_shift (a.length+1) b 0 none,Nat.add_assoc]
 rfl
theorem marks_len (ks:List Int):(marksF ks).length=ks.length:=by simp [marksF]
theorem marks_get {ks:List Int} {i:Nat} (h:i < (marksF ks).length):(marksF ks)[i]=inF ks i:=by simp [marksF]
theorem marks_join (a b:List Int):marksF (a++0 :: b)=marksF a++false :: marksF b:=by
 refine List.ext_getElem (by simp [marks_len]) fun i hi hj=>?_
 rw [marks_get]
 rw [marks_len] at hi
 simp only [List.length_append,List.length_cons] at hi
 by_cases h1:i < a.length
 ·rw [List.getElem_append_left (by rw [marks_len];exact h1),marks_get]
  have e0:(a++0 :: b).getD i 0=a.getD i 0:=by simp [List.getD_eq_getElem?_getD,List.getElem?_append_left h1]
  have e1:(a++0 :: b).getD (i - 1) 0=a.getD (i - 1) 0:=by simp [List.getD_eq_getElem?_getD,List.getElem?_append_left (show i - 1 < a.length by omega)]
  simp only [inF,e0,e1]
  by_cases hk:a.getD i 0 > 3
  ·rw [if_pos hk,if_pos hk]
   by_cases h2:i+1 < a.length
   ·have e2:(a++0 :: b).getD (i+1) 0=a.getD (i+1) 0:=by simp [List.getD_eq_getElem?_getD,List.getElem?_append_left h2]
    rw [e2]
    congr 1
    simp only [List.length_append,List.length_cons]
    apply decide_eq_decide.2
    omega
   ·have e2:(a++0 :: b).getD (i+1) 0=0:=by
     rw [List.getD_eq_getElem?_getD,List.getElem?_append_right (by omega),show i+1 - a.length=0 by omega];rfl
    rw [e2]
    have n1:(decide (0 < i∧i+1 < a.length))=false:=by simp;omega
    rw [n1]
    have n2:((0:Int) == a.getD i 0 - 3)=false:=by rw [beq_eq_false_iff_ne];omega
    rw [n2]
    simp
  ·rw [if_neg hk,if_neg hk]
 ·by_cases h2:i=a.length
  ·subst h2
   rw [List.getElem_append_right (by rw [marks_len];omega)]
   simp [marks_len,inF,List.getD_eq_getElem?_getD]
  ·obtain ⟨j,rfl⟩:∃j,i=a.length+1+j:=⟨i - (a.length+1),by omega⟩
   rw [List.getElem_append_right (by rw [marks_len];omega)]
   have hx:a.length+1+j - (marksF a).length=j+1:=by rw [marks_len];omega
   simp only [hx,List.getElem_cons_succ]
   rw [marks_get]
   have e0:(a++0 :: b).getD (a.length+1+j) 0=b.getD j 0:=by
    rw [List.getD_eq_getElem?_getD,List.getElem?_append_right (by omega),show a.length+1+j - a.length=j+1 by omega,List.getElem?_cons_succ,←List.getD_eq_getElem?_getD]
   have e2:(a++0 :: b).getD (a.length+1+j+1) 0=b.getD (j+1) 0:=by
    rw [List.getD_eq_getElem?_getD,List.getElem?_append_right (by omega),show a.length+1+j+1 - a.length=j+1+1 by omega,List.getElem?_cons_succ,←List.getD_eq_getElem?_getD]
   simp only [inF,e0,e2]
   by_cases hk:b.getD j 0 > 3
   ·rw [if_pos hk,if_pos hk]
    by_cases h3:0 < j
    ·have e1:(a++0 :: b).getD (a.length+1+j - 1) 0=b.getD (j - 1) 0:=by
      rw [List.getD_eq_getElem?_getD,List.getElem?_append_right (by omega),show a.length+1+j - 1 - a.length=(j - 1)+1 by omega,List.getElem?_cons_succ,←List.getD_eq_getElem?_getD]
     rw [e1]
     congr 1
     simp only [List.length_append,List.length_cons]
     apply decide_eq_decide.2
     omega
    ·have hj0:j=0:=by omega
     subst hj0
     have e1:(a++0 :: b).getD (a.length+1+0 - 1) 0=0:=by
      rw [List.getD_eq_getElem?_getD,List.getElem?_append_right (by omega),show a.length+1+0 - 1 - a.length=0 by omega];rfl
     rw [e1]
     have n2:((0:Int) == b.getD 0 0 - 3)=false:=by rw [beq_eq_false_iff_ne];omega
     rw [n2]
     simp
   ·rw [if_neg hk,if_neg hk]
theorem out_len (m:List Bool):∀k,(outF m k).length≤k
 | 0=>by rw [out_zero];exact Nat.le_refl _
 | k+1=>by
  have ih:=out_len m k
  by_cases h:k < m.length
  ·cases hb:m[k] with
   | false=>rw [out_off h hb];omega
   | true =>
    cases ho:opF m k with
    | false=>rw [out_new h hb ho,List.length_append];simp;omega
    | true =>
     obtain ⟨c,s,e1,e2⟩:=out_on h hb ho
     rw [e1,List.length_append] at ih
     rw [e2,List.length_append]
     simp at ih ⊢;omega
  ·have e:stF m (k+1)=stF m k:=by rw [stF,stF,List.take_of_length_le (by omega),List.take_of_length_le (by omega)]
   have e2:(outF m (k+1)).length=(outF m k).length:=by
    rw [outF,outF,e,outL,outL]
    cases (stF m k).2 <;> simp
   omega
structure Sx where
 t:ByteArray
 a:Int
 e:Int
def up (x:Sg):Sx:=⟨x.t,x.a,x.e⟩
structure Wd where
 k:List UInt8
 f:Nat
 g:Nat
 a:Int
 e:Int
def txt (x:Sx):List UInt8:=x.t.data.toList
def kindsF (l:List Sx):List Int:=l.map fun x=>kindF (txt x)
def catF (l:List Sx) (i j:Nat):List UInt8:=(((l.take j).drop i).map txt).flatten
def atF (l:List Sx) (i:Nat):Int:=(l[i]?.map Sx.a).getD 0
def endF (l:List Sx) (i:Nat):Int:=(l[i]?.map Sx.e).getD 0
def wdF (l:List Sx) (x:Nat × Nat):Wd:=⟨keyF (catF l x.1 x.2),x.1,x.2,atF l x.1,endF l (x.2 - 1)⟩
def joinF (l:List Sx):List Wd:=(runsF (marksF (kindsF l))).map (wdF l)
theorem kinds_len (l:List Sx):(kindsF l).length=l.length:=List.length_map _
theorem kinds_get {l:List Sx} {i:Nat} (h:i < l.length):(kindsF l)[i]'(by rw [kinds_len];exact h)=kindF (txt l[i]):=by simp [kindsF]
theorem marks_kinds_len (l:List Sx):(marksF (kindsF l)).length=l.length:=by rw [marks_len,kinds_len]
end Go.Proofs.YtdngaddggcmjgaaDoor.Words
namespace Go.Proofs.YtdngaddggcmjgaaDoor.Words
open Go.Shelf Go.RowKit Go.Sort
open Utf hiding infoI32 rd_new own_form own_below rdec_any below_drewN new_any write_any close_any
open Norm Seg
open Ucd hiding grow same Told
set_option maxHeartbeats 16000000 in
set_option maxRecDepth 100000 in
theorem rkey_any (A:Option Addr) (l:List UInt8) (m c:Nat) (w:World) (hr:Rd w w.heap.size A (bys l)) (hm:l.length=m) (hb:m≤34359738368) (hnb:(normal (runesF l)).length≤17179869184) :
  Calls Tryd.prog 10 #[.slice A m c] w (Ret w (.string ⟨(keyF l).toArray⟩)):=by
 obtain ⟨i0,hi,hz0,hz1,hz2⟩:=info_parts infoI32
 have HC:=Lib.hid (rrunes_any A l m c w hr hm hb)
 have hl:=runes_len l
 rw [hm] at hl
 have HE:=Lib.hid (show keyF l=enc (normal (foldsF (normal (runesF l)))) from rfl)
 have hv:=normal_vld (runes_vld l)
 generalize runesF l=R at HC hl HE hnb hv
 have HN:=Lib.hid (fun (A:Option Addr) (c:Nat) (u:World) (hr:Rd u u.heap.size A (nums R))=>rnormal_any A R R.length c u hr rfl (by omega))
 generalize normal R=X at HE HN hnb hv
 have HV:=Lib.hid hv
 have HX:=Lib.hid hnb
 clear hr hm hl hnb hv
 obtain ⟨n,hn⟩:∃n,n=X.length:=⟨_,rfl⟩
 have HXN:=Lib.hid hn
 have hnl:n≤17179869184:=by rw [hn];exact HX.out
 clear hn
 go_enter Tryd.func10,Tryd.ntmps10
 go_wp2_with fail
 refine HC.out.mono ?_
 rintro e w1 ⟨v,rfl,ho,hb1⟩
 obtain ⟨A1,c1,rfl,_,_,hr1⟩:=own_form ho
 have HR1:=Lib.hid hr1
 have HB1:=Lib.hid hb1
 clear ho hr1 hb1
 go_wp2_with fail
 refine (HN.out A1 c1 w1 HR1.out).mono ?_
 rintro e w2 ⟨v,rfl,ho,hb2⟩
 obtain ⟨A2,c2,rfl,_,_,hr2⟩:=own_form ho
 rw [←HXN.out]
 have HR2:=Lib.hid hr2
 have HB2:=Lib.hid (HB1.out.trans (hb2.mono HB1.out.size))
 clear ho hr2 hb2 HN HR1
 obtain ⟨B0,hB0⟩:∃B0,B0=w2.heap.size:=⟨_,rfl⟩
 have HB0:=Lib.hid hB0
 rw [←hB0] at HR2
 clear hB0
 go_wp2_with fail
 go_loopw [4,5] (fun vo i wr=>∃k:Nat,k≤n∧i=.int .i64 k∧Hid (wr.ownsRow B0 21 1 vo (foldsF (X.take k)).length (nums (foldsF (X.take k))))∧Hid (Below B0 w2 wr)) (fun _ i _=>n - (intOf i).toNat)
 case atStart=>exact ⟨0,Nat.zero_le _,rfl,Lib.hid (by simp only [List.take_zero,foldsF,List.flatMap_nil];exact World.ownsRow_nil _ _ _ _),Lib.hid (Below.refl _ _)⟩
 case round =>
  obtain ⟨k,hk,rfl,HO,HB⟩:=hrel
  by_cases hlt:k < n
  ·have hkl:k < X.length:=by rw [←HXN.out];exact hlt
   obtain ⟨b,o,rfl,hbl⟩:=HR2.out.form (by rw [nums_len];omega)
   have hcell:wr.cell? ⟨b,o+k,none⟩=some (.int .i32 X[k]):=(HR2.out.below HB.out).num hkl
   have hvd:=HV.out X[k] (List.getElem_mem hkl)
   have hbd:=(vld_iff X[k]).1 hvd
   have HTK:=Lib.hid (show foldsF (X.take (k+1))=foldsF (X.take k)++foldF X[k] by rw [List.take_succ_eq_append_getElem hkl,folds_append];simp [foldsF])
   have h3:=(fold_len X[k]).2
   have h1:=(fold_len X[k]).1
   have HC:=Lib.hid (rfold_any X[k] wr (by omega) (by omega))
   have HDL:=Lib.hid (show (foldsF (X.take k)).length≤2*k by have:=folds_len (X.take k);rw [List.length_take] at this;omega)
   obtain ⟨D,hD⟩:∃D,D=foldsF (X.take k):=⟨_,rfl⟩
   rw [←hD] at HO HTK HDL
   generalize X[k]=r at hcell HTK h3 h1 HC
   generalize foldF r=xs at HTK h3 h1 HC
   clear hkl hD hvd hbd
   go_wp2_with fail
   refine HC.out.mono ?_
   rintro e w3 ⟨Ad,cd,rfl,hd1,hd2,hrd,hb3,hnew⟩
   obtain ⟨gd,od,rfl,hgd⟩:=hrd.form (by rw [nums_len];exact h1)
   have HNG:=Lib.hid (show ∀g,u4.ownBlock=some g→gd≠g from fun g hv=>by have:=(HO.out.lt g hv).2;have:=hnew gd od rfl;omega)
   have HO1:=Lib.hid (own_below HO.out hb3)
   have HB3:=Lib.hid (HB.out.trans (hb3.mono (by have:=HB.out.size;have:=HB0.out;omega)))
   obtain ⟨q,hq⟩:∃q,q=xs.length:=⟨_,rfl⟩
   have HM:=Lib.hid hq
   have HCL:=Lib.hid (show ∀j (h:j < xs.length),w3.cell? ⟨gd,od+j,none⟩=some (.int .i32 xs[j]) from fun j h=>hrd.num h)
   have HGD:=Lib.hid hgd
   rw [←hq] at h1 h3 hd1 ⊢
   clear hq hb3 hrd hnew HC HO HB hgd
   go_wp2_with fail
   go_loopw [4,7] (fun vo i wx=>∃j:Nat,j≤q∧i=.int .i64 j∧Hid (wx.ownsRow B0 21 1 vo (D++xs.take j).length (nums (D++xs.take j)))∧Hid (Below B0 w2 wx)∧Hid (∀g,vo.ownBlock=some g→gd≠g)∧Hid (∀j (h:j < xs.length),wx.cell? ⟨gd,od+j,none⟩=some (.int .i32 xs[j]))∧Hid (gd < wx.heap.size)) (fun _ i _=>q - (intOf i).toNat)
   case atStart=>exact ⟨0,Nat.zero_le _,rfl,by simpa using HO1,HB3,HNG,HCL,HGD⟩
   case round =>
    clear HO1 HB3 HNG HCL HGD
    obtain ⟨j,hj,rfl,HO,HB,HNG,HCL,HGD⟩:=hrel
    by_cases hjt:j < q
    ·have hjl:j < xs.length:=by rw [←HM.out];exact hjt
     have hcell:wr.cell? ⟨gd,od+j,none⟩=some (.int .i32 xs[j]):=HCL.out j hjl
     have HTK2:=Lib.hid (show D++xs.take (j+1)=(D++xs.take j)++[xs[j]] by rw [List.take_succ_eq_append_getElem hjl,List.append_assoc])
     obtain ⟨x,hx⟩:∃x,x=xs[j]:=⟨_,rfl⟩
     rw [←hx] at hcell HTK2
     have HFN:=Lib.hid (show (D++xs.take j).length≤274877906944 by rw [List.length_append,List.length_take];have:=HDL.out;have:=HX.out;have:=HXN.out;omega)
     obtain ⟨F,hF⟩:∃F,F=D++xs.take j:=⟨_,rfl⟩
     rw [←hF] at HO HFN HTK2
     obtain ⟨f,hf⟩:∃f,f=F.length:=⟨_,rfl⟩
     rw [←hf] at HO HFN
     have HFL:=Lib.hid hf
     have hb4:B0≤wr.heap.size:=Nat.le_trans (Nat.le_of_eq HB0.out) HB.out.size
     have hfn:=HFN.out
     clear hF hjl hx hf
     go_wp2_with (at_builtin;refine wpList_append_rd _ rfl (.tmp 28) (.tmp 33) _ rfl B0 21 i0 _ 1 4 Tryd.underlying35 hi hz0 hz1 hz2 rfl (by decide) u4 f (nums F) rfl (HO.out.alloc _) _ (some ⟨wr.heap.size,0,none⟩) 1 1 [.int .i32 x] rfl rfl (rd_new _ _ [.int .i32 x] _ rfl) (nums_one [x]) (by unfold maxLen;omega) (by omega) (by simp;omega) ?_;intro v6 w6 hown6 hgr6 hat6;obtain ⟨A6,c6,hv6,_⟩:=own_form hown6;subst hv6)
     have HO6:=Lib.hid (show w6.ownsRow B0 21 1 (.slice A6 (f+1) c6) (D++xs.take (j+1)).length (nums (D++xs.take (j+1))) by
      rw [HTK2.out,List.length_append,←HFL.out,nums_append];exact hown6)
     have HB6:=Lib.hid ((HB.out.alloc hb4 (.cells [Value.int .i32 x].toArray 21)).grown hgr6 (by simp;omega) (fun y hy=>(HO.out.lt y hy).1))
     have HNG6:=Lib.hid (show ∀g,(Value.slice A6 (f+1) c6).ownBlock=some g→gd≠g from fun g hg'=>by
      rcases hat6 with e | e
      ·exact HNG.out g (e ▸ hg')
      ·rw [e] at hg';injection hg' with hg';have:=HGD.out;simp at hg';omega)
     have HCL6:=Lib.hid (show ∀i (h:i < xs.length),w6.cell? ⟨gd,od+i,none⟩=some (.int .i32 xs[i]) from fun i h=>by
      have hgd:=HGD.out
      rw [hgr6.cell_far ⟨gd,od+i,none⟩ (by simp;omega) (fun e=>HNG.out gd e.symm rfl),World.cell?_alloc_lt _ _ _ hgd]
      exact HCL.out i h)
     have HGD6:=Lib.hid (show gd < w6.heap.size by have:=hgr6.size;have:=HGD.out;simp at *;omega)
     clear hown6 hgr6 hat6 HO HB HNG HCL HGD
     go_roundw
     case rel=>exact ⟨j+1,by omega,by go_num,HO6,HB6,HNG6,HCL6,HGD6⟩
     case measure=>simp [intOf];omega
    ·have HT2:=Lib.hid (show D++xs.take j=foldsF (X.take (k+1)) by rw [HTK.out,List.take_of_length_le (by rw [←HM.out];omega)])
     rw [HT2.out] at HO
     go_wp2
     go_roundw
     case rel=>exact ⟨k+1,by omega,by go_num,HO,HB⟩
     case measure=>simp [intOf];omega
  ·have HXT:=Lib.hid (show X.take k=X by rw [List.take_of_length_le (by rw [←HXN.out];omega)])
   rw [HXT.out] at HO
   have hfl:=folds_len X
   obtain ⟨Y,hY⟩:∃Y,Y=foldsF X:=⟨_,rfl⟩
   rw [←hY] at HO hfl HE
   have HYL:=Lib.hid (show Y.length≤34359738368 by have:=HX.out;omega)
   have HNL:=Lib.hid (show (normal Y).length≤103079215104 by have:=nf_len (fulls Y);have:=fulls_len Y;have:=HYL.out;unfold normal;omega)
   obtain ⟨A4,c4,rfl,_,_,hr4⟩:=own_form HO.out
   have HR4:=Lib.hid hr4
   have HB4:=Lib.hid (HB2.out.trans (HB.out.mono (by have:=HB2.out.size;have:=HB0.out;omega)))
   clear hY hfl hr4 HO HB
   go_wp2_with fail
   refine (rnormal_any A4 Y Y.length c4 wr HR4.out rfl HYL.out).mono ?_
   rintro e w5 ⟨v,rfl,ho,hb5⟩
   obtain ⟨A5,c5,rfl,_,_,hr5⟩:=own_form ho
   have HR5:=Lib.hid hr5
   have HB5:=Lib.hid (HB4.out.trans (hb5.mono HB4.out.size))
   clear ho hr5 hb5
   go_wp2_with fail
   refine (rencode_any A5 (normal Y) (normal Y).length c5 w5 HR5.out rfl (by have:=HNL.out;omega)).mono ?_
   rintro e w6 ⟨v,rfl,ho,hb6⟩
   obtain ⟨A6,c6,rfl,_,_,hr6⟩:=Utf.own_form ho
   have hcv:=conv_rd (c:=c6) hr6 rfl
   rw [←HE.out] at hcv ⊢
   have HB6:=Lib.hid (HB5.out.trans (hb6.mono HB5.out.size))
   clear ho hr6 hb6
   go_wp2_with fail
   go_ret
   exact ⟨rfl,HB6.out⟩
end Go.Proofs.YtdngaddggcmjgaaDoor.Words
namespace Go.Proofs.YtdngaddggcmjgaaDoor.Words
open Go.Shelf Go.RowKit Go.Sort
open Utf hiding infoI32 rd_new own_form rdec_any below_drewN new_any write_any close_any
open Norm Seg
open Ucd hiding grow same Told
theorem bytes_list (X:ByteArray):X.toList=X.data.toList:=ByteArray.toList_eq X
theorem conv_str (w:World) (X:ByteArray) (x:List UInt8) (hX:X.data.toList=x) (n:Nat) (hn:x.length=n) (hb:n≤1099511627770) :
  ∃(g C:Nat) (W1:World),(convert 9 22 (.string X)).run Tryd.prog w=.ok (.slice (some ⟨g,0,none⟩) n C) W1∧Rd W1 W1.heap.size (some ⟨g,0,none⟩) (bys x)∧Below w.heap.size w W1∧n≤C∧C≤9223372036854775807∧w.heap.size≤g:=by
 subst hX
 have hs:X.size=n:=by rw [←hn];exact Array.length_toList.symm
 have h:=run_bytes_of_string (P:=Tryd.prog) w 9 22 5 X Tryd.underlying9 Tryd.underlying22 Tryd.underlying5
 rw [hs] at h
 have hge:=grownCap_ge w n 0 5
 have hle:=grownCap_le_maxLen w n 0 5 (by unfold maxLen;omega)
 unfold maxLen at hle
 obtain ⟨h1,h2⟩:=rd_str w X (grownCap w n 0 5) 5 _ _ rfl
 exact ⟨_,_,_,h,h1,h2,by omega,by omega,Nat.le_refl _⟩
end Go.Proofs.YtdngaddggcmjgaaDoor.Words
namespace Go.Proofs.YtdngaddggcmjgaaDoor.Seg
open Go.Shelf Go.RowKit Go.Sort
open Utf hiding infoI32 rd_new own_form rdec_any below_drewN new_any write_any close_any
open Ucd hiding grow same Told
open Norm hiding new_any write_any close_any
set_option maxRecDepth 100000
def sgs (l:List Sg):List Value:=l.flatMap fun x=>[.string x.t,.int .i64 x.a,.int .i64 x.e]
def strs (l:List ByteArray):List Value:=l.map .string
theorem strs_len (l:List ByteArray):(strs l).length=l.length:=List.length_map _
theorem strs_append (l m:List ByteArray):strs (l++m)=strs l++strs m:=List.map_append
theorem strs_get {l:List ByteArray} {k:Nat} (h:k < l.length):(strs l)[k]? = some (.string l[k]):=by simp [strs,List.getElem?_eq_getElem h]
theorem strs_one (l:List ByteArray):∀u∈strs l,u.oneCell'=true:=by intro u hu;simp only [strs,List.mem_map] at hu;obtain ⟨n,_,rfl⟩:=hu;rfl
theorem sgs_len (l:List Sg):(sgs l).length=l.length*3:=by
 induction l with
 | nil=>rfl
 | cons q t ih=>simp only [sgs,List.flatMap_cons,List.length_append,List.length_cons,List.length_nil] at ih ⊢;omega
theorem sgs_append (l m:List Sg):sgs (l++m)=sgs l++sgs m:=List.flatMap_append
theorem sgs_one (l:List Sg):∀u∈sgs l,u.oneCell'=true:=by
 intro u hu
 simp only [sgs,List.mem_flatMap,List.mem_cons,List.not_mem_nil,or_false] at hu
 obtain ⟨n,_,rfl | rfl | rfl⟩:=hu <;> rfl
section
variable {w:World} {B:Nat}
theorem Rd_str {l:List ByteArray} {b o:Nat} (h:Rd w B (some ⟨b,o,none⟩) (strs l)) {k:Nat} (hk:k < l.length):w.cell? ⟨b,o+k,none⟩=some (.string l[k]):=by
 have hne:strs l≠[]:=by intro e;have:=congrArg List.length e;rw [strs_len,List.length_nil] at this;omega
 obtain ⟨b',o',e,_,hc⟩:=h hne
 simp only [Option.some.injEq,Addr.mk.injEq,and_true] at e
 obtain ⟨rfl,rfl⟩:=e
 exact hc _ _ (strs_get hk)
end
theorem infoSg:(Tryd.prog.info? 72).map (fun i=>(i.zero,i.size,i.bytes))=some (some (.agg #[.string ⟨#[]⟩,.int .i64 0,.int .i64 0]),3,32):=by kernel_rfl
theorem infoStr:(Tryd.prog.info? 9).map (fun i=>(i.zero,i.size,i.bytes))=some (some (.string ⟨#[]⟩),1,16):=by kernel_rfl
theorem own_apart {w:World} {b1 b2:Nat} {e1 e2:TypeId} {s1 s2 n1 n2:Nat} {v1 v2:Value} {xs1 xs2:List Value} (h1:w.ownsRow b1 e1 s1 v1 n1 xs1) (h2:w.ownsRow b2 e2 s2 v2 n2 xs2) (hne:e1≠e2):∀k,v1.ownBlock=some k→v2.ownBlock=some k→False:=by
 intro k k1 k2
 rcases h1.2 with ⟨rfl,_⟩ | ⟨g1,cap1,cur1,rfl,_,hh1,_⟩
 ·cases k1
 ·rcases h2.2 with ⟨rfl,_⟩ | ⟨g2,cap2,cur2,rfl,_,hh2,_⟩
  ·cases k2
  ·simp only [Value.ownBlock,Option.some.injEq] at k1 k2
   subst k1;subst k2
   rw [hh1] at hh2
   simp only [Option.some.injEq,Obj.cells.injEq] at hh2
   exact hne hh2.2.1
theorem step_append_rd {P:Program} {w:World} {ops:Array Oper} {o:Oper} {a:Act} {K:Act→World→Prop} {Q:Exit→Act→World→Prop} {E:Prop} (hgd:o.guard=none) (s x:Operand) (t:TypeId)
  (ho:o.op=.call { callee:=.builtin .append,args:=#[s,x],argTypes:=#[t,t] })
  (base:Nat) (e:TypeId) (i:TypeInfo) (z:Value) (size bytes:Nat) (ht:P.underlying t=some (.slice e)) (hi:P.info? e=some i) (hz:i.zero=some z)
  (hsize:i.size=size) (hby:i.bytes=bytes) (hzs:z.cells.size=size) (hsz:0 < size)
  (v:Value) (n:Nat) (xs:List Value) (hs:a.eval s=v) (hown:w.ownsRow base e size v n xs)
  (B:Nat) (A:Option Addr) (m c:Nat) (news:List Value) (hx:a.eval x=.slice A m c) (hl:news.length=m*size) (hr:Rd w B A news) (h1:∀u∈news,u.oneCell'=true)
  (h63:n+m≤maxLen) (hbytes:(n+m)*bytes≤140737488355328) (hbase:base≤w.heap.size)
  (h:∀v' w',w'.ownsRow base e size v' (n+m) (xs++news)→w.grownBy w' v.ownBlock→(v'.ownBlock=v.ownBlock∨v'.ownBlock=some w.heap.size)→K (a.put o.dst v') w') :
  if Region.wanted o (yielded ops a.tmps)=true then Oper.wp P o a w K Q else E:=by
 have hw:Region.wanted o (yielded ops a.tmps)=true:=by simp [Region.wanted,hgd]
 rw [if_pos hw]
 exact wp_append_rd w s x t ho base e i z size bytes ht hi hz hsize hby hzs hsz v n xs hs hown B A m c news hx hl hr h1 h63 hbytes hbase h
def scs (lim:Int) (dp:Value) (vo:Value) (a e:Nat) (er:Int):List Value:=[.int .i64 lim,dp,vo,.int .i64 a,.int .i64 e,.int .i64 er]
def Reach (O:List Pt) (a e:Nat):Prop:=(O=[]→a=e)∧(O≠[]→a=beg O∧e=fin O)
theorem Reach.start (a:Nat):Reach [] a a:=⟨fun _=>rfl,fun h=>absurd rfl h⟩
theorem Reach.put {O:List Pt} {a e:Nat} (h:Reach O a e) {q:Pt} (hq:q.p=e):Reach (O++[q]) a (q.p+q.w):=by
 refine ⟨fun h=>by simp at h,fun _=>⟨?_,(fin_snoc O q).symm⟩⟩
 by_cases hO:O=[]
 ·subst hO;rw [h.1 rfl,←hq];rfl
 ·rw [beg_snoc hO];exact (h.2 hO).1
structure Sm (w:World) (base sb db:Nat) (lim:Int) (dc:List Value) (vo:Value) (O:List Pt) (a e:Nat):Prop where
 blk:Blk w sb 107 (scs lim (.pointer (some ⟨db,0,none⟩)) vo a e 0)
 dec:Blk w db 115 dc
 own:w.ownsRow base 21 1 vo (fulls (runs O)).length (nums (fulls (runs O)))
 le:base≤sb
 led:base≤db
 reach:Reach O a e
def Hers (sb db:Nat) (vo:Value) (k:Nat):Prop:=k=sb∨k=db∨vo.ownBlock=some k
def Done (w:World) (sb:Nat) (er:Int):Prop:=∃lim a e,Blk w sb 107 (scs lim (.pointer none) (.slice none 0 0) a e er)
section
variable {w w':World} {base sb db a e:Nat} {lim:Int} {dc:List Value} {vo:Value} {O:List Pt}
theorem Sm.ne (h:Sm w base sb db lim dc vo O a e):vo.ownBlock≠some sb:=own_ne h.own h.blk (by decide)
theorem Sm.ned (h:Sm w base sb db lim dc vo O a e):vo.ownBlock≠some db:=own_ne h.own (show Blk _ _ _ _ from h.dec) (by decide)
theorem blk_apart {g g':Nat} {t t':TypeId} {cs cs':List Value} (h:Blk w g t cs) (h':Blk w g' t' cs') (hne:t≠t'):g≠g':=by
 rintro rfl
 unfold Blk at h h'
 rw [h] at h'
 injection h' with h'
 injection h' with _ ht
 exact hne ht
theorem Sm.apart (h:Sm w base sb db lim dc vo O a e):sb≠db:=blk_apart h.blk (show Blk _ _ _ _ from h.dec) (by decide)
theorem Sm.hers (h:Sm w base sb db lim dc vo O a e) {k:Nat} (hk:k < base):¬Hers sb db vo k:=fun hi=>by
 rcases hi with rfl | rfl | hi
 ·have:=h.le;omega
 ·have:=h.led;omega
 ·have:=(h.own.lt k hi).1;omega
theorem Sm.keep {S:Nat→Prop} (h:Sm w base sb db lim dc vo O a e) (hg:Chg w w' S) (h1:¬S sb) (h2:¬S db) (h3:∀k,vo.ownBlock=some k→¬S k):Sm w' base sb db lim dc vo O a e :=
 ⟨blk_keep h.blk hg h1,blk_keep (show Blk _ _ _ _ from h.dec) hg h2,Norm.own_keep h.own hg h3,h.le,h.led,h.reach⟩
theorem Sm.next (h:Sm w base sb db lim dc vo O a e) (hb:Below w.heap.size w w'):Sm w' base sb db lim dc vo O a e :=
 h.keep (S:=fun _=>False) (Chg.of_below hb (Nat.le_refl _)) id id (fun _ _ h=>h)
end
def Fresh (w:World) (lim:Int) (e:Ending) (w':World):Prop :=
 ∃sb db,e=.returned (.pointer (some ⟨sb,0,none⟩))∧Sm w' w.heap.size sb db lim (dcs 0 0 0 0 0 false) (.slice none 0 0) [] 0 0∧Below w.heap.size w w'
set_option maxHeartbeats 1000000 in
theorem begin_any (lim:Int) (w:World):Calls Tryd.prog 58 #[.int .i64 lim] w (Fresh w lim):=by
 go_enter Tryd.func58,Tryd.ntmps58
 go_wp2_with fail
 refine (Utf.new_any w).mono ?_
 rintro e w1 ⟨rfl,hw1⟩
 have HW:=Lib.hid hw1
 clear hw1
 go_wp2_with fail
 go_ret
 have hD:Dc w1 w.heap.size 0 0 0 0 0 false:=by rw [HW.out];exact Blk.new w _ _
 have hs:w1.heap.size=w.heap.size+1:=by rw [HW.out];simp
 refine ⟨w1.heap.size,w.heap.size,rfl,⟨Blk.new w1 _ (scs lim (.pointer (some ⟨w.heap.size,0,none⟩)) (.slice none 0 0) 0 0 0),Blk.alloc hD _,World.ownsRow_nil _ _ _ _,by omega,Nat.le_refl _,Reach.start 0⟩,?_⟩
 have hb:Below w.heap.size w w1:=by rw [HW.out];exact (Below.refl _ _).alloc (Nat.le_refl _) _
 exact hb.alloc (by omega) _
def Made (w:World) (lim:Int) (e:Ending) (w':World):Prop :=
 ∃sb db,e=.returned (.tuple #[.pointer (some ⟨sb,0,none⟩),.int .i64 0])∧Sm w' w.heap.size sb db lim (dcs 0 0 0 0 0 false) (.slice none 0 0) [] 0 0∧Below w.heap.size w w'
set_option maxHeartbeats 1000000 in
theorem new_good (lim:Int) (w:World) (h1:1≤lim) (h2:lim≤64):Calls Tryd.prog 42 #[.int .i64 lim] w (Made w lim):=by
 have d1:¬lim < 1:=by omega
 have d2:¬64 < lim:=by omega
 have e1:decide (lim < 1)=false:=decide_eq_false d1
 have e2:decide (64 < lim)=false:=decide_eq_false d2
 have HB:=Lib.hid (begin_any lim w)
 go_enter Tryd.func42,Tryd.ntmps42
 go_wp2_with fail
 refine HB.out.mono ?_
 rintro e w1 ⟨sb,db,rfl,hS,hb⟩
 have HS:=Lib.hid hS
 have HBL:=Lib.hid hb
 clear hS hb
 go_wp2_with fail
 go_ret2
 exact ⟨sb,db,rfl,HS.out,HBL.out⟩
theorem new_bad (lim:Int) (w:World) (h:lim < 1∨64 < lim):Calls Tryd.prog 42 #[.int .i64 lim] w fun e w'=>e=.returned (.tuple #[.pointer none,.int .i64 1])∧w=w':=by
 by_cases h1:lim < 1
 ·have e1:decide (lim < 1)=true:=decide_eq_true h1
  clear h
  go_enter Tryd.func42,Tryd.ntmps42
  go_wp2
  go_ret2
  exact ⟨rfl,rfl⟩
 ·have h2:64 < lim:=by omega
  have e1:decide (lim < 1)=false:=decide_eq_false h1
  have e2:decide (64 < lim)=true:=decide_eq_true h2
  clear h
  go_enter Tryd.func42,Tryd.ntmps42
  go_wp2
  go_ret2
  exact ⟨rfl,rfl⟩
theorem stop_any (sb:Nat) (lim er er':Int) (dp vo:Value) (a e:Nat) (w:World) (h:Blk w sb 107 (scs lim dp vo a e er)) :
  Calls Tryd.prog 79 #[.pointer (some ⟨sb,0,none⟩),.int .i64 er'] w fun e w'=>e=.returned (.tuple #[])∧Done w' sb er'∧Chg w w' (fun k=>k=sb):=by
 have c0:=h.cell 0
 have c1:=h.cell 1
 have c2:=h.cell 2
 have c5:=h.cell 5
 have f1:=h.frozen 1
 have f2:=h.frozen 2
 have f5:=h.frozen 5
 simp only [scs,List.getElem?_cons_succ,List.getElem?_cons_zero] at c0 c1 c2 c5
 have H:=Lib.hid h
 clear h
 go_enter Tryd.func79,Tryd.ntmps79
 go_wp2_with fail
 go_end0
 have hB:=((H.out.set_ 2 (.slice none 0 0)).set_ 1 (.pointer none)).set_ 5 (.int .i64 er')
 have e1:(((scs lim dp vo a e er).set 2 (.slice none 0 0)).set 1 (.pointer none)).set 5 (.int .i64 er')=scs lim (.pointer none) (.slice none 0 0) a e er':=rfl
 rw [e1] at hB
 have hC:Chg w (((w.setCell ⟨sb,2,none⟩ (.slice none 0 0)).setCell ⟨sb,1,none⟩ (.pointer none)).setCell ⟨sb,5,none⟩ (.int .i64 er')) (fun k=>k=sb) :=
  (((Chg.refl w (fun k=>k=sb)).setCell (p:=⟨sb,2,none⟩) _ rfl).setCell (p:=⟨sb,1,none⟩) _ rfl).setCell (p:=⟨sb,5,none⟩) _ rfl
 exact ⟨rfl,⟨lim,a,e,hB⟩,hC⟩
end Go.Proofs.YtdngaddggcmjgaaDoor.Seg
