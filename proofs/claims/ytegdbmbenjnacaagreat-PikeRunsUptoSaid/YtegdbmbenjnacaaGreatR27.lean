/-
  Texts of stage 7, part 27.
-/
import Derived.Test.YtegdbmbenjnacaaGreatR26
namespace Go.Proofs.YtegdbmbenjnacaaGreat.Seg
open Go.Shelf Go.RowKit Go.Sort
open Utf hiding infoI32 rd_new own_form rdec_any below_drewN new_any write_any close_any
open Ucd hiding grow
open Norm
set_option maxRecDepth 100000
theorem grp_size (o:Bool) (l:List UInt8) {g:List Pt} (hg:g∈grp (dec o 0 l)):g.length≤l.length:=by
 have h1:=(List.sublist_flatten_of_mem hg).length_le
 rw [grp,cuts_flat] at h1
 exact Nat.le_trans h1 (dec_len_le o l 0)
def RSplit (w:World) (lim:Int) (l:List UInt8) (e:Ending) (w':World):Prop :=
 ∃A n c,e=.returned (.tuple #[.slice A n c,.int .i64 (spE lim l)])∧n=(spS lim l).length∧Rd w' w'.heap.size A (sgs (spS lim l))∧Below w.heap.size w w'
set_option maxHeartbeats 4000000 in
theorem rsplit_any (lim:Int) (l:List UInt8) (A:Option Addr) (m c:Nat) (w:World)
  (hr:Rd w w.heap.size A (bys l)) (hm:l.length=m) (hsm:m≤134217728) :
  Calls Tryz.prog 33 #[.slice A m c,.int .i64 lim] w (RSplit w lim l):=by
 by_cases hlim:1≤lim∧lim≤64
 ·have HA:=Lib.hid (all_any A l m c w hr hm hsm)
  have HGS:=Lib.hid (fun g (hg:g∈grp (dec false 0 l))=>show g.length≤1073741824 by have:=grp_size false l hg;omega)
  have hgl:=grp_len false l
  obtain ⟨lm,rfl⟩:∃lm:Nat,lim=lm:=⟨lim.toNat,by omega⟩
  have HE:=Lib.hid (show spE lm l=if badS lm l then 6 else 0 by unfold spE;rw [if_pos hlim];rfl)
  have HS:=Lib.hid (show spS lm l=(okS lm l).map sgOf by unfold spS;rw [if_pos hlim];rfl)
  have d1:decide ((lm:Int) < 1)=false:=decide_eq_false (by omega)
  have d2:decide (64 < (lm:Int))=false:=decide_eq_false (by omega)
  have n1:¬(lm:Int) < 1:=by omega
  have n2:¬64 < (lm:Int):=by omega
  have HOKE:=Lib.hid (show okS lm l=okG flen lm (grp (dec false 0 l)) from rfl)
  have HBDE:=Lib.hid (show badS lm l=badG flen lm (grp (dec false 0 l)) from rfl)
  generalize grp (dec false 0 l)=gs at HA HGS hgl HOKE HBDE
  obtain ⟨gl,hgl2⟩:∃gl,gl=gs.length:=⟨_,rfl⟩
  have HGL:=Lib.hid hgl2
  clear hr hm hlim hgl hgl2
  go_enter Tryz.func33,Tryz.ntmps33
  go_wp2_with fail
  refine HA.out.mono ?_
  rintro e1 w1 ⟨v,rfl,ho,hb1⟩
  rw [List.length_map,←HGL.out] at ho
  obtain ⟨A1,c1,rfl,hc1,hcm1,hr1⟩:=own_form ho
  have HR1:=Lib.hid hr1
  have HB1:=Lib.hid hb1
  have HG:=Lib.hid (good_any A1 gs lm gl c1 w1 HR1.out HGL.out.symm hc1 hcm1 HGS.out)
  clear ho hr1 hb1 hc1 HA
  go_wp2_with fail
  refine HG.out.mono ?_
  rintro e2 w2 ⟨A2,n2',c2,rfl,hn2,hr2,_,_,hb2⟩
  rw [←HOKE.out] at hn2 hr2
  have HN2:=Lib.hid hn2
  have HR2:=Lib.hid hr2
  have HB2:=Lib.hid (HB1.out.trans (hb2.mono HB1.out.size))
  clear hn2 hr2 hb2 HG
  cases hbb:badG flen lm gs
  all_goals
   have HBB:=Lib.hid hbb
   clear hbb
   go_wp2_with fail
   go_ret2
   exact ⟨A2,n2',c2,by rw [HE.out,HBDE.out,HBB.out];rfl,by rw [HS.out,List.length_map];exact HN2.out,by rw [HS.out];exact HR2.out,HB2.out⟩
 ·have HE:=Lib.hid (show spE lim l=1 by unfold spE;rw [if_neg hlim])
  have HS:=Lib.hid (show spS lim l=[] by unfold spS;rw [if_neg hlim])
  by_cases h1:lim < 1
  ·have d1:decide (lim < 1)=true:=decide_eq_true h1
   clear hr hm hlim
   go_enter Tryz.func33,Tryz.ntmps33
   go_wp2_with fail
   go_ret2
   exact ⟨none,0,0,by rw [HE.out];rfl,by rw [HS.out];rfl,by rw [HS.out];exact Rd.empty _ _ _,Below.refl _ _⟩
  ·have h2:64 < lim:=by omega
   have d1:decide (lim < 1)=false:=decide_eq_false h1
   have d2:decide (64 < lim)=true:=decide_eq_true h2
   clear hr hm hlim
   go_enter Tryz.func33,Tryz.ntmps33
   go_wp2_with fail
   go_ret2
   exact ⟨none,0,0,by rw [HE.out];rfl,by rw [HS.out];rfl,by rw [HS.out];exact Rd.empty _ _ _,Below.refl _ _⟩
end Go.Proofs.YtegdbmbenjnacaaGreat.Seg
