/-
  Texts of stage 7, part 25.
-/
import Derived.Deep.DeepCutAuto
import Derived.Shelf.RegionOpen
import Derived.Test.YtegdbmbenjnacaaGreatR2
import Derived.Test.YtegdbmbenjnacaaGreatR24
namespace Go.Proofs.YtegdbmbenjnacaaGreat.Norm
open Go.Shelf Go.RowKit Go.Sort Utf
open Ucd hiding grow
section
variable {w w' w'':World} {S T:Nat→Prop}
end
theorem own_mono {w:World} {base base':Nat} {e:TypeId} {size:Nat} {v:Value} {n:Nat} {xs:List Value} (h:w.ownsRow base e size v n xs) (hb:base'≤base):w.ownsRow base' e size v n xs:=by
 refine ⟨h.1,?_⟩
 rcases h.2 with h0 | ⟨g,cap,cur,rfl,h1,h2⟩
 ·exact .inl h0
 ·exact .inr ⟨g,cap,cur,rfl,Nat.le_trans hb h1,h2⟩
end Go.Proofs.YtegdbmbenjnacaaGreat.Norm
namespace Go.Proofs.YtegdbmbenjnacaaGreat.Norm
open Go.Shelf Go.RowKit Go.Sort Utf
open Ucd hiding grow
theorem full_three (r:Int):(fullF r).length≤3:=(bottom_parts r).2.1
theorem fulls_len:∀l:List Int,(fulls l).length≤3*l.length
 | []=>by simp [fulls]
 | r :: t=>by rw [fulls_cons,List.length_append,List.length_cons];have:=full_three r;have:=fulls_len t;omega
theorem told_start (K D:List Int) {x:Int} (h:cls x=0):told K (D++[x])=told K D++ord (pend K D)++[x]∧pend K (D++[x])=[]:=by
 rw [told_append,pend_append]
 simp [told,pend,h]
theorem told_mark (K D:List Int) {x:Int} (h:cls x≠0):told K (D++[x])=told K D∧pend K (D++[x])=pend K D++[x]:=by
 rw [told_append,pend_append]
 simp [told,pend,h]
end Go.Proofs.YtegdbmbenjnacaaGreat.Norm
namespace Go.Proofs.YtegdbmbenjnacaaGreat.Norm
open Go.Shelf Go.RowKit Go.Sort Utf
open Ucd hiding grow
def shiftL (F:List Int) (a:Nat):List Int:=(List.range F.length).map fun i=>if i≤a then F.getD i 0 else F.getD (i - 1) 0
theorem shiftL_len (F:List Int) (a:Nat):(shiftL F a).length=F.length:=by simp [shiftL]
theorem shiftL_get (F:List Int) (a i:Nat) (h:i < (shiftL F a).length):(shiftL F a)[i]=if i≤a then F.getD i 0 else F.getD (i - 1) 0:=by simp [shiftL]
theorem shiftL_start (F:List Int) (a:Nat) (h:F.length≤a+1):shiftL F a=F:=by
 apply List.ext_getElem (shiftL_len F a)
 intro i h1 h2
 rw [shiftL_get,if_pos (by omega)]
 simp [List.getD,List.getElem?_eq_getElem h2]
theorem shiftL_step (F:List Int) (a:Nat):(shiftL F (a+1)).set (a+1) (F.getD a 0)=shiftL F a:=by
 apply List.ext_getElem (by simp [shiftL_len])
 intro i h1 h2
 rw [List.getElem_set]
 split
 ·rename_i e
  subst e
  rw [shiftL_get,if_neg (by omega)]
  simp
 ·rw [shiftL_get,shiftL_get]
  by_cases h:i≤a
  ·rw [if_pos (by omega),if_pos h]
  ·rw [if_neg (by omega),if_neg h]
theorem shiftL_end (F:List Int) (x:Int) (a:Nat) (h:a≤F.length):(shiftL (F++[x]) a).set a x=F.take a++x :: F.drop a:=by
 apply List.ext_getElem (by simp [shiftL_len];omega)
 intro i h1 h2
 have hi:i < F.length+1:=by simpa [shiftL_len] using h1
 rw [List.getElem_set]
 split
 ·rename_i e
  subst e
  rw [List.getElem_append_right (by simp;omega)]
  simp [Nat.min_eq_left h]
 ·rename_i e
  rw [shiftL_get]
  by_cases hia:i < a
  ·rw [if_pos (by omega),List.getElem_append_left (by simp;omega)]
   simp [List.getD,List.getElem?_append_left (show i < F.length by omega),List.getElem?_eq_getElem (show i < F.length by omega)]
  ·have hl:(F.take a).length=a:=by simp;omega
   rw [if_neg (by omega),List.getElem_append_right (by omega)]
   obtain ⟨q,rfl⟩:∃q,i=a+1+q:=⟨i - a - 1,by omega⟩
   have e1:a+1+q - (F.take a).length=q+1:=by omega
   have e2:a+1+q - 1=a+q:=by omega
   simp only [e1,List.getElem_cons_succ,List.getElem_drop,e2]
   simp [List.getD,List.getElem?_append_left (show a+q < F.length by omega),List.getElem?_eq_getElem (show a+q < F.length by omega)]
theorem getD_eq (F:List Int) {i:Nat} (h:i < F.length):F.getD i 0=F[i]:=by simp [List.getD,List.getElem?_eq_getElem h]
theorem nums_set (l:List Int) (j:Nat) (x:Int):(nums l).set j (.int .i32 x)=nums (l.set j x):=by
 unfold nums
 rw [List.map_set]
theorem place (T P:List Int) (x:Int) (lo:Nat) (hP:Up P) (h1:T.length≤lo) (h2:lo≤T.length+P.length)
  (hl:lo=T.length∨cls ((T++P++[x]).getD (lo - 1) 0)≤cls x) (hr:lo=T.length+P.length∨cls x < cls ((T++P++[x]).getD lo 0)) :
  (T++P).take lo++x :: (T++P).drop lo=T++ins x P:=by
 obtain ⟨p,rfl⟩:∃p,lo=T.length+p:=⟨lo - T.length,by omega⟩
 have hg:∀i,i < P.length→(T++P++[x]).getD (T.length+i) 0=P.getD i 0:=fun i hi=>by
  rw [List.append_assoc,List.getD,List.getD,List.getElem?_append_right (by omega),Nat.add_sub_cancel_left,List.getElem?_append_left hi]
 have up:∀i j (hi:i < P.length) (hj:j < P.length),i≤j→cls P[i]≤cls P[j]:=fun i j hi hj hij=>by
  rcases Nat.eq_or_lt_of_le hij with rfl | h
  ·exact Int.le_refl _
  ·exact List.pairwise_iff_getElem.1 hP i j hi hj h
 have e:=ins_at (x:=x) (l:=P) (p:=p) (by omega) (fun i h hi=>by
  rcases hl with h' | h'
  ·omega
  ·rw [show T.length+p - 1=T.length+(p - 1) by omega,hg _ (by omega),getD_eq _ (by omega)] at h'
   have:=up i (p - 1) h (by omega) (by omega)
   omega) (fun i h hi=>by
  rcases hr with h' | h'
  ·omega
  ·rw [hg _ (by omega),getD_eq _ (by omega)] at h'
   have:=up p i (by omega) h hi
   omega)
 rw [e,List.take_append,List.drop_append,List.take_of_length_le (by omega),List.drop_of_length_le (by omega),Nat.add_sub_cancel_left]
 simp
theorem nf_start (D:List Int) {x:Int} (h:cls x=0):nf (D++[x])=nf D++[x]∧(told [] (D++[x])).length=(nf D).length+1:=by
 obtain ⟨e1,e2⟩:=told_start [] D h
 have e3:nf (D++[x])=nf D++[x]:=by
  rw [nf,nfm,e1,e2,ord_nil,List.append_nil];rfl
 refine ⟨e3,?_⟩
 rw [e1,List.length_append];rfl
theorem nf_mark (D:List Int) {x:Int} (h:cls x≠0):nf (D++[x])=told [] D++ins x (ord (pend [] D))∧told [] (D++[x])=told [] D:=by
 obtain ⟨e1,e2⟩:=told_mark [] D h
 refine ⟨?_,e1⟩
 rw [nf,nfm,e1,e2,ord_snoc]
set_option maxHeartbeats 16000000 in
set_option maxRecDepth 100000 in
theorem rnormal_any (A:Option Addr) (l:List Int) (n c:Nat) (w:World) (hr:Rd w w.heap.size A (nums l)) (hn:l.length=n) (hsm:n≤34359738368) :
  Calls Tryz.prog 98 #[.slice A n c] w (Mine w.heap.size w (normal l)):=by
 obtain ⟨i0,hi,hz0,hz1,hz2⟩:=info_parts infoI32
 have HR:=Lib.hid hr
 have HN:=Lib.hid hn
 have HSM:=Lib.hid hsm
 obtain ⟨B0,hB0⟩:∃B0,B0=w.heap.size:=⟨_,rfl⟩
 have HB0:=Lib.hid hB0
 rw [←hB0] at HR ⊢
 clear hr hn hB0 hsm
 go_enter Tryz.func98,Tryz.ntmps98
 go_wp2
 go_loopw [3,4,5] (fun vo vt i wr=>∃k t:Nat,k≤n∧i=.int .i64 k∧vt=.int .i64 t∧t≤1099511627776∧Hid (t=(told [] (fulls (l.take k))).length)∧Hid (wr.ownsRow B0 21 1 vo (nf (fulls (l.take k))).length (nums (nf (fulls (l.take k)))))∧Hid (Below B0 w wr)) (fun _ _ i _=>n - (intOf i).toNat)
 case atStart=>exact ⟨0,0,Nat.zero_le _,rfl,rfl,by omega,Lib.hid (by simp [fulls,told]),Lib.hid (by simp only [List.take_zero,fulls,List.flatMap_nil];exact World.ownsRow_nil _ _ _ _),Lib.hid (Below.refl _ _)⟩
 case round =>
  obtain ⟨k,t,hk,rfl,rfl,ht,HT,HO,HB⟩:=hrel
  by_cases hlt:k < n
  ·obtain ⟨kq,hkq⟩:∃q,q+k+1=n:=⟨n - k - 1,by omega⟩
   have HKN:=Lib.hid hkq
   clear hkq
   have hkl:k < l.length:=by rw [HN.out];exact hlt
   obtain ⟨b,o,rfl,hbl⟩:=HR.out.form (by rw [nums_len];omega)
   have hcell:wr.cell? ⟨b,o+k,none⟩=some (.int .i32 l[k]):=(HR.out.below HB.out).num hkl
   have HTK:=Lib.hid (show fulls (l.take (k+1))=fulls (l.take k)++fullF l[k] by rw [List.take_succ_eq_append_getElem hkl,fulls_append,fulls_cons];simp [fulls])
   have h3:=full_three l[k]
   have h1:=full_some l[k]
   have HC:=Lib.hid (rdec_new l[k] wr)
   have HDL:=Lib.hid (show (fulls (l.take k)).length≤3*k by have:=fulls_len (l.take k);rw [List.length_take] at this;omega)
   obtain ⟨D,hD⟩:∃D,D=fulls (l.take k):=⟨_,rfl⟩
   rw [←hD] at HT HO HTK HDL
   generalize l[k]=r at hcell HTK h3 h1 HC
   generalize fullF r=xs at HTK h3 h1 HC
   clear hkl hD
   go_wp2_with fail
   refine HC.out.mono ?_
   rintro e w1 ⟨Ad,cd,rfl,hd1,hd2,hrd,hb1,hnew⟩
   obtain ⟨gd,od,rfl,hgd⟩:=hrd.form (by rw [nums_len];exact h1)
   have HNG:=Lib.hid (show ∀g,u3.ownBlock=some g→gd≠g from fun g hv=>by have:=(HO.out.lt g hv).2;have:=hnew gd od rfl;omega)
   have HO1:=Lib.hid (own_below HO.out hb1)
   have HB1:=Lib.hid (HB.out.trans (hb1.mono (by have:=HB.out.size;have:=HB0.out;omega)))
   obtain ⟨m,hm⟩:∃m,m=xs.length:=⟨_,rfl⟩
   have HM:=Lib.hid hm
   have HCL:=Lib.hid (show ∀j (h:j < xs.length),w1.cell? ⟨gd,od+j,none⟩=some (.int .i32 xs[j]) from fun j h=>hrd.num h)
   have HGD:=Lib.hid hgd
   rw [←hm] at h1 h3 hd1 ⊢
   clear hm hb1 hrd hnew HC HO HB hgd
   go_wp2_with fail
   go_loopw [3,4,7] (fun vo vt i wx=>∃j t:Nat,j≤m∧i=.int .i64 j∧vt=.int .i64 t∧t≤1099511627776∧Hid (t=(told [] (D++xs.take j)).length)∧Hid (wx.ownsRow B0 21 1 vo (nf (D++xs.take j)).length (nums (nf (D++xs.take j))))∧Hid (Below B0 w wx)∧Hid (∀g,vo.ownBlock=some g→gd≠g)∧Hid (∀j (h:j < xs.length),wx.cell? ⟨gd,od+j,none⟩=some (.int .i32 xs[j]))∧Hid (gd < wx.heap.size)) (fun _ _ i _=>m - (intOf i).toNat)
   case atStart=>exact ⟨0,t,Nat.zero_le _,rfl,rfl,ht,by simpa using HT,by simpa using HO1,HB1,HNG,HCL,HGD⟩
   case round =>
    clear HO1 HB1 HNG HCL HT HGD
    obtain ⟨j,t,hj,rfl,rfl,ht,HT,HO,HB,HNG,HCL,HGD⟩:=hrel
    by_cases hjt:j < m
    ·have hjl:j < xs.length:=by rw [←HM.out];exact hjt
     have hcell:wr.cell? ⟨gd,od+j,none⟩=some (.int .i32 xs[j]):=HCL.out j hjl
     have HTK2:=Lib.hid (show xs.take (j+1)=xs.take j++[xs[j]] from List.take_succ_eq_append_getElem hjl)
     have HXJ:=Lib.hid (show ∃h:j < xs.length,xs[j]=xs[j] from ⟨hjl,rfl⟩)
     obtain ⟨x,hx⟩:∃x,x=xs[j]:=⟨_,rfl⟩
     rw [←hx] at hcell HTK2
     have HFN:=Lib.hid (show (nf (D++xs.take j)).length≤274877906944 by rw [nf_len,List.length_append,List.length_take];have:=HDL.out;have:=HKN.out;have:=HSM.out;omega)
     obtain ⟨F,hF⟩:∃F,F=nf (D++xs.take j):=⟨_,rfl⟩
     rw [←hF] at HO HFN
     have HFE:=Lib.hid hF
     obtain ⟨f,hf⟩:∃f,f=F.length:=⟨_,rfl⟩
     rw [←hf] at HO HFN
     have HFL:=Lib.hid hf
     have htf:t≤f:=by rw [hf,hF,nf,nfm,List.length_append,HT.out];omega
     have hb3:B0≤wr.heap.size:=Nat.le_trans (Nat.le_of_eq HB0.out) HB.out.size
     have hfn:=HFN.out
     clear hF hjl hx HXJ hf
     by_cases hc:cls x=0
     ·have hcb:(cls x == 0)=true:=by simp [hc]
      have HX:=Lib.hid hc
      have HC0:=Lib.hid (rclass_any x wr)
      rw [hc] at HC0
      clear hc
      go_wp2_with (first | (go_at_call 113;refine HC0.out.mono ?_;rintro e w2 ⟨rfl,rfl⟩) | (at_builtin;refine wpList_append_rd _ rfl (.tmp 35) (.tmp 40) _ rfl B0 21 i0 _ 1 4 Tryz.underlying143 hi hz0 hz1 hz2 rfl (by decide) u3 f (nums F) rfl (HO.out.alloc _) _ (some ⟨wr.heap.size,0,none⟩) 1 1 [.int .i32 x] rfl rfl (rd_new _ _ [.int .i32 x] _ rfl) (nums_one [x]) (by unfold maxLen;omega) (by omega) (by simp;omega) ?_;intro v6 w6 hown6 hgr6 hat6;obtain ⟨A6,c6,hv6,_⟩:=own_form hown6;subst hv6))
      have HNF:=Lib.hid (show nf (D++xs.take (j+1))=F++[x]∧f+1=(told [] (D++xs.take (j+1))).length by
       obtain ⟨e1,e2⟩:=nf_start (D++xs.take j) HX.out
       rw [HTK2.out,←List.append_assoc,e1,e2,HFE.out]
       exact ⟨rfl,by rw [HFL.out,HFE.out]⟩)
      have HO6:=Lib.hid (show w6.ownsRow B0 21 1 (.slice A6 (f+1) c6) (nf (D++xs.take (j+1))).length (nums (nf (D++xs.take (j+1)))) by
       rw [HNF.out.1,List.length_append,←HFL.out,nums_append];exact hown6)
      have HG6:=Lib.hid hgr6
      have HB6:=Lib.hid ((HB.out.alloc hb3 (.cells [Value.int .i32 x].toArray 21)).grown hgr6 (by simp;omega) (fun y hy=>(HO.out.lt y hy).1))
      have HNG6:=Lib.hid (show ∀g,(Value.slice A6 (f+1) c6).ownBlock=some g→gd≠g from fun g hg'=>by
       rcases hat6 with e | e
       ·exact HNG.out g (e ▸ hg')
       ·rw [e] at hg';injection hg' with hg';have:=HGD.out;simp at hg';omega)
      have HCL6:=Lib.hid (show ∀i (h:i < xs.length),w6.cell? ⟨gd,od+i,none⟩=some (.int .i32 xs[i]) from fun i h=>by
       have hgd:=HGD.out
       rw [hgr6.cell_far ⟨gd,od+i,none⟩ (by simp;omega) (fun e=>HNG.out gd e.symm rfl),World.cell?_alloc_lt _ _ _ hgd]
       exact HCL.out i h)
      have HGD6:=Lib.hid (show gd < w6.heap.size by have:=hgr6.size;have:=HGD.out;simp at *;omega)
      have HT6:=Lib.hid HNF.out.2
      have hf1:f+1≤1099511627776:=by omega
      clear hown6 hgr6 hat6 HNF HO HB HNG HCL HGD
      go_roundw
      case rel=>exact ⟨j+1,f+1,by omega,by go_num,by go_num,hf1,HT6,HO6,HB6,HNG6,HCL6,HGD6⟩
      case measure=>simp [intOf];omega
     ·have hcb:(cls x == 0)=false:=by simpa using hc
      have HX:=Lib.hid hc
      have HC0:=Lib.hid (rclass_any x wr)
      obtain ⟨cx,hcx⟩:∃cx,cx=cls x:=⟨_,rfl⟩
      rw [←hcx] at HC0 hcb
      have HCX:=Lib.hid hcx
      clear hc hcx
      go_wp2_with (first | (go_at_call 113;refine HC0.out.mono ?_;rintro e w2 ⟨rfl,rfl⟩) | (at_builtin;refine wpList_append_rd _ rfl (.tmp 35) (.tmp 40) _ rfl B0 21 i0 _ 1 4 Tryz.underlying143 hi hz0 hz1 hz2 rfl (by decide) u3 f (nums F) rfl (HO.out.alloc _) _ (some ⟨wr.heap.size,0,none⟩) 1 1 [.int .i32 x] rfl rfl (rd_new _ _ [.int .i32 x] _ rfl) (nums_one [x]) (by unfold maxLen;omega) (by omega) (by simp;omega) ?_;intro v6 w6 hown6 hgr6 hat6;obtain ⟨g6,c6,hv6,_⟩:=hown6.form (by omega);subst hv6))
      obtain ⟨G,hG⟩:∃G,G=F++[x]:=⟨_,rfl⟩
      have HGE:=Lib.hid hG
      have HGL:=Lib.hid (show G.length=f+1 by rw [hG,List.length_append,HFL.out];rfl)
      have HO6:=Lib.hid (show w6.ownsRow B0 21 1 (.slice (some ⟨g6,0,none⟩) (f+1) c6) (f+1) (nums G) by rw [hG,nums_append];exact hown6)
      have HB6:=Lib.hid ((HB.out.alloc hb3 (.cells [Value.int .i32 x].toArray 21)).grown hgr6 (by simp;omega) (fun y hy=>(HO.out.lt y hy).1))
      have HNG6:=Lib.hid (show gd≠g6 from by
       rcases hat6 with e | e
       ·exact HNG.out g6 (e ▸ rfl)
       ·have hg':some g6=some _:=e
        injection hg' with hg';have:=HGD.out;simp at hg';omega)
      have HCL6:=Lib.hid (show ∀i (h:i < xs.length),w6.cell? ⟨gd,od+i,none⟩=some (.int .i32 xs[i]) from fun i h=>by
       have hgd:=HGD.out
       rw [hgr6.cell_far ⟨gd,od+i,none⟩ (by simp;omega) (fun e=>HNG.out gd e.symm rfl),World.cell?_alloc_lt _ _ _ hgd]
       exact HCL.out i h)
      have HGD6:=Lib.hid (show gd < w6.heap.size by have:=hgr6.size;have:=HGD.out;simp at *;omega)
      have hb6:B0≤w6.heap.size:=Nat.le_trans (Nat.le_of_eq HB0.out) HB6.out.size
      have hg6:B0≤g6:=(HO6.out.lt g6 rfl).1
      have HXJ:=Lib.hid (show ∃h:j < xs.length,xs[j]=x from by
       have hjl:j < xs.length:=by rw [←HM.out];exact hjt
       refine ⟨hjl,?_⟩
       have e:=HTK2.out
       rw [List.take_succ_eq_append_getElem hjl] at e
       exact (List.cons.inj (List.append_cancel_left e)).1)
      clear hown6 hgr6 hat6 HO HB HNG HCL HGD hG HC0 hb3 hcell
      go_loopw [9,10,11] (fun vlo vhi _ wx=>∃lo hi:Nat,vlo=.int .i64 lo∧vhi=.int .i64 hi∧t≤lo∧lo≤hi∧hi≤f∧Hid (lo=t∨cls (G.getD (lo - 1) 0)≤cls x)∧Hid (hi=f∨cls x < cls (G.getD hi 0))∧Hid (wx=w6)) (fun vlo vhi _ _=>(intOf vhi - intOf vlo).toNat)
      case atStart=>exact ⟨t,f,rfl,by go_num,Nat.le_refl _,htf,Nat.le_refl _,Lib.hid (.inl rfl),Lib.hid (.inl rfl),Lib.hid rfl⟩
      case round =>
       obtain ⟨lo,hi',rfl,rfl,l1,l2,l3,HLO,HHI,HW⟩:=hrel
       by_cases hlh:lo < hi'
       ·have hlhz:(lo:Int) < (hi':Int):=by omega
        obtain ⟨m2,hm2⟩:∃m2:Nat,m2=(lo+hi') / 2:=⟨_,rfl⟩
        have hz:((lo:Int)+(hi':Int)) / 2=(m2:Int):=by omega
        have hz2:Int.tdiv ((lo:Int)+(hi':Int)) 2=(m2:Int):=by rw [Int.tdiv_eq_ediv_of_nonneg (by omega)];exact hz
        have k1:lo≤m2:=by omega
        have k2:m2 < hi':=by omega
        have hcm:wr.cell? ⟨g6,m2,none⟩=some (.int .i32 (G.getD m2 0)):=by
         rw [HW.out,HO6.out.cellAt m2 (by omega),nums_get (by rw [HGL.out];omega),getD_eq _ (by rw [HGL.out];omega)]
        obtain ⟨y,hy⟩:∃y,y=G.getD m2 0:=⟨_,rfl⟩
        rw [←hy] at hcm
        obtain ⟨cy,hcy⟩:∃cy,cy=cls y:=⟨_,rfl⟩
        have HCY:=Lib.hid (rclass_any y wr)
        rw [←hcy] at HCY
        have HYE:=Lib.hid (show cls (G.getD m2 0)=cy by rw [←hy,hcy])
        clear hm2 hy hcy hlh
        by_cases hv:cx < cy
        ·have HHI2:=Lib.hid (show m2=f∨cls x < cls (G.getD m2 0) from .inr (by rw [HYE.out,←HCX.out];exact hv))
         go_wp2_with (go_at_call 113;refine HCY.out.mono ?_;rintro e w2 ⟨rfl,rfl⟩)
         go_roundw
         case rel=>exact ⟨lo,m2,rfl,rfl,l1,k1,by omega,HLO,HHI2,HW⟩
         case measure=>simp [intOf];omega
        ·have HLO2:=Lib.hid (show m2+1=t∨cls (G.getD (m2+1 - 1) 0)≤cls x from .inr (by rw [Nat.add_sub_cancel,HYE.out,←HCX.out];omega))
         go_wp2_with (go_at_call 113;refine HCY.out.mono ?_;rintro e w2 ⟨rfl,rfl⟩)
         go_roundw
         case rel=>exact ⟨m2+1,hi',by go_num,rfl,by omega,by omega,l3,HLO2,HHI,HW⟩
         case measure=>simp [intOf];omega
       ·have hlhz:¬(lo:Int) < (hi':Int):=by omega
        obtain rfl:lo=hi':=by omega
        obtain ⟨wz,hwz⟩:∃wz,wz=wr:=⟨_,rfl⟩
        have HPL:=Lib.hid (show F.take lo++x :: F.drop lo=nf (D++xs.take (j+1))∧told [] (D++xs.take (j+1))=told [] (D++xs.take j) by
         obtain ⟨e1,e2⟩:=nf_mark (D++xs.take j) HX.out
         have hFe:F=told [] (D++xs.take j)++ord (pend [] (D++xs.take j)):=HFE.out
         have hfl:f=(told [] (D++xs.take j)).length+(ord (pend [] (D++xs.take j))).length:=by rw [HFL.out,hFe,List.length_append]
         have h:=place (told [] (D++xs.take j)) (ord (pend [] (D++xs.take j))) x lo (ord_up _) (by rw [←HT.out];exact l1) (by omega)
          (by rw [←hFe,←HGE.out,←HT.out];exact HLO.out) (by rw [←hFe,←HGE.out,←hfl];exact HHI.out)
         rw [HTK2.out,←List.append_assoc,e1,e2,hFe]
         exact ⟨h,rfl⟩)
        rw [HW.out]
        clear HW HLO HHI hlh hwz
        go_wp2_with fail
        go_loopw [12] (fun va wx=>∃a:Nat,va=.int .i64 a∧lo≤a∧a≤f∧Hid (wx.ownsRow B0 21 1 (.slice (some ⟨g6,0,none⟩) (f+1) c6) (f+1) (nums (shiftL G a)))∧Hid (Below B0 w wx)∧Hid (∀i (h:i < xs.length),wx.cell? ⟨gd,od+i,none⟩=some (.int .i32 xs[i]))∧Hid (gd < wx.heap.size)) (fun va _=>(intOf va).toNat)
        case atStart=>exact ⟨f,by go_num,l3,Nat.le_refl _,Lib.hid (by rw [shiftL_start G f (by rw [HGL.out];omega)];exact HO6.out),HB6,HCL6,HGD6⟩
        case round =>
         clear HO6 HB6 HCL6 HGD6
         obtain ⟨a,rfl,a1,a2,HO,HB,HCL,HGD⟩:=hrel
         by_cases hal:lo < a
         ·obtain ⟨q,rfl⟩:∃q,a=q+1:=⟨a - 1,by omega⟩
          obtain ⟨p,hp⟩:∃p,p=q+1:=⟨_,rfl⟩
          have ec:((q+1:Nat):Int)=(p:Int):=by omega
          have eb:(p:Int) - 1=(q:Int):=by omega
          have ltp:(lo:Int) < (p:Int):=by omega
          have p2:p≤f:=by omega
          rw [ec]
          rw [←hp] at HO
          have hsl:(shiftL G p).length=f+1:=by rw [shiftL_len,HGL.out]
          have c1:wr.cell? ⟨g6,q,none⟩=some (.int .i32 (G.getD q 0)):=by
           rw [HO.out.cellAt q (by omega),nums_get (by omega),shiftL_get,if_pos (by omega)]
          have c2:wr.cell? ⟨g6,p,none⟩=some (.int .i32 (shiftL G p)[p]):=by
           rw [HO.out.cellAt p (by omega),nums_get (by omega)]
          have f2:=HO.out.frozenAt p
          have HO7:=Lib.hid (HO.out.stored p (.int .i32 (G.getD q 0))).1
          rw [nums_set,show (shiftL G p).set p (G.getD q 0)=shiftL G q by rw [hp];exact shiftL_step G q] at HO7
          have HB7:=Lib.hid (HB.out.setCell (p:=⟨g6,p,none⟩) hg6 (.int .i32 (G.getD q 0)))
          have HCL7:=Lib.hid (show ∀i (h:i < xs.length),(wr.setCell ⟨g6,p,none⟩ (.int .i32 (G.getD q 0))).cell? ⟨gd,od+i,none⟩=some (.int .i32 xs[i]) from fun i h=>by
           rw [World.cell?_setCell_other _ _ _ _ (by intro e;have:=HNG6.out;simp only [Addr.mk.injEq] at e;omega)]
           exact HCL.out i h)
          have HGD7:=Lib.hid (show gd < (wr.setCell ⟨g6,p,none⟩ (.int .i32 (G.getD q 0))).heap.size by have:=HGD.out;simpa [World.setCell] using this)
          generalize G.getD q 0=y at c1 HO7 HB7 HCL7 HGD7
          generalize (shiftL G p)[p]=y2 at c2
          clear hp hsl HO HB HCL HGD hal
          go_wp2_with fail
          go_roundw
          case rel=>exact ⟨q,rfl,by omega,by omega,HO7,HB7,HCL7,HGD7⟩
          case measure=>simp [intOf];omega
         ·obtain rfl:a=lo:=by omega
          have hjl:j < xs.length:=by rw [←HM.out];exact hjt
          have cj:wr.cell? ⟨gd,od+j,none⟩=some (.int .i32 x):=by
           obtain ⟨h,e⟩:=HXJ.out
           rw [HCL.out j h,e]
          have hsl:(shiftL G a).length=f+1:=by rw [shiftL_len,HGL.out]
          have c2:wr.cell? ⟨g6,a,none⟩=some (.int .i32 (shiftL G a)[a]):=by
           rw [HO.out.cellAt a (by omega),nums_get (by omega)]
          have f2:=HO.out.frozenAt a
          have HO7:=Lib.hid (HO.out.stored a (.int .i32 x)).1
          rw [nums_set,show (shiftL G a).set a x=nf (D++xs.take (j+1)) by rw [HGE.out,shiftL_end F x a (by rw [←HFL.out];exact a2)];exact HPL.out.1] at HO7
          have HLN:=Lib.hid (show (nf (D++xs.take (j+1))).length=f+1 by rw [←HPL.out.1];simp only [List.length_append,List.length_take,List.length_cons,List.length_drop];have:=HFL.out;omega)
          have HO8:=Lib.hid (show (wr.setCell ⟨g6,a,none⟩ (.int .i32 x)).ownsRow B0 21 1 (.slice (some ⟨g6,0,none⟩) (f+1) c6) (nf (D++xs.take (j+1))).length (nums (nf (D++xs.take (j+1)))) by rw [HLN.out];exact HO7.out)
          have HB7:=Lib.hid (HB.out.setCell (p:=⟨g6,a,none⟩) hg6 (.int .i32 x))
          have HCL7:=Lib.hid (show ∀i (h:i < xs.length),(wr.setCell ⟨g6,a,none⟩ (.int .i32 x)).cell? ⟨gd,od+i,none⟩=some (.int .i32 xs[i]) from fun i h=>by
           rw [World.cell?_setCell_other _ _ _ _ (by intro e;have:=HNG6.out;simp only [Addr.mk.injEq] at e;omega)]
           exact HCL.out i h)
          have HGD7:=Lib.hid (show gd < (wr.setCell ⟨g6,a,none⟩ (.int .i32 x)).heap.size by have:=HGD.out;simpa [World.setCell] using this)
          have HT7:=Lib.hid (show t=(told [] (D++xs.take (j+1))).length by rw [HPL.out.2];exact HT.out)
          have HNG7:=Lib.hid (show ∀g,(Value.slice (some ⟨g6,0,none⟩) (f+1) c6).ownBlock=some g→gd≠g from fun g h=>by
           have e:some g6=some g:=h
           injection e with e
           have:=HNG6.out
           omega)
          generalize (shiftL G a)[a]=y2 at c2
          clear hsl HO HO7 HB HCL HGD HPL hjl hal
          go_wp2_with fail
          go_roundw
          case rel=>exact ⟨j+1,t,by omega,by go_num,rfl,ht,HT7,HO8,HB7,HNG7,HCL7,HGD7⟩
          case measure=>simp [intOf];omega
    ·obtain rfl:j=m:=by omega
     have HXT:=Lib.hid (show xs.take j=xs by rw [HM.out];exact List.take_length)
     rw [HXT.out,←HTK.out] at HT HO
     clear HNG HCL HXT HTK HGD
     have hkb:k+1≤274877906944:=by have:=HKN.out;have:=HSM.out;omega
     go_wp2_with fail
     go_roundw
     case rel=>exact ⟨k+1,t,by have:=HKN.out;omega,by go_num,rfl,ht,HT,HO,HB⟩
     case measure=>have:=HKN.out;simp [intOf];omega
  ·have hkn:k=n:=by omega
   have HLT:=Lib.hid (show l.take k=l by rw [hkn,←HN.out];exact List.take_length)
   rw [HLT.out] at HO
   clear hkn
   go_wp2
   go_ret
   exact ⟨_,rfl,HO.out,HB.out⟩
end Go.Proofs.YtegdbmbenjnacaaGreat.Norm
