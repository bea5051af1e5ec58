/-
  Texts of stage 7, part 16.
-/
import Derived.Test.YtegdbmbenjnacaaGreatR14
namespace Go.Proofs.YtegdbmbenjnacaaGreat.Syn
open Go.RowKit
open Utf (Rd Blk)
open Rset (Ret Rg own_form ret_bool)
open Sset (St Tx normS none_ Has3 ArgT ArgR r_rsame r_rsnorm has3_none mk_toList)
set_option maxRecDepth 100000
noncomputable def mayStep (h:Int) (n:Nd):Option Int :=
 if n.kind=7 then (if n.set=none_∧1≤h∧0≤n.mn∧n.mn≤64∧n.mx≤64∧(n.mn≤n.mx∨n.mx=-1) then some h else none)
 else if n.mn≠0∨n.mx≠0 then none
 else if n.kind=2 then (if normS n.set=n.set then some (h+1) else none)
 else if n.set≠none_ then none
 else if n.kind=1∨n.kind=3∨n.kind=4 then some (h+1)
 else if n.kind=5∨n.kind=6 then (if 2≤h then some (h - 1) else none)
 else none
noncomputable def mayL:Option Int→List Nd→Option Int
 | h,[]=>h
 | none,_=>none
 | some h,n :: l=>mayL (mayStep h n) l
noncomputable def mayF (l:List Nd):Bool:=decide (mayL (some 0) l=some 1)
theorem mayL_none:∀l:List Nd,mayL none l=none
 | []=>rfl
 | _ :: _=>rfl
theorem mayL_append:∀(l:List Nd) (h:Option Int) (n:Nd),mayL h (l++[n])=match mayL h l with
  | some x=>mayStep x n
  | none=>none
 | [],some h,n=>by show mayL (mayStep h n) []=mayStep h n;cases mayStep h n <;> rfl
 | [],none,n=>rfl
 | m :: l,none,n=>by show mayL none (m :: (l++[n]))=_;rw [mayL_none,mayL_none]
 | m :: l,some h,n=>by show mayL (mayStep h m) (l++[n])=_;rw [mayL_append l (mayStep h m) n];rfl
theorem mayL_split (l m:List Nd):∀h,mayL h l=none→mayL h (l++m)=none:=by
 induction l with
 | nil=>intro h e;rw [show h=none from e];exact mayL_none _
 | cons x l ih =>
  intro h e
  cases h with
  | none=>exact mayL_none _
  | some h=>exact ih _ e
theorem mayL_take {l:List Nd} {k:Nat} (hk:k < l.length) {h:Int} (e:mayL (some 0) (l.take k)=some h):mayL (some 0) (l.take (k+1))=mayStep h l[k]:=by
 rw [List.take_succ_eq_append_getElem hk,mayL_append,e]
theorem may_stop {l:List Nd} {k:Nat} (hk:k < l.length) {h:Int} (e:mayL (some 0) (l.take k)=some h) (hs:mayStep h l[k]=none):mayF l=false:=by
 have h1:=mayL_take hk e
 rw [hs] at h1
 have:=mayL_split (l.take (k+1)) (l.drop (k+1)) _ h1
 rw [List.take_append_drop] at this
 unfold mayF
 rw [this];rfl
set_option maxHeartbeats 16000000 in
theorem rmay_any (A:Option Addr) (V:List NV) (l:List Nd) (n c:Nat) (w:World) (h:ArgN w A n V l) :
  Calls Tryz.prog 37 #[.slice A n c] w (Ret w (.bool (mayF l))):=by
 have H:=Lib.hid h
 have hn:=h.sm
 clear h
 go_enter Tryz.func37,Tryz.ntmps37
 go_wp2_with fail
 go_loopw [3,4] (fun hv i wr=>∃(k:Nat) (x:Int),k≤n∧hv=.int .i64 x∧i=.int .i64 k∧0≤x∧x≤k∧Hid (mayL (some 0) (l.take k)=some x)∧Hid (Below w.heap.size w wr)) (fun _ i _=>n - (intOf i).toNat)
 case atStart=>exact ⟨0,0,Nat.zero_le _,rfl,rfl,Int.le_refl _,Int.le_refl _,Lib.hid rfl,Lib.hid (Below.refl _ _)⟩
 case round =>
  obtain ⟨k,x,hk,rfl,rfl,hx0,hxk,HT,HB⟩:=hrel
  by_cases hlt:k < n
  ·have ha:k < l.length:=by rw [H.out.len2];exact hlt
   have hv:k < V.length:=by rw [H.out.len];exact hlt
   have H1:=H.out.next HB.out
   obtain ⟨p,o,rfl,_⟩:=nv_form H1.rd (by omega)
   have HM:=Lib.hid (H1.means k hv ha)
   have HD:=rd_nv H1.rd hv
   have HTK:=Lib.hid (show mayL (some 0) (l.take (k+1))=mayStep x l[k] from mayL_take ha HT.out)
   have HNO:=Lib.hid (show mayStep x l[k]=none→mayF l=false from may_stop ha HT.out)
   generalize V[k]=v at HM HD
   generalize l[k]=s at HM HTK HNO
   clear ha hv H1
   have e1:=HM.out.k;have e3:=HM.out.mn;have e5:=HM.out.mx
   obtain ⟨vk,X1,x1,y1,X2,x2,y2,X3,x3,y3,vm,vx⟩:=v
   dsimp only at e1 e3 e5 HD
   obtain ⟨sk,ss,sm,sx⟩:=s
   dsimp only at e1 e3 e5
   subst e1 e3 e5
   obtain ⟨d0,d1,d2,d3,d4,d5⟩:=HD
   obtain ⟨gb,hgb⟩:∃gb,gb=wr.heap.size:=⟨_,rfl⟩
   obtain ⟨U,hU⟩:∃U,U=wr.alloc (.cells #[.int .i64 vk,.slice X1 x1 y1,.slice X2 x2 y2,.slice X3 x3 y3,.int .i64 vm,.int .i64 vx] 100):=⟨_,rfl⟩
   have HBX:=Lib.hid (show Blk U gb 100 [.int .i64 vk,.slice X1 x1 y1,.slice X2 x2 y2,.slice X3 x3 y3,.int .i64 vm,.int .i64 vx] from by rw [hU,hgb];exact Blk.new wr _ _)
   have HS:=Lib.hid (show Has3 U X1 x1 X2 x2 X3 x3 ss from by rw [hU];exact HM.out.set.next ((Below.refl _ _).alloc (Nat.le_refl _) _))
   have HB2:=Lib.hid (show Below w.heap.size w U from by rw [hU];exact HB.out.alloc HB.out.size _)
   have HU:=Lib.hid hU;have HG:=Lib.hid hgb
   clear hU hgb HM
   go_wp2_with fail
   rw [←HU.out,←HG.out]
   clear HU HG d0 d1 d2 d3 d4 d5
   have q1:=HBX.out.cell 1;have q2:=HBX.out.cell 2;have q3:=HBX.out.cell 3
   go_wp2_with fail
   refine (r_rsame _ _ _ 0 0 0 HS.out (has3_none _) rfl).mono ?_
   rintro e u ⟨rfl,hb⟩
   clear q1 q2 q3
   replace HBX:=Lib.hid (HBX.out.below hb HBX.out.lt)
   replace HS:=Lib.hid (HS.out.next hb)
   replace HB2:=Lib.hid (HB2.out.trans (hb.mono HB2.out.size))
   clear hb HB
   obtain ⟨z,hz⟩:∃z,decide (ss=none_)=z:=⟨_,rfl⟩
   rw [hz]
   have HZ:=Lib.hid hz
   clear hz
   have q0:=HBX.out.cell 0;have q4:=HBX.out.cell 4;have q5:=HBX.out.cell 5
   by_cases h7:vk=7
   ·subst h7
    cases z with
    | false =>
     have HF:=Lib.hid (HNO.out (by unfold mayStep;rw [if_pos rfl,if_neg (fun e=>of_decide_eq_false HZ.out e.1)]))
     go_wp2_with fail
     go_ret
     rw [HF.out]
     exact ⟨rfl,HB2.out⟩
    | true =>
     by_cases c1:1≤x
     ·skip
      by_cases c2:0≤vm
      ·skip
       by_cases c3:vm≤64
       ·skip
        by_cases c4:vx≤64
        ·skip
         by_cases c5:vm≤vx
         ·skip
          have HN:=Lib.hid (show mayL (some 0) (l.take (k+1))=some (x) from HTK.out.trans (by unfold mayStep;rw [if_pos rfl,if_pos ⟨of_decide_eq_true HZ.out,c1,c2,c3,c4,.inl c5⟩]))
          go_wp2_with fail
          go_roundw
          case rel=>exact ⟨k+1,x,by omega,by go_num,by go_num,by omega,by omega,HN,HB2⟩
          case measure=>simp [intOf];omega
         ·by_cases c6:vx=-1
          ·subst c6
           have hc:(-1:Int) < vm:=by omega
           have HN:=Lib.hid (show mayL (some 0) (l.take (k+1))=some (x) from HTK.out.trans (by unfold mayStep;rw [if_pos rfl,if_pos ⟨of_decide_eq_true HZ.out,c1,c2,c3,c4,.inr rfl⟩]))
           go_wp2_with fail
           go_roundw
           case rel=>exact ⟨k+1,x,by omega,by go_num,by go_num,by omega,by omega,HN,HB2⟩
           case measure=>simp [intOf];omega
          ·have hc2:(vx != -1)=true:=by rw [bne_iff_ne];exact c6
           have HF:=Lib.hid (HNO.out (by unfold mayStep;rw [if_pos rfl,if_neg (fun e=>e.2.2.2.2.2.elim c5 c6)]))
           go_wp2_with fail
           go_ret
           rw [HF.out]
           exact ⟨rfl,HB2.out⟩
        ·skip
         have HF:=Lib.hid (HNO.out (by unfold mayStep;rw [if_pos rfl,if_neg (fun e=>c4 e.2.2.2.2.1)]))
         go_wp2_with fail
         go_ret
         rw [HF.out]
         exact ⟨rfl,HB2.out⟩
       ·skip
        have HF:=Lib.hid (HNO.out (by unfold mayStep;rw [if_pos rfl,if_neg (fun e=>c3 e.2.2.2.1)]))
        go_wp2_with fail
        go_ret
        rw [HF.out]
        exact ⟨rfl,HB2.out⟩
      ·skip
       have HF:=Lib.hid (HNO.out (by unfold mayStep;rw [if_pos rfl,if_neg (fun e=>c2 e.2.2.1)]))
       go_wp2_with fail
       go_ret
       rw [HF.out]
       exact ⟨rfl,HB2.out⟩
     ·skip
      have HF:=Lib.hid (HNO.out (by unfold mayStep;rw [if_pos rfl,if_neg (fun e=>c1 e.2.1)]))
      go_wp2_with fail
      go_ret
      rw [HF.out]
      exact ⟨rfl,HB2.out⟩
   ·by_cases h4:vm=0
    ·subst h4
     by_cases h5:vx=0
     ·subst h5
      by_cases h2:vk=2
      ·subst h2
       have q1:=HBX.out.cell 1;have q2:=HBX.out.cell 2;have q3:=HBX.out.cell 3
       have HSW:=Lib.hid (show ∀u2,Below u.heap.size u u2→u2.cell? ⟨gb,1,none⟩=some (.slice X1 x1 y1)∧u2.cell? ⟨gb,2,none⟩=some (.slice X2 x2 y2)∧u2.cell? ⟨gb,3,none⟩=some (.slice X3 x3 y3) from fun u2 hu=>⟨(HBX.out.below hu HBX.out.lt).cell 1,(HBX.out.below hu HBX.out.lt).cell 2,(HBX.out.below hu HBX.out.lt).cell 3⟩)
       have HQ0:=Lib.hid (show Below u.heap.size u u.drew from (Below.refl _ _).drew)
       go_wp2_with fail
       refine wp_region_held_drew (S:=fun u2=>u2.cell? ⟨gb,1,none⟩=some (.slice X1 x1 y1)∧u2.cell? ⟨gb,2,none⟩=some (.slice X2 x2 y2)∧u2.cell? ⟨gb,3,none⟩=some (.slice X3 x3 y3)) (by kernel_rfl) (HSW.out _ HQ0.out) (fun hHeld=>?_)
       refine wpAnyH_take (i:=0) (oi:=_) (v:=?_) rfl (by kernel_rfl) (by kernel_rfl) (by kernel_rfl) (fun _ _ _ h=>h) (Or.inl ⟨by rfl,?_⟩) (by assumption) ?_
       rotate_left
       ·(intro w hSw;(try dsimp only at hSw);(try obtain ⟨s1_,s2_,s3_⟩:=hSw);go_simp <;> with_reducible rfl)
       simp only [List.getElem_toArray,List.getElem_cons_zero,Act.put,List.setIfInBounds_toArray,List.set_cons_zero,List.set_cons_succ]
       refine wpAnyH_take (i:=1) (oi:=_) (v:=?_) rfl (by kernel_rfl) (by kernel_rfl) (by kernel_rfl) (fun _ _ _ h=>h) (Or.inl ⟨by rfl,?_⟩) (by assumption) ?_
       rotate_left
       ·(intro w hSw;(try dsimp only at hSw);(try obtain ⟨s1_,s2_,s3_⟩:=hSw);go_simp <;> with_reducible rfl)
       simp only [List.getElem_toArray,List.getElem_cons_succ,List.getElem_cons_zero,Act.put,List.setIfInBounds_toArray,List.set_cons_zero,List.set_cons_succ]
       refine wpAnyH_take (i:=3) (oi:=_) (v:=?_) rfl (by kernel_rfl) (by kernel_rfl) (by kernel_rfl) (fun _ _ _ h=>h) (Or.inl ⟨by rfl,?_⟩) (by assumption) ?_
       rotate_left
       ·(intro w hSw;(try dsimp only at hSw);(try obtain ⟨s1_,s2_,s3_⟩:=hSw);go_simp <;> with_reducible rfl)
       simp only [List.getElem_toArray,List.getElem_cons_succ,List.getElem_cons_zero,Act.put,List.setIfInBounds_toArray,List.set_cons_zero,List.set_cons_succ]
       refine wpAnyH_take (i:=4) (oi:=_) (v:=?_) rfl (by kernel_rfl) (by kernel_rfl) (by kernel_rfl) (fun _ _ _ h=>h) (Or.inl ⟨by rfl,?_⟩) (by assumption) ?_
       rotate_left
       ·(intro w hSw;(try dsimp only at hSw);(try obtain ⟨s1_,s2_,s3_⟩:=hSw);go_simp <;> with_reducible rfl)
       simp only [List.getElem_toArray,List.getElem_cons_succ,List.getElem_cons_zero,Act.put,List.setIfInBounds_toArray,List.set_cons_zero,List.set_cons_succ]
       refine wpAnyH_ready (rs:=[2]) (by kernel_rfl) (by simp) (AllReadyH.cons rfl (fun K hK=>?_) AllReadyH.nil)
       go_simp
       refine (r_rsnorm _ _ _ (HS.out.next HQ0.out)).mono ?_
       rintro e u1 ⟨N1,m1,k1,N2,m2,k2,N3,m3,k3,rfl,MN⟩
       have HQ1:=Lib.hid (show Below u.heap.size u u1 from HQ0.out.trans (MN.bel.mono HQ0.out.size))
       have HNN:=Lib.hid MN.has
       clear MN
       refine hK.out _ _ (HSW.out _ HQ1.out) (fun hHeld2=>?_)
       clear hK K hHeld
       have hHeld:=hHeld2
       clear hHeld2
       refine wpAnyH_ready (rs:=[5]) (by kernel_rfl) (by simp) (AllReadyH.cons rfl (fun K hK=>?_) AllReadyH.nil)
       go_simp
       refine (r_rsame _ _ _ _ _ _ HNN.out (HS.out.next HQ1.out) rfl).mono ?_
       rintro e u2 ⟨rfl,hb⟩
       have HQ2:=Lib.hid (show Below u.heap.size u u2 from HQ1.out.trans (hb.mono HQ1.out.size))
       clear hb
       refine hK.out _ _ (HSW.out _ HQ2.out) (fun hHeld2=>?_)
       clear hK K hHeld
       have hHeld:=hHeld2
       clear hHeld2
       have HB3:=Lib.hid (HB2.out.trans (HQ2.out.mono HB2.out.size))
       by_cases hno:normS ss=ss
       ·rw [decide_eq_true hno]
        refine wpAnyH_take (i:=6) (oi:=_) (v:=?_) rfl (by kernel_rfl) (by kernel_rfl) (by kernel_rfl) (fun _ _ _ h=>h) (Or.inl ⟨by rfl,?_⟩) (by assumption) ?_
        rotate_left
        ·(intro w hSw;(try dsimp only at hSw);(try obtain ⟨s1_,s2_,s3_⟩:=hSw);go_simp <;> with_reducible rfl)
        simp only [List.getElem_toArray,List.getElem_cons_succ,List.getElem_cons_zero,Act.put,List.setIfInBounds_toArray,List.set_cons_zero,List.set_cons_succ]
        refine wpAnyH_done (by kernel_rfl) ?_ _
        have HN:=Lib.hid (show mayL (some 0) (l.take (k+1))=some (x+1) from HTK.out.trans (by unfold mayStep;rw [if_neg h7,if_neg (by simp),if_pos rfl,if_pos hno]))
        go_wp2_with fail
        go_roundw
        case rel=>exact ⟨k+1,x+1,by omega,by go_num,by go_num,by omega,by omega,HN,HB3⟩
        case measure=>simp [intOf];omega
       ·rw [decide_eq_false hno]
        refine wpAnyH_take (i:=6) (oi:=_) (v:=?_) rfl (by kernel_rfl) (by kernel_rfl) (by kernel_rfl) (fun _ _ _ h=>h) (Or.inl ⟨by rfl,?_⟩) (by assumption) ?_
        rotate_left
        ·(intro w hSw;(try dsimp only at hSw);(try obtain ⟨s1_,s2_,s3_⟩:=hSw);go_simp <;> with_reducible rfl)
        simp only [List.getElem_toArray,List.getElem_cons_succ,List.getElem_cons_zero,Act.put,List.setIfInBounds_toArray,List.set_cons_zero,List.set_cons_succ]
        refine wpAnyH_done (by kernel_rfl) ?_ _
        have HF:=Lib.hid (HNO.out (by unfold mayStep;rw [if_neg h7,if_neg (by simp),if_pos rfl,if_neg hno]))
        go_wp2_with fail
        go_ret
        rw [HF.out]
        exact ⟨rfl,HB3.out⟩
      ·cases z with
       | false =>
        have HF:=Lib.hid (HNO.out (by unfold mayStep;rw [if_neg h7,if_neg (by simp),if_neg h2,if_pos (of_decide_eq_false HZ.out)]))
        go_wp2_with fail
        go_ret
        rw [HF.out]
        exact ⟨rfl,HB2.out⟩
       | true =>
        by_cases k1:vk=1
        ·subst k1
         have HN:=Lib.hid (show mayL (some 0) (l.take (k+1))=some (x+1) from HTK.out.trans (by unfold mayStep;rw [if_neg h7,if_neg (by simp),if_neg h2,if_neg (fun hn=>hn (of_decide_eq_true HZ.out)),if_pos (.inl rfl)]))
         go_wp2_with fail
         go_roundw
         case rel=>exact ⟨k+1,x+1,by omega,by go_num,by go_num,by omega,by omega,HN,HB2⟩
         case measure=>simp [intOf];omega
        ·by_cases k3:vk=3
         ·subst k3
          have HN:=Lib.hid (show mayL (some 0) (l.take (k+1))=some (x+1) from HTK.out.trans (by unfold mayStep;rw [if_neg h7,if_neg (by simp),if_neg h2,if_neg (fun hn=>hn (of_decide_eq_true HZ.out)),if_pos (.inr (.inl rfl))]))
          go_wp2_with fail
          go_roundw
          case rel=>exact ⟨k+1,x+1,by omega,by go_num,by go_num,by omega,by omega,HN,HB2⟩
          case measure=>simp [intOf];omega
         ·by_cases k4:vk=4
          ·subst k4
           have HN:=Lib.hid (show mayL (some 0) (l.take (k+1))=some (x+1) from HTK.out.trans (by unfold mayStep;rw [if_neg h7,if_neg (by simp),if_neg h2,if_neg (fun hn=>hn (of_decide_eq_true HZ.out)),if_pos (.inr (.inr rfl))]))
           go_wp2_with fail
           go_roundw
           case rel=>exact ⟨k+1,x+1,by omega,by go_num,by go_num,by omega,by omega,HN,HB2⟩
           case measure=>simp [intOf];omega
          ·by_cases k5:vk=5
           ·subst k5
            by_cases hh:2≤x
            ·skip
             have HN:=Lib.hid (show mayL (some 0) (l.take (k+1))=some (x - 1) from HTK.out.trans (by unfold mayStep;rw [if_neg h7,if_neg (by simp),if_neg h2,if_neg (fun hn=>hn (of_decide_eq_true HZ.out)),if_neg (fun e=>e.elim k1 (fun e=>e.elim k3 k4)),if_pos (.inl rfl),if_pos hh]))
             go_wp2_with fail
             go_roundw
             case rel=>exact ⟨k+1,x - 1,by omega,by go_num,by go_num,by omega,by omega,HN,HB2⟩
             case measure=>simp [intOf];omega
            ·skip
             have HF:=Lib.hid (HNO.out (by unfold mayStep;rw [if_neg h7,if_neg (by simp),if_neg h2,if_neg (fun hn=>hn (of_decide_eq_true HZ.out)),if_neg (fun e=>e.elim k1 (fun e=>e.elim k3 k4)),if_pos (.inl rfl),if_neg hh]))
             go_wp2_with fail
             go_ret
             rw [HF.out]
             exact ⟨rfl,HB2.out⟩
           ·by_cases k6:vk=6
            ·subst k6
             by_cases hh:2≤x
             ·skip
              have HN:=Lib.hid (show mayL (some 0) (l.take (k+1))=some (x - 1) from HTK.out.trans (by unfold mayStep;rw [if_neg h7,if_neg (by simp),if_neg h2,if_neg (fun hn=>hn (of_decide_eq_true HZ.out)),if_neg (fun e=>e.elim k1 (fun e=>e.elim k3 k4)),if_pos (.inr rfl),if_pos hh]))
              go_wp2_with fail
              go_roundw
              case rel=>exact ⟨k+1,x - 1,by omega,by go_num,by go_num,by omega,by omega,HN,HB2⟩
              case measure=>simp [intOf];omega
             ·skip
              have HF:=Lib.hid (HNO.out (by unfold mayStep;rw [if_neg h7,if_neg (by simp),if_neg h2,if_neg (fun hn=>hn (of_decide_eq_true HZ.out)),if_neg (fun e=>e.elim k1 (fun e=>e.elim k3 k4)),if_pos (.inr rfl),if_neg hh]))
              go_wp2_with fail
              go_ret
              rw [HF.out]
              exact ⟨rfl,HB2.out⟩
            ·skip
             have HF:=Lib.hid (HNO.out (by unfold mayStep;rw [if_neg h7,if_neg (by simp),if_neg h2,if_neg (fun hn=>hn (of_decide_eq_true HZ.out)),if_neg (fun e=>e.elim k1 (fun e=>e.elim k3 k4)),if_neg (fun e=>e.elim k5 k6)]))
             go_wp2_with fail
             go_ret
             rw [HF.out]
             exact ⟨rfl,HB2.out⟩
     ·skip
      have HF:=Lib.hid (HNO.out (by unfold mayStep;rw [if_neg h7,if_pos (.inr h5)]))
      go_wp2_with fail
      go_ret
      rw [HF.out]
      exact ⟨rfl,HB2.out⟩
    ·skip
     have HF:=Lib.hid (HNO.out (by unfold mayStep;rw [if_neg h7,if_pos (.inl h4)]))
     go_wp2_with fail
     go_ret
     rw [HF.out]
     exact ⟨rfl,HB2.out⟩
  ·obtain rfl:k=n:=by omega
   have HF:=Lib.hid (show mayF l=decide (x=1) from by
    have h:=HT.out
    rw [List.take_of_length_le (by rw [H.out.len2];exact Nat.le_refl _)] at h
    unfold mayF
    rw [h,decide_eq_decide]
    exact ⟨fun e=>Option.some.inj e,fun e=>by rw [e]⟩)
   by_cases h1:x=1
   ·subst h1
    go_wp2_with fail
    go_ret
    rw [HF.out]
    exact ⟨rfl,HB.out⟩
   ·have hd:decide (x=1)=false:=decide_eq_false h1
    have hd2:(x == 1)=false:=by rw [beq_eq_false_iff_ne];exact h1
    go_wp2_with fail
    go_ret
    rw [HF.out,hd]
    exact ⟨rfl,HB.out⟩
end Go.Proofs.YtegdbmbenjnacaaGreat.Syn
namespace Go.Proofs.YtegdbmbenjnacaaGreat.Prg
open Go.RowKit
open Sset (St normS none_)
open Syn (Nd nd ndS ndR mayStep mayL mayF)
set_option maxRecDepth 100000
abbrev Ins:=Nd
def iS (s:St):Ins:=⟨1,s,0,0⟩
def iSp (x y:Int):Ins:=⟨2,none_,x,y⟩
def iJ (x:Int):Ins:=⟨3,none_,x,0⟩
def iO (k:Int):Ins:=⟨k,none_,0,0⟩
def sh (d:Int) (i:Ins):Ins:=if i.kind=2 then ⟨i.kind,i.set,i.mn+d,i.mx+d⟩ else if i.kind=3 then ⟨i.kind,i.set,i.mn+d,i.mx⟩ else i
theorem sh_zero (i:Ins):sh 0 i=i:=by
 obtain ⟨o,s,x,y⟩:=i
 unfold sh;split
 ·simp
 ·split <;> simp
def put (l a:List Ins):List Ins:=l++a.map (sh l.length)
theorem put_len (l a:List Ins):(put l a).length=l.length+a.length:=by unfold put;rw [List.length_append,List.length_map]
theorem put_nil (a:List Ins):put [] a=a:=by
 unfold put
 rw [List.nil_append]
 conv=>rhs;rw [←List.map_id a]
 exact List.map_congr_left fun i _=>sh_zero i
theorem put_mt (a:List Ins):put a []=a:=by unfold put;rw [List.map_nil,List.append_nil]
theorem put_take {l a:List Ins} {k:Nat} (h:k < a.length):put l (a.take (k+1))=put l (a.take k)++[sh l.length a[k]]:=by
 unfold put
 rw [List.take_succ_eq_append_getElem h,List.map_append,List.append_assoc];rfl
def repL (a:List Ins):Nat→List Ins
 | 0=>[]
 | k+1=>put (repL a k) a
theorem repL_len (a:List Ins):∀k,(repL a k).length=k*a.length
 | 0=>(Nat.zero_mul _).symm
 | k+1=>by show (put _ _).length=_;rw [put_len,repL_len a k,Nat.succ_mul]
def optL (l a:List Ins) (z:Int):Nat→List Ins
 | 0=>l
 | k+1=>put (optL l a z k++[iSp ((optL l a z k).length+1) z]) a
theorem optL_len (l a:List Ins) (z:Int):∀k,(optL l a z k).length=l.length+k*(a.length+1)
 | 0=>by rw [Nat.zero_mul];rfl
 | k+1=>by show (put _ _).length=_;rw [put_len,List.length_append,optL_len l a z k,Nat.succ_mul,List.length_singleton];omega
def starL (l a:List Ins):List Ins:=put (l++[iSp (l.length+1) (l.length+a.length+2)]) a++[iJ l.length]
theorem starL_len (l a:List Ins):(starL l a).length=l.length+a.length+2:=by unfold starL;rw [List.length_append,put_len,List.length_append];simp;omega
def orL (a b:List Ins):List Ins:=put (put [iSp 1 (a.length+2)] a++[iJ (a.length+b.length+2)]) b
theorem orL_len (a b:List Ins):(orL a b).length=a.length+b.length+2:=by unfold orL;rw [put_len,List.length_append,put_len];simp;omega
def repW (n:Nat) (lo hi:Int):Nat:=if hi=-1 then lo.toNat*n+n+2 else lo.toNat*n+(hi - lo).toNat*(n+1)
def repC (a:List Ins) (lo hi:Int):List Ins:=if hi=-1 then starL (repL a lo.toNat) a else optL (repL a lo.toNat) a (repW a.length lo hi) (hi - lo).toNat
theorem repC_len (a:List Ins) (lo hi:Int):(repC a lo hi).length=repW a.length lo hi:=by
 unfold repC repW
 split
 ·rw [starL_len,repL_len]
 ·rw [optL_len,repL_len]
def fits (l:List Ins):Option (List Ins):=if l.length≤4095 then some l else none
def stepC (n:Nd) (st:List (List Ins)):Option (List (List Ins)) :=
 if n.kind=1 then some ([] :: st)
 else if n.kind=2 then some ([iS n.set] :: st)
 else if n.kind=3 then some ([iO 4] :: st)
 else if n.kind=4 then some ([iO 5] :: st)
 else if n.kind=5 then match st with
  | b :: a :: r=>(fits (put a b)).map (· :: r)
  | _=>some st
 else if n.kind=6 then match st with
  | b :: a :: r=>(fits (orL a b)).map (· :: r)
  | _=>some st
 else if n.kind=7 then match st with
  | a :: r=>(fits (repC a n.mn n.mx)).map (· :: r)
  | _=>some st
 else some st
def codeF:List Nd→List (List Ins)→Option (List (List Ins))
 | [],st=>some st
 | n :: l,st=>(stepC n st).bind (codeF l)
theorem codeF_append:∀(l m:List Nd) (st:List (List Ins)),codeF (l++m) st=(codeF l st).bind (codeF m)
 | [],m,st=>rfl
 | n :: l,m,st=>by
  show (stepC n st).bind (codeF (l++m))=((stepC n st).bind (codeF l)).bind (codeF m)
  cases stepC n st with
  | none=>rfl
  | some s=>exact codeF_append l m s
noncomputable def compileF (l:List Nd):Except Nat (List Ins) :=
 if mayF l=true then (match codeF l [] with
  | some (p :: _)=>.ok (p++[iO 6])
  | _=>.error 5)
 else .error 2
def OkI (n:Int) (i:Ins):Prop :=
 (i.kind=1∧normS i.set=i.set∧i.mn=0∧i.mx=0)∨(i.kind=2∧i.set=none_∧0≤i.mn∧i.mn≤n∧0≤i.mx∧i.mx≤n) ∨
 (i.kind=3∧i.set=none_∧0≤i.mn∧i.mn≤n∧i.mx=0)∨((i.kind=4∨i.kind=5)∧i.set=none_∧i.mn=0∧i.mx=0)
theorem OkI.more {n m:Int} {i:Ins} (h:OkI n i) (hm:n≤m):OkI m i:=by
 rcases h with h | ⟨h1,h2,h3,h4,h5,h6⟩ | ⟨h1,h2,h3,h4,h5⟩ | h
 ·exact .inl h
 ·exact .inr (.inl ⟨h1,h2,h3,by omega,h5,by omega⟩)
 ·exact .inr (.inr (.inl ⟨h1,h2,h3,by omega,h5⟩))
 ·exact .inr (.inr (.inr h))
theorem OkI.sh {n:Int} {i:Ins} {d:Nat} (h:OkI n i):OkI (n+d) (sh d i):=by
 obtain ⟨o,s,x,y⟩:=i
 rcases h with ⟨h1,h2,h3,h4⟩ | ⟨h1,h2,h3,h4,h5,h6⟩ | ⟨h1,h2,h3,h4,h5⟩ | ⟨h1,h2,h3,h4⟩
 ·dsimp only at h1;subst h1;exact .inl ⟨rfl,h2,h3,h4⟩
 ·dsimp only at h1 h3 h4 h5 h6;subst h1;exact .inr (.inl ⟨rfl,h2,show 0≤x+_ by omega,show x+_≤_ by omega,show 0≤y+_ by omega,show y+_≤_ by omega⟩)
 ·dsimp only at h1 h3 h4 h5;subst h1;exact .inr (.inr (.inl ⟨rfl,h2,show 0≤x+_ by omega,show x+_≤_ by omega,h5⟩))
 ·dsimp only at h1
  rcases h1 with h1 | h1 <;> subst h1
  ·exact .inr (.inr (.inr ⟨.inl rfl,h2,h3,h4⟩))
  ·exact .inr (.inr (.inr ⟨.inr rfl,h2,h3,h4⟩))
def In (n:Nat) (l:List Ins):Prop:=∀i∈l,OkI n i
def Cd (l:List Ins):Prop:=In l.length l
theorem In.more {n m:Nat} {l:List Ins} (h:In n l) (hm:n≤m):In m l:=fun i hi=>(h i hi).more (by omega)
theorem In.app {n:Nat} {l m:List Ins} (h:In n l) (k:In n m):In n (l++m):=fun i hi=>by
 rcases List.mem_append.1 hi with h1 | h1
 ·exact h i h1
 ·exact k i h1
theorem In.one {n:Nat} {i:Ins} (h:OkI n i):In n [i]:=fun j hj=>by rw [List.mem_singleton.1 hj];exact h
theorem In.put {n m:Nat} {l a:List Ins} (h:In n l) (k:In m a) (hm:l.length+m≤n):In n (put l a):=h.app fun i hi=>by
 obtain ⟨j,hj,rfl⟩:=List.mem_map.1 hi
 exact ((k j hj).sh (d:=l.length)).more (by omega)
theorem okSp {n:Nat} {x y:Int} (h1:0≤x) (h2:x≤n) (h3:0≤y) (h4:y≤n):OkI n (iSp x y):=.inr (.inl ⟨rfl,rfl,h1,h2,h3,h4⟩)
theorem okJ {n:Nat} {x:Int} (h1:0≤x) (h2:x≤n):OkI n (iJ x):=.inr (.inr (.inl ⟨rfl,rfl,h1,h2,rfl⟩))
theorem Cd.put {a b:List Ins} (h:Cd a) (k:Cd b):Cd (put a b):=by
 unfold Cd
 rw [put_len]
 exact (h.more (Nat.le_add_right _ _)).put k (Nat.le_refl _)
theorem cd_rep {a:List Ins} (h:Cd a):∀k,Cd (repL a k)
 | 0=>fun i hi=>by cases hi
 | k+1=>(cd_rep h k).put h
theorem cd_star {l a:List Ins} (h:Cd l) (k:Cd a):Cd (starL l a):=by
 unfold Cd
 rw [starL_len]
 unfold starL
 refine In.app ?_ (.one (okJ (by omega) (by omega)))
 refine In.put (m:=a.length) (In.app (h.more (by omega)) (.one (okSp (by omega) (by omega) (by omega) (by omega)))) k ?_
 rw [List.length_append];simp;omega
theorem in_opt {l a:List Ins} {n:Nat} (h:Cd l) (k:Cd a):∀j,l.length+j*(a.length+1)≤n→In n (optL l a n j)
 | 0,hn=>h.more (by omega)
 | j+1,hn=>by
  have hj:l.length+j*(a.length+1)+(a.length+1)≤n:=by rw [Nat.succ_mul] at hn;omega
  have ih:=in_opt (n:=n) h k j (by omega)
  have hl:=optL_len l a (n:Int) j
  show In n (Prg.put (optL l a n j++[iSp ((optL l a n j).length+1) n]) a)
  refine In.put (m:=a.length) (ih.app (.one (okSp (by omega) (by omega) (by omega) (by omega)))) k ?_
  rw [List.length_append,hl];simp;omega
theorem cd_repC {a:List Ins} (h:Cd a) (lo hi:Int):Cd (repC a lo hi):=by
 have hl:=repC_len a lo hi
 unfold Cd
 rw [hl]
 unfold repC
 by_cases hh:hi=-1
 ·rw [if_pos hh]
  have:=cd_star (cd_rep h lo.toNat) h
  unfold Cd at this
  rw [starL_len,repL_len] at this
  unfold repW
  rw [if_pos hh]
  exact this
 ·rw [if_neg hh]
  refine in_opt (cd_rep h _) h _ ?_
  rw [repL_len]
  unfold repW
  rw [if_neg hh]
  exact Nat.le_refl _
theorem cd_or {a b:List Ins} (h:Cd a) (k:Cd b):Cd (orL a b):=by
 unfold Cd
 rw [orL_len]
 unfold orL
 refine In.put (m:=b.length) (In.app (In.put (m:=a.length) (.one (okSp (by omega) (by omega) (by omega) (by omega))) h ?_) (.one (okJ (by omega) (by omega)))) k ?_
 ·simp;omega
 ·rw [List.length_append,put_len];simp;omega
def CdS (st:List (List Ins)):Prop:=∀a∈st,Cd a∧a.length≤4095
theorem fits_some {l m:List Ins} (h:fits l=some m):m=l∧l.length≤4095:=by
 unfold fits at h
 split at h
 ·rename_i hl;injection h with h;exact ⟨h.symm,hl⟩
 ·cases h
theorem CdS.cons {a:List Ins} {st:List (List Ins)} (h:CdS st) (k:Cd a) (hl:a.length≤4095):CdS (a :: st):=fun x hx=>by
 rcases List.mem_cons.1 hx with rfl | hx
 ·exact ⟨k,hl⟩
 ·exact h x hx
theorem CdS.tail {a:List Ins} {st:List (List Ins)} (h:CdS (a :: st)):CdS st:=fun x hx=>h x (List.mem_cons_of_mem _ hx)
theorem cd_one {i:Ins} (h:OkI 1 i):Cd [i]:=In.one h
theorem mayStep_cases {h h':Int} {n:Nd} (e:mayStep h n=some h') :
  (n.kind=7∧1≤h∧h'=h∧0≤n.mn∧(n.mn≤n.mx∨n.mx=-1))∨(n.kind=2∧normS n.set=n.set∧h'=h+1)∨((n.kind=1∨n.kind=3∨n.kind=4)∧h'=h+1)∨((n.kind=5∨n.kind=6)∧2≤h∧h'=h - 1):=by
 unfold mayStep at e
 split at e
 ·rename_i hk
  split at e
  ·rename_i hc
   injection e with e
   exact .inl ⟨hk,hc.2.1,e.symm,hc.2.2.1,hc.2.2.2.2.2⟩
  ·cases e
 ·split at e
  ·cases e
  ·split at e
   ·rename_i hk
    split at e
    ·rename_i hc;injection e with e;exact .inr (.inl ⟨hk,hc,e.symm⟩)
    ·cases e
   ·split at e
    ·cases e
    ·split at e
     ·rename_i hk;injection e with e;exact .inr (.inr (.inl ⟨hk,e.symm⟩))
     ·split at e
      ·rename_i hk
       split at e
       ·rename_i hc;injection e with e;exact .inr (.inr (.inr ⟨hk,hc,e.symm⟩))
       ·cases e
      ·cases e
theorem stepC_1 {n:Nd} (h:n.kind=1) (st:List (List Ins)):stepC n st=some ([] :: st):=by unfold stepC;rw [if_pos h]
theorem stepC_2 {n:Nd} (h:n.kind=2) (st:List (List Ins)):stepC n st=some ([iS n.set] :: st):=by unfold stepC;rw [if_neg (by omega),if_pos h]
theorem stepC_3 {n:Nd} (h:n.kind=3) (st:List (List Ins)):stepC n st=some ([iO 4] :: st):=by unfold stepC;rw [if_neg (by omega),if_neg (by omega),if_pos h]
theorem stepC_4 {n:Nd} (h:n.kind=4) (st:List (List Ins)):stepC n st=some ([iO 5] :: st):=by unfold stepC;rw [if_neg (by omega),if_neg (by omega),if_neg (by omega),if_pos h]
theorem stepC_5 {n:Nd} (h:n.kind=5) (a b:List Ins) (r:List (List Ins)):stepC n (b :: a :: r)=(fits (put a b)).map (· :: r):=by unfold stepC;rw [if_neg (by omega),if_neg (by omega),if_neg (by omega),if_neg (by omega),if_pos h]
theorem stepC_6 {n:Nd} (h:n.kind=6) (a b:List Ins) (r:List (List Ins)):stepC n (b :: a :: r)=(fits (orL a b)).map (· :: r):=by unfold stepC;rw [if_neg (by omega),if_neg (by omega),if_neg (by omega),if_neg (by omega),if_neg (by omega),if_pos h]
theorem stepC_7 {n:Nd} (h:n.kind=7) (a:List Ins) (r:List (List Ins)):stepC n (a :: r)=(fits (repC a n.mn n.mx)).map (· :: r):=by unfold stepC;rw [if_neg (by omega),if_neg (by omega),if_neg (by omega),if_neg (by omega),if_neg (by omega),if_neg (by omega),if_pos h]
theorem two_of {st:List (List Ins)} (h:(2:Int)≤st.length):∃b a r,st=b :: a :: r:=by
 match st,h with
 | b :: a :: r,_=>exact ⟨b,a,r,rfl⟩
theorem one_of {st:List (List Ins)} (h:(1:Int)≤st.length):∃a r,st=a :: r:=by
 match st,h with
 | a :: r,_=>exact ⟨a,r,rfl⟩
theorem fits_map {l:List Ins} {r st:List (List Ins)} (h:(fits l).map (· :: r)=some st):st=l :: r∧l.length≤4095:=by
 cases hf:fits l with
 | none=>rw [hf] at h;cases h
 | some m =>
  rw [hf] at h
  obtain ⟨rfl,hl⟩:=fits_some hf
  injection h with h
  exact ⟨h.symm,hl⟩
theorem stepC_cd {n:Nd} {st st':List (List Ins)} {h':Int} (hm:mayStep (st.length:Int) n=some h') (hc:CdS st) (e:stepC n st=some st'):(st'.length:Int)=h'∧CdS st':=by
 rcases mayStep_cases hm with ⟨hk,h1,rfl,h2,h3⟩ | ⟨hk,hn,rfl⟩ | ⟨hk,rfl⟩ | ⟨hk,h1,rfl⟩
 ·obtain ⟨a,r,rfl⟩:=one_of h1
  rw [stepC_7 hk] at e
  obtain ⟨rfl,hl⟩:=fits_map e
  exact ⟨by simp,hc.tail.cons (cd_repC (hc a List.mem_cons_self).1 _ _) hl⟩
 ·rw [stepC_2 hk] at e
  injection e with e;subst e
  exact ⟨by simp,hc.cons (cd_one (.inl ⟨rfl,hn,rfl,rfl⟩)) (by simp)⟩
 ·rcases hk with hk | hk | hk
  ·rw [stepC_1 hk] at e;injection e with e;subst e
   exact ⟨by simp,hc.cons (fun i hi=>by cases hi) (by simp)⟩
  ·rw [stepC_3 hk] at e;injection e with e;subst e
   exact ⟨by simp,hc.cons (cd_one (.inr (.inr (.inr ⟨.inl rfl,rfl,rfl,rfl⟩)))) (by simp)⟩
  ·rw [stepC_4 hk] at e;injection e with e;subst e
   exact ⟨by simp,hc.cons (cd_one (.inr (.inr (.inr ⟨.inr rfl,rfl,rfl,rfl⟩)))) (by simp)⟩
 ·obtain ⟨b,a,r,rfl⟩:=two_of h1
  have ca:=(hc a (List.mem_cons_of_mem _ List.mem_cons_self)).1
  have cb:=(hc b List.mem_cons_self).1
  rcases hk with hk | hk
  ·rw [stepC_5 hk] at e
   obtain ⟨rfl,hl⟩:=fits_map e
   exact ⟨by simp,hc.tail.tail.cons (ca.put cb) hl⟩
  ·rw [stepC_6 hk] at e
   obtain ⟨rfl,hl⟩:=fits_map e
   exact ⟨by simp,hc.tail.tail.cons (cd_or ca cb) hl⟩
theorem codeF_cd:∀(l:List Nd) {st st':List (List Ins)} {h':Int},mayL (some (st.length:Int)) l=some h'→CdS st→codeF l st=some st'→(st'.length:Int)=h'∧CdS st'
 | [],st,st',h',hm,hc,e=>by
  injection e with e;subst e
  injection hm with hm
  exact ⟨hm,hc⟩
 | n :: l,st,st',h',hm,hc,e=>by
  change mayL (mayStep (st.length:Int) n) l=some h' at hm
  change (stepC n st).bind (codeF l)=some st' at e
  cases hs:mayStep (st.length:Int) n with
  | none=>rw [hs,Syn.mayL_none] at hm;cases hm
  | some x =>
   rw [hs] at hm
   cases hk:stepC n st with
   | none=>rw [hk] at e;cases e
   | some s =>
    rw [hk] at e
    obtain ⟨h1,h2⟩:=stepC_cd hs hc hk
    rw [←h1] at hm
    exact codeF_cd l hm h2 e
theorem may_L {l:List Nd} (h:mayF l=true):mayL (some 0) l=some 1:=of_decide_eq_true h
theorem cdS_nil:CdS []:=fun a ha=>by cases ha
theorem codeF_one {l:List Nd} (h:mayF l=true):codeF l []=none∨∃a,codeF l []=some [a]∧Cd a∧a.length≤4095:=by
 cases e:codeF l [] with
 | none=>exact .inl rfl
 | some st =>
  obtain ⟨h1,h2⟩:=codeF_cd l (st:=[]) (h':=1) (may_L h) cdS_nil e
  right
  match st,h1,h2 with
  | [a],_,h2=>exact ⟨a,rfl,(h2 a List.mem_cons_self).1,(h2 a List.mem_cons_self).2⟩
  | [],h1,_=>simp at h1
  | a :: b :: r,h1,_=>simp at h1;omega
noncomputable def okP (n:Nat) (i:Ins):Bool :=
 if i.kind=1 then decide (normS i.set=i.set∧i.mn=0∧i.mx=0)
 else if i.kind=2 then decide (i.set=none_∧0≤i.mn∧i.mn < n∧0≤i.mx∧i.mx < n)
 else if i.kind=3 then decide (i.set=none_∧0≤i.mn∧i.mn < n∧i.mx=0)
 else if i.kind=4∨i.kind=5∨i.kind=6 then decide (i.set=none_∧i.mn=0∧i.mx=0)
 else false
noncomputable def mayP (p:List Ins):Bool:=decide (p.length≤4096∧p.getLast?.map Nd.kind=some 6) && p.all (okP p.length)
def nxt (p:List Ins) (b e:Bool) (i j:Nat):Prop:=∃x,p[i]? = some x ∧
 ((x.kind=2∧((j:Int)=x.mn∨(j:Int)=x.mx))∨(x.kind=3∧(j:Int)=x.mn)∨(x.kind=4∧b=true∧j=i+1)∨(x.kind=5∧e=true∧j=i+1))
inductive Rch (p:List Ins) (b e:Bool) (S:Nat→Prop):Nat→Prop
 | here {i:Nat}:i < p.length→S i→Rch p b e S i
 | step {i j:Nat}:Rch p b e S i→nxt p b e i j→Rch p b e S j
theorem may_at {p:List Ins} (h:mayP p=true) {i:Nat} (hi:i < p.length):okP p.length p[i]=true:=by
 unfold mayP at h
 rw [Bool.and_eq_true,List.all_eq_true] at h
 exact h.2 _ (List.getElem_mem hi)
theorem may_last {p:List Ins} (h:mayP p=true):0 < p.length∧p.length≤4096∧∀hi:p.length - 1 < p.length,p[p.length - 1].kind=6:=by
 unfold mayP at h
 rw [Bool.and_eq_true,decide_eq_true_eq] at h
 obtain ⟨⟨h1,h2⟩,_⟩:=h
 have hp:p≠[]:=by rintro rfl;cases h2
 refine ⟨List.length_pos_iff.2 hp,h1,fun hi=>?_⟩
 rw [List.getLast?_eq_getElem?,List.getElem?_eq_getElem hi] at h2
 injection h2
theorem nxt_lt {p:List Ins} (h:mayP p=true) {b e:Bool} {i j:Nat} (hn:nxt p b e i j):j < p.length:=by
 obtain ⟨x,hx,hc⟩:=hn
 obtain ⟨hi,rfl⟩:=List.getElem?_eq_some_iff.1 hx
 have ho:=may_at h hi
 obtain ⟨_,_,h6⟩:=may_last h
 unfold okP at ho
 rcases hc with ⟨h1,h2⟩ | ⟨h1,h2⟩ | ⟨h1,_,h2⟩ | ⟨h1,_,h2⟩
 ·rw [if_neg (by omega),if_pos h1,decide_eq_true_eq] at ho
  omega
 ·rw [if_neg (by omega),if_neg (by omega),if_pos h1,decide_eq_true_eq] at ho
  omega
 ·have hl:i≠p.length - 1:=by rintro rfl;have:=h6 hi;omega
  omega
 ·have hl:i≠p.length - 1:=by rintro rfl;have:=h6 hi;omega
  omega
theorem Rch.lt {p:List Ins} {b e:Bool} {S:Nat→Prop} {i:Nat} (h:mayP p=true) (hr:Rch p b e S i):i < p.length:=by
 cases hr with
 | here h1 _=>exact h1
 | step _ h2=>exact nxt_lt h h2
theorem Rch.in {p:List Ins} {b e:Bool} {S O:Nat→Prop} (h1:∀i,i < p.length→S i→O i) (h2:∀i j,O i→nxt p b e i j→O j) {i:Nat} (hr:Rch p b e S i):O i:=by
 induction hr with
 | here a b=>exact h1 _ a b
 | step _ b ih=>exact h2 _ _ ih b
def ints (l:List Nat):List Int:=l.map fun (i:Nat)=>(i:Int)
theorem mem_ints {l:List Nat} {i:Nat}:(i:Int)∈ints l↔i∈l:=by
 unfold ints
 rw [List.mem_map]
 constructor
 ·rintro ⟨j,hj,e⟩
  obtain rfl:j=i:=by omega
  exact hj
 ·exact fun h=>⟨i,h,rfl⟩
theorem rch_mono {p:List Ins} {b e:Bool} {S T:Nat→Prop} (h:∀i,i < p.length→S i→Rch p b e T i) {i:Nat} (hr:Rch p b e S i):Rch p b e T i :=
 hr.in h (fun _ _ h1 h2=>h1.step h2)
end Go.Proofs.YtegdbmbenjnacaaGreat.Prg
namespace Go.Proofs.YtegdbmbenjnacaaGreat.Prg
open Go.RowKit
open Sset (St normS none_)
open Syn (Nd nd ndS ndR mayStep mayL mayF)
set_option maxRecDepth 100000
def ab:Nat→List Ins→List Ins
 | _,[]=>[]
 | k,i :: l=>sh k i :: ab (k+1) l
def tk (k:Int):Nat:=if k=5∨k=6 then 2 else if k=7 then 1 else 0
def Kd (k:Int):Prop:=k=1∨k=2∨k=3∨k=4∨k=5∨k=6∨k=7
theorem may_step {h x:Int} {n:Nd} (hh:0≤h) (e:mayStep h n=some x):Kd n.kind∧tk n.kind≤h.toNat∧x=((h.toNat - tk n.kind+1:Nat):Int)∧0≤x:=by
 unfold Kd tk
 rcases mayStep_cases e with ⟨hk,h1,rfl,_⟩ | ⟨hk,_,rfl⟩ | ⟨hk,rfl⟩ | ⟨hk,h1,rfl⟩
 ·rw [hk,if_neg (by decide),if_pos rfl];omega
 ·rw [hk,if_neg (by decide),if_neg (by decide)];omega
 ·rw [if_neg (by omega),if_neg (by omega)];omega
 ·rw [if_pos hk];omega
theorem mayStep_7 {h x:Int} {n:Nd} (e:mayStep h n=some x) (hk:n.kind=7):n.mn≤64∧n.mx≤64:=by
 unfold mayStep at e
 rw [if_pos hk] at e
 split at e
 ·rename_i c;exact ⟨c.2.2.2.1,c.2.2.2.2.1⟩
 ·cases e
theorem compile_no {l:List Nd} (h:mayF l=false):compileF l=.error 2:=by unfold compileF;rw [if_neg (by rw [h];exact Bool.false_ne_true)]
end Go.Proofs.YtegdbmbenjnacaaGreat.Prg
namespace Go.Proofs.YtegdbmbenjnacaaGreat.Syn
open Go.RowKit
open Utf (Rd Blk bys bys_len)
open Rset (Ret own_form)
open Sset (Tx none_ has3_none mk_toList)
set_option maxRecDepth 100000
theorem nv_one (v:NV):∀u∈v.row,u.oneCell'=true:=by
 intro u hu
 simp only [NV.row,List.mem_cons,List.not_mem_nil,or_false] at hu
 rcases hu with rfl | rfl | rfl | rfl | rfl | rfl <;> rfl
theorem nvs_snoc (V:List NV) (v:NV):nvs V++v.row=nvs (V++[v]):=by unfold nvs;rw [List.flatMap_append,List.flatMap_cons,List.flatMap_nil,List.append_nil]
end Go.Proofs.YtegdbmbenjnacaaGreat.Syn
namespace Go.Proofs.YtegdbmbenjnacaaGreat.Prg
open Go.RowKit
open Utf (Rd Blk own_ne)
open Rset (Ret own_form own_below rd_new)
open Sset (St normS none_ Has3 has3_none)
open Syn (Nd nd NV nvs nvs_len nvs_get nvs_snoc nv_one nv_form rd_nv Means ArgN)
set_option maxRecDepth 100000
theorem infoIns:(Tryz.prog.info? 76).map (fun i=>(i.zero,i.size,i.bytes))=some (some (.agg #[.int .i64 0,.slice none 0 0,.slice none 0 0,.slice none 0 0,.int .i64 0,.int .i64 0]),6,96):=by kernel_rfl
theorem infoInt:(Tryz.prog.info? 3).map (fun i=>(i.zero,i.size,i.bytes))=some (some (.int .i64 0),1,8):=by kernel_rfl
theorem infoBool:(Tryz.prog.info? 4).map (fun i=>(i.zero,i.size,i.bytes))=some (some (.bool false),1,1):=by kernel_rfl
def ns (l:List Int):List Value:=l.map fun n=>.int .i64 n
def bls (l:List Bool):List Value:=l.map fun b=>.bool b
theorem bls_len (l:List Bool):(bls l).length=l.length:=List.length_map _
theorem bls_get {l:List Bool} {k:Nat} (h:k < l.length):(bls l)[k]? = some (.bool l[k]):=by simp [bls,List.getElem?_eq_getElem h]
theorem ns_take (l:List Int) (k:Nat):(ns l).take k=ns (l.take k):=List.map_take.symm
theorem bls_set (l:List Bool) (k:Nat) (b:Bool):(bls l).set k (.bool b)=bls (l.set k b):=by simp [bls,List.map_set]
section
variable {w w':World} {B:Nat}
theorem rd_b {l:List Bool} {b o:Nat} (h:Rd w B (some ⟨b,o,none⟩) (bls l)) {k:Nat} (hk:k < l.length):w.cell? ⟨b,o+k,none⟩=some (.bool l[k]):=by
 obtain ⟨b',o',e,_,hc⟩:=h (by intro e;have:=congrArg List.length e;rw [bls_len,List.length_nil] at this;omega)
 simp only [Option.some.injEq,Addr.mk.injEq,and_true] at e
 obtain ⟨rfl,rfl⟩:=e
 exact hc _ _ (bls_get hk)
theorem own_front {base g n k cap size:Nat} {e:TypeId} {xs:List Value} (h:w.ownsRow base e size (.slice (some ⟨g,0,none⟩) n cap) n xs) (hk:k≤n):w.ownsRow base e size (.slice (some ⟨g,0,none⟩) k cap) k (xs.take (k*size)):=by
 have hl:=h.1
 have hm:k*size≤n*size:=Nat.mul_le_mul_right _ hk
 rcases h.2 with ⟨hv,_⟩ | ⟨g',cap',cur,hv,h1,h2,h3,h4,h5,h6⟩
 ·cases hv
 ·simp only [Value.slice.injEq,Option.some.injEq,Addr.mk.injEq,and_true,true_and] at hv
  obtain ⟨rfl,rfl⟩:=hv
  refine ⟨by rw [List.length_take];omega,.inr ⟨g,cap,cur,rfl,h1,h2,by omega,h4,h5,?_⟩⟩
  rw [←h6,List.take_take,Nat.min_eq_left hm]
theorem own_addr {base n size:Nat} {e:TypeId} {v:Value} {xs:List Value} (h:w.ownsRow base e size v n xs) (hn:0 < n):∃g c,v=.slice (some ⟨g,0,none⟩) n c∧n≤c∧c≤9223372036854775807∧base≤g∧g < w.heap.size:=by
 rcases h.2 with ⟨_,h0⟩ | ⟨g,cap,cur,hv,h1,h2,h3,h4,h5,h6⟩
 ·omega
 ·refine ⟨g,cap,hv,h3,by unfold maxLen at h4;omega,h1,(Array.getElem?_eq_some_iff.1 h2).1⟩
end
def Ms (w:World):List NV→List Nd→Prop
 | [],[]=>True
 | v :: V,n :: l=>Means w v n∧Ms w V l
 | _,_=>False
section
variable {w w':World}
theorem Ms.len:∀{V:List NV} {l:List Nd},Ms w V l→V.length=l.length
 | [],[],_=>rfl
 | _ :: _,_ :: _,h=>by rw [List.length_cons,List.length_cons,Ms.len h.2]
theorem Ms.next (hb:Below w.heap.size w w'):∀{V:List NV} {l:List Nd},Ms w V l→Ms w' V l
 | [],[],_=>trivial
 | _ :: _,_ :: _,h=>⟨h.1.next hb,Ms.next hb h.2⟩
theorem Ms.app:∀{V U:List NV} {l m:List Nd},Ms w V l→Ms w U m→Ms w (V++U) (l++m)
 | [],_,[],_,_,k=>k
 | _ :: _,_,_ :: _,_,h,k=>⟨h.1,Ms.app h.2 k⟩
theorem Ms.get:∀{V:List NV} {l:List Nd} (_:Ms w V l) (k:Nat) (h1:k < V.length) (h2:k < l.length),Means w V[k] l[k]
 | _ :: _,_ :: _,h,0,_,_=>h.1
 | _ :: _,_ :: _,h,k+1,h1,h2=>Ms.get h.2 k (by simpa using h1) (by simpa using h2)
theorem Ms.one {v:NV} {n:Nd} (h:Means w v n):Ms w [v] [n]:=⟨h,trivial⟩
theorem Ms.arg {V:List NV} {l:List Nd} (h:Ms w V l) {A:Option Addr} {n:Nat} (hr:Rd w w.heap.size A (nvs V)) (hn:l.length=n) (hs:n≤1099511627776):ArgN w A n V l:=⟨hr,h.len.trans hn,hn,fun i h1 h2=>h.get i h1 h2,hs⟩
end
structure IR (w0 wb w:World) (v:Value) (V:List NV) (l:List Ins):Prop where
 own:w.ownsRow wb.heap.size 76 6 v l.length (nvs V)
 ms:Ms w0 V l
 bel:Below wb.heap.size wb w
structure ArgI (w0 wb:World) (A:Option Addr) (n:Nat) (V:List NV) (l:List Ins):Prop where
 rd:Rd wb wb.heap.size A (nvs V)
 len:l.length=n
 ms:Ms w0 V l
section
variable {w0 wb w w':World} {v:Value} {V:List NV} {l:List Ins}
theorem IR.next (h:IR w0 wb w v V l) (hb:Below w.heap.size w w'):IR w0 wb w' v V l:=⟨own_below h.own hb,h.ms,h.bel.trans (hb.mono h.bel.size)⟩
theorem IR.nil (hb:Below wb.heap.size wb w):IR w0 wb w (.slice none 0 0) [] []:=⟨World.ownsRow_nil _ _ _ _,trivial,hb⟩
theorem IR.form (h:IR w0 wb w v V l):∃A c,v=.slice A l.length c∧l.length≤c∧c≤9223372036854775807∧Rd w w.heap.size A (nvs V):=own_form h.own
theorem IR.arg {A:Option Addr} {n c:Nat} (h:IR w0 wb w (.slice A n c) V l) (hn:l.length=n):ArgI w0 w A n V l:=by
 obtain ⟨A',c',e,_,_,hr⟩:=h.form
 injection e with e1 e2 e3
 subst e1
 exact ⟨hr,hn,h.ms⟩
theorem IR.up (h:IR w0 wb w v V l) (hb:Below w0.heap.size w0 wb):IR w0 w0 w v V l:=⟨Rset.own_mono h.own hb.size,h.ms,hb.trans (h.bel.mono hb.size)⟩
theorem ArgI.next {A:Option Addr} {n:Nat} (h:ArgI w0 w A n V l) (hb:Below w.heap.size w w'):ArgI w0 w' A n V l:=⟨(h.rd.below hb).more hb.size,h.len,h.ms⟩
end
def shV (d:Int) (v:NV):NV:=if v.k=2 then { v with mn:=v.mn+d,mx:=v.mx+d } else if v.k=3 then { v with mn:=v.mn+d } else v
theorem means_sh {w:World} {v:NV} {n:Nd} (h:Means w v n) (d:Int):Means w (shV d v) (sh d n):=by
 obtain ⟨vk,X1,x1,y1,X2,x2,y2,X3,x3,y3,vm,vx⟩:=v
 obtain ⟨sk,ss,sm,sx⟩:=n
 obtain ⟨h1,h2,h3,h4⟩:=h
 dsimp only at h1 h2 h3 h4
 subst h1 h2 h3
 unfold shV Prg.sh
 dsimp only
 split
 ·exact ⟨rfl,rfl,rfl,h4⟩
 ·split
  ·exact ⟨rfl,rfl,rfl,h4⟩
  ·exact ⟨rfl,rfl,rfl,h4⟩
theorem means_op (w:World) (k x y:Int):Means w ⟨k,none,0,0,none,0,0,none,0,0,x,y⟩ ⟨k,none_,x,y⟩:=⟨rfl,rfl,rfl,has3_none w⟩
end Go.Proofs.YtegdbmbenjnacaaGreat.Prg
namespace Go.Proofs.YtegdbmbenjnacaaGreat.Prg
open Go.RowKit
open Utf (Rd Blk own_ne wpList_append_rd)
open Rset (Ret own_form own_below rd_new)
open Sset (St normS none_ Has3 has3_none)
open Syn (Nd nd NV nvs nvs_len nvs_get nvs_snoc nv_one nv_form rd_nv Means ArgN)
set_option maxRecDepth 100000
theorem IR.snoc {w0 wb wr u w2:World} {v v2:Value} {V:List NV} {l:List Ins} {x:NV} {i:Ins} (h:IR w0 wb wr v V l) (hm:Means w0 x i) (hb:Below wr.heap.size wr u)
  (hown:w2.ownsRow wb.heap.size 76 6 v2 (l.length+1) (nvs V++x.row)) (hgr:u.grownBy w2 v.ownBlock):IR w0 wb w2 v2 (V++[x]) (l++[i]) :=
 ⟨by rw [List.length_append,←nvs_snoc];exact hown,h.ms.app (Ms.one hm),
  (h.bel.trans (hb.mono h.bel.size)).grown hgr (Nat.le_trans h.bel.size hb.size) fun g hg=>(h.own.lt g hg).1⟩
set_option maxHeartbeats 16000000 in
theorem rput_any {w0 wb w:World} {v:Value} {V U:List NV} {l a:List Ins} {A:Option Addr} {n c:Nat} (h:IR w0 wb w v V l) (k:ArgI w0 wb A n U a) (hc:Cd a) (hl:l.length≤4096) (hn:n≤4095) :
  Calls Tryz.prog 39 #[v,.slice A n c] w fun e w'=>∃v' V',e=.returned v'∧IR w0 wb w' v' V' (put l a):=by
 obtain ⟨i0,hi,hz0,hz1,hz2⟩:=info_parts infoIns
 obtain ⟨A0,c0,rfl,_⟩:=h.form
 have H:=Lib.hid h;have K:=Lib.hid k;have HC:=Lib.hid hc
 obtain ⟨m,hm⟩:∃m,m=l.length:=⟨_,rfl⟩
 have HM:=Lib.hid hm
 rw [←hm] at hl ⊢
 clear h k hc hm
 go_enter Tryz.func39,Tryz.ntmps39
 go_wp2_with fail
 go_loopw [0,6] (fun s i wr=>∃(k:Nat) (V':List NV),k≤n∧i=.int .i64 k∧Hid (IR w0 wb wr s V' (put l (a.take k)))) (fun _ i _=>n - (intOf i).toNat)
 case atStart=>exact ⟨0,V,Nat.zero_le _,rfl,Lib.hid (by rw [List.take_zero,put_mt,HM.out];exact H.out)⟩
 case round =>
  obtain ⟨k,V',hk,rfl,HI⟩:=hrel
  by_cases hlt:k < n
  ·have ha:k < a.length:=by rw [K.out.len];exact hlt
   have hv:k < U.length:=by rw [K.out.ms.len,K.out.len];exact hlt
   have hrd:=K.out.rd.below HI.out.bel
   obtain ⟨p,o,rfl,hp⟩:=nv_form hrd (by omega)
   have HPT:=Lib.hid (put_take (l:=l) ha)
   have HOK:=Lib.hid (HC.out _ (List.getElem_mem ha))
   have HMN:=Lib.hid (means_sh (K.out.ms.get k hv ha) l.length)
   have HD:=rd_nv hrd hv
   have HL2:=Lib.hid (show (put l (a.take k)).length=m+k by rw [put_len,List.length_take,Nat.min_eq_left (by omega),HM.out])
   have HKM:=Lib.hid (K.out.ms.get k hv ha)
   have HAL:=Lib.hid (show a.length≤4095 by rw [K.out.len];exact hn)
   generalize put l (a.take k)=L at HI HL2 HPT
   generalize U[k]=x at HMN HD HKM
   generalize a[k]=s at HMN HOK HKM HPT
   rw [←HM.out] at HMN HPT
   clear ha hv hrd
   have e1:=HKM.out.k;have e3:=HKM.out.mn;have e5:=HKM.out.mx
   obtain ⟨vk,X1,x1,y1,X2,x2,y2,X3,x3,y3,vm,vx⟩:=x
   obtain ⟨sk,ss,sm,sx⟩:=s
   dsimp only at e1 e3 e5 HD HMN
   subst e1 e3 e5
   obtain ⟨d0,d1,d2,d3,d4,d5⟩:=HD
   obtain ⟨A1,c1,rfl,hc1,hc2,_⟩:=HI.out.form
   have HOW:=Lib.hid HI.out.own
   rw [HL2.out] at HOW hc1 ⊢
   have HSZ:=Lib.hid HI.out.bel.size
   have HI2:=Lib.hid (show IR w0 wb wr (.slice A1 (m+k) c1) V' L from by have h:=HI.out;rwa [HL2.out] at h)
   clear HKM
   by_cases h2:vk=2
   ·subst h2
    obtain ⟨b1,b2,b3,b4⟩:0≤vm∧vm≤4095∧0≤vx∧vx≤4095:=by
     have:=HAL.out
     rcases HOK.out with ⟨h,_⟩ | ⟨_,_,h1,h2,h3,h4⟩ | ⟨h,_⟩ | ⟨h,_⟩
     ·cases h
     ·dsimp only at h1 h2 h3 h4;omega
     ·cases h
     ·rcases h with h | h <;> cases h
    have HMN:=Lib.hid (show Means w0 ⟨2,X1,x1,y1,X2,x2,y2,X3,x3,y3,(vm+m),(vx+m)⟩ (sh m ⟨2,ss,vm,vx⟩) from HMN.out)
    go_wp2_with (at_builtin;(refine wpList_append_rd _ rfl (.tmp 41) (.tmp 43) _ rfl wb.heap.size 76 i0 _ 6 96 Tryz.underlying22 hi hz0 hz1 hz2 rfl (by decide) (.slice A1 (m+k) c1) (m+k) (nvs V') rfl (own_below HOW.out (((Below.refl _ _).alloc (Nat.le_refl _) _).alloc (by simp) _)) _ (some ⟨wr.heap.size+1,0,none⟩) 1 1 [.int .i64 2,.slice X1 x1 y1,.slice X2 x2 y2,.slice X3 x3 y3,.int .i64 (vm+m),.int .i64 (vx+m)] rfl rfl (rd_new _ _ _ _ (by simp)) (nv_one ⟨2,X1,x1,y1,X2,x2,y2,X3,x3,y3,(vm+m),(vx+m)⟩) (by unfold maxLen;omega) (by omega) (by simp;have:=HSZ.out;omega) ?_))
    intro v2 w2 hown hgr _
    have HN:=Lib.hid (show IR w0 wb w2 v2 (V'++[⟨2,X1,x1,y1,X2,x2,y2,X3,x3,y3,(vm+m),(vx+m)⟩]) (put l (a.take (k+1))) from by
     rw [HPT.out]
     exact HI2.out.snoc (i:=sh m ⟨2,ss,vm,vx⟩) HMN.out (((Below.refl _ _).alloc (Nat.le_refl _) _).alloc (by simp) _) (by rw [HL2.out];exact hown) hgr)
    obtain ⟨A2,c2,rfl,_⟩:=own_form hown
    clear hown hgr
    go_wp2_with fail
    go_roundw
    case rel=>exact ⟨k+1,_,by omega,by go_num,HN⟩
    case measure=>simp [intOf];omega
   ·by_cases h3:vk=3
    ·subst h3
     obtain ⟨b1,b2⟩:0≤vm∧vm≤4095:=by
      have:=HAL.out
      rcases HOK.out with ⟨h,_⟩ | ⟨h,_⟩ | ⟨_,_,h1,h2,h3⟩ | ⟨h,_⟩
      ·cases h
      ·cases h
      ·dsimp only at h1 h2 h3;omega
      ·rcases h with h | h <;> cases h
     have HMN:=Lib.hid (show Means w0 ⟨3,X1,x1,y1,X2,x2,y2,X3,x3,y3,(vm+m),vx⟩ (sh m ⟨3,ss,vm,vx⟩) from HMN.out)
     go_wp2_with (at_builtin;(refine wpList_append_rd _ rfl (.tmp 41) (.tmp 43) _ rfl wb.heap.size 76 i0 _ 6 96 Tryz.underlying22 hi hz0 hz1 hz2 rfl (by decide) (.slice A1 (m+k) c1) (m+k) (nvs V') rfl (own_below HOW.out (((Below.refl _ _).alloc (Nat.le_refl _) _).alloc (by simp) _)) _ (some ⟨wr.heap.size+1,0,none⟩) 1 1 [.int .i64 3,.slice X1 x1 y1,.slice X2 x2 y2,.slice X3 x3 y3,.int .i64 (vm+m),.int .i64 vx] rfl rfl (rd_new _ _ _ _ (by simp)) (nv_one ⟨3,X1,x1,y1,X2,x2,y2,X3,x3,y3,(vm+m),vx⟩) (by unfold maxLen;omega) (by omega) (by simp;have:=HSZ.out;omega) ?_))
     intro v2 w2 hown hgr _
     have HN:=Lib.hid (show IR w0 wb w2 v2 (V'++[⟨3,X1,x1,y1,X2,x2,y2,X3,x3,y3,(vm+m),vx⟩]) (put l (a.take (k+1))) from by
      rw [HPT.out]
      exact HI2.out.snoc (i:=sh m ⟨3,ss,vm,vx⟩) HMN.out (((Below.refl _ _).alloc (Nat.le_refl _) _).alloc (by simp) _) (by rw [HL2.out];exact hown) hgr)
     obtain ⟨A2,c2,rfl,_⟩:=own_form hown
     clear hown hgr
     go_wp2_with fail
     go_roundw
     case rel=>exact ⟨k+1,_,by omega,by go_num,HN⟩
     case measure=>simp [intOf];omega
    ·have d2':(vk == 2)=false:=by rw [beq_eq_false_iff_ne];exact h2
     have d3':(vk == 3)=false:=by rw [beq_eq_false_iff_ne];exact h3
     have HMN:=Lib.hid (show Means w0 ⟨vk,X1,x1,y1,X2,x2,y2,X3,x3,y3,vm,vx⟩ (sh m ⟨vk,ss,vm,vx⟩) from by
      have h:=HMN.out
      unfold shV at h
      rwa [if_neg h2,if_neg h3] at h)
     go_wp2_with (at_builtin;(refine wpList_append_rd _ rfl (.tmp 41) (.tmp 43) _ rfl wb.heap.size 76 i0 _ 6 96 Tryz.underlying22 hi hz0 hz1 hz2 rfl (by decide) (.slice A1 (m+k) c1) (m+k) (nvs V') rfl (own_below HOW.out (((Below.refl _ _).alloc (Nat.le_refl _) _).alloc (by simp) _)) _ (some ⟨wr.heap.size+1,0,none⟩) 1 1 [.int .i64 vk,.slice X1 x1 y1,.slice X2 x2 y2,.slice X3 x3 y3,.int .i64 vm,.int .i64 vx] rfl rfl (rd_new _ _ _ _ (by simp)) (nv_one ⟨vk,X1,x1,y1,X2,x2,y2,X3,x3,y3,vm,vx⟩) (by unfold maxLen;omega) (by omega) (by simp;have:=HSZ.out;omega) ?_))
     intro v2 w2 hown hgr _
     have HN:=Lib.hid (show IR w0 wb w2 v2 (V'++[⟨vk,X1,x1,y1,X2,x2,y2,X3,x3,y3,vm,vx⟩]) (put l (a.take (k+1))) from by
      rw [HPT.out]
      exact HI2.out.snoc (i:=sh m ⟨vk,ss,vm,vx⟩) HMN.out (((Below.refl _ _).alloc (Nat.le_refl _) _).alloc (by simp) _) (by rw [HL2.out];exact hown) hgr)
     obtain ⟨A2,c2,rfl,_⟩:=own_form hown
     clear hown hgr
     go_wp2_with fail
     go_roundw
     case rel=>exact ⟨k+1,_,by omega,by go_num,HN⟩
     case measure=>simp [intOf];omega
  ·obtain rfl:k=n:=by omega
   have HE:=Lib.hid (show IR w0 wb wr u0 V' (put l a) from by have:=HI.out;rwa [List.take_of_length_le (by rw [K.out.len];exact Nat.le_refl _)] at this)
   obtain ⟨A1,c1,rfl,_⟩:=HE.out.form
   go_wp2_with fail
   go_ret
   exact ⟨_,_,rfl,HE.out⟩
end Go.Proofs.YtegdbmbenjnacaaGreat.Prg
namespace Go.Proofs.YtegdbmbenjnacaaGreat.Prg
open Go.RowKit
open Utf (Rd Blk own_ne wpList_append_rd)
open Rset (Ret own_form own_below rd_new)
open Sset (St normS none_ Has3 has3_none)
open Syn (Nd nd NV nvs nvs_len nvs_get nvs_snoc nv_one nv_form rd_nv Means ArgN)
set_option maxRecDepth 100000
def Fitted (w0 w:World) (l:List Ins) (e:Ending) (w':World):Prop :=
 (l.length≤4095∧∃v V,e=.returned (.tuple #[v,.bool true])∧IR w0 w w' v V l)∨(4095 < l.length∧e=.returned (.tuple #[.slice none 0 0,.bool false])∧Below w.heap.size w w')
theorem repL_le {a:List Ins} {k lo:Nat} (h:k < lo) (hi:Int):k*a.length+a.length≤(repC a lo hi).length:=by
 have h1:(k+1)*a.length≤lo*a.length:=Nat.mul_le_mul_right _ h
 have h2:(k+1)*a.length=k*a.length+a.length:=Nat.succ_mul _ _
 rw [repC_len]
 unfold repW
 have h3:((lo:Int)).toNat=lo:=by omega
 rw [h3]
 split <;> omega
set_option maxHeartbeats 16000000 in
theorem rrepeat_any {w0 w:World} {U:List NV} {a:List Ins} {A:Option Addr} {n c:Nat} (K0:ArgI w0 w A n U a) (hc:Cd a) (hn:n≤4095) (lo:Nat) (hi:Int) (hlo:lo≤64) (hhi:hi≤64) (hlh:lo≤hi∨hi=-1) :
  Calls Tryz.prog 65 #[.slice A n c,.int .i64 lo,.int .i64 hi] w (Fitted w0 w (repC a lo hi)):=by
 obtain ⟨i0,hi0,hz0,hz1,hz2⟩:=info_parts infoIns
 have K:=Lib.hid K0;have HC:=Lib.hid hc
 have HAL:=Lib.hid (show a.length=n from K0.len)
 have HB0:=Lib.hid (Below.refl w.heap.size w)
 clear K0 hc
 go_enter Tryz.func65,Tryz.ntmps65
 go_wp2_with fail
 go_loopw [8,9] (fun s i wr=>∃(k:Nat) (V:List NV),k≤lo∧i=.int .i64 k∧k*n≤4095∧Hid (IR w0 w wr s V (repL a k))) (fun _ i _=>lo - (intOf i).toNat)
 case atStart=>exact ⟨0,[],Nat.zero_le _,rfl,by omega,Lib.hid (IR.nil (Below.refl _ _))⟩
 case round =>
  obtain ⟨k,V,hk,rfl,hkn,HI⟩:=hrel
  obtain ⟨A1,c1,rfl,_⟩:=HI.out.form
  have HL:=Lib.hid (show (repL a k).length=k*n by rw [repL_len,HAL.out])
  by_cases hlt:k < lo
  ·have HLE:=Lib.hid (show k*n+n≤(repC a lo hi).length by have:=repL_le (a:=a) hlt hi;rwa [HAL.out] at this)
   have HSU:=Lib.hid (show (k+1)*n=k*n+n from Nat.succ_mul _ _)
   have HP:=Lib.hid (show put (repL a k) a=repL a (k+1) from rfl)
   rw [HL.out]
   have HI2:=Lib.hid (show IR w0 w wr (.slice A1 (k*n) c1) V (repL a k) from by have h:=HI.out;rwa [HL.out] at h)
   generalize hq:k*n=q at *
   by_cases hb:4095 < q+n
   ·have HF:=Lib.hid (show 4095 < (repC a lo hi).length from Nat.lt_of_lt_of_le hb HLE.out)
    clear hq
    go_wp2_with fail
    go_ret2
    exact .inr ⟨HF.out,rfl,HI.out.bel⟩
   ·clear hq
    go_wp2_with fail
    refine (rput_any HI2.out K.out HC.out (by have:=HL.out;omega) hn).mono ?_
    rintro e w2 ⟨v2,V2,rfl,h2⟩
    rw [HP.out] at h2
    have HI3:=Lib.hid h2
    obtain ⟨A2,c2,rfl,_⟩:=h2.form
    clear h2
    go_wp2_with fail
    go_roundw
    case rel=>exact ⟨k+1,V2,by omega,by go_num,by rw [HSU.out];omega,HI3⟩
    case measure=>simp [intOf];omega
  ·obtain rfl:k=lo:=by omega
   rw [HL.out]
   have HI2:=Lib.hid (show IR w0 w wr (.slice A1 (k*n) c1) V (repL a k) from by have h:=HI.out;rwa [HL.out] at h)
   clear HI
   by_cases h1:hi=-1
   ·subst h1
    have HR:=Lib.hid (show repC a k (-1)=starL (repL a k) a from by unfold repC;rw [if_pos rfl];congr 1)
    have HRL:=Lib.hid (show (repC a k (-1)).length=k*n+n+2 from by rw [HR.out,starL_len,HL.out,HAL.out])
    generalize hq:k*n=q at *
    clear hq
    by_cases hb:4095 < q+n+2
    ·go_wp2_with fail
     go_ret2
     exact .inr ⟨by have:=HRL.out;omega,rfl,HI2.out.bel⟩
    ·have HS:=Lib.hid (show starL (repL a k) a=put (repL a k++[iSp (q+1) (q+n+2)]) a++[iJ q] from by unfold starL;rw [HL.out,HAL.out])
     generalize repL a k=L at *
     have HOW:=Lib.hid (show wr.ownsRow w.heap.size 76 6 (.slice A1 q c1) q (nvs V) from by have h:=HI2.out.own;rwa [HL.out] at h)
     have HSZ:=Lib.hid HI2.out.bel.size
     go_wp2_with (at_builtin;(refine wpList_append_rd _ rfl (.tmp 37) (.tmp 46) _ rfl w.heap.size 76 i0 _ 6 96 Tryz.underlying22 hi0 hz0 hz1 hz2 rfl (by decide) (.slice A1 q c1) q (nvs V) rfl (own_below HOW.out ((Below.refl _ _).alloc (Nat.le_refl _) _)) _ (some ⟨wr.heap.size,0,none⟩) 1 1 [.int .i64 2,.slice none 0 0,.slice none 0 0,.slice none 0 0,.int .i64 (q+1),.int .i64 (q+n+2)] rfl rfl (rd_new _ _ _ _ rfl) (nv_one ⟨2,none,0,0,none,0,0,none,0,0,q+1,q+n+2⟩) (by unfold maxLen;omega) (by omega) (by simp;have:=HSZ.out;omega) ?_))
     intro v2 w2 hown hgr _
     have HN:=Lib.hid (show IR w0 w w2 v2 (V++[⟨2,none,0,0,none,0,0,none,0,0,q+1,q+n+2⟩]) (L++[iSp (q+1) (q+n+2)]) from
      HI2.out.snoc (means_op w0 2 _ _) ((Below.refl _ _).alloc (Nat.le_refl _) _) (by rw [HL.out];exact hown) hgr)
     obtain ⟨A2,c2,rfl,_⟩:=own_form hown
     clear hown hgr
     go_wp2_with fail
     refine (rput_any HN.out K.out HC.out (by rw [List.length_append,HL.out];simp;omega) hn).mono ?_
     rintro e w3 ⟨v3,V3,rfl,h3⟩
     have HL3:=Lib.hid (show (put (L++[iSp (q+1) (q+n+2)]) a).length=q+n+1 by rw [put_len,List.length_append,HL.out,HAL.out];simp;omega)
     generalize put (L++[iSp (q+1) (q+n+2)]) a=L3 at *
     obtain ⟨A3,c3,rfl,_⟩:=h3.form
     rw [HL3.out] at h3 ⊢
     have HI3:=Lib.hid h3
     have HO3:=Lib.hid (show w3.ownsRow w.heap.size 76 6 (.slice A3 (q+n+1) c3) (q+n+1) (nvs V3) from by have h:=h3.own;rwa [HL3.out] at h)
     have HS3:=Lib.hid h3.bel.size
     clear h3 HN
     go_wp2_with (at_builtin;(refine wpList_append_rd _ rfl (.tmp 51) (.tmp 54) _ rfl w.heap.size 76 i0 _ 6 96 Tryz.underlying22 hi0 hz0 hz1 hz2 rfl (by decide) (.slice A3 (q+n+1) c3) (q+n+1) (nvs V3) rfl (own_below HO3.out ((Below.refl _ _).alloc (Nat.le_refl _) _)) _ (some ⟨w3.heap.size,0,none⟩) 1 1 [.int .i64 3,.slice none 0 0,.slice none 0 0,.slice none 0 0,.int .i64 q,.int .i64 0] rfl rfl (rd_new _ _ _ _ rfl) (nv_one ⟨3,none,0,0,none,0,0,none,0,0,q,0⟩) (by unfold maxLen;omega) (by omega) (by simp;have:=HS3.out;omega) ?_))
     intro v4 w4 hown hgr _
     have HN4:=Lib.hid (show IR w0 w w4 v4 (V3++[⟨3,none,0,0,none,0,0,none,0,0,q,0⟩]) (L3++[iJ q]) from
      HI3.out.snoc (means_op w0 3 _ _) ((Below.refl _ _).alloc (Nat.le_refl _) _) (by rw [HL3.out];exact hown) hgr)
     have HN5:=Lib.hid (show IR w0 w w4 v4 (V3++[⟨3,none,0,0,none,0,0,none,0,0,q,0⟩]) (repC a k (-1)) from by rw [HR.out,HS.out];exact HN4.out)
     obtain ⟨A4,c4,rfl,_⟩:=own_form hown
     clear hown hgr HN4
     go_wp2_with fail
     go_ret2
     exact .inl ⟨by have:=HRL.out;omega,_,_,rfl,HN5.out⟩
   ·have h1':(hi == -1)=false:=by rw [beq_eq_false_iff_ne];exact h1
    obtain ⟨d,hd⟩:∃d:Nat,hi=k+d:=⟨(hi - k).toNat,by omega⟩
    have HR:=Lib.hid (show repC a k hi=optL (repL a k) a ((k*n+d*(n+1):Nat):Int) d from by
     unfold repC
     rw [if_neg h1]
     unfold repW
     rw [if_neg h1,HAL.out]
     rw [show ((k:Int)).toNat=k by omega,show (hi - k).toNat=d by omega])
    have HRL:=Lib.hid (show (repC a k hi).length=k*n+d*(n+1) from by rw [HR.out,optL_len,HL.out,HAL.out])
    have hdn:d*(n+1)≤64*4096:=Nat.mul_le_mul (by omega) (by omega)
    have hm:(d:Int)*((n:Int)+1)=((d*(n+1):Nat):Int):=by push_cast;rfl
    have hw:hi - (k:Int)=(d:Int):=by omega
    have HSU:=Lib.hid (show ∀j,j < d→j*(n+1)+(n+1)≤d*(n+1) from fun j hj=>by
     have h1:(j+1)*(n+1)≤d*(n+1):=Nat.mul_le_mul_right _ hj
     rwa [Nat.succ_mul] at h1)
    obtain ⟨E,hE⟩:∃E,E=d*(n+1):=⟨_,rfl⟩
    rw [←hE] at hm hdn HRL HR HSU
    obtain ⟨q,hq⟩:∃q,q=k*n:=⟨_,rfl⟩
    rw [←hq] at HRL HL hkn HI2 HR ⊢
    have HH:=Lib.hid hd
    clear hE hq hd
    by_cases hb:4095 < q+E
    ·go_wp2_with fail
     go_ret2
     exact .inr ⟨by have:=HRL.out;omega,rfl,HI2.out.bel⟩
    ·go_wp2_with fail
     go_loopw [8,12] (fun s i wr=>∃(j:Nat) (V:List NV),j≤d∧i=.int .i64 ((k+j:Nat):Int)∧Hid (IR w0 w wr s V (optL (repL a k) a ((q+E:Nat):Int) j))) (fun _ i _=>k+d - (intOf i).toNat)
     case atStart=>exact ⟨0,V,Nat.zero_le _,rfl,HI2⟩
     case round =>
      obtain ⟨j,V',hj,rfl,HI⟩:=hrel
      obtain ⟨A2,c2,rfl,_⟩:=HI.out.form
      have HL2:=Lib.hid (show (optL (repL a k) a ((q+E:Nat):Int) j).length=q+j*(n+1) by rw [optL_len,HL.out,HAL.out])
      obtain ⟨r,hr⟩:∃r,r=q+j*(n+1):=⟨_,rfl⟩
      have HI3:=Lib.hid (show IR w0 w wr (.slice A2 r c2) V' (optL (repL a k) a ((q+E:Nat):Int) j) from by have h:=HI.out;rwa [HL2.out,←hr] at h)
      by_cases hlt:j < d
      ·have hlt2:((k+j:Nat):Int) < hi:=by have:=HH.out;omega
       have hrs:r+(n+1)≤4095:=by have:=HSU.out j hlt;omega
       have HP:=Lib.hid (show put (optL (repL a k) a ((q+E:Nat):Int) j++[iSp (r+1) ((q+E:Nat):Int)]) a=optL (repL a k) a ((q+E:Nat):Int) (j+1) from by
        show _=put (optL _ _ _ j++[iSp ((optL _ _ _ j).length+1) _]) a
        rw [HL2.out,←hr])
       rw [HL2.out,←hr]
       rw [←hr] at HL2
       generalize optL (repL a k) a ((q+E:Nat):Int) j=L at *
       have HOW:=Lib.hid (show wr.ownsRow w.heap.size 76 6 (.slice A2 r c2) r (nvs V') from by have h:=HI3.out.own;rwa [HL2.out] at h)
       have HSZ:=Lib.hid HI3.out.bel.size
       clear hr
       go_wp2_with (at_builtin;(refine wpList_append_rd _ rfl (.tmp 74) (.tmp 80) _ rfl w.heap.size 76 i0 _ 6 96 Tryz.underlying22 hi0 hz0 hz1 hz2 rfl (by decide) (.slice A2 r c2) r (nvs V') rfl (own_below HOW.out ((Below.refl _ _).alloc (Nat.le_refl _) _)) _ (some ⟨wr.heap.size,0,none⟩) 1 1 [.int .i64 2,.slice none 0 0,.slice none 0 0,.slice none 0 0,.int .i64 (r+1),.int .i64 ((q+E:Nat):Int)] rfl rfl (rd_new _ _ _ _ rfl) (nv_one ⟨2,none,0,0,none,0,0,none,0,0,r+1,((q+E:Nat):Int)⟩) (by unfold maxLen;omega) (by omega) (by simp;have:=HSZ.out;omega) ?_))
       intro v2 w2 hown hgr _
       have HN:=Lib.hid (show IR w0 w w2 v2 (V'++[⟨2,none,0,0,none,0,0,none,0,0,r+1,((q+E:Nat):Int)⟩]) (L++[iSp (r+1) ((q+E:Nat):Int)]) from
        HI3.out.snoc (means_op w0 2 _ _) ((Below.refl _ _).alloc (Nat.le_refl _) _) (by rw [HL2.out];exact hown) hgr)
       obtain ⟨A4,c4,rfl,_⟩:=own_form hown
       clear hown hgr
       go_wp2_with fail
       refine (rput_any HN.out K.out HC.out (by rw [List.length_append,HL2.out];simp;omega) hn).mono ?_
       rintro e w3 ⟨v3,V3,rfl,h3⟩
       rw [HP.out] at h3
       have HI4:=Lib.hid h3
       obtain ⟨A3,c3,rfl,_⟩:=h3.form
       clear h3 HN
       go_wp2_with fail
       go_roundw
       case rel=>exact ⟨j+1,V3,by omega,by go_num,HI4⟩
       case measure=>simp [intOf];omega
      ·obtain rfl:j=d:=by omega
       have hlt2:¬((k+j:Nat):Int) < hi:=by have:=HH.out;omega
       have HN:=Lib.hid (show IR w0 w wr (.slice A2 (optL (repL a k) a ((q+E:Nat):Int) j).length c2) V' (repC a k hi) from by rw [HR.out];exact HI.out)
       go_wp2_with fail
       go_ret2
       exact .inl ⟨by have:=HRL.out;omega,_,_,rfl,HN.out⟩
end Go.Proofs.YtegdbmbenjnacaaGreat.Prg
namespace Go.Proofs.YtegdbmbenjnacaaGreat.Sset
open Go.RowKit
open Utf (Rd Blk bys bys_len nums nums_len)
open Rset
set_option maxRecDepth 100000
theorem fst_rns {x:Tx} {r:Int} (h:rns x=[r]):fst x=r:=by
 have hx:x≠[]:=by rintro rfl;cases h
 unfold rns at h
 rw [pnts_cons hx,List.map_cons] at h
 injection h with h _
theorem rune_rgx {x:Tx} (h:x≠[]):0≤(Utf.rune x:Int)∧(Utf.rune x:Int)≤1114111:=by
 have hh:Utf.rune x≤1114111:=by
  unfold Utf.rune
  split
  ·rename_i hw
   exact (Utf.wf_piece h hw).1.1
  ·decide
 omega
theorem ofS_no {x:Tx} (h:rns x=[]∨good x=false):ofS x=none_:=by
 have hk:okT x=false:=by
  unfold okT
  rcases h with h | h
  ·have:(pnts x).length=0:=by have:=congrArg List.length h;unfold rns at this;simpa using this
   rw [this];simp
  ·rw [h];rfl
 have hg:(good x && decide ((pnts x).length=1))=false:=by
  rcases h with h | h
  ·have:(pnts x).length=0:=by have:=congrArg List.length h;unfold rns at this;simpa using this
   rw [this];simp
  ·rw [h];rfl
 unfold ofS
 rw [hg,if_neg (by decide)]
 unfold normS none_
 have hr:(rise [x]).filter okT=[]:=by
  rw [List.filter_eq_nil_iff]
  intro t ht
  have:=List.mem_singleton.1 ((rise_mem [x] t).1 ht)
  rw [this,hk];decide
 rw [hr]
 have hn:norm ([]:List Rg)=[]:=norm_id Nm.nil
 rw [hn]
theorem ofS_one {x:Tx} {r:Int} (h:rns x=[r]) (hg:good x=true) (hr:0≤r∧r≤1114111):ofS x=⟨[(r,r)],[],[]⟩:=by
 have h1:(pnts x).length=1:=by have:=congrArg List.length h;unfold rns at this;simpa using this
 unfold ofS
 rw [hg,h1,if_pos (by decide),fst_rns h]
 unfold onesS
 rw [norm_id (Nm.cons ⟨hr.1,Int.le_refl _,hr.2⟩ (by simp) Nm.nil)]
theorem ofS_many {x:Tx} (h:2≤(rns x).length) (hg:good x=true):ofS x=⟨[],[],[x]⟩:=by
 have h1:2≤(pnts x).length:=by unfold rns at h;simpa using h
 have hk:okT x=true:=by unfold okT;rw [hg,decide_eq_true h1];rfl
 unfold ofS
 rw [hg,decide_eq_false (by omega),if_neg (by decide)]
 refine normS_id ⟨Nm.nil,Nm.nil,?_,fun t ht=>by rw [List.mem_singleton.1 ht];exact hk⟩
 exact List.pairwise_singleton _ _
set_option maxHeartbeats 8000000 in
theorem rof_any (X:ByteArray) (x:Tx) (hX:X.toList=x) (hl:x.length≤1073741824) (w:World) :
  Calls Tryz.prog 120 #[.string X] w (OwnS w (ofS x)):=by
 obtain ⟨g,hg⟩:∃g,g=w.heap.size:=⟨_,rfl⟩
 obtain ⟨W0,hW0⟩:∃W0,W0=w.alloc (.cells #[.slice none 0 0,.slice none 0 0,.slice none 0 0] 74):=⟨_,rfl⟩
 have k0:BlkS W0 g (.slice none 0 0) (.slice none 0 0) (.slice none 0 0):=by rw [hW0,hg];exact BlkS.new w _ _ _
 have hb0:Below w.heap.size w W0:=by rw [hW0];exact (Below.refl _ _).alloc (Nat.le_refl _) _
 have HK:=Lib.hid k0;have HW:=Lib.hid hW0;have HG:=Lib.hid hg;have HB0:=Lib.hid hb0;have HL:=Lib.hid hl
 obtain ⟨n,hn⟩:∃n,x.length=n:=⟨_,rfl⟩
 obtain ⟨gg,C,W1,hcv,hr1,hb1,_,_⟩:=conv_str W0 X x hX n hn (by omega)
 have HRR:=Lib.hid (rrunes_any (some ⟨gg,0,none⟩) x n C W1 hr1 hn (by omega))
 have HGD:=Lib.hid (fun u=>good_any X x hX hl u)
 have HXX:=Lib.hid (toList_mk hX)
 have HB1:=Lib.hid hb1
 obtain ⟨L,hL⟩:∃L,rns x=L:=⟨_,rfl⟩
 rw [hL] at HRR
 have HLL:=Lib.hid hL
 clear hg hW0 hb0 k0 hX hl hr1 hb1 hn hL
 go_enter Tryz.func120,Tryz.ntmps120
 go_wp2_with fail
 rw [←HW.out,←HG.out,hcv]
 go_wp2_with fail
 refine HRR.out.mono ?_
 rintro e w2 ⟨v2,rfl,o2,b2⟩
 have HG2:=Lib.hid (show ∀b o N c,v2=.slice (some ⟨b,o,none⟩) N c→g≠b from fun b o N c e=>by
  have:=(o2.lt b (by rw [e];rfl)).1
  have h1:=HK.out.lt;have h2:=HB1.out.size
  omega)
 obtain ⟨A2,c2,rfl,_,_,r2⟩:=own_form o2
 have HR2:=Lib.hid r2
 have HB2:=Lib.hid (HB1.out.trans (b2.mono HB1.out.size))
 clear o2 b2 r2 HRR hcv
 have HZ:=Lib.hid (HK.out.next HB2.out)
 have hs0:=HB0.out.size
 have HBW:=Lib.hid (HB0.out.trans (HB2.out.mono hs0))
 have HGW:=Lib.hid (show w.heap.size≤g from Nat.le_of_eq HG.out.symm)
 have d0:=HZ.out.c0;have d1:=HZ.out.c1;have d2:=HZ.out.c2;have f0:=HZ.out.fr 0;have f1:=HZ.out.fr 1;have f2:=HZ.out.fr 2
 by_cases h0:L=[]
 ·subst h0
  simp only [List.length_nil]
  go_wp2_with fail
  refine (HZ.out.put _ _ _).ret rfl rfl rfl ?_
  rw [ofS_no (.inl HLL.out)]
  exact OwnS.of (a:=none_) (B1:=w.heap.size) (B2:=w.heap.size) (B3:=w.heap.size) HZ.out (World.ownsRow_nil _ _ _ _) (World.ownsRow_nil _ _ _ _) (World.ownsRow_nil _ _ _ _) HBW.out HGW.out (Nat.le_refl _) (Nat.le_refl _) (Nat.le_refl _)
 ·obtain ⟨N,hN⟩:∃N,L.length=N:=⟨_,rfl⟩
  have hN0:0 < N:=by rw [←hN];exact List.length_pos_iff.2 h0
  rw [hN]
  clear d0 d1 d2 f0 f1 f2
  go_wp2_with fail
  refine (HGD.out _).mono ?_
  rintro e w3 ⟨rfl,b3⟩
  replace HR2:=Lib.hid ((HR2.out.below b3).more b3.size)
  replace HZ:=Lib.hid (HZ.out.next b3)
  replace HBW:=Lib.hid (HBW.out.trans (b3.mono HBW.out.size))
  clear b3
  have d0:=HZ.out.c0;have d1:=HZ.out.c1;have d2:=HZ.out.c2;have f0:=HZ.out.fr 0;have f1:=HZ.out.fr 1;have f2:=HZ.out.fr 2
  cases hgd:good x with
  | false =>
   go_wp2_with fail
   refine (HZ.out.put _ _ _).ret rfl rfl rfl ?_
   rw [ofS_no (.inr hgd)]
   exact OwnS.of (a:=none_) (B1:=w.heap.size) (B2:=w.heap.size) (B3:=w.heap.size) HZ.out (World.ownsRow_nil _ _ _ _) (World.ownsRow_nil _ _ _ _) (World.ownsRow_nil _ _ _ _) HBW.out HGW.out (Nat.le_refl _) (Nat.le_refl _) (Nat.le_refl _)
  | true =>
   by_cases h1:N=1
   ·subst h1
    obtain ⟨r,hr⟩:=List.length_eq_one_iff.1 hN
    subst hr
    have hx:x≠[]:=by rintro rfl;cases HLL.out
    have hrr:r=(Utf.rune x:Int):=by rw [←fst_rns HLL.out];rfl
    have HRB:=Lib.hid (show 0≤r∧r≤1114111 from by rw [hrr];exact rune_rgx hx)
    have HOF:=Lib.hid (ofS_one HLL.out hgd HRB.out)
    clear hrr
    obtain ⟨b,o,rfl,hbl⟩:=HR2.out.form (by rw [nums_len];exact Nat.zero_lt_one)
    have p0:w3.cell? ⟨b,o,none⟩=some (.int .i32 r):=by
     have:=HR2.out.num (k:=0) (by simp)
     simpa using this
    have hBL:=Lib.hid hbl
    have HGB:=Lib.hid (show g≠b from HG2.out b o _ _ rfl)
    go_wp2_with fail
    have HCE:=Lib.hid (show ∀u,Below w3.heap.size w3 u→u.cell? ⟨b,o,none⟩=some (.int .i32 r) from fun u hu=>(hu.cell (p:=⟨b,o,none⟩) hBL.out).trans p0)
    refine wp_region_held_drew (S:=fun u=>u.cell? ⟨b,o,none⟩=some (.int .i32 r)) (by kernel_rfl) (HCE.out _ (Below.refl _ _).drew) (fun hHeld=>?_)
    refine wpAnyH_take (i:=0) (oi:=_) (v:=?_) rfl (by kernel_rfl) (by kernel_rfl) (by kernel_rfl) (fun _ _ _ h=>h) (Or.inl ⟨by rfl,?_⟩) (by assumption) ?_
    rotate_left
    ·(intro w hSw;(try dsimp only at hSw);go_simp <;> with_reducible rfl)
    simp only [List.getElem_toArray,List.getElem_cons_zero,Act.put,List.setIfInBounds_toArray,List.set_cons_zero,List.set_cons_succ]
    refine wpAnyH_take (i:=1) (oi:=_) (v:=?_) rfl (by kernel_rfl) (by kernel_rfl) (by kernel_rfl) (fun _ _ _ h=>h) (Or.inl ⟨by rfl,?_⟩) (by assumption) ?_
    rotate_left
    ·(intro w hSw;(try dsimp only at hSw);go_simp <;> with_reducible rfl)
    simp only [List.getElem_toArray,List.getElem_cons_succ,List.getElem_cons_zero,Act.put,List.setIfInBounds_toArray,List.set_cons_zero,List.set_cons_succ]
    refine wpAnyH_take (i:=2) (oi:=_) (v:=?_) rfl (by kernel_rfl) (by kernel_rfl) (by kernel_rfl) (fun _ _ _ h=>h) (Or.inl ⟨by rfl,?_⟩) (by assumption) ?_
    rotate_left
    ·(intro w hSw;(try dsimp only at hSw);go_simp <;> with_reducible rfl)
    simp only [List.getElem_toArray,List.getElem_cons_succ,List.getElem_cons_zero,Act.put,List.setIfInBounds_toArray,List.set_cons_zero,List.set_cons_succ]
    refine wpAnyH_take (i:=3) (oi:=_) (v:=?_) rfl (by kernel_rfl) (by kernel_rfl) (by kernel_rfl) (fun _ _ _ h=>h) (Or.inl ⟨by rfl,?_⟩) (by assumption) ?_
    rotate_left
    ·(intro w hSw;(try dsimp only at hSw);go_simp <;> with_reducible rfl)
    simp only [List.getElem_toArray,List.getElem_cons_succ,List.getElem_cons_zero,Act.put,List.setIfInBounds_toArray,List.set_cons_zero,List.set_cons_succ]
    refine wpAnyH_take (i:=4) (oi:=_) (v:=?_) rfl (by kernel_rfl) (by kernel_rfl) (by kernel_rfl) (fun _ _ _ h=>h) (Or.inl ⟨by rfl,?_⟩) (by assumption) ?_
    rotate_left
    ·(intro w hSw;(try dsimp only at hSw);go_simp <;> with_reducible rfl)
    simp only [List.getElem_toArray,List.getElem_cons_succ,List.getElem_cons_zero,Act.put,List.setIfInBounds_toArray,List.set_cons_zero,List.set_cons_succ]
    refine wpAnyH_take (i:=5) (oi:=_) (v:=?_) rfl (by kernel_rfl) (by kernel_rfl) (by kernel_rfl) (fun _ _ _ h=>h) (Or.inl ⟨by rfl,?_⟩) (by assumption) ?_
    rotate_left
    ·(intro w hSw;(try dsimp only at hSw);go_simp <;> with_reducible rfl)
    simp only [List.getElem_toArray,List.getElem_cons_succ,List.getElem_cons_zero,Act.put,List.setIfInBounds_toArray,List.set_cons_zero,List.set_cons_succ]
    refine wpAnyH_take (i:=6) (oi:=_) (v:=?_) rfl (by kernel_rfl) (by kernel_rfl) (by kernel_rfl) (fun _ _ _ h=>h) (Or.inl ⟨by rfl,?_⟩) (by assumption) ?_
    rotate_left
    ·(intro w hSw;(try dsimp only at hSw);go_simp <;> with_reducible rfl)
    simp only [List.getElem_toArray,List.getElem_cons_succ,List.getElem_cons_zero,Act.put,List.setIfInBounds_toArray,List.set_cons_zero,List.set_cons_succ]
    refine wpAnyH_ready (rs:=[7]) (by kernel_rfl) (by simp) (AllReadyH.cons rfl (fun K hK=>?_) AllReadyH.nil)
    have hba:Below w3.heap.size w3 ((w3.alloc (.cells #[.int .i32 r,.int .i32 r] 141)).drew):=((Below.refl w3.heap.size w3).alloc (Nat.le_refl _) _).drew
    have HBA:=Lib.hid hba
    have HO:=Lib.hid (show ((w3.alloc (.cells #[.int .i32 r,.int .i32 r] 141)).drew).ownsRow w.heap.size 141 2 (.slice (some ⟨w3.heap.size,0,none⟩) 1 1) 1 (rgs [(r,r)]) from ⟨rfl,.inr ⟨w3.heap.size,1,#[.int .i32 r,.int .i32 r],rfl,HBW.out.size,heap_alloc_new w3 _,Nat.le_refl _,by simp [maxLen],rfl,rfl⟩⟩)
    have HZ4:=Lib.hid (HZ.out.next hba)
    clear hba d0 d1 d2 f0 f1 f2
    go_simp
    generalize ((w3.alloc (.cells #[.int .i32 r,.int .i32 r] 141)).drew)=w4 at *
    refine hK.out _ _ (HCE.out _ HBA.out) (fun hHeld2=>?_)
    clear hK K hHeld
    have hHeld:=hHeld2
    clear hHeld2
    refine wpAnyH_take (i:=8) (oi:=_) (v:=?_) rfl (by kernel_rfl) (by kernel_rfl) (by kernel_rfl) (fun _ _ _ h=>h) (Or.inl ⟨by rfl,?_⟩) (by assumption) ?_
    rotate_left
    ·(intro w hSw;(try dsimp only at hSw);go_simp <;> with_reducible rfl)
    simp only [List.getElem_toArray,List.getElem_cons_succ,List.getElem_cons_zero,Act.put,List.setIfInBounds_toArray,List.set_cons_zero,List.set_cons_succ]
    refine wpAnyH_ready (rs:=[9]) (by kernel_rfl) (by simp) (AllReadyH.cons rfl (fun K hK=>?_) AllReadyH.nil)
    have d0:=HZ4.out.c0;have d1:=HZ4.out.c1;have d2:=HZ4.out.c2;have f0:=HZ4.out.fr 0;have f1:=HZ4.out.fr 1;have f2:=HZ4.out.fr 2
    go_simp
    clear d0 d1 d2 f0 f1 f2
    refine hK.out _ _ ((World.cell?_of_block ((grown_put w4 g _ _ _).block b (Nat.lt_of_lt_of_le hBL.out HBA.out.size) (fun e=>HGB.out (Option.some.inj e).symm))).trans (HCE.out _ HBA.out)) (fun hHeld2=>?_)
    clear hK K hHeld
    have hHeld:=hHeld2
    clear hHeld2
    refine wpAnyH_done (by kernel_rfl) ?_ _
    go_wp2_with fail
    refine (HZ4.out.put _ _ _).ret rfl rfl rfl ?_
    rw [HOF.out]
    exact OwnS.of (a:=⟨[(r,r)],[],[]⟩) (B1:=w.heap.size) (B2:=w.heap.size) (B3:=w.heap.size) HZ4.out HO.out (World.ownsRow_nil _ _ _ _) (World.ownsRow_nil _ _ _ _) (HBW.out.trans (HBA.out.mono HBW.out.size)) HGW.out (Nat.le_refl _) (Nat.le_refl _) (Nat.le_refl _)
   ·have h1':((N:Int) == 1)=false:=beq_eq_false_iff_ne.2 (by omega)
    have HOF:=Lib.hid (ofS_many (by rw [HLL.out,hN];omega) hgd)
    clear d0 d1 d2 f0 f1 f2
    have k3:=HZ.out.alloc (.cells #[.string X] 9)
    have hb3:Below w3.heap.size w3 (w3.alloc (.cells #[.string X] 9)):=(Below.refl _ _).alloc (Nat.le_refl _) _
    have HO:=Lib.hid (show (w3.alloc (.cells #[.string X] 9)).ownsRow w.heap.size 9 1 (.slice (some ⟨w3.heap.size,0,none⟩) 1 1) 1 (txs [x]) from ⟨rfl,.inr ⟨w3.heap.size,1,#[.string X],rfl,HBW.out.size,heap_alloc_new w3 _,Nat.le_refl _,by simp [maxLen],rfl,by rw [HXX.out];rfl⟩⟩)
    have HZ4:=Lib.hid k3
    have HB4:=Lib.hid (HBW.out.trans (hb3.mono HBW.out.size))
    have d0:=k3.c0;have d1:=k3.c1;have d2:=k3.c2;have f0:=k3.fr 0;have f1:=k3.fr 1;have f2:=k3.fr 2
    clear k3 hb3
    go_wp2_with fail
    refine (HZ4.out.put _ _ _).ret rfl rfl rfl ?_
    rw [HOF.out]
    exact OwnS.of (a:=⟨[],[],[x]⟩) (B1:=w.heap.size) (B2:=w.heap.size) (B3:=w.heap.size) HZ4.out (World.ownsRow_nil _ _ _ _) (World.ownsRow_nil _ _ _ _) HO.out HB4.out HGW.out (Nat.le_refl _) (Nat.le_refl _) (Nat.le_refl _)
end Go.Proofs.YtegdbmbenjnacaaGreat.Sset
namespace Go.Proofs.YtegdbmbenjnacaaGreat.Prg
open Go.RowKit
set_option maxRecDepth 100000
def on (m:List Bool) (i:Nat):Prop:=m[i]? = some true
theorem on_set {m:List Bool} {i j:Nat} (hj:j < m.length):on (m.set j true) i↔on m i∨i=j:=by
 unfold on
 by_cases h:i=j
 ·subst h;rw [List.getElem?_set_self hj];simp
 ·rw [List.getElem?_set_ne (fun e=>h e.symm)];simp [h]
theorem on_lt {m:List Bool} {i:Nat} (h:on m i):i < m.length:=(List.getElem?_eq_some_iff.1 h).1
def off (m:List Bool):Nat:=m.countP (· == false)
theorem off_set:∀{m:List Bool} {j:Nat},m[j]? = some false→off (m.set j true)+1=off m
 | [],j,h=>by simp at h
 | x :: m,0,h=>by
  simp at h;subst h
  show off (true :: m)+1=off (false :: m)
  unfold off
  rw [List.countP_cons_of_neg (by decide),List.countP_cons_of_pos (by decide)]
 | x :: m,j+1,h=>by
  have ih:=off_set (m:=m) (j:=j) (by simpa using h)
  show off (x :: m.set j true)+1=off (x :: m)
  unfold off at ih ⊢
  rw [List.countP_cons,List.countP_cons]
  omega
structure Mk (p:List Ins) (b e:Bool) (S:Nat→Prop) (m:List Bool) (todo:List Nat):Prop where
 len:m.length=p.length
 reach:∀i,on m i→Rch p b e S i
 has:∀i,i < p.length→S i→on m i
 td:∀t∈todo,on m t
 done:∀i j,on m i→i∉todo→nxt p b e i j→on m j
structure Mk2 (p:List Ins) (b e:Bool) (S:Nat→Prop) (m:List Bool) (todo:List Nat) (c:Nat) (d:List Nat):Prop where
 len:m.length=p.length
 reach:∀i,on m i→Rch p b e S i
 has:∀i,i < p.length→S i→on m i
 td:∀t∈todo,on m t
 at_:on m c
 done:∀i j,on m i→i∉todo→i≠c→nxt p b e i j→on m j
 ds:∀j∈d,on m j
section
variable {p:List Ins} {b e:Bool} {S:Nat→Prop} {m:List Bool} {todo d:List Nat} {c:Nat}
theorem Mk.pop (h:Mk p b e S m (todo++[c])):Mk2 p b e S m todo c [] :=
 ⟨h.len,h.reach,h.has,fun t ht=>h.td t (List.mem_append_left _ ht),h.td c (List.mem_append_right _ (List.mem_singleton.2 rfl)),
  fun i j h1 h2 h3 h4=>h.done i j h1 (fun hi=>by rcases List.mem_append.1 hi with h5 | h5;exact h2 h5;exact h3 (List.mem_singleton.1 h5)) h4,fun j hj=>by cases hj⟩
theorem Mk2.old (h:Mk2 p b e S m todo c d) {j:Nat} (hj:on m j):Mk2 p b e S m todo c (d++[j]) :=
 ⟨h.len,h.reach,h.has,h.td,h.at_,h.done,fun i hi=>by rcases List.mem_append.1 hi with h1 | h1;exact h.ds i h1;rw [List.mem_singleton.1 h1];exact hj⟩
theorem Mk2.new (h:Mk2 p b e S m todo c d) {j:Nat} (hj:j < m.length) (hn:nxt p b e c j):Mk2 p b e S (m.set j true) (todo++[j]) c (d++[j]):=by
 have hk:∀i,on m i→on (m.set j true) i:=fun i hi=>(on_set hj).2 (.inl hi)
 have hs:on (m.set j true) j:=(on_set hj).2 (.inr rfl)
 refine ⟨by rw [List.length_set];exact h.len,fun i hi=>?_,fun i h1 h2=>hk i (h.has i h1 h2),fun t ht=>?_,hk c h.at_,fun i k h1 h2 h3 h4=>?_,fun i hi=>?_⟩
 ·rcases (on_set hj).1 hi with h1 | rfl
  ·exact h.reach i h1
  ·exact (h.reach c h.at_).step hn
 ·rcases List.mem_append.1 ht with h1 | h1
  ·exact hk t (h.td t h1)
  ·rw [List.mem_singleton.1 h1];exact hs
 ·have h5:i≠j:=fun e=>h2 (List.mem_append_right _ (List.mem_singleton.2 e))
  have h6:on m i:=((on_set hj).1 h1).resolve_right h5
  exact hk k (h.done i k h6 (fun hi=>h2 (List.mem_append_left _ hi)) h3 h4)
 ·rcases List.mem_append.1 hi with h1 | h1
  ·exact hk i (h.ds i h1)
  ·rw [List.mem_singleton.1 h1];exact hs
theorem Mk2.all (h:Mk2 p b e S m todo c d) (hd:∀j,nxt p b e c j→j∈d):Mk p b e S m todo :=
 ⟨h.len,h.reach,h.has,h.td,fun i j h1 h2 h3=>by
  by_cases hc:i=c
  ·subst hc;exact h.ds j (hd j h3)
  ·exact h.done i j h1 h2 hc h3⟩
theorem Mk.fin (h:Mk p b e S m []) (i:Nat):on m i↔Rch p b e S i :=
 ⟨h.reach i,fun hr=>hr.in h.has (fun i j h1 h2=>h.done i j h1 (by simp) h2)⟩
end
def nexts (p:List Ins) (b e:Bool) (i:Nat):List Nat:=match p[i]? with
 | none=>[]
 | some x=>if x.kind=2 then [x.mn.toNat,x.mx.toNat] else if x.kind=3 then [x.mn.toNat] else if x.kind=4 then (if b then [i+1] else []) else if x.kind=5 then (if e then [i+1] else []) else []
theorem nexts_iff {p:List Ins} (hm:mayP p=true) {b e:Bool} {i j:Nat}:j∈nexts p b e i↔nxt p b e i j:=by
 unfold nexts nxt
 cases hx:p[i]? with
 | none=>simp
 | some x =>
  obtain ⟨hi,rfl⟩:=List.getElem?_eq_some_iff.1 hx
  have ho:=may_at hm hi
  unfold okP at ho
  dsimp only
  by_cases h2:p[i].kind=2
  ·rw [if_neg (by omega),if_pos h2,decide_eq_true_eq] at ho
   rw [if_pos h2]
   constructor
   ·intro h
    rcases List.mem_cons.1 h with h | h
    ·exact ⟨_,rfl,.inl ⟨h2,.inl (by omega)⟩⟩
    ·exact ⟨_,rfl,.inl ⟨h2,.inr (by have:=List.mem_singleton.1 h;omega)⟩⟩
   ·rintro ⟨x,hx,hc⟩
    injection hx with hx;subst hx
    rcases hc with ⟨_,h | h⟩ | ⟨h,_⟩ | ⟨h,_⟩ | ⟨h,_⟩
    ·exact List.mem_cons.2 (.inl (by omega))
    ·exact List.mem_cons.2 (.inr (List.mem_singleton.2 (by omega)))
    ·omega
    ·omega
    ·omega
  ·rw [if_neg h2]
   by_cases h3:p[i].kind=3
   ·rw [if_neg (by omega),if_neg (by omega),if_pos h3,decide_eq_true_eq] at ho
    rw [if_pos h3]
    constructor
    ·intro h
     exact ⟨_,rfl,.inr (.inl ⟨h3,by have:=List.mem_singleton.1 h;omega⟩)⟩
    ·rintro ⟨x,hx,hc⟩
     injection hx with hx;subst hx
     rcases hc with ⟨h,_⟩ | ⟨_,h⟩ | ⟨h,_⟩ | ⟨h,_⟩
     ·omega
     ·exact List.mem_singleton.2 (by omega)
     ·omega
     ·omega
   ·rw [if_neg h3]
    by_cases h4:p[i].kind=4
    ·rw [if_pos h4]
     constructor
     ·intro h
      cases b with
      | true=>exact ⟨_,rfl,.inr (.inr (.inl ⟨h4,rfl,by simpa using h⟩))⟩
      | false=>simp at h
     ·rintro ⟨x,hx,hc⟩
      injection hx with hx;subst hx
      rcases hc with ⟨h,_⟩ | ⟨h,_⟩ | ⟨_,rfl,h⟩ | ⟨h,_⟩
      ·omega
      ·omega
      ·simp [h]
      ·omega
    ·rw [if_neg h4]
     by_cases h5:p[i].kind=5
     ·rw [if_pos h5]
      constructor
      ·intro h
       cases e with
       | true=>exact ⟨_,rfl,.inr (.inr (.inr ⟨h5,rfl,by simpa using h⟩))⟩
       | false=>simp at h
      ·rintro ⟨x,hx,hc⟩
       injection hx with hx;subst hx
       rcases hc with ⟨h,_⟩ | ⟨h,_⟩ | ⟨h,_⟩ | ⟨_,rfl,h⟩
       ·omega
       ·omega
       ·omega
       ·simp [h]
     ·rw [if_neg h5]
      constructor
      ·intro h;cases h
      ·rintro ⟨x,hx,hc⟩
       injection hx with hx;subst hx
       rcases hc with ⟨h,_⟩ | ⟨h,_⟩ | ⟨h,_⟩ | ⟨h,_⟩ <;> omega
end Go.Proofs.YtegdbmbenjnacaaGreat.Prg
