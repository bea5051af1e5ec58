/-
  Texts of stage 7, part 14.
-/
import Derived.Deep.RegionLaw
import Derived.Deep.DeepCutAuto
import Derived.Test.YtegdbmbenjnacaaGreatR3
import Derived.Test.YtegdbmbenjnacaaGreatR4
import Derived.Test.YtegdbmbenjnacaaGreatR10
import Derived.Test.YtegdbmbenjnacaaGreatR12
import Derived.Test.YtegdbmbenjnacaaGreatR13
import Derived.Test.YtegdbmbenjnacaaGreatR15
namespace Go.Proofs.YtegdbmbenjnacaaGreat.Sset
open Go.RowKit
open Utf (Rd Blk wpList_append_rd own_ne)
open Rset
set_option maxRecDepth 100000
structure Begun (w W:World) (B gs:Nat) (v1 v2:Value) (l1 l2:List Rg):Prop where
 blk:BlkS W gs v1 v2 (.slice none 0 0)
 big:B≤gs
 o1:W.ownsRow B 141 2 v1 l1.length (rgs l1)
 o2:W.ownsRow B 141 2 v2 l2.length (rgs l2)
 bel:Below B w W
theorem own_apart {w:World} {b1 b2:Nat} {e1 e2:TypeId} {s1 s2 n1 n2:Nat} {v1 v2:Value} {xs1 xs2:List Value} (h1:w.ownsRow b1 e1 s1 v1 n1 xs1) (h2:w.ownsRow b2 e2 s2 v2 n2 xs2) (hne:e1≠e2):v1.ownBlock=none∨v1.ownBlock≠v2.ownBlock:=by
 rcases h1.2 with ⟨rfl,_⟩ | ⟨g1,cap1,cur1,rfl,_,hh1,_⟩
 ·exact .inl rfl
 ·right
  intro e
  rcases h2.2 with ⟨rfl,_⟩ | ⟨g2,cap2,cur2,rfl,_,hh2,_⟩
  ·cases e
  ·have e:g1=g2:=Option.some.inj e
   subst e
   rw [hh1] at hh2
   injection hh2 with hh2
   injection hh2 with _ hh2 _
   exact hne hh2
end Go.Proofs.YtegdbmbenjnacaaGreat.Sset
namespace Go.Proofs.YtegdbmbenjnacaaGreat.Sset
open Go.RowKit
open Utf (Rd Blk pts pts_len Pts)
open Rset
set_option maxRecDepth 100000
structure Made (w w':World) (A1:Option Addr) (n1 c1:Nat) (A2:Option Addr) (n2 c2:Nat) (A3:Option Addr) (n3 c3:Nat) (a:St):Prop where
 has:Has3 w' A1 n1 A2 n2 A3 n3 a
 o1:w'.ownsRow w.heap.size 141 2 (.slice A1 n1 c1) a.s.length (rgs a.s)
 o2:w'.ownsRow w.heap.size 141 2 (.slice A2 n2 c2) a.m.length (rgs a.m)
 o3:w'.ownsRow w.heap.size 9 1 (.slice A3 n3 c3) a.o.length (txs a.o)
 bel:Below w.heap.size w w'
def ResO (w:World) (a:St) (e:Ending) (w':World):Prop:=∃A1 n1 c1 A2 n2 c2 A3 n3 c3,e=.returned (.agg #[.slice A1 n1 c1,.slice A2 n2 c2,.slice A3 n3 c3])∧Made w w' A1 n1 c1 A2 n2 c2 A3 n3 c3 a
theorem OwnS.made {w w':World} {a:St} {e:Ending} (h:OwnS w a e w') (hN:NmS a) (hS:Short a.o) (hsm:a.o.length≤1073741824):ResO w a e w':=by
 obtain ⟨v1,v2,v3,rfl,h1,h2,h3,hb⟩:=h
 obtain ⟨A1,c1,rfl,k1⟩:=argR_own h1 rfl hN.s
 obtain ⟨A2,c2,rfl,k2⟩:=argR_own h2 rfl hN.m
 obtain ⟨A3,c3,rfl,k3⟩:=argT_own h3 rfl hS hsm
 exact ⟨_,_,_,_,_,_,_,_,_,rfl,⟨k1,k2,k3⟩,h1,h2,h3,hb⟩
section
variable {w:World} {A1 A2 A3 B1 B2 B3:Option Addr} {n1 n2 n3 m1 m2 m3:Nat} {a b:St}
end
end Go.Proofs.YtegdbmbenjnacaaGreat.Sset
namespace Go.Proofs.YtegdbmbenjnacaaGreat.Sset
open Go.RowKit
open Utf (Rd Blk pts pts_len Pts Pt rune wid)
open Rset
set_option maxRecDepth 100000
theorem has3_none (w:World):Has3 w none 0 none 0 none 0 none_:=⟨⟨rd_nil _ _ _,rfl,fit_nil,by omega⟩,⟨rd_nil _ _ _,rfl,fit_nil,by omega⟩,⟨Rd.empty _ _ _,rfl,fun _ h=>by simp [none_] at h,by omega⟩⟩
end Go.Proofs.YtegdbmbenjnacaaGreat.Sset
namespace Go.Proofs.YtegdbmbenjnacaaGreat.Sset
open Go.RowKit
open Utf (Rd Blk pts pts_len Pts Pt rune wid)
open Rset
set_option maxRecDepth 100000
set_option maxHeartbeats 8000000 in
theorem smay_any (A1 A2 A3:Option Addr) (n1 c1 n2 c2 n3 c3:Nat) (a:St) (w:World) (h:Has3 w A1 n1 A2 n2 A3 n3 a) :
  Calls Tryz.prog 88 #[.agg #[.slice A1 n1 c1,.slice A2 n2 c2,.slice A3 n3 c3]] w (Ret w (.bool (decide (normS a=a)))):=by
 obtain ⟨g,hg⟩:∃g,g=w.heap.size:=⟨_,rfl⟩
 obtain ⟨W0,hW0⟩:∃W0,W0=w.alloc (.cells #[.slice A1 n1 c1,.slice A2 n2 c2,.slice A3 n3 c3] 74):=⟨_,rfl⟩
 have k0:BlkS W0 g (.slice A1 n1 c1) (.slice A2 n2 c2) (.slice A3 n3 c3):=by rw [hW0,hg];exact BlkS.new w _ _ _
 have hb0:Below w.heap.size w W0:=by rw [hW0];exact (Below.refl _ _).alloc (Nat.le_refl _) _
 have H:=Lib.hid (h.next hb0)
 have HK:=Lib.hid k0;have HW:=Lib.hid hW0;have HG:=Lib.hid hg;have HB0:=Lib.hid hb0
 have HSW:=Lib.hid (show ∀u,Below W0.heap.size W0 u→u.cell? ⟨g,0,none⟩=some (.slice A1 n1 c1)∧u.cell? ⟨g,1,none⟩=some (.slice A2 n2 c2)∧u.cell? ⟨g,2,none⟩=some (.slice A3 n3 c3) from fun u hu=>⟨(HK.out.next hu).c0,(HK.out.next hu).c1,(HK.out.next hu).c2⟩)
 have HM1:=Lib.hid (show ∀u,Below W0.heap.size W0 u→Calls Tryz.prog 102 #[.slice A1 n1 c1] u (Ret u (.bool (eqL (norm a.s) a.s))) from fun u hu=>by
  have k:=(H.out.next hu).s;exact Rset.may_any A1 a.s n1 c1 u k.rd k.len k.fit (by have:=k.sm;omega))
 have HM2:=Lib.hid (show ∀u,Below W0.heap.size W0 u→Calls Tryz.prog 102 #[.slice A2 n2 c2] u (Ret u (.bool (eqL (norm a.m) a.m))) from fun u hu=>by
  have k:=(H.out.next hu).m;exact Rset.may_any A2 a.m n2 c2 u k.rd k.len k.fit (by have:=k.sm;omega))
 have HE:=Lib.hid (show decide (normS a=a)=(eqL (norm a.s) a.s && eqL (norm a.m) a.m && decide ((rise a.o).filter okT=a.o)) from st_eq (normS a) a)
 have HLN:=Lib.hid (show ((rise a.o).filter okT).length≤1099511627776 from Nat.le_trans (List.length_filter_le _ _) (Nat.le_trans (rise_len _) (by have:=h.o.len;have:=h.o.sm;omega)))
 clear h hg hW0 hb0 k0
 rw [HE.out]
 generalize eqL (norm a.s) a.s=p1 at HM1 ⊢
 generalize eqL (norm a.m) a.m=p2 at HM2 ⊢
 obtain ⟨p3,hp3⟩:∃p3,decide ((rise a.o).filter okT=a.o)=p3:=⟨_,rfl⟩
 rw [hp3]
 have HP3:=Lib.hid hp3
 clear hp3
 go_enter Tryz.func88,Tryz.ntmps88
 go_wp2_with fail
 rw [←HW.out,←HG.out]
 refine wp_region_held_drew (S:=fun u=>u.cell? ⟨g,0,none⟩=some (.slice A1 n1 c1)∧u.cell? ⟨g,1,none⟩=some (.slice A2 n2 c2)∧u.cell? ⟨g,2,none⟩=some (.slice A3 n3 c3)) (by kernel_rfl) (HSW.out _ (Below.refl _ _).drew) (fun hHeld=>?_)
 refine wpAnyH_take (i:=0) (oi:=_) (v:=?_) rfl (by kernel_rfl) (by kernel_rfl) (by kernel_rfl) (fun _ _ _ h=>h) (Or.inl ⟨by rfl,?_⟩) (by assumption) ?_
 rotate_left
 ·(intro w hSw;(try dsimp only at hSw);(try obtain ⟨s1_,s2_,s3_⟩:=hSw);go_simp <;> with_reducible rfl)
 simp only [List.getElem_toArray,List.getElem_cons_zero,Act.put,List.setIfInBounds_toArray,List.set_cons_zero,List.set_cons_succ]
 refine wpAnyH_take (i:=1) (oi:=_) (v:=?_) rfl (by kernel_rfl) (by kernel_rfl) (by kernel_rfl) (fun _ _ _ h=>h) (Or.inl ⟨by rfl,?_⟩) (by assumption) ?_
 rotate_left
 ·(intro w hSw;(try dsimp only at hSw);(try obtain ⟨s1_,s2_,s3_⟩:=hSw);go_simp <;> with_reducible rfl)
 simp only [List.getElem_toArray,List.getElem_cons_succ,List.getElem_cons_zero,Act.put,List.setIfInBounds_toArray,List.set_cons_zero,List.set_cons_succ]
 refine wpAnyH_ready (rs:=[2]) (by kernel_rfl) (by simp) (AllReadyH.cons rfl (fun K hK=>?_) AllReadyH.nil)
 go_simp
 go_at_call 102
 refine (HM1.out _ (Below.refl _ _).drew).mono ?_
 rintro e w1 ⟨rfl,hb1⟩
 have HB1:=Lib.hid (show Below W0.heap.size W0 w1 from below_drewl hb1)
 clear hb1
 refine hK.out _ _ (HSW.out _ HB1.out) (fun hHeld2=>?_)
 clear hK K hHeld
 have hHeld:=hHeld2
 clear hHeld2
 cases p1 with
 | false =>
  refine wpAnyH_take (i:=3) (oi:=_) (v:=?_) rfl (by kernel_rfl) (by kernel_rfl) (by kernel_rfl) (fun _ _ _ h=>h) (Or.inl ⟨by rfl,?_⟩) (by assumption) ?_
  rotate_left
  ·(intro w hSw;(try dsimp only at hSw);(try obtain ⟨s1_,s2_,s3_⟩:=hSw);go_simp <;> with_reducible rfl)
  simp only [List.getElem_toArray,List.getElem_cons_succ,List.getElem_cons_zero,Act.put,List.setIfInBounds_toArray,List.set_cons_zero,List.set_cons_succ]
  refine wpAnyH_take (i:=4) (oi:=_) (v:=undef) rfl (by kernel_rfl) (by kernel_rfl) (by kernel_rfl) (fun _ _ _ h=>h) (Or.inr ⟨by rfl,rfl⟩) (by assumption) ?_
  simp only [List.getElem_toArray,List.getElem_cons_succ,List.getElem_cons_zero,Act.put,List.setIfInBounds_toArray,List.set_cons_zero,List.set_cons_succ]
  refine wpAnyH_take (i:=5) (oi:=_) (v:=undef) rfl (by kernel_rfl) (by kernel_rfl) (by kernel_rfl) (fun _ _ _ h=>h) (Or.inr ⟨by rfl,rfl⟩) (by assumption) ?_
  simp only [List.getElem_toArray,List.getElem_cons_succ,List.getElem_cons_zero,Act.put,List.setIfInBounds_toArray,List.set_cons_zero,List.set_cons_succ]
  refine wpAnyH_take (i:=6) (oi:=_) (v:=undef) rfl (by kernel_rfl) (by kernel_rfl) (by kernel_rfl) (fun _ _ _ h=>h) (Or.inr ⟨by rfl,rfl⟩) (by assumption) ?_
  simp only [List.getElem_toArray,List.getElem_cons_succ,List.getElem_cons_zero,Act.put,List.setIfInBounds_toArray,List.set_cons_zero,List.set_cons_succ]
  refine wpAnyH_take (i:=7) (oi:=_) (v:=?_) rfl (by kernel_rfl) (by kernel_rfl) (by kernel_rfl) (fun _ _ _ h=>h) (Or.inl ⟨by rfl,?_⟩) (by assumption) ?_
  rotate_left
  ·(intro w hSw;(try dsimp only at hSw);(try obtain ⟨s1_,s2_,s3_⟩:=hSw);go_simp <;> with_reducible rfl)
  simp only [List.getElem_toArray,List.getElem_cons_succ,List.getElem_cons_zero,Act.put,List.setIfInBounds_toArray,List.set_cons_zero,List.set_cons_succ]
  refine wpAnyH_take (i:=8) (oi:=_) (v:=?_) rfl (by kernel_rfl) (by kernel_rfl) (by kernel_rfl) (fun _ _ _ h=>h) (Or.inl ⟨by rfl,?_⟩) (by assumption) ?_
  rotate_left
  ·(intro w hSw;(try dsimp only at hSw);(try obtain ⟨s1_,s2_,s3_⟩:=hSw);go_simp <;> with_reducible rfl)
  simp only [List.getElem_toArray,List.getElem_cons_succ,List.getElem_cons_zero,Act.put,List.setIfInBounds_toArray,List.set_cons_zero,List.set_cons_succ]
  refine wpAnyH_take (i:=9) (oi:=_) (v:=undef) rfl (by kernel_rfl) (by kernel_rfl) (by kernel_rfl) (fun _ _ _ h=>h) (Or.inr ⟨by rfl,rfl⟩) (by assumption) ?_
  simp only [List.getElem_toArray,List.getElem_cons_succ,List.getElem_cons_zero,Act.put,List.setIfInBounds_toArray,List.set_cons_zero,List.set_cons_succ]
  refine wpAnyH_take (i:=10) (oi:=_) (v:=undef) rfl (by kernel_rfl) (by kernel_rfl) (by kernel_rfl) (fun _ _ _ h=>h) (Or.inr ⟨by rfl,rfl⟩) (by assumption) ?_
  simp only [List.getElem_toArray,List.getElem_cons_succ,List.getElem_cons_zero,Act.put,List.setIfInBounds_toArray,List.set_cons_zero,List.set_cons_succ]
  refine wpAnyH_take (i:=11) (oi:=_) (v:=undef) rfl (by kernel_rfl) (by kernel_rfl) (by kernel_rfl) (fun _ _ _ h=>h) (Or.inr ⟨by rfl,rfl⟩) (by assumption) ?_
  simp only [List.getElem_toArray,List.getElem_cons_succ,List.getElem_cons_zero,Act.put,List.setIfInBounds_toArray,List.set_cons_zero,List.set_cons_succ]
  refine wpAnyH_take (i:=12) (oi:=_) (v:=undef) rfl (by kernel_rfl) (by kernel_rfl) (by kernel_rfl) (fun _ _ _ h=>h) (Or.inr ⟨by rfl,rfl⟩) (by assumption) ?_
  simp only [List.getElem_toArray,List.getElem_cons_succ,List.getElem_cons_zero,Act.put,List.setIfInBounds_toArray,List.set_cons_zero,List.set_cons_succ]
  refine wpAnyH_take (i:=13) (oi:=_) (v:=undef) rfl (by kernel_rfl) (by kernel_rfl) (by kernel_rfl) (fun _ _ _ h=>h) (Or.inr ⟨by rfl,rfl⟩) (by assumption) ?_
  simp only [List.getElem_toArray,List.getElem_cons_succ,List.getElem_cons_zero,Act.put,List.setIfInBounds_toArray,List.set_cons_zero,List.set_cons_succ]
  refine wpAnyH_take (i:=14) (oi:=_) (v:=undef) rfl (by kernel_rfl) (by kernel_rfl) (by kernel_rfl) (fun _ _ _ h=>h) (Or.inr ⟨by rfl,rfl⟩) (by assumption) ?_
  simp only [List.getElem_toArray,List.getElem_cons_succ,List.getElem_cons_zero,Act.put,List.setIfInBounds_toArray,List.set_cons_zero,List.set_cons_succ]
  refine wpAnyH_take (i:=15) (oi:=_) (v:=?_) rfl (by kernel_rfl) (by kernel_rfl) (by kernel_rfl) (fun _ _ _ h=>h) (Or.inl ⟨by rfl,?_⟩) (by assumption) ?_
  rotate_left
  ·(intro w hSw;(try dsimp only at hSw);(try obtain ⟨s1_,s2_,s3_⟩:=hSw);go_simp <;> with_reducible rfl)
  simp only [List.getElem_toArray,List.getElem_cons_succ,List.getElem_cons_zero,Act.put,List.setIfInBounds_toArray,List.set_cons_zero,List.set_cons_succ]
  refine wpAnyH_take (i:=16) (oi:=_) (v:=?_) rfl (by kernel_rfl) (by kernel_rfl) (by kernel_rfl) (fun _ _ _ h=>h) (Or.inl ⟨by rfl,?_⟩) (by assumption) ?_
  rotate_left
  ·(intro w hSw;(try dsimp only at hSw);(try obtain ⟨s1_,s2_,s3_⟩:=hSw);go_simp <;> with_reducible rfl)
  simp only [List.getElem_toArray,List.getElem_cons_succ,List.getElem_cons_zero,Act.put,List.setIfInBounds_toArray,List.set_cons_zero,List.set_cons_succ]
  refine wpAnyH_done (by kernel_rfl) ?_ _
  go_wp2_with fail
  go_ret
  exact ⟨rfl,HB0.out.trans (HB1.out.mono HB0.out.size)⟩
 | true =>
  refine wpAnyH_take (i:=3) (oi:=_) (v:=?_) rfl (by kernel_rfl) (by kernel_rfl) (by kernel_rfl) (fun _ _ _ h=>h) (Or.inl ⟨by rfl,?_⟩) (by assumption) ?_
  rotate_left
  ·(intro w hSw;(try dsimp only at hSw);(try obtain ⟨s1_,s2_,s3_⟩:=hSw);go_simp <;> with_reducible rfl)
  simp only [List.getElem_toArray,List.getElem_cons_succ,List.getElem_cons_zero,Act.put,List.setIfInBounds_toArray,List.set_cons_zero,List.set_cons_succ]
  refine wpAnyH_take (i:=4) (oi:=_) (v:=?_) rfl (by kernel_rfl) (by kernel_rfl) (by kernel_rfl) (fun _ _ _ h=>h) (Or.inl ⟨by rfl,?_⟩) (by assumption) ?_
  rotate_left
  ·(intro w hSw;(try dsimp only at hSw);(try obtain ⟨s1_,s2_,s3_⟩:=hSw);go_simp <;> with_reducible rfl)
  simp only [List.getElem_toArray,List.getElem_cons_succ,List.getElem_cons_zero,Act.put,List.setIfInBounds_toArray,List.set_cons_zero,List.set_cons_succ]
  refine wpAnyH_take (i:=5) (oi:=_) (v:=?_) rfl (by kernel_rfl) (by kernel_rfl) (by kernel_rfl) (fun _ _ _ h=>h) (Or.inl ⟨by rfl,?_⟩) (by assumption) ?_
  rotate_left
  ·(intro w hSw;(try dsimp only at hSw);(try obtain ⟨s1_,s2_,s3_⟩:=hSw);go_simp <;> with_reducible rfl)
  simp only [List.getElem_toArray,List.getElem_cons_succ,List.getElem_cons_zero,Act.put,List.setIfInBounds_toArray,List.set_cons_zero,List.set_cons_succ]
  refine wpAnyH_ready (rs:=[6]) (by kernel_rfl) (by simp) (AllReadyH.cons rfl (fun K hK=>?_) AllReadyH.nil)
  go_simp
  go_at_call 102
  refine (HM2.out _ HB1.out).mono ?_
  rintro e w2 ⟨rfl,hb2⟩
  have HB2:=Lib.hid (HB1.out.trans (hb2.mono HB1.out.size))
  clear hb2
  refine hK.out _ _ (HSW.out _ HB2.out) (fun hHeld2=>?_)
  clear hK K hHeld
  have hHeld:=hHeld2
  clear hHeld2
  cases p2 with
  | false =>
   refine wpAnyH_take (i:=7) (oi:=_) (v:=?_) rfl (by kernel_rfl) (by kernel_rfl) (by kernel_rfl) (fun _ _ _ h=>h) (Or.inl ⟨by rfl,?_⟩) (by assumption) ?_
   rotate_left
   ·(intro w hSw;(try dsimp only at hSw);(try obtain ⟨s1_,s2_,s3_⟩:=hSw);go_simp <;> with_reducible rfl)
   simp only [List.getElem_toArray,List.getElem_cons_succ,List.getElem_cons_zero,Act.put,List.setIfInBounds_toArray,List.set_cons_zero,List.set_cons_succ]
   refine wpAnyH_take (i:=8) (oi:=_) (v:=?_) rfl (by kernel_rfl) (by kernel_rfl) (by kernel_rfl) (fun _ _ _ h=>h) (Or.inl ⟨by rfl,?_⟩) (by assumption) ?_
   rotate_left
   ·(intro w hSw;(try dsimp only at hSw);(try obtain ⟨s1_,s2_,s3_⟩:=hSw);go_simp <;> with_reducible rfl)
   simp only [List.getElem_toArray,List.getElem_cons_succ,List.getElem_cons_zero,Act.put,List.setIfInBounds_toArray,List.set_cons_zero,List.set_cons_succ]
   refine wpAnyH_take (i:=9) (oi:=_) (v:=undef) rfl (by kernel_rfl) (by kernel_rfl) (by kernel_rfl) (fun _ _ _ h=>h) (Or.inr ⟨by rfl,rfl⟩) (by assumption) ?_
   simp only [List.getElem_toArray,List.getElem_cons_succ,List.getElem_cons_zero,Act.put,List.setIfInBounds_toArray,List.set_cons_zero,List.set_cons_succ]
   refine wpAnyH_take (i:=10) (oi:=_) (v:=undef) rfl (by kernel_rfl) (by kernel_rfl) (by kernel_rfl) (fun _ _ _ h=>h) (Or.inr ⟨by rfl,rfl⟩) (by assumption) ?_
   simp only [List.getElem_toArray,List.getElem_cons_succ,List.getElem_cons_zero,Act.put,List.setIfInBounds_toArray,List.set_cons_zero,List.set_cons_succ]
   refine wpAnyH_take (i:=11) (oi:=_) (v:=undef) rfl (by kernel_rfl) (by kernel_rfl) (by kernel_rfl) (fun _ _ _ h=>h) (Or.inr ⟨by rfl,rfl⟩) (by assumption) ?_
   simp only [List.getElem_toArray,List.getElem_cons_succ,List.getElem_cons_zero,Act.put,List.setIfInBounds_toArray,List.set_cons_zero,List.set_cons_succ]
   refine wpAnyH_take (i:=12) (oi:=_) (v:=undef) rfl (by kernel_rfl) (by kernel_rfl) (by kernel_rfl) (fun _ _ _ h=>h) (Or.inr ⟨by rfl,rfl⟩) (by assumption) ?_
   simp only [List.getElem_toArray,List.getElem_cons_succ,List.getElem_cons_zero,Act.put,List.setIfInBounds_toArray,List.set_cons_zero,List.set_cons_succ]
   refine wpAnyH_take (i:=13) (oi:=_) (v:=undef) rfl (by kernel_rfl) (by kernel_rfl) (by kernel_rfl) (fun _ _ _ h=>h) (Or.inr ⟨by rfl,rfl⟩) (by assumption) ?_
   simp only [List.getElem_toArray,List.getElem_cons_succ,List.getElem_cons_zero,Act.put,List.setIfInBounds_toArray,List.set_cons_zero,List.set_cons_succ]
   refine wpAnyH_take (i:=14) (oi:=_) (v:=undef) rfl (by kernel_rfl) (by kernel_rfl) (by kernel_rfl) (fun _ _ _ h=>h) (Or.inr ⟨by rfl,rfl⟩) (by assumption) ?_
   simp only [List.getElem_toArray,List.getElem_cons_succ,List.getElem_cons_zero,Act.put,List.setIfInBounds_toArray,List.set_cons_zero,List.set_cons_succ]
   refine wpAnyH_take (i:=15) (oi:=_) (v:=?_) rfl (by kernel_rfl) (by kernel_rfl) (by kernel_rfl) (fun _ _ _ h=>h) (Or.inl ⟨by rfl,?_⟩) (by assumption) ?_
   rotate_left
   ·(intro w hSw;(try dsimp only at hSw);(try obtain ⟨s1_,s2_,s3_⟩:=hSw);go_simp <;> with_reducible rfl)
   simp only [List.getElem_toArray,List.getElem_cons_succ,List.getElem_cons_zero,Act.put,List.setIfInBounds_toArray,List.set_cons_zero,List.set_cons_succ]
   refine wpAnyH_take (i:=16) (oi:=_) (v:=?_) rfl (by kernel_rfl) (by kernel_rfl) (by kernel_rfl) (fun _ _ _ h=>h) (Or.inl ⟨by rfl,?_⟩) (by assumption) ?_
   rotate_left
   ·(intro w hSw;(try dsimp only at hSw);(try obtain ⟨s1_,s2_,s3_⟩:=hSw);go_simp <;> with_reducible rfl)
   simp only [List.getElem_toArray,List.getElem_cons_succ,List.getElem_cons_zero,Act.put,List.setIfInBounds_toArray,List.set_cons_zero,List.set_cons_succ]
   refine wpAnyH_done (by kernel_rfl) ?_ _
   go_wp2_with fail
   go_ret
   exact ⟨rfl,HB0.out.trans (HB2.out.mono HB0.out.size)⟩
  | true =>
   refine wpAnyH_take (i:=7) (oi:=_) (v:=?_) rfl (by kernel_rfl) (by kernel_rfl) (by kernel_rfl) (fun _ _ _ h=>h) (Or.inl ⟨by rfl,?_⟩) (by assumption) ?_
   rotate_left
   ·(intro w hSw;(try dsimp only at hSw);(try obtain ⟨s1_,s2_,s3_⟩:=hSw);go_simp <;> with_reducible rfl)
   simp only [List.getElem_toArray,List.getElem_cons_succ,List.getElem_cons_zero,Act.put,List.setIfInBounds_toArray,List.set_cons_zero,List.set_cons_succ]
   refine wpAnyH_take (i:=8) (oi:=_) (v:=?_) rfl (by kernel_rfl) (by kernel_rfl) (by kernel_rfl) (fun _ _ _ h=>h) (Or.inl ⟨by rfl,?_⟩) (by assumption) ?_
   rotate_left
   ·(intro w hSw;(try dsimp only at hSw);(try obtain ⟨s1_,s2_,s3_⟩:=hSw);go_simp <;> with_reducible rfl)
   simp only [List.getElem_toArray,List.getElem_cons_succ,List.getElem_cons_zero,Act.put,List.setIfInBounds_toArray,List.set_cons_zero,List.set_cons_succ]
   refine wpAnyH_take (i:=9) (oi:=_) (v:=?_) rfl (by kernel_rfl) (by kernel_rfl) (by kernel_rfl) (fun _ _ _ h=>h) (Or.inl ⟨by rfl,?_⟩) (by assumption) ?_
   rotate_left
   ·(intro w hSw;(try dsimp only at hSw);(try obtain ⟨s1_,s2_,s3_⟩:=hSw);go_simp <;> with_reducible rfl)
   simp only [List.getElem_toArray,List.getElem_cons_succ,List.getElem_cons_zero,Act.put,List.setIfInBounds_toArray,List.set_cons_zero,List.set_cons_succ]
   refine wpAnyH_take (i:=10) (oi:=_) (v:=?_) rfl (by kernel_rfl) (by kernel_rfl) (by kernel_rfl) (fun _ _ _ h=>h) (Or.inl ⟨by rfl,?_⟩) (by assumption) ?_
   rotate_left
   ·(intro w hSw;(try dsimp only at hSw);(try obtain ⟨s1_,s2_,s3_⟩:=hSw);go_simp <;> with_reducible rfl)
   simp only [List.getElem_toArray,List.getElem_cons_succ,List.getElem_cons_zero,Act.put,List.setIfInBounds_toArray,List.set_cons_zero,List.set_cons_succ]
   refine wpAnyH_take (i:=12) (oi:=_) (v:=?_) rfl (by kernel_rfl) (by kernel_rfl) (by kernel_rfl) (fun _ _ _ h=>h) (Or.inl ⟨by rfl,?_⟩) (by assumption) ?_
   rotate_left
   ·(intro w hSw;(try dsimp only at hSw);(try obtain ⟨s1_,s2_,s3_⟩:=hSw);go_simp <;> with_reducible rfl)
   simp only [List.getElem_toArray,List.getElem_cons_succ,List.getElem_cons_zero,Act.put,List.setIfInBounds_toArray,List.set_cons_zero,List.set_cons_succ]
   refine wpAnyH_take (i:=13) (oi:=_) (v:=?_) rfl (by kernel_rfl) (by kernel_rfl) (by kernel_rfl) (fun _ _ _ h=>h) (Or.inl ⟨by rfl,?_⟩) (by assumption) ?_
   rotate_left
   ·(intro w hSw;(try dsimp only at hSw);(try obtain ⟨s1_,s2_,s3_⟩:=hSw);go_simp <;> with_reducible rfl)
   simp only [List.getElem_toArray,List.getElem_cons_succ,List.getElem_cons_zero,Act.put,List.setIfInBounds_toArray,List.set_cons_zero,List.set_cons_succ]
   refine wpAnyH_ready (rs:=[11]) (by kernel_rfl) (by simp) (AllReadyH.cons rfl (fun K hK=>?_) AllReadyH.nil)
   go_simp
   go_at_call 104
   refine (longer_any A3 n3 c3 a.o _ (H.out.next HB2.out).o).mono ?_
   rintro e w3 ⟨v3,rfl,o3,hb3⟩
   obtain ⟨P3,k3,rfl,_,_,r3⟩:=own_form o3
   have HB3:=Lib.hid (HB2.out.trans (hb3.mono HB2.out.size))
   have HR3:=Lib.hid r3
   clear o3 r3 hb3
   refine hK.out _ _ (HSW.out _ HB3.out) (fun hHeld2=>?_)
   clear hK K hHeld
   have hHeld:=hHeld2
   clear hHeld2
   refine wpAnyH_ready (rs:=[14]) (by kernel_rfl) (by simp) (AllReadyH.cons rfl (fun K hK=>?_) AllReadyH.nil)
   go_simp
   go_at_call 103
   have hq3:=eqT_any P3 A3 _ a.o _ n3 k3 c3 w3 HR3.out (H.out.next HB3.out).o.rd rfl (H.out.next HB3.out).o.len HLN.out (by have:=H.out.o.sm;omega)
   rw [HP3.out] at hq3
   refine hq3.mono ?_
   clear hq3
   rintro e w4 ⟨rfl,q4,rfl⟩
   have HB4:=Lib.hid (below_drewN HB3.out q4)
   refine hK.out _ _ (HSW.out _ HB4.out) (fun hHeld2=>?_)
   clear hK K hHeld
   have hHeld:=hHeld2
   clear hHeld2
   refine wpAnyH_take (i:=15) (oi:=_) (v:=?_) rfl (by kernel_rfl) (by kernel_rfl) (by kernel_rfl) (fun _ _ _ h=>h) (Or.inl ⟨by rfl,?_⟩) (by assumption) ?_
   rotate_left
   ·(intro w hSw;(try dsimp only at hSw);(try obtain ⟨s1_,s2_,s3_⟩:=hSw);go_simp <;> with_reducible rfl)
   simp only [List.getElem_toArray,List.getElem_cons_succ,List.getElem_cons_zero,Act.put,List.setIfInBounds_toArray,List.set_cons_zero,List.set_cons_succ]
   refine wpAnyH_take (i:=16) (oi:=_) (v:=?_) rfl (by kernel_rfl) (by kernel_rfl) (by kernel_rfl) (fun _ _ _ h=>h) (Or.inl ⟨by rfl,?_⟩) (by assumption) ?_
   rotate_left
   ·(intro w hSw;(try dsimp only at hSw);(try obtain ⟨s1_,s2_,s3_⟩:=hSw);go_simp <;> with_reducible rfl)
   simp only [List.getElem_toArray,List.getElem_cons_succ,List.getElem_cons_zero,Act.put,List.setIfInBounds_toArray,List.set_cons_zero,List.set_cons_succ]
   refine wpAnyH_done (by kernel_rfl) ?_ _
   go_wp2_with fail
   go_ret
   exact ⟨rfl,HB0.out.trans (HB4.out.mono HB0.out.size)⟩
theorem has_key (a:St) (x:Tx) (hne:x≠[]):hasS a x=if two x then (has a.m (fst x) != isIn a.o x) else has a.s (fst x):=by
 unfold hasS;rw [if_neg hne];rfl
set_option maxHeartbeats 4000000 in
theorem shas_none (A1 A2 A3:Option Addr) (n1 c1 n2 c2 n3 c3:Nat) (a:St) (X:ByteArray) (hX:X.toList=[]) (w:World) :
  Calls Tryz.prog 51 #[.agg #[.slice A1 n1 c1,.slice A2 n2 c2,.slice A3 n3 c3],.string X] w (Ret w (.bool (hasS a []))):=by
 have e:X=⟨#[]⟩:=toList_mk hX
 subst e
 clear hX
 go_enter Tryz.func51,Tryz.ntmps51
 go_wp2_with fail
 go_ret
 exact ⟨rfl,(Below.refl _ _).alloc (Nat.le_refl _) _⟩
set_option maxHeartbeats 4000000 in
theorem shas_some (A1 A2 A3:Option Addr) (n1 c1 n2 c2 n3 c3:Nat) (a:St) (X:ByteArray) (x:Tx) (hX:X.toList=x) (hne:x≠[]) (hl:x.length≤1099511627770) (w:World) (h:Has3 w A1 n1 A2 n2 A3 n3 a) :
  Calls Tryz.prog 51 #[.agg #[.slice A1 n1 c1,.slice A2 n2 c2,.slice A3 n3 c3],.string X] w (Ret w (.bool (hasS a x))):=by
 obtain ⟨g,hg⟩:∃g,g=w.heap.size:=⟨_,rfl⟩
 obtain ⟨W0,hW0⟩:∃W0,W0=w.alloc (.cells #[.slice A1 n1 c1,.slice A2 n2 c2,.slice A3 n3 c3] 74):=⟨_,rfl⟩
 have k0:BlkS W0 g (.slice A1 n1 c1) (.slice A2 n2 c2) (.slice A3 n3 c3):=by rw [hW0,hg];exact BlkS.new w _ _ _
 have hb0:Below w.heap.size w W0:=by rw [hW0];exact (Below.refl _ _).alloc (Nat.le_refl _) _
 have H:=Lib.hid (h.next hb0)
 have HK:=Lib.hid k0;have HW:=Lib.hid hW0;have HG:=Lib.hid hg;have HB0:=Lib.hid hb0
 have hemp:(X.toList == [])=false:=by rw [hX,beq_eq_false_iff_ne];exact hne
 have HE:=Lib.hid (has_key a x hne)
 have HX:=Lib.hid hX
 have HFI:=Lib.hid (first_any X x hX hne hl W0)
 clear h hg hW0 hb0 k0 hX hne hl
 generalize hasS a x=res at HE ⊢
 generalize fst x=r at *
 go_enter Tryz.func51,Tryz.ntmps51
 go_wp2_with fail
 rw [←HW.out,←HG.out]
 refine HFI.out.mono ?_
 rintro e w1 ⟨rfl,hb1⟩
 have HB1:=Lib.hid (HB0.out.trans (hb1.mono HB0.out.size))
 have HK1:=Lib.hid (HK.out.next hb1)
 have H1:=Lib.hid (H.out.next hb1)
 clear hb1 HFI hemp
 generalize two x=tw at *
 cases tw with
 | false =>
  have HE2:=Lib.hid (show res=has a.s r from HE.out)
  have e0:=HK1.out.c0
  go_wp2_with fail
  refine (Rset.has_any A1 a.s n1 c1 r w1 H1.out.s.rd H1.out.s.len (by have:=H1.out.s.sm;omega)).mono ?_
  rintro e w2 ⟨rfl,hb2⟩
  have HB2:=Lib.hid (HB1.out.trans (hb2.mono HB1.out.size))
  clear hb2
  go_wp2_with fail
  go_ret
  exact ⟨ret_bool HE2.out.symm,HB2.out⟩
 | true =>
  have HE2:=Lib.hid (show res=(has a.m r != isIn a.o x) from HE.out)
  have HSW:=Lib.hid (show ∀u,Below w1.heap.size w1 u→u.cell? ⟨g,1,none⟩=some (.slice A2 n2 c2)∧u.cell? ⟨g,2,none⟩=some (.slice A3 n3 c3) from fun u hu=>⟨(HK1.out.next hu).c1,(HK1.out.next hu).c2⟩)
  go_wp2_with fail
  refine wp_region_held_drew (S:=fun u=>u.cell? ⟨g,1,none⟩=some (.slice A2 n2 c2)∧u.cell? ⟨g,2,none⟩=some (.slice A3 n3 c3)) (by kernel_rfl) (HSW.out _ (Below.refl _ _).drew) (fun hHeld=>?_)
  refine wpAnyH_take (i:=0) (oi:=_) (v:=?_) rfl (by kernel_rfl) (by kernel_rfl) (by kernel_rfl) (fun _ _ _ h=>h) (Or.inl ⟨by rfl,?_⟩) (by assumption) ?_
  rotate_left
  ·(intro w hSw;(try dsimp only at hSw);(try obtain ⟨s1_,s2_⟩:=hSw);go_simp <;> with_reducible rfl)
  simp only [List.getElem_toArray,List.getElem_cons_zero,Act.put,List.setIfInBounds_toArray,List.set_cons_zero,List.set_cons_succ]
  refine wpAnyH_take (i:=1) (oi:=_) (v:=?_) rfl (by kernel_rfl) (by kernel_rfl) (by kernel_rfl) (fun _ _ _ h=>h) (Or.inl ⟨by rfl,?_⟩) (by assumption) ?_
  rotate_left
  ·(intro w hSw;(try dsimp only at hSw);(try obtain ⟨s1_,s2_⟩:=hSw);go_simp <;> with_reducible rfl)
  simp only [List.getElem_toArray,List.getElem_cons_succ,List.getElem_cons_zero,Act.put,List.setIfInBounds_toArray,List.set_cons_zero,List.set_cons_succ]
  refine wpAnyH_take (i:=2) (oi:=_) (v:=?_) rfl (by kernel_rfl) (by kernel_rfl) (by kernel_rfl) (fun _ _ _ h=>h) (Or.inl ⟨by rfl,?_⟩) (by assumption) ?_
  rotate_left
  ·(intro w hSw;(try dsimp only at hSw);(try obtain ⟨s1_,s2_⟩:=hSw);go_simp <;> with_reducible rfl)
  simp only [List.getElem_toArray,List.getElem_cons_succ,List.getElem_cons_zero,Act.put,List.setIfInBounds_toArray,List.set_cons_zero,List.set_cons_succ]
  refine wpAnyH_take (i:=4) (oi:=_) (v:=?_) rfl (by kernel_rfl) (by kernel_rfl) (by kernel_rfl) (fun _ _ _ h=>h) (Or.inl ⟨by rfl,?_⟩) (by assumption) ?_
  rotate_left
  ·(intro w hSw;(try dsimp only at hSw);(try obtain ⟨s1_,s2_⟩:=hSw);go_simp <;> with_reducible rfl)
  simp only [List.getElem_toArray,List.getElem_cons_succ,List.getElem_cons_zero,Act.put,List.setIfInBounds_toArray,List.set_cons_zero,List.set_cons_succ]
  refine wpAnyH_take (i:=5) (oi:=_) (v:=?_) rfl (by kernel_rfl) (by kernel_rfl) (by kernel_rfl) (fun _ _ _ h=>h) (Or.inl ⟨by rfl,?_⟩) (by assumption) ?_
  rotate_left
  ·(intro w hSw;(try dsimp only at hSw);(try obtain ⟨s1_,s2_⟩:=hSw);go_simp <;> with_reducible rfl)
  simp only [List.getElem_toArray,List.getElem_cons_succ,List.getElem_cons_zero,Act.put,List.setIfInBounds_toArray,List.set_cons_zero,List.set_cons_succ]
  refine wpAnyH_take (i:=6) (oi:=_) (v:=?_) rfl (by kernel_rfl) (by kernel_rfl) (by kernel_rfl) (fun _ _ _ h=>h) (Or.inl ⟨by rfl,?_⟩) (by assumption) ?_
  rotate_left
  ·(intro w hSw;(try dsimp only at hSw);(try obtain ⟨s1_,s2_⟩:=hSw);go_simp <;> with_reducible rfl)
  simp only [List.getElem_toArray,List.getElem_cons_succ,List.getElem_cons_zero,Act.put,List.setIfInBounds_toArray,List.set_cons_zero,List.set_cons_succ]
  refine wpAnyH_ready (rs:=[3]) (by kernel_rfl) (by simp) (AllReadyH.cons rfl (fun K hK=>?_) AllReadyH.nil)
  go_simp
  go_at_call 72
  refine (Rset.has_any A2 a.m n2 c2 r _ (H1.out.m.next (Below.refl _ _).drew).rd H1.out.m.len (by have:=H1.out.m.sm;omega)).mono ?_
  rintro e w2 ⟨rfl,hb2⟩
  have HB2:=Lib.hid (show Below w1.heap.size w1 w2 from below_drewl hb2)
  clear hb2
  refine hK.out _ _ (HSW.out _ HB2.out) (fun hHeld2=>?_)
  clear hK K hHeld
  have hHeld:=hHeld2
  clear hHeld2
  refine wpAnyH_ready (rs:=[7]) (by kernel_rfl) (by simp) (AllReadyH.cons rfl (fun K hK=>?_) AllReadyH.nil)
  go_simp
  go_at_call 73
  refine (con_any A3 a.o n3 c3 X x HX.out w2 (H1.out.o.next HB2.out).rd H1.out.o.len (by have:=H1.out.o.sm;omega)).mono ?_
  rintro e w3 ⟨rfl,rfl⟩
  refine hK.out _ _ (HSW.out _ HB2.out) (fun hHeld2=>?_)
  clear hK K hHeld
  have hHeld:=hHeld2
  clear hHeld2
  refine wpAnyH_take (i:=8) (oi:=_) (v:=?_) rfl (by kernel_rfl) (by kernel_rfl) (by kernel_rfl) (fun _ _ _ h=>h) (Or.inl ⟨by rfl,?_⟩) (by assumption) ?_
  rotate_left
  ·(intro w hSw;(try dsimp only at hSw);(try obtain ⟨s1_,s2_⟩:=hSw);go_simp <;> with_reducible rfl)
  simp only [List.getElem_toArray,List.getElem_cons_succ,List.getElem_cons_zero,Act.put,List.setIfInBounds_toArray,List.set_cons_zero,List.set_cons_succ]
  refine wpAnyH_take (i:=9) (oi:=_) (v:=?_) rfl (by kernel_rfl) (by kernel_rfl) (by kernel_rfl) (fun _ _ _ h=>h) (Or.inl ⟨by rfl,?_⟩) (by assumption) ?_
  rotate_left
  ·(intro w hSw;(try dsimp only at hSw);(try obtain ⟨s1_,s2_⟩:=hSw);go_simp <;> with_reducible rfl)
  simp only [List.getElem_toArray,List.getElem_cons_succ,List.getElem_cons_zero,Act.put,List.setIfInBounds_toArray,List.set_cons_zero,List.set_cons_succ]
  refine wpAnyH_done (by kernel_rfl) ?_ _
  go_wp2_with fail
  go_ret
  refine ⟨ret_bool ?_,HB1.out.trans (HB2.out.mono HB1.out.size)⟩
  rw [HE2.out]
  cases has a.m r <;> cases isIn a.o x <;> rfl
theorem shas_any (A1 A2 A3:Option Addr) (n1 c1 n2 c2 n3 c3:Nat) (a:St) (X:ByteArray) (x:Tx) (hX:X.toList=x) (hl:x.length≤1099511627770) (w:World) (h:Has3 w A1 n1 A2 n2 A3 n3 a) :
  Calls Tryz.prog 51 #[.agg #[.slice A1 n1 c1,.slice A2 n2 c2,.slice A3 n3 c3],.string X] w (Ret w (.bool (hasS a x))):=by
 by_cases hne:x=[]
 ·subst hne;exact shas_none A1 A2 A3 n1 c1 n2 c2 n3 c3 a X hX w
 ·exact shas_some A1 A2 A3 n1 c1 n2 c2 n3 c3 a X x hX hne hl w h
end Go.Proofs.YtegdbmbenjnacaaGreat.Sset
namespace Go.Proofs.YtegdbmbenjnacaaGreat.Sset
open Go.RowKit
open Utf (Rd Blk bys bys_len pts pts_len nums nums_len nums_append nums_one dec enc wpList_append_rd own_ne Pts)
open Rset
set_option maxRecDepth 100000
def OwnN (B:Nat) (w:World) (l:List Int) (e:Ending) (w':World):Prop:=∃v,e=.returned v∧w'.ownsRow B 21 1 v l.length (nums l)∧Below B w w'
set_option maxHeartbeats 4000000 in
theorem rrunes_any (A:Option Addr) (l:List UInt8) (m c:Nat) (w:World) (hr:Rd w w.heap.size A (bys l)) (hm:l.length=m) (hb:m≤34359738368) :
  Calls Tryz.prog 80 #[.slice A m c] w (OwnN w.heap.size w (rns l)):=by
 obtain ⟨i0,hi,hz0,hz1,hz2⟩:=info_parts infoI32
 have HD:=Lib.hid (Utf.rdec_any A l m c false w hr hm (by omega))
 have hl:=Utf.dec_len_le false l 0
 rw [hm] at hl
 have HE:=Lib.hid (show rns l=(dec false 0 l).map fun q=>(q.r:Int) from rfl)
 generalize dec false 0 l=ps at HD HE hl
 obtain ⟨B0,hB0⟩:∃B0,B0=w.heap.size:=⟨_,rfl⟩
 have HB0:=Lib.hid hB0
 rw [HE.out,←hB0]
 clear hr hm hB0
 go_enter Tryz.func80,Tryz.ntmps80
 go_wp2_with fail
 refine HD.out.mono ?_
 rintro e w1 ⟨v,rfl,ho,hb1⟩
 rw [←HB0.out] at ho hb1
 obtain ⟨A1,c1,rfl,_,_,hr1⟩:=own_form ho
 have HR1:=Lib.hid hr1
 have HB1:=Lib.hid hb1
 obtain ⟨n,hn⟩:∃n,n=ps.length:=⟨_,rfl⟩
 rw [←hn] at hl ⊢
 have HN:=Lib.hid hn
 have HW1:=Lib.hid (show B0≤w1.heap.size by have:=hb1.size;have:=HB0.out;omega)
 clear ho hb1 hr1 hn HD
 go_wp2_with fail
 go_loopw [3,5] (fun vo i wr=>∃k:Nat,k≤n∧i=.int .i64 k∧Hid (wr.ownsRow w1.heap.size 21 1 vo ((ps.take k).map fun q=>(q.r:Int)).length (nums ((ps.take k).map fun q=>(q.r:Int))))∧Hid (Below w1.heap.size w1 wr)) (fun _ i _=>n - (intOf i).toNat)
 case atStart=>exact ⟨0,Nat.zero_le _,rfl,Lib.hid (World.ownsRow_nil _ _ _ _),Lib.hid (Below.refl _ _)⟩
 case round =>
  obtain ⟨k,hk,rfl,HO,HB⟩:=hrel
  by_cases hlt:k < n
  ·have hkl:k < ps.length:=by rw [←HN.out];exact hlt
   obtain ⟨b,o,rfl,hbl⟩:=HR1.out.form (by rw [pts_len];omega)
   obtain ⟨p1,p2,p3⟩:=(HR1.out.below HB.out).pt hkl
   clear p2 p3
   have HT:=Lib.hid (show (ps.take (k+1)).map (fun q=>(q.r:Int))=(ps.take k).map (fun q=>(q.r:Int))++[(ps[k].r:Int)] by rw [List.take_succ_eq_append_getElem hkl,List.map_append];rfl)
   have hlen:((ps.take k).map fun q=>(q.r:Int)).length=k:=by rw [List.length_map,List.length_take];omega
   generalize (ps.take k).map (fun q=>(q.r:Int))=L at HO HT hlen
   have hbw:=HB.out.size
   rw [hlen] at HO
   have HLN:=Lib.hid hlen
   obtain ⟨x,hx⟩:∃x:Int,x=(ps[k].r:Int):=⟨_,rfl⟩
   rw [←hx] at p1 HT
   have hbk:k≤34359738368:=by omega
   clear hkl hx hlen hbl
   go_wp2_with (at_builtin;refine wpList_append_rd _ rfl (.tmp 14) (.tmp 20) _ rfl w1.heap.size 21 i0 _ 1 4 Tryz.underlying143 hi hz0 hz1 hz2 rfl (by decide) u3 k (nums L) rfl (HO.out.alloc _) _ (some ⟨wr.heap.size,0,none⟩) 1 1 [.int .i32 x] rfl rfl (rd_new _ _ [.int .i32 x] _ (by simp)) (nums_one [x]) (by unfold maxLen;omega) (by omega) (by simp;omega) ?_;intro v6 w6 hown6 hgr6 _)
   have HO6:=Lib.hid (show w6.ownsRow w1.heap.size 21 1 v6 ((ps.take (k+1)).map fun q=>(q.r:Int)).length (nums ((ps.take (k+1)).map fun q=>(q.r:Int))) by
    rw [HT.out,List.length_append,HLN.out,nums_append];exact hown6)
   have HB6:=Lib.hid ((HB.out.alloc hbw _).grown hgr6 (by simp;omega) (fun g hg=>(HO.out.lt g hg).1))
   clear hown6 hgr6 HO HT
   go_roundw
   case rel=>exact ⟨k+1,by omega,by go_num,HO6,HB6⟩
   case measure=>simp [intOf];omega
  ·have HXT:=Lib.hid (show ps.take k=ps by rw [List.take_of_length_le (by rw [←HN.out];omega)])
   rw [HXT.out] at HO
   go_wp2
   go_ret
   exact ⟨u3,rfl,own_mono HO.out HW1.out,HB1.out.trans (HB.out.mono HW1.out)⟩
theorem bne_ba {x y:Tx} (h:x≠y):((ba x).toList == (ba y).toList)=false:=by rw [ba_list,ba_list,beq_eq_false_iff_ne];exact h
theorem take_succ_tx {a b:List Tx} {k:Nat} (ha:k < a.length) (hb:k < b.length) (h:a.take k=b.take k) (e:a[k]=b[k]):a.take (k+1)=b.take (k+1):=by
 rw [List.take_succ_eq_append_getElem ha,List.take_succ_eq_append_getElem hb,h,e]
set_option maxHeartbeats 2000000 in
theorem rsameT_any (A B:Option Addr) (a b:List Tx) (n m c d:Nat) (w:World) (ha:Rd w w.heap.size A (txs a)) (hb:Rd w w.heap.size B (txs b)) (hn:a.length=n) (hm:b.length=m) (hn1:n≤1099511627776) (hm1:m≤1099511627776) :
  Calls Tryz.prog 55 #[.slice A n c,.slice B m d] w fun e w'=>e=.returned (.bool (decide (a=b)))∧∃k,w'=w.drewN k:=by
 suffices H:Calls Tryz.prog 55 #[.slice A n c,.slice B m d] w (fun e w'=>Hid (e=.returned (.bool (decide (a=b)))∧∃k,w'=w.drewN k)) from H.mono fun e w' h=>h.out
 obtain ⟨S,hS⟩:∃S,S=decide (a=b):=⟨_,rfl⟩
 rw [←hS]
 have HSD:=Lib.hid hS
 clear hS
 by_cases hnm:n=m
 ·subst hnm
  have HN:=Lib.hid hn;have HM:=Lib.hid hm
  clear hn hm
  go_enter Tryz.func55,Tryz.ntmps55
  go_wp2_with fail
  go_loopw [5] (fun i wr=>∃k j:Nat,k≤n∧i=.int .i64 k∧Hid (a.take k=b.take k)∧Hid (wr=w.drewN j)) (fun i _=>n - (intOf i).toNat)
  case atStart=>exact ⟨0,0,Nat.zero_le _,rfl,Lib.hid rfl,Lib.hid rfl⟩
  case round =>
   obtain ⟨k,j,hk,rfl,HT,HJ⟩:=hrel
   by_cases hlt:k < n
   ·have hka:k < a.length:=by rw [HN.out];exact hlt
    have hkb:k < b.length:=by rw [HM.out];exact hlt
    obtain ⟨b1,o1,rfl,_⟩:=rd_form_tx ha (by omega)
    obtain ⟨b2,o2,rfl,_⟩:=rd_form_tx hb (by omega)
    have hwr:∀p:Addr,wr.cell? p=w.cell? p:=fun p=>by rw [HJ.out];rfl
    have a1:_=some (Value.string (ba a[k])):=rd_tx ha hka
    have b1':_=some (Value.string (ba b[k])):=rd_tx hb hkb
    rw [←hwr] at a1 b1'
    have HTS:=Lib.hid (take_succ_tx hka hkb HT.out)
    have HNE:=Lib.hid (show a[k]≠b[k]→S=false from fun h=>by rw [HSD.out,decide_eq_false_iff_not];rintro rfl;exact h rfl)
    clear hwr HT
    by_cases hxy:a[k]=b[k]
    ·have HR:=Lib.hid (HTS.out hxy)
     rw [hxy] at a1
     generalize ba b[k]=X at a1 b1'
     clear hxy HTS HNE hka hkb
     have he1:(X.toList == X.toList)=true:=by simp
     have he2:(X.toList != X.toList)=false:=by simp
     go_wp2_with fail
     go_quiet (fail)
     go_wp2
     go_roundw
     case rel=>exact ⟨k+1,_,by omega,by go_num,HR,Lib.hid (by rw [HJ.out,World.drewN_drewN])⟩
     case measure=>simp [intOf];omega
    ·have he1:=bne_ba hxy
     have HF:=Lib.hid (HNE.out hxy)
     generalize ba a[k]=X at a1 he1
     generalize ba b[k]=Y at b1' he1
     have he2:(X.toList != Y.toList)=true:=by rw [bne,he1];rfl
     clear hxy HTS HNE hka hkb
     go_wp2_with fail
     go_quiet (fail)
     go_wp2
     go_ret
     exact Lib.hid ⟨by rw [HF.out];rfl,_,by rw [HJ.out,World.drewN_drewN]⟩
   ·have HF:=Lib.hid (show S=true by
     have:=HT.out
     rw [List.take_of_length_le (by have:=HN.out;omega),List.take_of_length_le (by have:=HM.out;omega)] at this
     rw [HSD.out];exact decide_eq_true this)
    go_wp2_with fail
    go_ret
    exact Lib.hid ⟨by rw [HF.out];rfl,_,HJ.out⟩
 ·have hs:S=false:=by rw [HSD.out,decide_eq_false_iff_not];rintro rfl;exact hnm (hn.symm.trans hm)
  have HS:=Lib.hid hs
  have hne:((n:Int) == (m:Int))=false:=by simp;omega
  have hne2:((n:Int) != (m:Int))=true:=by simp;omega
  clear hs hn hm hnm
  go_enter Tryz.func55,Tryz.ntmps55
  go_wp2
  go_ret
  exact Lib.hid ⟨by rw [HS.out];rfl,0,rfl⟩
set_option maxHeartbeats 2000000 in
theorem rssame_any (A1 A2 A3 B1 B2 B3:Option Addr) (n1 c1 n2 c2 n3 c3 m1 d1 m2 d2 m3 d3:Nat) (a b:St) (w:World) (h:Has3 w A1 n1 A2 n2 A3 n3 a) (k:Has3 w B1 m1 B2 m2 B3 m3 b) :
  Calls Tryz.prog 26 #[.agg #[.slice A1 n1 c1,.slice A2 n2 c2,.slice A3 n3 c3],.agg #[.slice B1 m1 d1,.slice B2 m2 d2,.slice B3 m3 d3]] w (Ret w (.bool (decide (a=b)))):=by
 obtain ⟨W0,hW0⟩:∃W0,W0=(w.alloc (.cells #[.slice A1 n1 c1,.slice A2 n2 c2,.slice A3 n3 c3] 74)).alloc (.cells #[.slice B1 m1 d1,.slice B2 m2 d2,.slice B3 m3 d3] 74):=⟨_,rfl⟩
 obtain ⟨g,hg⟩:∃g,g=w.heap.size:=⟨_,rfl⟩
 have hb0:Below w.heap.size w W0:=by rw [hW0];exact ((Below.refl _ _).alloc (Nat.le_refl _) _).alloc (by simp) _
 have k0:BlkS W0 g (.slice A1 n1 c1) (.slice A2 n2 c2) (.slice A3 n3 c3):=by rw [hW0,hg];exact (BlkS.new w _ _ _).alloc _
 have k1:BlkS W0 (g+1) (.slice B1 m1 d1) (.slice B2 m2 d2) (.slice B3 m3 d3):=by
  have:=BlkS.new (w.alloc (.cells #[.slice A1 n1 c1,.slice A2 n2 c2,.slice A3 n3 c3] 74)) (.slice B1 m1 d1) (.slice B2 m2 d2) (.slice B3 m3 d3)
  rw [hW0,hg];simpa using this
 have h0:=h.next hb0
 have h1:=k.next hb0
 have dw:∀q,Below W0.heap.size W0 (W0.drewN q):=fun q=>below_drewN (Below.refl _ _) q
 have HS:=Lib.hid (show ∀q,Calls Tryz.prog 54 #[.slice A1 n1 c1,.slice B1 m1 d1] (W0.drewN q) (fun e w'=>e=.returned (.bool (eqL a.s b.s))∧∃k,w'=(W0.drewN q).drewN k) from fun q=>same_any A1 B1 a.s b.s n1 m1 c1 d1 _ (h0.s.next (dw q)).rd (h1.s.next (dw q)).rd h0.s.len h1.s.len (by have:=h0.s.sm;omega) (by have:=h1.s.sm;omega))
 have HM:=Lib.hid (show ∀q,Calls Tryz.prog 54 #[.slice A2 n2 c2,.slice B2 m2 d2] (W0.drewN q) (fun e w'=>e=.returned (.bool (eqL a.m b.m))∧∃k,w'=(W0.drewN q).drewN k) from fun q=>same_any A2 B2 a.m b.m n2 m2 c2 d2 _ (h0.m.next (dw q)).rd (h1.m.next (dw q)).rd h0.m.len h1.m.len (by have:=h0.m.sm;omega) (by have:=h1.m.sm;omega))
 have HO:=Lib.hid (show ∀q,Calls Tryz.prog 55 #[.slice A3 n3 c3,.slice B3 m3 d3] (W0.drewN q) (fun e w'=>e=.returned (.bool (decide (a.o=b.o)))∧∃k,w'=(W0.drewN q).drewN k) from fun q=>rsameT_any A3 B3 a.o b.o n3 m3 c3 d3 _ (h0.o.next (dw q)).rd (h1.o.next (dw q)).rd h0.o.len h1.o.len (by have:=h0.o.sm;omega) (by have:=h1.o.sm;omega))
 have HE:=Lib.hid (st_eq a b)
 have HK0:=Lib.hid k0;have HK1:=Lib.hid k1
 have HW:=Lib.hid hW0;have HG:=Lib.hid hg;have HB0:=Lib.hid hb0
 have HDQ:=Lib.hid (show ∀q,Below w.heap.size w (W0.drewN q) from fun q=>below_drewN hb0 q)
 clear h k hW0 hg hb0 k0 k1 h0 h1 dw
 rw [HE.out]
 generalize eqL a.s b.s=p1 at HS ⊢
 generalize eqL a.m b.m=p2 at HM ⊢
 generalize decide (a.o=b.o)=p3 at HO ⊢
 have x0:=HK0.out.c0;have y0:=HK1.out.c0
 go_enter Tryz.func26,Tryz.ntmps26
 go_wp2_with fail
 rw [←HW.out,←HG.out]
 go_wp2_with fail
 refine (HS.out 0).mono ?_
 rintro e w1 ⟨rfl,q1,rfl⟩
 rw [World.drewN_drewN,Nat.zero_add]
 have x1:(W0.drewN q1).cell? ⟨g,1,none⟩=some (.slice A2 n2 c2):=HK0.out.c1
 have y1:(W0.drewN q1).cell? ⟨g+1,1,none⟩=some (.slice B2 m2 d2):=HK1.out.c1
 clear x0 y0
 cases p1 with
 | false =>
  go_wp2_with fail
  go_ret
  exact ⟨rfl,HDQ.out _⟩
 | true =>
  go_wp2_with fail
  refine (HM.out _).mono ?_
  rintro e w2 ⟨rfl,q2,rfl⟩
  rw [World.drewN_drewN]
  clear x1 y1
  have x2:(W0.drewN (q1+q2)).cell? ⟨g,2,none⟩=some (.slice A3 n3 c3):=HK0.out.c2
  have y2:(W0.drewN (q1+q2)).cell? ⟨g+1,2,none⟩=some (.slice B3 m3 d3):=HK1.out.c2
  cases p2 with
  | false =>
   go_wp2_with fail
   go_ret
   exact ⟨rfl,HDQ.out _⟩
  | true =>
   go_wp2_with fail
   refine (HO.out _).mono ?_
   rintro e w3 ⟨rfl,q3,rfl⟩
   rw [World.drewN_drewN]
   clear x2 y2
   go_wp2_with fail
   go_ret
   exact ⟨rfl,HDQ.out _⟩
theorem rns_len (x:Tx):(rns x).length≤x.length:=by unfold rns pnts;rw [List.length_map];exact Utf.dec_len_le false x 0
set_option maxHeartbeats 4000000 in
theorem good_any (X:ByteArray) (x:Tx) (hX:X.toList=x) (hl:x.length≤1073741824) (w:World) :
  Calls Tryz.prog 79 #[.string X] w (Ret w (.bool (good x))):=by
 obtain ⟨n,hn⟩:∃n,x.length=n:=⟨_,rfl⟩
 obtain ⟨g,C,W1,hcv,hr1,hb1,hC1,hC2⟩:=conv_str w X x hX n hn (by omega)
 have HR:=Lib.hid (rrunes_any (some ⟨g,0,none⟩) x n C W1 hr1 hn (by omega))
 have HB1:=Lib.hid hb1
 have hrl:=rns_len x
 have HG:=Lib.hid (show good x=decide (enc (rns x)=x) from rfl)
 have HX:=Lib.hid hX
 rw [hn] at hrl
 have hn2:n≤1073741824:=by omega
 rw [HG.out]
 clear hr1 hb1 hC1 hC2 hX hl hn
 generalize rns x=L at *
 go_enter Tryz.func79,Tryz.ntmps79
 go_wp2_with fail
 refine HR.out.mono ?_
 rintro e w2 ⟨v2,rfl,o2,b2⟩
 obtain ⟨A2,c2,rfl,_,_,r2⟩:=own_form o2
 have HB2:=Lib.hid (HB1.out.trans (b2.mono HB1.out.size))
 have HE:=Lib.hid (Utf.rencode_any A2 L L.length c2 w2 r2 rfl (by omega))
 obtain ⟨ln,hln⟩:∃ln,ln=L.length:=⟨_,rfl⟩
 rw [←hln] at HE ⊢
 clear o2 b2 r2 hln HR
 go_wp2_with fail
 refine HE.out.mono ?_
 rintro e w3 ⟨v3,rfl,o3,b3⟩
 obtain ⟨A3,c3,rfl,_,_,r3⟩:=own_form o3
 have hcv:=conv_rd (c:=c3) r3 rfl
 have HB3:=Lib.hid (HB2.out.trans (b3.mono HB2.out.size))
 obtain ⟨Y,hY⟩:∃Y:ByteArray,Y=⟨(enc L).toArray⟩:=⟨_,rfl⟩
 rw [←hY] at hcv
 have HY:=Lib.hid (show Y.toList=enc L by rw [hY,mk_toList])
 obtain ⟨le,hle⟩:∃le,le=(enc L).length:=⟨_,rfl⟩
 rw [←hle] at hcv ⊢
 clear o3 b3 r3 hY HE hle
 go_wp2_with fail
 go_ret
 refine ⟨ret_bool ?_,HB3.out⟩
 rw [HY.out,HX.out,Bool.eq_iff_iff]
 simp
end Go.Proofs.YtegdbmbenjnacaaGreat.Sset
namespace Go.Proofs.YtegdbmbenjnacaaGreat.Sset
open Go.RowKit
open Utf (Rd Blk bys bys_len pts pts_len nums nums_len nums_append nums_one dec enc wpList_append_rd own_ne Pts)
open Rset
set_option maxRecDepth 100000
theorem rns_nil:rns []=[]:=rfl
theorem rns_key (a:St) (x:Tx):((rns x).length=0→hasS a x=false)∧((rns x).length=1→hasS a x=has a.s ((rns x).getD 0 0))∧(2≤(rns x).length→hasS a x=(has a.m ((rns x).getD 0 0) != isIn a.o x)):=by
 by_cases hne:x=[]
 ·subst hne
  refine ⟨fun _=>by unfold hasS;rw [if_pos rfl],fun h=>by simp [rns_nil] at h,fun h=>by simp [rns_nil] at h⟩
 ·have hl:(rns x).length=(pnts x).length:=by unfold rns;rw [List.length_map]
  have hf:(rns x).getD 0 0=fst x:=by unfold rns;rw [pnts_cons hne];rfl
  have h2:=two_len x hne
  rw [hl,hf,has_key a x hne,←h2]
  refine ⟨fun h=>?_,fun h=>?_,fun h=>?_⟩
  ·rw [pnts_cons hne] at h;simp at h
  ·rw [decide_eq_false (by omega)];rfl
  ·rw [decide_eq_true h];rfl
theorem isIn_take {l:List Tx} {k:Nat} (hk:k < l.length) (x:Tx):isIn (l.take (k+1)) x=(isIn (l.take k) x || decide (x=l[k])):=by
 rw [List.take_succ_eq_append_getElem hk,isIn_append,isIn_one]
set_option maxHeartbeats 8000000 in
theorem rshas_any (A1 A2 A3:Option Addr) (n1 c1 n2 c2 n3 c3:Nat) (a:St) (X:ByteArray) (x:Tx) (hX:X.toList=x) (hl:x.length≤1073741824) (w:World) (h:Has3 w A1 n1 A2 n2 A3 n3 a) :
  Calls Tryz.prog 59 #[.agg #[.slice A1 n1 c1,.slice A2 n2 c2,.slice A3 n3 c3],.string X] w (Ret w (.bool (hasS a x))):=by
 obtain ⟨g,hg⟩:∃g,g=w.heap.size:=⟨_,rfl⟩
 obtain ⟨W0,hW0⟩:∃W0,W0=w.alloc (.cells #[.slice A1 n1 c1,.slice A2 n2 c2,.slice A3 n3 c3] 74):=⟨_,rfl⟩
 have k0:BlkS W0 g (.slice A1 n1 c1) (.slice A2 n2 c2) (.slice A3 n3 c3):=by rw [hW0,hg];exact BlkS.new w _ _ _
 have hb0:Below w.heap.size w W0:=by rw [hW0];exact (Below.refl _ _).alloc (Nat.le_refl _) _
 have H:=Lib.hid (h.next hb0)
 have HK:=Lib.hid k0;have HW:=Lib.hid hW0;have HG:=Lib.hid hg;have HB0:=Lib.hid hb0
 obtain ⟨n,hn⟩:∃n,x.length=n:=⟨_,rfl⟩
 obtain ⟨gx,C,W1,hcv,hr1,hb1,hC1,hC2⟩:=conv_str W0 X x hX n hn (by omega)
 have HR:=Lib.hid (rrunes_any (some ⟨gx,0,none⟩) x n C W1 hr1 hn (by omega))
 have HB1:=Lib.hid hb1
 have hrl:=rns_len x
 have HKY:=Lib.hid (rns_key a x)
 have HX:=Lib.hid hX
 rw [hn] at hrl
 have hn2:n≤1073741824:=by omega
 clear h hg hW0 hb0 k0 hr1 hb1 hC1 hC2 hX hl hn
 generalize hasS a x=res at HKY ⊢
 generalize rns x=L at *
 go_enter Tryz.func59,Tryz.ntmps59
 go_wp2_with fail
 rw [←HW.out,←HG.out]
 rw [hcv]
 go_wp2_with fail
 refine HR.out.mono ?_
 rintro e w2 ⟨v2,rfl,o2,b2⟩
 obtain ⟨A4,c4,rfl,_,_,r2⟩:=own_form o2
 have HB2:=Lib.hid (HB1.out.trans (b2.mono HB1.out.size))
 have HKB:=Lib.hid (HK.out.next HB2.out)
 have H2:=Lib.hid (H.out.next HB2.out)
 clear hcv HR o2 b2
 by_cases h0:L.length=0
 ·have HE:=Lib.hid (HKY.out.1 h0)
  rw [h0]
  clear r2 h0
  go_wp2_with fail
  go_ret
  exact ⟨ret_bool HE.out.symm,HB0.out.trans (HB2.out.mono HB0.out.size)⟩
 ·obtain ⟨b,o,rfl,hbl⟩:=r2.form (by rw [nums_len];omega)
  have p0:=r2.num (k:=0) (by omega)
  rw [Nat.add_zero] at p0
  have HD:=Lib.hid (show L.getD 0 0=L[0]'(by omega) from by simp [List.getD,List.getElem?_eq_getElem (show 0 < L.length by omega)])
  rw [HD.out] at HKY
  generalize L[0]=r at *
  obtain ⟨q,hq⟩:∃q,q=L.length:=⟨_,rfl⟩
  rw [←hq] at HKY hrl h0 ⊢
  have hq0:((q:Int) == 0)=false:=by rw [beq_eq_false_iff_ne];omega
  clear r2 hq HD
  by_cases h1:q=1
  ·subst h1
   have HE:=Lib.hid (HKY.out.2.1 rfl)
   have e0:=HKB.out.c0
   have HRH:=Lib.hid (show ∀u,Below w2.heap.size w2 u→Calls Tryz.prog 82 #[.slice A1 n1 c1,.int .i32 r] u (fun e w'=>e=.returned (.bool (has a.s r))∧u=w') from fun u hu=>rhas_any A1 a.s n1 c1 r u (H2.out.s.next hu).rd H2.out.s.len (by have:=H2.out.s.sm;omega))
   go_wp2_with fail
   refine wp_region_held_drew (S:=fun u=>u.cell? ⟨g,0,none⟩=some (.slice A1 n1 c1)∧u.cell? ⟨b,o,none⟩=some (.int .i32 r)) (by kernel_rfl) ⟨e0,p0⟩ (fun hHeld=>?_)
   refine wpAnyH_take (i:=0) (oi:=_) (v:=?_) rfl (by kernel_rfl) (by kernel_rfl) (by kernel_rfl) (fun _ _ _ h=>h) (Or.inl ⟨by rfl,?_⟩) (by assumption) ?_
   rotate_left
   ·(intro w hSw;(try dsimp only at hSw);(try obtain ⟨s1_,s2_⟩:=hSw);go_simp <;> with_reducible rfl)
   simp only [List.getElem_toArray,List.getElem_cons_zero,Act.put,List.setIfInBounds_toArray,List.set_cons_zero,List.set_cons_succ]
   refine wpAnyH_take (i:=1) (oi:=_) (v:=?_) rfl (by kernel_rfl) (by kernel_rfl) (by kernel_rfl) (fun _ _ _ h=>h) (Or.inl ⟨by rfl,?_⟩) (by assumption) ?_
   rotate_left
   ·(intro w hSw;(try dsimp only at hSw);(try obtain ⟨s1_,s2_⟩:=hSw);go_simp <;> with_reducible rfl)
   simp only [List.getElem_toArray,List.getElem_cons_succ,List.getElem_cons_zero,Act.put,List.setIfInBounds_toArray,List.set_cons_zero,List.set_cons_succ]
   refine wpAnyH_take (i:=2) (oi:=_) (v:=?_) rfl (by kernel_rfl) (by kernel_rfl) (by kernel_rfl) (fun _ _ _ h=>h) (Or.inl ⟨by rfl,?_⟩) (by assumption) ?_
   rotate_left
   ·(intro w hSw;(try dsimp only at hSw);(try obtain ⟨s1_,s2_⟩:=hSw);go_simp <;> with_reducible rfl)
   simp only [List.getElem_toArray,List.getElem_cons_succ,List.getElem_cons_zero,Act.put,List.setIfInBounds_toArray,List.set_cons_zero,List.set_cons_succ]
   refine wpAnyH_take (i:=3) (oi:=_) (v:=?_) rfl (by kernel_rfl) (by kernel_rfl) (by kernel_rfl) (fun _ _ _ h=>h) (Or.inl ⟨by rfl,?_⟩) (by assumption) ?_
   rotate_left
   ·(intro w hSw;(try dsimp only at hSw);(try obtain ⟨s1_,s2_⟩:=hSw);go_simp <;> with_reducible rfl)
   simp only [List.getElem_toArray,List.getElem_cons_succ,List.getElem_cons_zero,Act.put,List.setIfInBounds_toArray,List.set_cons_zero,List.set_cons_succ]
   refine wpAnyH_take (i:=4) (oi:=_) (v:=?_) rfl (by kernel_rfl) (by kernel_rfl) (by kernel_rfl) (fun _ _ _ h=>h) (Or.inl ⟨by rfl,?_⟩) (by assumption) ?_
   rotate_left
   ·(intro w hSw;(try dsimp only at hSw);(try obtain ⟨s1_,s2_⟩:=hSw);go_simp <;> with_reducible rfl)
   simp only [List.getElem_toArray,List.getElem_cons_succ,List.getElem_cons_zero,Act.put,List.setIfInBounds_toArray,List.set_cons_zero,List.set_cons_succ]
   refine wpAnyH_ready (rs:=[5]) (by kernel_rfl) (by simp) (AllReadyH.cons rfl (fun K hK=>?_) AllReadyH.nil)
   go_simp
   go_at_call 82
   refine (HRH.out _ (Below.refl _ _).drew).mono ?_
   rintro e w3 ⟨rfl,rfl⟩
   refine hK.out _ _ ⟨e0,p0⟩ (fun hHeld2=>?_)
   clear hK K hHeld
   have hHeld:=hHeld2
   clear hHeld2
   refine wpAnyH_take (i:=6) (oi:=_) (v:=?_) rfl (by kernel_rfl) (by kernel_rfl) (by kernel_rfl) (fun _ _ _ h=>h) (Or.inl ⟨by rfl,?_⟩) (by assumption) ?_
   rotate_left
   ·(intro w hSw;(try dsimp only at hSw);(try obtain ⟨s1_,s2_⟩:=hSw);go_simp <;> with_reducible rfl)
   simp only [List.getElem_toArray,List.getElem_cons_succ,List.getElem_cons_zero,Act.put,List.setIfInBounds_toArray,List.set_cons_zero,List.set_cons_succ]
   refine wpAnyH_done (by kernel_rfl) ?_ _
   go_wp2_with fail
   go_ret
   exact ⟨ret_bool HE.out.symm,HB0.out.trans (HB2.out.drew.mono HB0.out.size)⟩
  ·have HE:=Lib.hid (HKY.out.2.2 (by omega))
   have hq1:((q:Int) == 1)=false:=by rw [beq_eq_false_iff_ne];omega
   have hq2:0 < q:=by omega
   have hq3:(0:Int) < (q:Int):=by omega
   clear h0 h1
   have e1:=HKB.out.c1
   have HRH:=Lib.hid (show ∀u,Below w2.heap.size w2 u→Calls Tryz.prog 82 #[.slice A2 n2 c2,.int .i32 r] u (fun e w'=>e=.returned (.bool (has a.m r))∧u=w') from fun u hu=>rhas_any A2 a.m n2 c2 r u (H2.out.m.next hu).rd H2.out.m.len (by have:=H2.out.m.sm;omega))
   go_wp2_with fail
   refine wp_region_held_drew (S:=fun u=>u.cell? ⟨g,1,none⟩=some (.slice A2 n2 c2)∧u.cell? ⟨b,o,none⟩=some (.int .i32 r)) (by kernel_rfl) ⟨e1,p0⟩ (fun hHeld=>?_)
   refine wpAnyH_take (i:=0) (oi:=_) (v:=?_) rfl (by kernel_rfl) (by kernel_rfl) (by kernel_rfl) (fun _ _ _ h=>h) (Or.inl ⟨by rfl,?_⟩) (by assumption) ?_
   rotate_left
   ·(intro w hSw;(try dsimp only at hSw);(try obtain ⟨s1_,s2_⟩:=hSw);go_simp <;> with_reducible rfl)
   simp only [List.getElem_toArray,List.getElem_cons_zero,Act.put,List.setIfInBounds_toArray,List.set_cons_zero,List.set_cons_succ]
   refine wpAnyH_take (i:=1) (oi:=_) (v:=?_) rfl (by kernel_rfl) (by kernel_rfl) (by kernel_rfl) (fun _ _ _ h=>h) (Or.inl ⟨by rfl,?_⟩) (by assumption) ?_
   rotate_left
   ·(intro w hSw;(try dsimp only at hSw);(try obtain ⟨s1_,s2_⟩:=hSw);go_simp <;> with_reducible rfl)
   simp only [List.getElem_toArray,List.getElem_cons_succ,List.getElem_cons_zero,Act.put,List.setIfInBounds_toArray,List.set_cons_zero,List.set_cons_succ]
   refine wpAnyH_take (i:=2) (oi:=_) (v:=?_) rfl (by kernel_rfl) (by kernel_rfl) (by kernel_rfl) (fun _ _ _ h=>h) (Or.inl ⟨by rfl,?_⟩) (by assumption) ?_
   rotate_left
   ·(intro w hSw;(try dsimp only at hSw);(try obtain ⟨s1_,s2_⟩:=hSw);go_simp <;> with_reducible rfl)
   simp only [List.getElem_toArray,List.getElem_cons_succ,List.getElem_cons_zero,Act.put,List.setIfInBounds_toArray,List.set_cons_zero,List.set_cons_succ]
   refine wpAnyH_take (i:=3) (oi:=_) (v:=?_) rfl (by kernel_rfl) (by kernel_rfl) (by kernel_rfl) (fun _ _ _ h=>h) (Or.inl ⟨by rfl,?_⟩) (by assumption) ?_
   rotate_left
   ·(intro w hSw;(try dsimp only at hSw);(try obtain ⟨s1_,s2_⟩:=hSw);go_simp <;> with_reducible rfl)
   simp only [List.getElem_toArray,List.getElem_cons_succ,List.getElem_cons_zero,Act.put,List.setIfInBounds_toArray,List.set_cons_zero,List.set_cons_succ]
   refine wpAnyH_take (i:=4) (oi:=_) (v:=?_) rfl (by kernel_rfl) (by kernel_rfl) (by kernel_rfl) (fun _ _ _ h=>h) (Or.inl ⟨by rfl,?_⟩) (by assumption) ?_
   rotate_left
   ·(intro w hSw;(try dsimp only at hSw);(try obtain ⟨s1_,s2_⟩:=hSw);go_simp <;> with_reducible rfl)
   simp only [List.getElem_toArray,List.getElem_cons_succ,List.getElem_cons_zero,Act.put,List.setIfInBounds_toArray,List.set_cons_zero,List.set_cons_succ]
   refine wpAnyH_ready (rs:=[5]) (by kernel_rfl) (by simp) (AllReadyH.cons rfl (fun K hK=>?_) AllReadyH.nil)
   go_simp
   go_at_call 82
   refine (HRH.out _ (Below.refl _ _).drew).mono ?_
   rintro e w3 ⟨rfl,rfl⟩
   refine hK.out _ _ ⟨e1,p0⟩ (fun hHeld2=>?_)
   clear hK K hHeld
   have hHeld:=hHeld2
   clear hHeld2
   refine wpAnyH_take (i:=6) (oi:=_) (v:=?_) rfl (by kernel_rfl) (by kernel_rfl) (by kernel_rfl) (fun _ _ _ h=>h) (Or.inl ⟨by rfl,?_⟩) (by assumption) ?_
   rotate_left
   ·(intro w hSw;(try dsimp only at hSw);(try obtain ⟨s1_,s2_⟩:=hSw);go_simp <;> with_reducible rfl)
   simp only [List.getElem_toArray,List.getElem_cons_succ,List.getElem_cons_zero,Act.put,List.setIfInBounds_toArray,List.set_cons_zero,List.set_cons_succ]
   refine wpAnyH_done (by kernel_rfl) ?_ _
   go_wp2_with fail
   obtain ⟨W3,hW3⟩:∃W3,W3=w2.drew:=⟨_,rfl⟩
   have hb3:Below w2.heap.size w2 W3:=by rw [hW3];exact (Below.refl _ _).drew
   have k3:=HKB.out.next hb3
   have e2:=k3.c2
   have HO:=Lib.hid (H2.out.o.next hb3)
   have HBF:=Lib.hid (HB0.out.trans ((HB2.out.trans (hb3.mono HB2.out.size)).mono HB0.out.size))
   have hn3:=H2.out.o.sm
   rw [←hW3]
   generalize has a.m r=p at HE ⊢
   clear HRH hW3 hb3 k3 e1
   go_loopw [7] (fun i wr=>∃k:Nat,k≤n3∧i=.int .i64 k∧Hid (isIn (a.o.take k) x=false)∧wr=W3) (fun i _=>n3 - (intOf i).toNat)
   case atStart=>exact ⟨0,Nat.zero_le _,rfl,Lib.hid rfl,rfl⟩
   case round =>
    obtain ⟨k,hk,rfl,HT,rfl⟩:=hrel
    by_cases hlt:k < n3
    ·have hkl:k < a.o.length:=by rw [HO.out.len];exact hlt
     obtain ⟨b',o',rfl,_⟩:=rd_form_tx HO.out.rd (by omega)
     have f0:_=some (Value.string (ba a.o[k])):=rd_tx HO.out.rd hkl
     have HTK:=Lib.hid (isIn_take hkl x)
     have HIN:=Lib.hid (show a.o[k]=x→isIn a.o x=true from fun h=>isIn_iff.2 (h ▸ List.getElem_mem hkl))
     by_cases hxy:a.o[k]=x
     ·have HF:=Lib.hid (HIN.out hxy)
      rw [hxy] at f0
      have e3:ba x=X:=(toList_mk HX.out).symm
      rw [e3] at f0
      have he1:(X.toList == X.toList)=true:=by simp
      clear hxy HTK HIN hkl e3
      go_wp2_with fail
      go_ret
      exact ⟨ret_bool (by rw [HE.out,HF.out];cases p <;> rfl),HBF.out⟩
     ·have HF:=Lib.hid (show isIn (a.o.take (k+1)) x=false by rw [HTK.out,HT.out,decide_eq_false (fun h=>hxy h.symm)];rfl)
      have he1:((ba a.o[k]).toList == X.toList)=false:=by rw [ba_list,HX.out,beq_eq_false_iff_ne];exact hxy
      generalize ba a.o[k]=Y at f0 he1
      clear hxy HTK HIN hkl
      go_wp2_with fail
      go_roundw
      case rel=>exact ⟨k+1,by omega,by go_num,HF,by trivial⟩
      case measure=>simp [intOf];omega
    ·have HF:=Lib.hid (show isIn a.o x=false by
      have:=HT.out
      rwa [List.take_of_length_le (by have:=HO.out.len;omega)] at this)
     go_wp2_with fail
     go_ret
     exact ⟨ret_bool (by rw [HE.out,HF.out];cases p <;> rfl),HBF.out⟩
end Go.Proofs.YtegdbmbenjnacaaGreat.Sset
namespace Go.Proofs.YtegdbmbenjnacaaGreat.Sset
open Go.RowKit
open Utf (Rd Blk)
open Rset
set_option maxRecDepth 100000
section
variable {w:World} {A1 A2 A3 B1 B2 B3:Option Addr} {n1 n2 n3 m1 m2 m3:Nat} {a b:St}
theorem r_rsame (c1 c2 c3 d1 d2 d3:Nat) (h:Has3 w A1 n1 A2 n2 A3 n3 a) (k:Has3 w B1 m1 B2 m2 B3 m3 b) {q:Bool} (e:decide (a=b)=q):Calls Tryz.prog 26 #[.agg #[.slice A1 n1 c1,.slice A2 n2 c2,.slice A3 n3 c3],.agg #[.slice B1 m1 d1,.slice B2 m2 d2,.slice B3 m3 d3]] w (Ret w (.bool q)) :=
 e ▸ rssame_any A1 A2 A3 B1 B2 B3 n1 c1 n2 c2 n3 c3 m1 d1 m2 d2 m3 d3 a b w h k
theorem r_may (c1 c2 c3:Nat) (h:Has3 w A1 n1 A2 n2 A3 n3 a) {q:Bool} (e:decide (normS a=a)=q):Calls Tryz.prog 88 #[.agg #[.slice A1 n1 c1,.slice A2 n2 c2,.slice A3 n3 c3]] w (Ret w (.bool q)):=e ▸ smay_any A1 A2 A3 n1 c1 n2 c2 n3 c3 a w h
end
def eT:Tx:=[101,204,129]
def xT:Tx:=[101,204,130]
def eS:St:=⟨[],[],[eT]⟩
def az:List Rg:=[(97,122)]
theorem good_e:good eT=true:=by decide +kernel
theorem good_x:good xT=true:=by decide +kernel
theorem first_has (l:List Rg) (t:Tx):hasS (firstS l) t=hasS ⟨l,l,[]⟩ t:=by
 unfold hasS memS firstS
 simp only [norm_has]
theorem ones_has (l:List Rg) (t:Tx):hasS (onesS l) t=hasS ⟨l,[],[]⟩ t:=by
 unfold hasS memS onesS
 simp only [norm_has]
theorem m1:hasS (firstS az) [101,120]=true:=by rw [first_has];decide +kernel
theorem m2:hasS (firstS az) [69]=false:=by rw [first_has];decide +kernel
theorem m3:hasS (not2 eS) xT=true:=by rw [not2_mem _ good_x];decide +kernel
theorem m4:hasS (not2 eS) eT=false:=by rw [not2_mem _ good_e];decide +kernel
end Go.Proofs.YtegdbmbenjnacaaGreat.Sset
namespace Go.Proofs.YtegdbmbenjnacaaGreat.Syn
open Go.RowKit
open Utf (Rd Blk)
open Rset (Ret Rg own_form ret_bool)
open Sset (St Tx normS none_ Has3 ArgT ArgR r_rsame has3_none mk_toList)
set_option maxRecDepth 100000
set_option maxHeartbeats 8000000 in
theorem rsign_any (X:ByteArray) (x:Tx) (hX:X.toList=x) (w:World):Calls Tryz.prog 122 #[.string X] w fun e w'=>e=.returned (.bool (sgn x))∧w'=w:=by
 by_cases h:x∈signs
 ·have hs:sgn x=true:=decide_eq_true h
  rw [hs]
  unfold signs at h
  simp only [List.mem_cons,List.not_mem_nil,or_false] at h
  rcases h with rfl | rfl | rfl | rfl | rfl | rfl | rfl | rfl | rfl | rfl | rfl | rfl | rfl | rfl <;>
   (go_enter Tryz.func122,Tryz.ntmps122;go_wp2_with fail;go_ret;exact ⟨rfl,rfl⟩)
 ·have hs:sgn x=false:=decide_eq_false h
  rw [hs]
  unfold signs at h
  simp only [List.mem_cons,List.not_mem_nil,or_false,not_or] at h
  obtain ⟨h1,h2,h3,h4,h5,h6,h7,h8,h9,h10,h11,h12,h13,h14⟩:=h
  rw [←ne_eq,←beq_eq_false_iff_ne] at h1 h2 h3 h4 h5 h6 h7 h8 h9 h10 h11 h12 h13 h14
  go_enter Tryz.func122,Tryz.ntmps122
  go_wp2_with fail
  go_ret
  exact ⟨rfl,rfl⟩
structure NV where
 k:Int
 A1:Option Addr
 n1:Nat
 c1:Nat
 A2:Option Addr
 n2:Nat
 c2:Nat
 A3:Option Addr
 n3:Nat
 c3:Nat
 mn:Int
 mx:Int
def NV.row (v:NV):List Value:=[.int .i64 v.k,.slice v.A1 v.n1 v.c1,.slice v.A2 v.n2 v.c2,.slice v.A3 v.n3 v.c3,.int .i64 v.mn,.int .i64 v.mx]
def nvs (V:List NV):List Value:=V.flatMap NV.row
theorem nvs_len:∀V:List NV,(nvs V).length=V.length*6
 | []=>rfl
 | v :: V=>by
  show (v.row++nvs V).length=_
  rw [List.length_append,nvs_len V,List.length_cons];show 6+_=_;omega
theorem nvs_get:∀(V:List NV) {k:Nat} (h:k < V.length) (j:Nat) (_:j < 6),(nvs V)[k*6+j]? = V[k].row[j]?
 | v :: V,0,_,j,hj=>by
  show (v.row++nvs V)[0*6+j]? = v.row[j]?
  rw [Nat.zero_mul,Nat.zero_add,List.getElem?_append_left (by show j < 6;exact hj)]
 | v :: V,k+1,h,j,hj=>by
  show (v.row++nvs V)[(k+1)*6+j]? = (V[k]'(by simpa using h)).row[j]?
  rw [List.getElem?_append_right (by show 6≤_;omega)]
  show (nvs V)[(k+1)*6+j - 6]? = _
  rw [show (k+1)*6+j - 6=k*6+j by omega]
  exact nvs_get V (by simpa using h) j hj
structure Means (w:World) (v:NV) (n:Nd):Prop where
 k:v.k=n.kind
 mn:v.mn=n.mn
 mx:v.mx=n.mx
 set:Has3 w v.A1 v.n1 v.A2 v.n2 v.A3 v.n3 n.set
theorem Means.next {w w':World} {v:NV} {n:Nd} (h:Means w v n) (hb:Below w.heap.size w w'):Means w' v n:=⟨h.k,h.mn,h.mx,h.set.next hb⟩
structure ArgN (w:World) (A:Option Addr) (n:Nat) (V:List NV) (l:List Nd):Prop where
 rd:Rd w w.heap.size A (nvs V)
 len:V.length=n
 len2:l.length=n
 means:∀(i:Nat) (h:i < V.length) (h2:i < l.length),Means w V[i] l[i]
 sm:n≤1099511627776
theorem ArgN.next {w w':World} {A:Option Addr} {n:Nat} {V:List NV} {l:List Nd} (h:ArgN w A n V l) (hb:Below w.heap.size w w'):ArgN w' A n V l :=
 ⟨(h.rd.below hb).more hb.size,h.len,h.len2,fun i h1 h2=>(h.means i h1 h2).next hb,h.sm⟩
theorem rd_nv {w:World} {B b o:Nat} {V:List NV} (h:Rd w B (some ⟨b,o,none⟩) (nvs V)) {k:Nat} (hk:k < V.length) :
  w.cell? ⟨b,o+k*6,none⟩=some (.int .i64 V[k].k)∧w.cell? ⟨b,o+k*6+1,none⟩=some (.slice V[k].A1 V[k].n1 V[k].c1)∧w.cell? ⟨b,o+k*6+2,none⟩=some (.slice V[k].A2 V[k].n2 V[k].c2) ∧
  w.cell? ⟨b,o+k*6+3,none⟩=some (.slice V[k].A3 V[k].n3 V[k].c3)∧w.cell? ⟨b,o+k*6+4,none⟩=some (.int .i64 V[k].mn)∧w.cell? ⟨b,o+k*6+5,none⟩=some (.int .i64 V[k].mx):=by
 obtain ⟨b',o',e,_,hc⟩:=h (by intro e;have:=congrArg List.length e;rw [nvs_len] at this;simp at this;omega)
 simp only [Option.some.injEq,Addr.mk.injEq,and_true] at e
 obtain ⟨rfl,rfl⟩:=e
 have g:=fun j hj v hv=>hc (k*6+j) v (by rw [nvs_get V hk j hj];exact hv)
 refine ⟨by have:=g 0 (by omega) _ rfl;rwa [Nat.add_zero] at this,?_,?_,?_,?_,?_⟩
 ·have:=g 1 (by omega) _ rfl;rwa [←Nat.add_assoc] at this
 ·have:=g 2 (by omega) _ rfl;rwa [←Nat.add_assoc] at this
 ·have:=g 3 (by omega) _ rfl;rwa [←Nat.add_assoc] at this
 ·have:=g 4 (by omega) _ rfl;rwa [←Nat.add_assoc] at this
 ·have:=g 5 (by omega) _ rfl;rwa [←Nat.add_assoc] at this
theorem nv_form {w:World} {B:Nat} {A:Option Addr} {V:List NV} (h:Rd w B A (nvs V)) (hn:0 < V.length):∃b o,A=some ⟨b,o,none⟩∧b < B:=h.form (by rw [nvs_len];omega)
end Go.Proofs.YtegdbmbenjnacaaGreat.Syn
namespace Go.Proofs.YtegdbmbenjnacaaGreat.Sset
open Go.RowKit
open Utf (Rd Blk bys bys_len nums nums_len wpList_append_rd own_ne)
open Rset
set_option maxRecDepth 100000
theorem own_lenT {w:World} {B n:Nat} {v:Value} {l:List Tx} (h:w.ownsRow B 9 1 v n (txs l)):l.length=n:=by have:=h.1;rwa [txs_len,Nat.mul_one] at this
theorem okT_q (x:Tx) (hg:good x=true):okT x=decide (1 < (rns x).length):=by
 unfold okT rns;rw [hg,List.length_map,Bool.true_and];rfl
theorem okT_bad (x:Tx) (hg:good x=false):okT x=false:=by unfold okT;rw [hg];rfl
set_option maxHeartbeats 8000000 in
theorem rodd_any (A:Option Addr) (l:List Tx) (n c:Nat) (w:World) (h:ArgT w A n l) :
  Calls Tryz.prog 57 #[.slice A n c] w (OwnT w.heap.size w (odds l)):=by
 have H:=Lib.hid h
 have hn:=h.sm
 clear h
 go_enter Tryz.func57,Tryz.ntmps57
 go_wp2_with fail
 go_loopw [3,4] (fun r i wr=>∃(k m:Nat),k≤n∧i=.int .i64 k∧m≤k∧Hid (wr.ownsRow w.heap.size 9 1 r m (txs (odds (l.take k))))∧Hid (Below w.heap.size w wr)) (fun _ i _=>n - (intOf i).toNat)
 case atStart=>exact ⟨0,0,Nat.zero_le _,rfl,Nat.le_refl _,Lib.hid (by rw [List.take_zero,odds_nil];exact World.ownsRow_nil _ _ _ _),Lib.hid (Below.refl _ _)⟩
 case round =>
  obtain ⟨k,m,hk,rfl,hmk,HR,HB⟩:=hrel
  by_cases hlt:k < n
  ·have hkl:k < l.length:=by rw [H.out.len];exact hlt
   have hT2:=H.out.next HB.out
   obtain ⟨bt,ot,rfl,_⟩:=rd_form_tx hT2.rd (by omega)
   have c0:=rd_tx hT2.rd hkl
   have hxl:=H.out.short _ (List.getElem_mem hkl)
   have HS:=Lib.hid (odds_take hkl)
   obtain ⟨x,hx⟩:∃x,x=l[k]:=⟨_,rfl⟩
   rw [←hx] at c0 hxl HS
   obtain ⟨X,hX⟩:∃X:ByteArray,X=⟨x.toArray⟩:=⟨_,rfl⟩
   have HC:=Lib.hid (show ∀u,Below wr.heap.size wr u→u.cell? ⟨bt,ot+k,none⟩=some (.string X) from fun u hu=>by
    have:=rd_tx (hT2.next hu).rd hkl
    rw [this,←hx,hX])
   have cX:=HC.out wr (Below.refl _ _)
   have HX:=Lib.hid (show X.toList=x by rw [hX,mk_toList])
   have HXL:=Lib.hid hxl
   clear c0 hX hx hkl hT2 hxl
   go_wp2_with fail
   clear cX
   refine (good_any X x HX.out HXL.out _).mono ?_
   rintro e w2 ⟨rfl,hb2⟩
   have HB2:=Lib.hid hb2
   clear hb2
   cases hg:good x with
   | false =>
    have HS2:=Lib.hid (show odds (l.take (k+1))=odds (l.take k) by rw [HS.out,okT_bad x hg];rfl)
    have HR2:=Lib.hid (own_below HR.out HB2.out)
    have HB3:=Lib.hid (HB.out.trans (HB2.out.mono HB.out.size))
    clear HS hg HC
    go_wp2_with fail
    go_roundw
    case rel=>exact ⟨k+1,m,by omega,by go_num,by omega,by rw [HS2.out];exact HR2,HB3⟩
    case measure=>simp [intOf];omega
   | true =>
    have HQ:=Lib.hid (okT_q x hg)
    obtain ⟨nx,hnx⟩:∃nx,x.length=nx:=⟨_,rfl⟩
    have hnx2:nx≤1073741824:=by rw [←hnx];exact HXL.out
    obtain ⟨gx,Cx,W4,hcv,hr4,hb4,_,_⟩:=conv_str w2 X x HX.out nx hnx (by omega)
    have HRN:=Lib.hid (rrunes_any (some ⟨gx,0,none⟩) x nx Cx W4 hr4 hnx (by omega))
    have HB4:=Lib.hid hb4
    have cX:=HC.out w2 HB2.out
    clear hr4 hb4 hnx hg
    go_wp2_with fail
    refine HRN.out.mono ?_
    rintro e w5 ⟨v5,rfl,o5,hb5⟩
    obtain ⟨A5,c5,rfl,_,_,_⟩:=own_form o5
    have HB5:=Lib.hid (HB2.out.trans ((HB4.out.trans (hb5.mono HB4.out.size)).mono HB2.out.size))
    have HR5:=Lib.hid (own_below HR.out HB5.out)
    have HB6:=Lib.hid (HB.out.trans (HB5.out.mono HB.out.size))
    have cX5:=HC.out w5 HB5.out
    clear o5 hb5 hcv cX HRN HB4 HR HC
    generalize (rns x).length=q at HQ ⊢
    by_cases hq:1 < q
    ·have hq2:(1:Int) < (q:Int):=by omega
     have HS2:=Lib.hid (show odds (l.take (k+1))=rise (odds (l.take k)++[x]) by rw [HS.out,HQ.out,decide_eq_true hq,if_pos rfl])
     have HP:=Lib.hid (rput_any w.heap.size m _ (odds (l.take k)) X x HX.out w5 HR5.out HB6.out.size (odds_up _) (by omega))
     clear HQ hq HS
     go_wp2_with fail
     refine HP.out.mono ?_
     rintro e w7 ⟨v7,rfl,o7,hb7⟩
     have HR7:=Lib.hid o7
     have HB7:=Lib.hid (HB6.out.trans hb7)
     have hm2:(rise (odds (l.take k)++[x])).length≤k+1:=Nat.le_trans (rise_len _) (by rw [List.length_append,own_lenT HR5.out];simp;omega)
     clear o7 hb7 HP cX5 HR5
     go_wp2_with fail
     go_roundw
     case rel=>exact ⟨k+1,_,by omega,by go_num,hm2,by rw [HS2.out];exact HR7,HB7⟩
     case measure=>simp [intOf];omega
    ·have hq2:¬(1:Int) < (q:Int):=by omega
     have HS2:=Lib.hid (show odds (l.take (k+1))=odds (l.take k) by rw [HS.out,HQ.out,decide_eq_false hq];rfl)
     clear HQ hq HS cX5
     go_wp2_with fail
     go_roundw
     case rel=>exact ⟨k+1,m,by omega,by go_num,by omega,by rw [HS2.out];exact HR5,HB6⟩
     case measure=>simp [intOf];omega
  ·obtain rfl:k=n:=by omega
   have HT:=Lib.hid (show l.take k=l from List.take_of_length_le (by rw [H.out.len];exact Nat.le_refl _))
   rw [HT.out] at HR
   go_wp2_with fail
   go_ret
   refine ⟨_,rfl,?_,HB.out⟩
   rw [own_lenT HR.out]
   exact HR.out
end Go.Proofs.YtegdbmbenjnacaaGreat.Sset
namespace Go.Proofs.YtegdbmbenjnacaaGreat.Sset
open Go.RowKit
open Utf (Rd Blk bys bys_len nums nums_len wpList_append_rd own_ne)
open Rset
set_option maxRecDepth 100000
set_option maxHeartbeats 8000000 in
theorem rsnorm_any (A1 A2 A3:Option Addr) (n1 c1 n2 c2 n3 c3:Nat) (a:St) (w:World) (h:Has3 w A1 n1 A2 n2 A3 n3 a) :
  Calls Tryz.prog 27 #[.agg #[.slice A1 n1 c1,.slice A2 n2 c2,.slice A3 n3 c3]] w (OwnS w (normS a)):=by
 obtain ⟨g0,hg0⟩:∃g0,g0=w.heap.size:=⟨_,rfl⟩
 obtain ⟨g1,hg1⟩:∃g1,g1=w.heap.size+1:=⟨_,rfl⟩
 obtain ⟨W1,hW1⟩:∃W1,W1=(w.alloc (.cells #[.slice A1 n1 c1,.slice A2 n2 c2,.slice A3 n3 c3] 74)).alloc (.cells #[.slice none 0 0,.slice none 0 0,.slice none 0 0] 74):=⟨_,rfl⟩
 have b0:BlkS W1 g0 (.slice A1 n1 c1) (.slice A2 n2 c2) (.slice A3 n3 c3):=by rw [hW1,hg0];exact (BlkS.new w _ _ _).alloc _
 have b1:BlkS W1 g1 (.slice none 0 0) (.slice none 0 0) (.slice none 0 0):=by
  have:=BlkS.new (w.alloc (.cells #[.slice A1 n1 c1,.slice A2 n2 c2,.slice A3 n3 c3] 74)) (.slice none 0 0) (.slice none 0 0) (.slice none 0 0)
  rw [hW1,hg1];simpa using this
 have hbw:Below w.heap.size w W1:=by rw [hW1];exact ((Below.refl _ _).alloc (Nat.le_refl _) _).alloc (by simp) _
 have H:=Lib.hid (h.next hbw);have HB0:=Lib.hid b0;have HB1:=Lib.hid b1;have HBW:=Lib.hid hbw;have HW1:=Lib.hid hW1;have HG0:=Lib.hid hg0;have HG1:=Lib.hid hg1
 have HGL:=Lib.hid (show w.heap.size≤g1 from by omega)
 have HSW:=Lib.hid (show ∀u,Below W1.heap.size W1 u→u.cell? ⟨g0,0,none⟩=some (.slice A1 n1 c1)∧u.cell? ⟨g0,1,none⟩=some (.slice A2 n2 c2)∧u.cell? ⟨g0,2,none⟩=some (.slice A3 n3 c3) from fun u hu=>⟨(HB0.out.next hu).c0,(HB0.out.next hu).c1,(HB0.out.next hu).c2⟩)
 have HN1:=Lib.hid (show ∀u,Below W1.heap.size W1 u→Calls Tryz.prog 56 #[.slice A1 n1 c1] u (Own u (norm a.s)) from fun u hu=>by
  have k:=(H.out.next hu).s;exact Rset.rnorm_any A1 a.s n1 c1 u k.rd k.len (by have:=k.sm;omega))
 have HN2:=Lib.hid (show ∀u,Below W1.heap.size W1 u→Calls Tryz.prog 56 #[.slice A2 n2 c2] u (Own u (norm a.m)) from fun u hu=>by
  have k:=(H.out.next hu).m;exact Rset.rnorm_any A2 a.m n2 c2 u k.rd k.len (by have:=k.sm;omega))
 have HN3:=Lib.hid (show ∀u,Below W1.heap.size W1 u→_ from fun u hu=>rodd_any A3 a.o n3 c3 u (H.out.next hu).o)
 have HQ0:=Lib.hid (show Below W1.heap.size W1 W1.drew from (Below.refl _ _).drew)
 clear h hW1 b0 b1 hbw hg0 hg1
 go_enter Tryz.func27,Tryz.ntmps27
 go_wp2_with fail
 rw [←HW1.out,←HG1.out,←HG0.out]
 refine wp_region_held_drew (S:=fun u=>u.cell? ⟨g0,0,none⟩=some (.slice A1 n1 c1)∧u.cell? ⟨g0,1,none⟩=some (.slice A2 n2 c2)∧u.cell? ⟨g0,2,none⟩=some (.slice A3 n3 c3)) (by kernel_rfl) (HSW.out _ HQ0.out) (fun hHeld=>?_)
 refine wpAnyH_take (i:=0) (oi:=_) (v:=?_) rfl (by kernel_rfl) (by kernel_rfl) (by kernel_rfl) (fun _ _ _ h=>h) (Or.inl ⟨by rfl,?_⟩) (by assumption) ?_
 rotate_left
 ·(intro w hSw;(try dsimp only at hSw);(try obtain ⟨s1_,s2_,s3_⟩:=hSw);go_simp <;> with_reducible rfl)
 simp only [List.getElem_toArray,List.getElem_cons_zero,Act.put,List.setIfInBounds_toArray,List.set_cons_zero,List.set_cons_succ]
 refine wpAnyH_take (i:=1) (oi:=_) (v:=?_) rfl (by kernel_rfl) (by kernel_rfl) (by kernel_rfl) (fun _ _ _ h=>h) (Or.inl ⟨by rfl,?_⟩) (by assumption) ?_
 rotate_left
 ·(intro w hSw;(try dsimp only at hSw);(try obtain ⟨s1_,s2_,s3_⟩:=hSw);go_simp <;> with_reducible rfl)
 simp only [List.getElem_toArray,List.getElem_cons_succ,List.getElem_cons_zero,Act.put,List.setIfInBounds_toArray,List.set_cons_zero,List.set_cons_succ]
 refine wpAnyH_take (i:=3) (oi:=_) (v:=?_) rfl (by kernel_rfl) (by kernel_rfl) (by kernel_rfl) (fun _ _ _ h=>h) (Or.inl ⟨by rfl,?_⟩) (by assumption) ?_
 rotate_left
 ·(intro w hSw;(try dsimp only at hSw);(try obtain ⟨s1_,s2_,s3_⟩:=hSw);go_simp <;> with_reducible rfl)
 simp only [List.getElem_toArray,List.getElem_cons_succ,List.getElem_cons_zero,Act.put,List.setIfInBounds_toArray,List.set_cons_zero,List.set_cons_succ]
 refine wpAnyH_take (i:=4) (oi:=_) (v:=?_) rfl (by kernel_rfl) (by kernel_rfl) (by kernel_rfl) (fun _ _ _ h=>h) (Or.inl ⟨by rfl,?_⟩) (by assumption) ?_
 rotate_left
 ·(intro w hSw;(try dsimp only at hSw);(try obtain ⟨s1_,s2_,s3_⟩:=hSw);go_simp <;> with_reducible rfl)
 simp only [List.getElem_toArray,List.getElem_cons_succ,List.getElem_cons_zero,Act.put,List.setIfInBounds_toArray,List.set_cons_zero,List.set_cons_succ]
 refine wpAnyH_take (i:=6) (oi:=_) (v:=?_) rfl (by kernel_rfl) (by kernel_rfl) (by kernel_rfl) (fun _ _ _ h=>h) (Or.inl ⟨by rfl,?_⟩) (by assumption) ?_
 rotate_left
 ·(intro w hSw;(try dsimp only at hSw);(try obtain ⟨s1_,s2_,s3_⟩:=hSw);go_simp <;> with_reducible rfl)
 simp only [List.getElem_toArray,List.getElem_cons_succ,List.getElem_cons_zero,Act.put,List.setIfInBounds_toArray,List.set_cons_zero,List.set_cons_succ]
 refine wpAnyH_take (i:=7) (oi:=_) (v:=?_) rfl (by kernel_rfl) (by kernel_rfl) (by kernel_rfl) (fun _ _ _ h=>h) (Or.inl ⟨by rfl,?_⟩) (by assumption) ?_
 rotate_left
 ·(intro w hSw;(try dsimp only at hSw);(try obtain ⟨s1_,s2_,s3_⟩:=hSw);go_simp <;> with_reducible rfl)
 simp only [List.getElem_toArray,List.getElem_cons_succ,List.getElem_cons_zero,Act.put,List.setIfInBounds_toArray,List.set_cons_zero,List.set_cons_succ]
 refine wpAnyH_ready (rs:=[2]) (by kernel_rfl) (by simp) (AllReadyH.cons rfl (fun K hK=>?_) AllReadyH.nil)
 go_simp
 refine (HN1.out _ HQ0.out).mono ?_
 rintro e u1 ⟨v1,rfl,o1,hb⟩
 obtain ⟨P1,k1,rfl,_,_,_⟩:=own_form o1
 have HO1:=Lib.hid o1
 have HD1:=Lib.hid hb
 have HQ1:=Lib.hid (show Below W1.heap.size W1 u1 from HQ0.out.trans (hb.mono HQ0.out.size))
 clear hb o1
 refine hK.out _ _ (HSW.out _ HQ1.out) (fun hHeld2=>?_)
 clear hK K hHeld
 have hHeld:=hHeld2
 clear hHeld2
 refine wpAnyH_ready (rs:=[5]) (by kernel_rfl) (by simp) (AllReadyH.cons rfl (fun K hK=>?_) AllReadyH.nil)
 go_simp
 refine (HN2.out _ HQ1.out).mono ?_
 rintro e u2 ⟨v2,rfl,o2,hb⟩
 obtain ⟨P2,k2,rfl,_,_,_⟩:=own_form o2
 have HO2:=Lib.hid o2
 have HD2:=Lib.hid hb
 have HQ2:=Lib.hid (show Below W1.heap.size W1 u2 from HQ1.out.trans (hb.mono HQ1.out.size))
 clear hb o2
 refine hK.out _ _ (HSW.out _ HQ2.out) (fun hHeld2=>?_)
 clear hK K hHeld
 have hHeld:=hHeld2
 clear hHeld2
 refine wpAnyH_ready (rs:=[8]) (by kernel_rfl) (by simp) (AllReadyH.cons rfl (fun K hK=>?_) AllReadyH.nil)
 go_simp
 refine (HN3.out _ HQ2.out).mono ?_
 rintro e u3 ⟨v3,rfl,o3,hb⟩
 obtain ⟨P3,k3,rfl,_,_,_⟩:=own_form o3
 have HO3:=Lib.hid o3
 have HD3:=Lib.hid hb
 have HQ3:=Lib.hid (show Below W1.heap.size W1 u3 from HQ2.out.trans (hb.mono HQ2.out.size))
 clear hb o3
 refine hK.out _ _ (HSW.out _ HQ3.out) (fun hHeld2=>?_)
 clear hK K hHeld
 have hHeld:=hHeld2
 clear hHeld2
 refine wpAnyH_take (i:=9) (oi:=_) (v:=?_) rfl (by kernel_rfl) (by kernel_rfl) (by kernel_rfl) (fun _ _ _ h=>h) (Or.inl ⟨by rfl,?_⟩) (by assumption) ?_
 rotate_left
 ·(intro w hSw;(try dsimp only at hSw);(try obtain ⟨s1_,s2_,s3_⟩:=hSw);go_simp <;> with_reducible rfl)
 simp only [List.getElem_toArray,List.getElem_cons_succ,List.getElem_cons_zero,Act.put,List.setIfInBounds_toArray,List.set_cons_zero,List.set_cons_succ]
 have HZ:=Lib.hid (HB1.out.next HQ3.out)
 have d0:=HZ.out.c0;have d1:=HZ.out.c1;have d2:=HZ.out.c2;have f0:=HZ.out.fr 0;have f1:=HZ.out.fr 1;have f2:=HZ.out.fr 2
 have HS4:=Lib.hid (show ∀a b c:Value,Below W1.heap.size W1 u3→(((u3.setCell ⟨g1,0,none⟩ a).setCell ⟨g1,1,none⟩ b).setCell ⟨g1,2,none⟩ c).cell? ⟨g0,0,none⟩=some (.slice A1 n1 c1)∧(((u3.setCell ⟨g1,0,none⟩ a).setCell ⟨g1,1,none⟩ b).setCell ⟨g1,2,none⟩ c).cell? ⟨g0,1,none⟩=some (.slice A2 n2 c2)∧(((u3.setCell ⟨g1,0,none⟩ a).setCell ⟨g1,1,none⟩ b).setCell ⟨g1,2,none⟩ c).cell? ⟨g0,2,none⟩=some (.slice A3 n3 c3) from fun a b c hu=>by
  have k:=Blk.grown (HB0.out.next hu) (grown_put u3 g1 a b c) (fun e=>by have:=Option.some.inj e;have:=HG0.out;have:=HG1.out;omega)
  exact ⟨Blk.cell k 0,Blk.cell k 1,Blk.cell k 2⟩)
 refine wpAnyH_ready (rs:=[10]) (by kernel_rfl) (by simp) (AllReadyH.cons rfl (fun K hK=>?_) AllReadyH.nil)
 go_simp
 refine hK.out _ _ (HS4.out _ _ _ HQ3.out) (fun hHeld2=>?_)
 clear hK K hHeld
 have hHeld:=hHeld2
 clear hHeld2
 clear d0 d1 d2 f0 f1 f2
 refine wpAnyH_done (by kernel_rfl) ?_ _
 go_wp2_with fail
 refine (HZ.out.put _ _ _).ret rfl rfl rfl ?_
 have hs:=HBW.out.size
 have hs0:=HQ0.out.size;have hs1:=HQ1.out.size;have hs2:=HQ2.out.size
 exact OwnS.of (a:=normS a) HZ.out (own_below (own_below HO1.out HD2.out) HD3.out) (own_below HO2.out HD3.out) HO3.out (HBW.out.trans (HQ3.out.mono HBW.out.size)) HGL.out (Nat.le_trans hs hs0) (Nat.le_trans hs hs1) (Nat.le_trans hs hs2)
theorem r_rsnorm {w:World} {A1 A2 A3:Option Addr} {n1 n2 n3:Nat} {a:St} (c1 c2 c3:Nat) (h:Has3 w A1 n1 A2 n2 A3 n3 a):Calls Tryz.prog 27 #[.agg #[.slice A1 n1 c1,.slice A2 n2 c2,.slice A3 n3 c3]] w (ResO w (normS a)) :=
 (rsnorm_any A1 A2 A3 n1 c1 n2 c2 n3 c3 a w h).mono fun _ _ q=>q.made (normS_nm a) (short_norm h.o.short) (Nat.le_trans (normS_len a) (by have:=h.o.len;have:=h.o.sm;omega))
end Go.Proofs.YtegdbmbenjnacaaGreat.Sset
