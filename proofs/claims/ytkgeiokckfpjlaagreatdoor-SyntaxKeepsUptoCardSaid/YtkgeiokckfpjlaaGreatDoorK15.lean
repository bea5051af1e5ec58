/-
  Texts of stage 7, part 15.
-/
import Derived.Deep.RegionHeld3
import Derived.Test.YtkgeiokckfpjlaaGreatDoorK3
import Derived.Test.YtkgeiokckfpjlaaGreatDoorK14
namespace Go.Proofs.YtkgeiokckfpjlaaGreatDoor.Sset
open Go.RowKit
open Utf (Rd Blk wpList_append_rd own_ne)
open Rset
set_option maxRecDepth 100000
def BlkS (w:World) (g:Nat) (v1 v2 v3:Value):Prop:=Blk w g 39 [v1,v2,v3]
section
variable {w w':World} {g:Nat} {v1 v2 v3:Value}
theorem BlkS.c0 (h:BlkS w g v1 v2 v3):w.cell? ⟨g,0,none⟩=some v1:=Blk.cell h 0
theorem BlkS.c1 (h:BlkS w g v1 v2 v3):w.cell? ⟨g,1,none⟩=some v2:=Blk.cell h 1
theorem BlkS.c2 (h:BlkS w g v1 v2 v3):w.cell? ⟨g,2,none⟩=some v3:=Blk.cell h 2
theorem BlkS.fr (h:BlkS w g v1 v2 v3) (i:Nat):w.frozen? ⟨g,i,none⟩=false:=Blk.frozen h i
theorem BlkS.lt (h:BlkS w g v1 v2 v3):g < w.heap.size:=Blk.lt h
theorem BlkS.below {B:Nat} (h:BlkS w g v1 v2 v3) (hb:Below B w w') (hg:g < B):BlkS w' g v1 v2 v3:=Blk.below h hb hg
theorem BlkS.next (h:BlkS w g v1 v2 v3) (hb:Below w.heap.size w w'):BlkS w' g v1 v2 v3:=Blk.below h hb h.lt
theorem BlkS.new (w:World) (v1 v2 v3:Value):BlkS (w.alloc (.cells #[v1,v2,v3] 39)) w.heap.size v1 v2 v3:=Blk.new w _ [v1,v2,v3]
theorem BlkS.alloc (h:BlkS w g v1 v2 v3) (o:Obj):BlkS (w.alloc o) g v1 v2 v3:=Blk.alloc h o
theorem BlkS.put (h:BlkS w g v1 v2 v3) (a b c:Value):BlkS (((w.setCell ⟨g,0,none⟩ a).setCell ⟨g,1,none⟩ b).setCell ⟨g,2,none⟩ c) g a b c:=((Blk.set_ h 0 a).set_ 1 b).set_ 2 c
theorem BlkS.ret {fn:Func} {p:Tmp} {R:Ending→World→Prop} {a:Act} (h:BlkS w g v1 v2 v3) (hr:fn.results=#[.cell p 39]) (hp:a.tmps.getD p undef=.pointer (some ⟨g,0,none⟩)) (hd:a.defers=[]) (hR:R (.returned (.agg #[v1,v2,v3])) w):bodyPost Tryz.prog fn R .ret a w :=
 bodyPost_ret (results_cell_row hr a.tmps w g 39 [v1,v2,v3].toArray (0,0) _ hp h Tryz.underlying39 rfl (by kernel_rfl)) hd hR
end
structure Mid (w w':World) (g:Nat):Prop where
 bel:Below g w w'
 blk:∃a b c,BlkS w' g a b c
section
variable {w w' w'':World} {g:Nat}
theorem Mid.next (h:Mid w w' g) (hb:Below w'.heap.size w' w''):Mid w w'' g:=by
 obtain ⟨a,b,c,hk⟩:=h.blk
 exact ⟨h.bel.trans (hb.mono (Nat.le_of_lt hk.lt)),a,b,c,hk.next hb⟩
theorem Mid.drew (h:Mid w w' g):Mid w w'.drew g:=⟨h.bel.drew,h.blk⟩
theorem Mid.put (h:Mid w w' g) (a b c:Value):Mid w (((w'.setCell ⟨g,0,none⟩ a).setCell ⟨g,1,none⟩ b).setCell ⟨g,2,none⟩ c) g:=by
 obtain ⟨x,y,z,hk⟩:=h.blk
 exact ⟨((h.bel.setCell (p:=⟨g,0,none⟩) (Nat.le_refl g) a).setCell (p:=⟨g,1,none⟩) (Nat.le_refl g) b).setCell (p:=⟨g,2,none⟩) (Nat.le_refl g) c,a,b,c,hk.put a b c⟩
theorem Mid.of {v1 v2 v3:Value} (h:BlkS w g v1 v2 v3):Mid w w g:=⟨Below.refl _ _,v1,v2,v3,h⟩
theorem grown_put (w:World) (g:Nat) (a b c:Value):w.grownBy (((w.setCell ⟨g,0,none⟩ a).setCell ⟨g,1,none⟩ b).setCell ⟨g,2,none⟩ c) (some g) :=
 Utf.grown_set (Utf.grown_set (Utf.grown_set (World.grownBy.refl w _) 0 a) 1 b) 2 c
theorem own_putS {base size n:Nat} {e:TypeId} {v v1 v2 v3:Value} {xs:List Value} (h:w.ownsRow base e size v n xs) (hz:BlkS w g v1 v2 v3) (hne:e≠39) (a b c:Value):(((w.setCell ⟨g,0,none⟩ a).setCell ⟨g,1,none⟩ b).setCell ⟨g,2,none⟩ c).ownsRow base e size v n xs :=
 h.kept (grown_put w g a b c) (.inr (own_ne h hz hne))
theorem OwnS.of {u:World} {v1 v2 v3 z0 z1 z2:Value} {a:St} {B1 B2 B3:Nat} (hz:BlkS u g z0 z1 z2) (h1:u.ownsRow B1 48 2 v1 a.s.length (rgs a.s)) (h2:u.ownsRow B2 48 2 v2 a.m.length (rgs a.m)) (h3:u.ownsRow B3 9 1 v3 a.o.length (txs a.o))
  (hb:Below w.heap.size w u) (hg:w.heap.size≤g) (k1:w.heap.size≤B1) (k2:w.heap.size≤B2) (k3:w.heap.size≤B3) :
  OwnS w a (.returned (.agg #[v1,v2,v3])) (((u.setCell ⟨g,0,none⟩ v1).setCell ⟨g,1,none⟩ v2).setCell ⟨g,2,none⟩ v3) :=
 ⟨v1,v2,v3,rfl,own_mono (own_putS h1 hz (by decide) _ _ _) k1,own_mono (own_putS h2 hz (by decide) _ _ _) k2,own_mono (own_putS h3 hz (by decide) _ _ _) k3,
  ((hb.setCell (p:=⟨g,0,none⟩) hg v1).setCell (p:=⟨g,1,none⟩) hg v2).setCell (p:=⟨g,2,none⟩) hg v3⟩
theorem below_drewl {u u':World} (h:Below u.drew.heap.size u.drew u'):Below u.heap.size u u':=⟨h.os,h.tape,h.output,h.size,h.block⟩
end
set_option maxHeartbeats 4000000 in
theorem longer_any (A:Option Addr) (n c:Nat) (l:List Tx) (w:World) (h:ArgT w A n l) :
  Calls Tryz.prog 105 #[.slice A n c] w (OwnT w.heap.size w ((rise l).filter okT)):=by
 obtain ⟨g,hg⟩:∃g,g=w.heap.size:=⟨_,rfl⟩
 obtain ⟨W1,hW1⟩:∃W1,W1=w.alloc (.cells #[.slice A n c] 32):=⟨_,rfl⟩
 have b1:Blk W1 g 32 [.slice A n c]:=by rw [hW1,hg];exact Blk.new w _ _
 have hbw:Below g w W1:=by rw [hW1,hg];exact (Below.refl _ _).alloc (Nat.le_refl _) _
 have HR:=Lib.hid (rising1_any g 0 n c A l W1 b1.lt (b1.cell 0) (h.next (hg ▸ hbw)))
 have HBW:=Lib.hid hbw;have HW1:=Lib.hid hW1;have HG:=Lib.hid hg
 have HS:=Lib.hid (short_rise h.short)
 have HLN:=Lib.hid (show (rise l).length≤1073741824 from Nat.le_trans (rise_len _) (by have:=h.len;have:=h.sm;omega))
 clear h hW1 b1 hbw hg
 rw [←HG.out]
 go_enter Tryz.func105,Tryz.ntmps105
 go_wp2_with fail
 rw [←HW1.out,←HG.out]
 refine HR.out.mono ?_
 rintro e w2 ⟨v3,rfl,o3,hb2⟩
 have HB2:=Lib.hid hb2
 have HD:=Lib.hid (del_any W1.heap.size _ v3 _ w2 o3 hb2.size HS.out (by have:=HLN.out;omega))
 clear hb2 o3 HR
 go_wp2_with fail
 refine HD.out.mono ?_
 rintro e w3 ⟨v4,rfl,o4,hb3⟩
 have hgs:g≤W1.heap.size:=by have:=HBW.out.size;have:=HG.out;omega
 have HB3:=Lib.hid (HBW.out.trans ((HB2.out.trans hb3).mono hgs))
 have HO4:=Lib.hid (own_mono o4 hgs)
 clear o4 hb3 HD
 go_wp2_with fail
 go_ret
 exact ⟨_,rfl,HO4.out,HB3.out⟩
set_option maxHeartbeats 4000000 in
theorem snorm_any (A1 A2 A3:Option Addr) (n1 c1 n2 c2 n3 c3:Nat) (a:St) (w:World) (h:Has3 w A1 n1 A2 n2 A3 n3 a) :
  Calls Tryz.prog 258 #[.agg #[.slice A1 n1 c1,.slice A2 n2 c2,.slice A3 n3 c3]] w (OwnS w (normS a)):=by
 obtain ⟨g0,hg0⟩:∃g0,g0=w.heap.size:=⟨_,rfl⟩
 obtain ⟨g1,hg1⟩:∃g1,g1=w.heap.size+1:=⟨_,rfl⟩
 obtain ⟨W1,hW1⟩:∃W1,W1=(w.alloc (.cells #[.slice A1 n1 c1,.slice A2 n2 c2,.slice A3 n3 c3] 39)).alloc (.cells #[.slice none 0 0,.slice none 0 0,.slice none 0 0] 39):=⟨_,rfl⟩
 have b0:BlkS W1 g0 (.slice A1 n1 c1) (.slice A2 n2 c2) (.slice A3 n3 c3):=by rw [hW1,hg0];exact (BlkS.new w _ _ _).alloc _
 have b1:BlkS W1 g1 (.slice none 0 0) (.slice none 0 0) (.slice none 0 0):=by
  have:=BlkS.new (w.alloc (.cells #[.slice A1 n1 c1,.slice A2 n2 c2,.slice A3 n3 c3] 39)) (.slice none 0 0) (.slice none 0 0) (.slice none 0 0)
  rw [hW1,hg1];simpa using this
 have hbw:Below w.heap.size w W1:=by rw [hW1];exact ((Below.refl _ _).alloc (Nat.le_refl _) _).alloc (by simp) _
 have HG:=Lib.hid (show w.heap.size≤g1∧g0 < g1 by omega)
 have H:=Lib.hid h;have HK0:=Lib.hid b0;have HK1:=Lib.hid b1;have HBW:=Lib.hid hbw;have HW1:=Lib.hid hW1;have HG0:=Lib.hid hg0;have HG1:=Lib.hid hg1
 have hc0:=HK0.out.c0
 have hc1:=HK0.out.c1
 have hc2:=HK0.out.c2
 have HA:=Lib.hid (show ∀u,Mid W1 u g1→Has3 u A1 n1 A2 n2 A3 n3 a from fun u hu=>H.out.next (HBW.out.trans (hu.bel.mono HG.out.1)))
 have HN1:=Lib.hid (show ∀u,Mid W1 u g1→Calls Tryz.prog 253 #[.slice A1 n1 c1] u (Own u (norm a.s)) from fun u hu=>by
  have k:=(HA.out u hu).s;exact Rset.norm_any A1 a.s n1 c1 u k.rd k.len k.fit (by have:=k.sm;omega))
 have HN2:=Lib.hid (show ∀u,Mid W1 u g1→Calls Tryz.prog 253 #[.slice A2 n2 c2] u (Own u (norm a.m)) from fun u hu=>by
  have k:=(HA.out u hu).m;exact Rset.norm_any A2 a.m n2 c2 u k.rd k.len k.fit (by have:=k.sm;omega))
 have HN3:=Lib.hid (show ∀u,Mid W1 u g1→Calls Tryz.prog 105 #[.slice A3 n3 c3] u (OwnT u.heap.size u ((rise a.o).filter okT)) from fun u hu=>longer_any A3 n3 c3 a.o u (HA.out u hu).o)
 have HKP:=Lib.hid (show ∀u,Mid W1 u g1→u.cell? ⟨g0,0,none⟩=some (.slice A1 n1 c1)∧u.cell? ⟨g0,1,none⟩=some (.slice A2 n2 c2)∧u.cell? ⟨g0,2,none⟩=some (.slice A3 n3 c3)∧Mid W1 u g1 from fun u hu =>
  have hb:=HK0.out.below hu.bel HG.out.2
  ⟨hb.c0,hb.c1,hb.c2,hu⟩)
 clear h hW1 b0 b1 hbw hg0 hg1
 go_enter Tryz.func258,Tryz.ntmps258
 go_wp2_with fail
 rw [←HW1.out,←HG1.out,←HG0.out]
 go_region_held3 (fun w'=>w'.cell? ⟨g0,0,none⟩=some (.slice A1 n1 c1)∧w'.cell? ⟨g0,1,none⟩=some (.slice A2 n2 c2)∧w'.cell? ⟨g0,2,none⟩=some (.slice A3 n3 c3)∧Mid W1 w' g1)
  (first | assumption | exact ⟨hc0,hc1,hc2,(Mid.of HK1.out).drew⟩ | exact HKP.out _ HX1.out | exact HKP.out _ HX2.out | exact HKP.out _ HX3.out | exact HKP.out _ (HX3.out.put _ _ _))
  (first
  | (go_at_call 253;(with_reducible refine (HN1.out _ (by first | assumption | exact (by assumption:_∧_∧_∧_).2.2.2)).mono ?_);rintro e w4 ⟨x1,rfl,p1,q1⟩;obtain ⟨P1,k1,rfl,_,_,_⟩:=own_form p1;have HP1:=Lib.hid p1;have HX1:=Lib.hid (Mid.next (by first | assumption | exact (by assumption:_∧_∧_∧_).2.2.2) q1))
  | (go_at_call 253;(with_reducible refine (HN2.out _ (by first | assumption | exact (by assumption:_∧_∧_∧_).2.2.2)).mono ?_);rintro e w5 ⟨x2,rfl,p2,q2⟩;obtain ⟨P2,k2,rfl,_,_,_⟩:=own_form p2;have HP2:=Lib.hid p2;have HQ2:=Lib.hid (And.intro q1 q2);have HX2:=Lib.hid (Mid.next (by first | assumption | exact (by assumption:_∧_∧_∧_).2.2.2) q2))
  | (go_at_call 105;(with_reducible refine (HN3.out _ (by first | assumption | exact (by assumption:_∧_∧_∧_).2.2.2)).mono ?_);rintro e w6 ⟨x3,rfl,p3,q3⟩;obtain ⟨P3,k3,rfl,_,_,_⟩:=own_form p3;have HP3:=Lib.hid p3;have HQ3:=Lib.hid q3;have HX3:=Lib.hid (Mid.next (by first | assumption | exact (by assumption:_∧_∧_∧_).2.2.2) q3);obtain ⟨z0,z1,z2,hz⟩:=HX3.out.blk;have d0:=hz.c0;have d1:=hz.c1;have d2:=hz.c2;have f0:=hz.fr 0;have f1:=hz.fr 1;have f2:=hz.fr 2;have HZ:=Lib.hid hz))
 go_wp2_with fail
 refine (HZ.out.put _ _ _).ret rfl rfl rfl ?_
 have hs:=HBW.out.size
 have hs4:=HQ2.out.1.size
 have hs5:=HQ2.out.2.size
 exact OwnS.of HZ.out (own_below (own_below HP1.out HQ2.out.2) HQ3.out) (own_below HP2.out HQ3.out) HP3.out (HBW.out.trans (HX3.out.bel.mono HG.out.1)) HG.out.1 hs (Nat.le_trans hs hs4) (Nat.le_trans (Nat.le_trans hs hs4) hs5)
set_option maxHeartbeats 4000000 in
theorem snot_any (A1 A2 A3:Option Addr) (n1 c1 n2 c2 n3 c3:Nat) (l1 l2:List Rg) (w:World) (r1:ArgR w A1 n1 l1) (r2:ArgR w A2 n2 l2) :
  Calls Tryz.prog 248 #[.agg #[.slice A1 n1 c1,.slice A2 n2 c2,.slice A3 n3 c3]] w (fun e w'=>∃v1 v2,e=.returned (.agg #[v1,v2,.slice A3 n3 c3])∧w'.ownsRow w.heap.size 48 2 v1 (compl l1).length (rgs (compl l1))∧w'.ownsRow w.heap.size 48 2 v2 (compl l2).length (rgs (compl l2))∧Below w.heap.size w w'):=by
 obtain ⟨g0,hg0⟩:∃g0,g0=w.heap.size:=⟨_,rfl⟩
 obtain ⟨g1,hg1⟩:∃g1,g1=w.heap.size+1:=⟨_,rfl⟩
 obtain ⟨W1,hW1⟩:∃W1,W1=(w.alloc (.cells #[.slice A1 n1 c1,.slice A2 n2 c2,.slice A3 n3 c3] 39)).alloc (.cells #[.slice none 0 0,.slice none 0 0,.slice none 0 0] 39):=⟨_,rfl⟩
 have b0:BlkS W1 g0 (.slice A1 n1 c1) (.slice A2 n2 c2) (.slice A3 n3 c3):=by rw [hW1,hg0];exact (BlkS.new w _ _ _).alloc _
 have b1:BlkS W1 g1 (.slice none 0 0) (.slice none 0 0) (.slice none 0 0):=by
  have:=BlkS.new (w.alloc (.cells #[.slice A1 n1 c1,.slice A2 n2 c2,.slice A3 n3 c3] 39)) (.slice none 0 0) (.slice none 0 0) (.slice none 0 0)
  rw [hW1,hg1];simpa using this
 have hbw:Below w.heap.size w W1:=by rw [hW1];exact ((Below.refl _ _).alloc (Nat.le_refl _) _).alloc (by simp) _
 have HG:=Lib.hid (show w.heap.size≤g1∧g0 < g1 by omega)
 have HR1:=Lib.hid r1;have HR2:=Lib.hid r2
 have HK0:=Lib.hid b0;have HK1:=Lib.hid b1;have HBW:=Lib.hid hbw;have HW1:=Lib.hid hW1;have HG0:=Lib.hid hg0;have HG1:=Lib.hid hg1
 have hc0:=HK0.out.c0
 have hc1:=HK0.out.c1
 have hc2:=HK0.out.c2
 have HN1:=Lib.hid (show ∀u,Mid W1 u g1→Calls Tryz.prog 255 #[.slice A1 n1 c1] u (Own u (compl l1)) from fun u hu=>by
  have k:=HR1.out.next (HBW.out.trans (hu.bel.mono HG.out.1));exact Rset.not_any A1 l1 n1 c1 u k.rd k.len k.fit (by have:=k.sm;omega))
 have HN2:=Lib.hid (show ∀u,Mid W1 u g1→Calls Tryz.prog 255 #[.slice A2 n2 c2] u (Own u (compl l2)) from fun u hu=>by
  have k:=HR2.out.next (HBW.out.trans (hu.bel.mono HG.out.1));exact Rset.not_any A2 l2 n2 c2 u k.rd k.len k.fit (by have:=k.sm;omega))
 have HKP:=Lib.hid (show ∀u,Mid W1 u g1→u.cell? ⟨g0,0,none⟩=some (.slice A1 n1 c1)∧u.cell? ⟨g0,1,none⟩=some (.slice A2 n2 c2)∧u.cell? ⟨g0,2,none⟩=some (.slice A3 n3 c3)∧Mid W1 u g1 from fun u hu =>
  have hb:=HK0.out.below hu.bel HG.out.2
  ⟨hb.c0,hb.c1,hb.c2,hu⟩)
 clear hW1 b0 b1 hbw hg0 hg1 r1 r2
 go_enter Tryz.func248,Tryz.ntmps248
 go_wp2_with fail
 rw [←HW1.out,←HG1.out,←HG0.out]
 go_region_held3 (fun w'=>w'.cell? ⟨g0,0,none⟩=some (.slice A1 n1 c1)∧w'.cell? ⟨g0,1,none⟩=some (.slice A2 n2 c2)∧w'.cell? ⟨g0,2,none⟩=some (.slice A3 n3 c3)∧Mid W1 w' g1)
  (first | assumption | exact ⟨hc0,hc1,hc2,(Mid.of HK1.out).drew⟩ | exact HKP.out _ HX1.out | exact HKP.out _ HX2.out | exact HKP.out _ (HX2.out.put _ _ _))
  (first
  | (go_at_call 255;(with_reducible refine (HN1.out _ (by first | assumption | exact (by assumption:_∧_∧_∧_).2.2.2)).mono ?_);rintro e w4 ⟨x1,rfl,p1,q1⟩;obtain ⟨P1,k1,rfl,_,_,_⟩:=own_form p1;have HP1:=Lib.hid p1;have HX1:=Lib.hid (Mid.next (by first | assumption | exact (by assumption:_∧_∧_∧_).2.2.2) q1))
  | (go_at_call 255;(with_reducible refine (HN2.out _ (by first | assumption | exact (by assumption:_∧_∧_∧_).2.2.2)).mono ?_);rintro e w5 ⟨x2,rfl,p2,q2⟩;obtain ⟨P2,k2,rfl,_,_,_⟩:=own_form p2;have HP2:=Lib.hid p2;have HQ2:=Lib.hid (And.intro q1 q2);have HX2:=Lib.hid (Mid.next (by first | assumption | exact (by assumption:_∧_∧_∧_).2.2.2) q2);obtain ⟨z0,z1,z2,hz⟩:=HX2.out.blk;have d0:=hz.c0;have d1:=hz.c1;have d2:=hz.c2;have f0:=hz.fr 0;have f1:=hz.fr 1;have f2:=hz.fr 2;have HZ:=Lib.hid hz))
 go_wp2_with fail
 refine (HZ.out.put _ _ _).ret rfl rfl rfl ?_
 have hs:=HBW.out.size
 have hs4:=HQ2.out.1.size
 have hb:=HBW.out.trans (HX2.out.bel.mono HG.out.1)
 exact ⟨_,_,rfl,own_mono (own_putS (own_below HP1.out HQ2.out.2) HZ.out (by decide) _ _ _) hs,own_mono (own_putS HP2.out HZ.out (by decide) _ _ _) (Nat.le_trans hs hs4),
  ((hb.setCell (p:=⟨g1,0,none⟩) HG.out.1 _).setCell (p:=⟨g1,1,none⟩) HG.out.1 _).setCell (p:=⟨g1,2,none⟩) HG.out.1 _⟩
end Go.Proofs.YtkgeiokckfpjlaaGreatDoor.Sset
namespace Go.Proofs.YtkgeiokckfpjlaaGreatDoor.Sset
open Go.RowKit
open Utf (Rd Blk vld vld_iff valid_any)
open Rset
set_option maxRecDepth 100000
def cmpI (x y:Int):Int:=if x < y then -1 else if y < x then 1 else 0
theorem isNaN32_any (x:Int) (w:World):Calls Tryz.prog 334 #[.int .i32 x] w fun e w'=>e=.returned (.bool false)∧w=w':=by
 have hx:(x != x)=false:=by simp
 go_enter Tryz.func334,Tryz.ntmps334
 go_wp2
 go_ret
 exact ⟨rfl,rfl⟩
theorem compare32_any (x y:Int) (w:World):Calls Tryz.prog 324 #[.int .i32 x,.int .i32 y] w fun e w'=>e=.returned (.int .i64 (cmpI x y))∧w=w':=by
 unfold cmpI
 go_enter Tryz.func324,Tryz.ntmps324
 by_cases h1:x < y
 ·rw [if_pos h1]
  go_wp2_with (go_at_call 334;refine (isNaN32_any _ _).mono ?_;rintro e w1 ⟨rfl,rfl⟩)
  go_ret
  exact ⟨rfl,rfl⟩
 ·by_cases h2:y < x
  ·rw [if_neg h1,if_pos h2]
   go_wp2_with (go_at_call 334;refine (isNaN32_any _ _).mono ?_;rintro e w1 ⟨rfl,rfl⟩)
   go_ret
   exact ⟨rfl,rfl⟩
  ·rw [if_neg h1,if_neg h2]
   go_wp2_with (go_at_call 334;refine (isNaN32_any _ _).mono ?_;rintro e w1 ⟨rfl,rfl⟩)
   go_ret
   exact ⟨rfl,rfl⟩
theorem holds1_any (x y r:Int) (w:World):Calls Tryz.prog 323 #[.agg #[.int .i32 x,.int .i32 y],.int .i32 r] w (Ret w (.int .i64 (cmpI y r))):=by
 have hcon:=fun W'=>compare32_any y r W'
 generalize cmpI y r=q at hcon ⊢
 go_enter Tryz.func323,Tryz.ntmps323
 go_wp2_with (go_at_call 324;refine (hcon _).mono ?_;rintro e w' ⟨rfl,rfl⟩)
 go_ret
 exact ⟨rfl,by first | exact (Below.refl _ _).alloc (Nat.le_refl _) _ | exact ((Below.refl _ _).alloc (Nat.le_refl _) _).alloc (by simp) _⟩
theorem cmp_neg {x y:Int}:cmpI x y < 0↔x < y:=by
 unfold cmpI
 by_cases h1:x < y
 ·rw [if_pos h1];omega
 ·rw [if_neg h1];split <;> omega
def Cut (l:List Rg) (r:Int) (k:Nat):Prop:=k≤l.length∧(∀t (h:t < l.length),t < k→l[t].2 < r)∧∀t (h:t < l.length),k≤t→r≤l[t].2
set_option maxHeartbeats 4000000 in
theorem bsf_any (A:Option Addr) (l:List Rg) (n c:Nat) (r:Int) (w:World) (ha:Rd w w.heap.size A (rgs l)) (hn:l.length=n) (hN:Nm l) (hn1:n≤1099511627776) :
  Calls Tryz.prog 322 #[.slice A n c,.int .i32 r,.func (.func 323) #[] #[]] w (fun e w'=>∃(k:Nat) (b:Bool),e=.returned (.tuple #[.int .i64 k,.bool b])∧Cut l r k∧Below w.heap.size w w'):=by
 have eg:∀args w,(callFunc 323 args).run Tryz.prog w=.ok (.enter 323 args) w:=enters_of Tryz.func323 (by kernel_rfl) rfl
 have HA:=Lib.hid ha;have HL:=Lib.hid hn;have HM:=Lib.hid hN
 have mono:∀i j (hi:i < l.length) (hj:j < l.length),i≤j→l[i].2≤l[j].2:=fun i j hi hj hij=>by
  rcases Nat.lt_or_ge i j with h | h
  ·have:=List.pairwise_iff_getElem.1 hN.gap i j hi hj h
   have:=hN.ok _ (List.getElem_mem hj)
   omega
  ·have:i=j:=by omega
   subst this;exact Int.le_refl _
 have HMO:=Lib.hid mono
 clear ha hn hN mono
 go_enter Tryz.func322,Tryz.ntmps322
 go_wp2_with fail
 go_loopw [9,10] (fun s9 s10 wr=>∃lo hi:Nat,s9=.int .i64 lo∧s10=.int .i64 hi∧lo≤hi∧hi≤n∧Hid (∀t (h:t < l.length),t < lo→l[t].2 < r)∧Hid (∀t (h:t < l.length),hi≤t→r≤l[t].2)∧Hid (Below w.heap.size w wr)) (fun s9 s10 _=>(intOf s10).toNat - (intOf s9).toNat)
 case atStart=>exact ⟨0,n,rfl,rfl,Nat.zero_le _,Nat.le_refl _,Lib.hid (fun t _ h=>by omega),Lib.hid (fun t h h2=>by have:=HL.out;omega),Lib.hid (Below.refl _ _)⟩
 case round =>
  obtain ⟨lo,hi,rfl,rfl,hlh,hin,H1,H2,HW⟩:=hrel
  by_cases hlt:lo < hi
  ·obtain ⟨m,hm⟩:∃m,m=(lo+hi) / 2:=⟨_,rfl⟩
   have hml:m < l.length:=by rw [HL.out];omega
   have hR2:=HA.out.below HW.out
   obtain ⟨b,o,rfl,hb⟩:=rd_form_rg hR2 (by omega)
   obtain ⟨c1,c2⟩:=rd_rg hR2 hml
   have HX1:=Lib.hid (show l[m].2 < r→∀t (h:t < l.length),t < m+1→l[t].2 < r from fun h t ht htm=>by have:=HMO.out t m ht hml (by omega);omega)
   have HX2:=Lib.hid (show ¬l[m].2 < r→∀t (h:t < l.length),m≤t→r≤l[t].2 from fun h t ht htm=>by have:=HMO.out m t hml ht htm;omega)
   have HML:=Lib.hid hml
   generalize l[m]=q at c1 c2 HX1 HX2
   obtain ⟨x,y⟩:=q
   dsimp only at c1 c2 HX1 HX2
   have HF:=Lib.hid (holds1_any x y r wr)
   have HE:=Lib.hid (show ((lo:Int)+(hi:Int)) / 2=((m:Nat):Int) by omega)
   have HR:=Lib.hid (show lo≤m∧m < hi by omega)
   rw [hm,show b=b from rfl] at c1 c2
   clear hR2 hml hb
   by_cases hy:y < r
   ·have hc:cmpI y r=-1:=by unfold cmpI;rw [if_pos hy]
    rw [hc] at HF
    have HX:=Lib.hid (HX1.out hy)
    clear hc hy HX1 HX2 hm
    go_wp2_with (go_at_fn 323;refine HF.out.mono ?_;rintro e w1 ⟨rfl,hb1⟩;have HB1:=Lib.hid (HW.out.trans (hb1.mono HW.out.size));clear hb1)
    go_roundw
    case rel=>exact ⟨m+1,hi,by rw [HE.out];go_num,rfl,by have:=HR.out;omega,hin,HX,H2,HB1⟩
    case measure=>rw [HE.out];have:=HR.out;simp [intOf];omega
   ·obtain ⟨z,hz,hz0⟩:∃z,cmpI y r=z∧¬z < 0:=⟨_,rfl,by rw [cmp_neg];exact hy⟩
    rw [hz] at HF
    have HX:=Lib.hid (HX2.out hy)
    clear hz hy HX1 HX2 hm
    go_wp2_with (go_at_fn 323;refine HF.out.mono ?_;rintro e w1 ⟨rfl,hb1⟩;have HB1:=Lib.hid (HW.out.trans (hb1.mono HW.out.size));clear hb1)
    go_roundw
    case rel=>exact ⟨lo,m,rfl,by rw [HE.out],HR.out.1,by have:=HR.out;omega,H1,HX,HB1⟩
    case measure=>rw [HE.out];have:=HR.out;simp [intOf];omega
  ·have he:hi=lo:=by omega
   subst he
   have HC:=Lib.hid (show Cut l r hi from ⟨by have:=HL.out;omega,H1.out,H2.out⟩)
   by_cases hn:hi < n
   ·have hml:hi < l.length:=by rw [HL.out];exact hn
    have hR2:=HA.out.below HW.out
    obtain ⟨b,o,rfl,hb⟩:=rd_form_rg hR2 (by omega)
    obtain ⟨c1,c2⟩:=rd_rg hR2 hml
    generalize l[hi]=q at c1 c2
    obtain ⟨x,y⟩:=q
    dsimp only at c1 c2
    have HF:=Lib.hid (holds1_any x y r wr)
    generalize cmpI y r=z at HF
    clear hR2 hml hb
    go_wp2_with (go_at_fn 323;refine HF.out.mono ?_;rintro e w1 ⟨rfl,hb1⟩;have HB1:=Lib.hid (HW.out.trans (hb1.mono HW.out.size));clear hb1)
    go_ret2
    exact ⟨hi,_,rfl,HC.out,HB1.out⟩
   ·go_wp2_with fail
    go_ret2
    exact ⟨hi,_,rfl,HC.out,HW.out⟩
theorem cut_has {l:List Rg} (hN:Nm l) {r:Int} {k:Nat} (h:Cut l r k):has l r=if hk:k < l.length then decide (l[k].1≤r) else false:=by
 obtain ⟨h1,h2,h3⟩:=h
 rw [hN.has]
 by_cases hk:k < l.length
 ·rw [dif_pos hk,Bool.eq_iff_iff,decide_eq_true_eq,anyIn_iff]
  constructor
  ·rintro ⟨q,hq,q1,q2⟩
   obtain ⟨t,ht,rfl⟩:=List.getElem_of_mem hq
   rcases Nat.lt_trichotomy t k with h4 | h4 | h4
   ·have:=h2 t ht h4;omega
   ·subst h4;exact q1
   ·have:=List.pairwise_iff_getElem.1 hN.gap k t hk ht h4
    have:=h3 k hk (Nat.le_refl _)
    omega
  ·intro h4
   exact ⟨_,List.getElem_mem hk,h4,h3 k hk (Nat.le_refl _)⟩
 ·rw [dif_neg hk,Bool.eq_false_iff,Ne,anyIn_iff]
  rintro ⟨q,hq,q1,q2⟩
  obtain ⟨t,ht,rfl⟩:=List.getElem_of_mem hq
  have:=h2 t ht (by omega)
  omega
set_option maxHeartbeats 2000000 in
theorem holds_any (A:Option Addr) (l:List Rg) (n c:Nat) (r:Int) (w:World) (ha:ArgR w A n l) (hN:Nm l) :
  Calls Tryz.prog 312 #[.slice A n c,.int .i32 r] w (Ret w (.bool (has l r))):=by
 have HB:=Lib.hid (bsf_any A l n c r w ha.rd ha.len hN (by have:=ha.sm;omega))
 have HA:=Lib.hid ha;have HN:=Lib.hid hN
 clear ha hN
 go_enter Tryz.func312,Tryz.ntmps312
 go_wp2_with fail
 refine HB.out.mono ?_
 rintro e w1 ⟨k,b,rfl,hc,hb⟩
 have HE:=Lib.hid (cut_has HN.out hc)
 have HBB:=Lib.hid hb
 have HK:=Lib.hid hc.1
 by_cases hk:k < n
 ·have hkl:k < l.length:=by rw [HA.out.len];exact hk
  have hR2:=HA.out.rd.below hb
  obtain ⟨b',o,rfl,_⟩:=rd_form_rg hR2 (by omega)
  obtain ⟨c1,c2⟩:=rd_rg hR2 hkl
  have HE2:=Lib.hid (HE.out.trans (dif_pos hkl))
  clear hc hb hR2 HB
  generalize l[k]=q at c1 c2 HE2
  obtain ⟨x,y⟩:=q
  dsimp only at c1 c2 HE2
  clear hkl
  go_wp2_with fail
  go_ret
  exact ⟨ret_bool (by rw [HE2.out]),HBB.out⟩
 ·have HE2:=Lib.hid (HE.out.trans (dif_neg (by rw [HA.out.len];exact hk)))
  clear hc hb HB
  go_wp2_with fail
  go_ret
  exact ⟨ret_bool (by rw [HE2.out]),HBB.out⟩
set_option maxHeartbeats 2000000 in
theorem member_any (A1 A2 A3:Option Addr) (n1 c1 n2 c2 n3 c3:Nat) (a:St) (X:ByteArray) (x:Tx) (hX:X.toList=x) (r:Int) (w:World) (h:Has3 w A1 n1 A2 n2 A3 n3 a) (hN:NmS a) :
  Calls Tryz.prog 311 #[.agg #[.slice A1 n1 c1,.slice A2 n2 c2,.slice A3 n3 c3],.string X,.int .i32 r] w (Ret w (.bool (has a.m r != isIn a.o x))):=by
 obtain ⟨W0,hW0⟩:∃W0,W0=w.alloc (.cells #[.slice A1 n1 c1,.slice A2 n2 c2,.slice A3 n3 c3] 39):=⟨_,rfl⟩
 obtain ⟨g,hg⟩:∃g,g=w.heap.size:=⟨_,rfl⟩
 have hb0:Below w.heap.size w W0:=by rw [hW0];exact (Below.refl _ _).alloc (Nat.le_refl _) _
 have k0:BlkS W0 g (.slice A1 n1 c1) (.slice A2 n2 c2) (.slice A3 n3 c3):=by rw [hW0,hg];exact BlkS.new w _ _ _
 have h0:=h.next hb0
 have HBS:=Lib.hid (bs_any A3 a.o n3 c3 X x hX W0 h0.o.rd h0.o.len hN.up (by have:=h0.o.sm;omega))
 have HH:=Lib.hid (show ∀q,Calls Tryz.prog 312 #[.slice A2 n2 c2,.int .i32 r] (W0.drewN q) (Ret (W0.drewN q) (.bool (has a.m r))) from fun q=>holds_any A2 a.m n2 c2 r (W0.drewN q) (h0.m.next (below_drewN (Below.refl _ _) q)) hN.m)
 have d1:∀q,(W0.drewN q).cell? ⟨g,1,none⟩=some (.slice A2 n2 c2):=fun q=>k0.c1
 have d2:=k0.c2
 have HW:=Lib.hid hW0;have HG:=Lib.hid hg;have HB0:=Lib.hid hb0
 clear h hX hW0 hg hb0 k0 h0
 generalize isIn a.o x=p at HBS ⊢
 generalize has a.m r=s at HH ⊢
 go_enter Tryz.func311,Tryz.ntmps311
 go_wp2_with fail
 rw [←HW.out,←HG.out]
 go_wp2_with fail
 refine HBS.out.mono ?_
 rintro e w1 ⟨⟨k,rfl⟩,q,rfl⟩
 have e1:=d1 q
 clear d1 d2
 go_wp2_with fail
 refine (HH.out q).mono ?_
 rintro e w2 ⟨rfl,hb2⟩
 have HB2:=Lib.hid (HB0.out.trans ((below_drewN (Below.refl _ _) q).trans (hb2.mono HB0.out.size)))
 clear hb2 e1
 go_wp2_with fail
 go_ret
 exact ⟨ret_bool (by cases s <;> cases p <;> rfl),HB2.out⟩
theorem st_eq (a b:St):decide (a=b)=(eqL a.s b.s && eqL a.m b.m && decide (a.o=b.o)):=by
 obtain ⟨a1,a2,a3⟩:=a
 obtain ⟨b1,b2,b3⟩:=b
 unfold eqL
 rw [Bool.eq_iff_iff]
 simp [and_assoc]
end Go.Proofs.YtkgeiokckfpjlaaGreatDoor.Sset
