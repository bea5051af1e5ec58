/-
  Texts of stage 7, part 13.
-/
import Derived.Deep.RegionHeld3
import Derived.Test.YtegdbmbenjnacaaGreatR3
import Derived.Test.YtegdbmbenjnacaaGreatR10
namespace Go.Proofs.YtegdbmbenjnacaaGreat.Sset
open Go.RowKit
open Utf (Rd Blk wpList_append_rd own_ne)
open Rset
set_option maxRecDepth 100000
def BlkS (w:World) (g:Nat) (v1 v2 v3:Value):Prop:=Blk w g 74 [v1,v2,v3]
section
variable {w w':World} {g:Nat} {v1 v2 v3:Value}
theorem BlkS.c0 (h:BlkS w g v1 v2 v3):w.cell? ⟨g,0,none⟩=some v1:=Blk.cell h 0
theorem BlkS.c1 (h:BlkS w g v1 v2 v3):w.cell? ⟨g,1,none⟩=some v2:=Blk.cell h 1
theorem BlkS.c2 (h:BlkS w g v1 v2 v3):w.cell? ⟨g,2,none⟩=some v3:=Blk.cell h 2
theorem BlkS.fr (h:BlkS w g v1 v2 v3) (i:Nat):w.frozen? ⟨g,i,none⟩=false:=Blk.frozen h i
theorem BlkS.lt (h:BlkS w g v1 v2 v3):g < w.heap.size:=Blk.lt h
theorem BlkS.next (h:BlkS w g v1 v2 v3) (hb:Below w.heap.size w w'):BlkS w' g v1 v2 v3:=Blk.below h hb h.lt
theorem BlkS.new (w:World) (v1 v2 v3:Value):BlkS (w.alloc (.cells #[v1,v2,v3] 74)) w.heap.size v1 v2 v3:=Blk.new w _ [v1,v2,v3]
theorem BlkS.alloc (h:BlkS w g v1 v2 v3) (o:Obj):BlkS (w.alloc o) g v1 v2 v3:=Blk.alloc h o
theorem BlkS.put (h:BlkS w g v1 v2 v3) (a b c:Value):BlkS (((w.setCell ⟨g,0,none⟩ a).setCell ⟨g,1,none⟩ b).setCell ⟨g,2,none⟩ c) g a b c:=((Blk.set_ h 0 a).set_ 1 b).set_ 2 c
theorem BlkS.ret {fn:Func} {p:Tmp} {R:Ending→World→Prop} {a:Act} (h:BlkS w g v1 v2 v3) (hr:fn.results=#[.cell p 74]) (hp:a.tmps.getD p undef=.pointer (some ⟨g,0,none⟩)) (hd:a.defers=[]) (hR:R (.returned (.agg #[v1,v2,v3])) w):bodyPost Tryz.prog fn R .ret a w :=
 bodyPost_ret (results_cell_row hr a.tmps w g 74 [v1,v2,v3].toArray (0,0) _ hp h Tryz.underlying74 rfl (by kernel_rfl)) hd hR
end
structure Mid (w w':World) (g:Nat):Prop where
 bel:Below g w w'
 blk:∃a b c,BlkS w' g a b c
section
variable {w w' w'':World} {g:Nat}
theorem grown_put (w:World) (g:Nat) (a b c:Value):w.grownBy (((w.setCell ⟨g,0,none⟩ a).setCell ⟨g,1,none⟩ b).setCell ⟨g,2,none⟩ c) (some g) :=
 Utf.grown_set (Utf.grown_set (Utf.grown_set (World.grownBy.refl w _) 0 a) 1 b) 2 c
theorem own_putS {base size n:Nat} {e:TypeId} {v v1 v2 v3:Value} {xs:List Value} (h:w.ownsRow base e size v n xs) (hz:BlkS w g v1 v2 v3) (hne:e≠74) (a b c:Value):(((w.setCell ⟨g,0,none⟩ a).setCell ⟨g,1,none⟩ b).setCell ⟨g,2,none⟩ c).ownsRow base e size v n xs :=
 h.kept (grown_put w g a b c) (.inr (own_ne h hz hne))
theorem OwnS.of {u:World} {v1 v2 v3 z0 z1 z2:Value} {a:St} {B1 B2 B3:Nat} (hz:BlkS u g z0 z1 z2) (h1:u.ownsRow B1 141 2 v1 a.s.length (rgs a.s)) (h2:u.ownsRow B2 141 2 v2 a.m.length (rgs a.m)) (h3:u.ownsRow B3 9 1 v3 a.o.length (txs a.o))
  (hb:Below w.heap.size w u) (hg:w.heap.size≤g) (k1:w.heap.size≤B1) (k2:w.heap.size≤B2) (k3:w.heap.size≤B3) :
  OwnS w a (.returned (.agg #[v1,v2,v3])) (((u.setCell ⟨g,0,none⟩ v1).setCell ⟨g,1,none⟩ v2).setCell ⟨g,2,none⟩ v3) :=
 ⟨v1,v2,v3,rfl,own_mono (own_putS h1 hz (by decide) _ _ _) k1,own_mono (own_putS h2 hz (by decide) _ _ _) k2,own_mono (own_putS h3 hz (by decide) _ _ _) k3,
  ((hb.setCell (p:=⟨g,0,none⟩) hg v1).setCell (p:=⟨g,1,none⟩) hg v2).setCell (p:=⟨g,2,none⟩) hg v3⟩
theorem below_drewl {u u':World} (h:Below u.drew.heap.size u.drew u'):Below u.heap.size u u':=⟨h.os,h.tape,h.output,h.size,h.block⟩
end
set_option maxHeartbeats 4000000 in
theorem longer_any (A:Option Addr) (n c:Nat) (l:List Tx) (w:World) (h:ArgT w A n l) :
  Calls Tryz.prog 104 #[.slice A n c] w (OwnT w.heap.size w ((rise l).filter okT)):=by
 obtain ⟨g,hg⟩:∃g,g=w.heap.size:=⟨_,rfl⟩
 obtain ⟨W1,hW1⟩:∃W1,W1=w.alloc (.cells #[.slice A n c] 23):=⟨_,rfl⟩
 have b1:Blk W1 g 23 [.slice A n c]:=by rw [hW1,hg];exact Blk.new w _ _
 have hbw:Below g w W1:=by rw [hW1,hg];exact (Below.refl _ _).alloc (Nat.le_refl _) _
 have HR:=Lib.hid (rising1_any g 0 n c A l W1 b1.lt (b1.cell 0) (h.next (hg ▸ hbw)))
 have HBW:=Lib.hid hbw;have HW1:=Lib.hid hW1;have HG:=Lib.hid hg
 have HS:=Lib.hid (short_rise h.short)
 have HLN:=Lib.hid (show (rise l).length≤1073741824 from Nat.le_trans (rise_len _) (by have:=h.len;have:=h.sm;omega))
 clear h hW1 b1 hbw hg
 rw [←HG.out]
 go_enter Tryz.func104,Tryz.ntmps104
 go_wp2_with fail
 rw [←HW1.out,←HG.out]
 refine HR.out.mono ?_
 rintro e w2 ⟨v3,rfl,o3,hb2⟩
 have HB2:=Lib.hid hb2
 have HD:=Lib.hid (del_any W1.heap.size _ v3 _ w2 o3 hb2.size HS.out (by have:=HLN.out;omega))
 clear hb2 o3 HR
 go_wp2_with fail
 refine HD.out.mono ?_
 rintro e w3 ⟨v4,rfl,o4,hb3⟩
 have hgs:g≤W1.heap.size:=by have:=HBW.out.size;have:=HG.out;omega
 have HB3:=Lib.hid (HBW.out.trans ((HB2.out.trans hb3).mono hgs))
 have HO4:=Lib.hid (own_mono o4 hgs)
 clear o4 hb3 HD
 go_wp2_with fail
 go_ret
 exact ⟨_,rfl,HO4.out,HB3.out⟩
end Go.Proofs.YtegdbmbenjnacaaGreat.Sset
namespace Go.Proofs.YtegdbmbenjnacaaGreat.Sset
open Go.RowKit
open Utf (Rd Blk vld vld_iff)
open Rset
set_option maxRecDepth 100000
theorem st_eq (a b:St):decide (a=b)=(eqL a.s b.s && eqL a.m b.m && decide (a.o=b.o)):=by
 obtain ⟨a1,a2,a3⟩:=a
 obtain ⟨b1,b2,b3⟩:=b
 unfold eqL
 rw [Bool.eq_iff_iff]
 simp [and_assoc]
end Go.Proofs.YtegdbmbenjnacaaGreat.Sset
