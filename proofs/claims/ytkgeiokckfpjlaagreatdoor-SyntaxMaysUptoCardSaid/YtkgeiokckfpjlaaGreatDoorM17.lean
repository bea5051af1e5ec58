/-
  Texts of stage 7, part 17.
-/
import Derived.Deep.RegionLaw
import Derived.Deep.DeepCutAuto
import Derived.Test.YtkgeiokckfpjlaaGreatDoorM14
import Derived.Test.YtkgeiokckfpjlaaGreatDoorM16
namespace Go.Proofs.YtkgeiokckfpjlaaGreatDoor.Sset
open Go.RowKit
open Utf (Rd Blk wpList_append_rd own_ne)
open Rset
set_option maxRecDepth 100000
structure Begun (w W:World) (B gs:Nat) (v1 v2:Value) (l1 l2:List Rg):Prop where
 blk:BlkS W gs v1 v2 (.slice none 0 0)
 big:B≤gs
 o1:W.ownsRow B 48 2 v1 l1.length (rgs l1)
 o2:W.ownsRow B 48 2 v2 l2.length (rgs l2)
 bel:Below B w W
structure MI (w wr:World) (BL B gs:Nat) (v1 v2 vo:Value) (l1 l2:List Rg) (vL:Value) (nL:Nat) (L O:List Tx):Prop where
 blk:BlkS wr gs v1 v2 vo
 big:w.heap.size≤gs
 gl:gs < BL
 o1:wr.ownsRow w.heap.size 48 2 v1 l1.length (rgs l1)
 o2:wr.ownsRow w.heap.size 48 2 v2 l2.length (rgs l2)
 oo:wr.ownsRow B 9 1 vo O.length (txs O)
 lo:wr.ownsRow BL 9 1 vL nL (txs L)
 ll:∀k,vL.ownBlock=some k→k < B
 bel:Below w.heap.size w wr
 bb:w.heap.size≤B
 bs:B≤wr.heap.size
theorem MI.next {w wr w':World} {BL B gs:Nat} {v1 v2 vo vL:Value} {l1 l2:List Rg} {nL:Nat} {L O:List Tx} (h:MI w wr BL B gs v1 v2 vo l1 l2 vL nL L O) (hb:Below wr.heap.size wr w'):MI w w' BL B gs v1 v2 vo l1 l2 vL nL L O :=
 ⟨h.blk.next hb,h.big,h.gl,own_below h.o1 hb,own_below h.o2 hb,own_below h.oo hb,own_below h.lo hb,h.ll,h.bel.trans (hb.mono (Nat.le_trans h.bb h.bs)),h.bb,Nat.le_trans h.bs hb.size⟩
theorem own_apart {w:World} {b1 b2:Nat} {e1 e2:TypeId} {s1 s2 n1 n2:Nat} {v1 v2:Value} {xs1 xs2:List Value} (h1:w.ownsRow b1 e1 s1 v1 n1 xs1) (h2:w.ownsRow b2 e2 s2 v2 n2 xs2) (hne:e1≠e2):v1.ownBlock=none∨v1.ownBlock≠v2.ownBlock:=by
 rcases h1.2 with ⟨rfl,_⟩ | ⟨g1,cap1,cur1,rfl,_,hh1,_⟩
 ·exact .inl rfl
 ·right
  intro e
  rcases h2.2 with ⟨rfl,_⟩ | ⟨g2,cap2,cur2,rfl,_,hh2,_⟩
  ·cases e
  ·have e:g1=g2:=Option.some.inj e
   subst e
   rw [hh1] at hh2
   injection hh2 with hh2
   injection hh2 with _ hh2 _
   exact hne hh2
theorem own_one {w:World} {base size n:Nat} {e:TypeId} {v v1 v2 v3:Value} {xs:List Value} {g:Nat} (h:w.ownsRow base e size v n xs) (hz:BlkS w g v1 v2 v3) (hne:e≠39) (i:Nat) (u:Value):(w.setCell ⟨g,i,none⟩ u).ownsRow base e size v n xs :=
 h.kept (Utf.grown_set (World.grownBy.refl w (some g)) i u) (.inr (own_ne h hz hne))
theorem MI.app {w u w':World} {BL B gs:Nat} {v1 v2 vo v7 vL:Value} {l1 l2:List Rg} {nL:Nat} {L O:List Tx} {x:Tx} (h:MI w u BL B gs v1 v2 vo l1 l2 vL nL L O) (hg:u.grownBy w' vo.ownBlock) (ho:w'.ownsRow B 9 1 v7 (O.length+1) (txs O++[encStr x])) :
  BlkS w' gs v1 v2 vo∧MI w (w'.setCell ⟨gs,2,none⟩ v7) BL B gs v1 v2 v7 l1 l2 vL nL L (O++[x]):=by
 have hk:BlkS w' gs v1 v2 vo:=Blk.grown h.blk hg fun e=>own_ne h.oo h.blk (by decide) e.symm
 have k1:=h.o1.kept hg (own_apart h.o1 h.oo (by decide))
 have k2:=h.o2.kept hg (own_apart h.o2 h.oo (by decide))
 have k3:=h.lo.kept hg (by
  cases hx:vL.ownBlock with
  | none=>exact .inl rfl
  | some k=>exact .inr fun e=>by have h1:=h.ll k hx;have h2:=(h.oo.lt k e.symm).1;omega)
 refine ⟨hk,Blk.set_ hk 2 v7,h.big,h.gl,own_one k1 hk (by decide) 2 v7,own_one k2 hk (by decide) 2 v7,?_,own_one k3 hk (by decide) 2 v7,h.ll,(h.bel.grown hg (Nat.le_trans h.bb h.bs) (fun k hk=>Nat.le_trans h.bb (h.oo.lt k hk).1)).setCell (p:=⟨gs,2,none⟩) h.big v7,h.bb,by have:=hg.size;have:=h.bs;simp;omega⟩
 have e:txs (O++[x])=txs O++[encStr x]:=txs_append O [x]
 rw [e,List.length_append]
 exact own_one ho hk (by decide) 2 v7
theorem putB {B B' g:Nat} {w u:World} (hb:Below B w u) (hB:B≤B') (a b c:Value) (hg:g=B':=by rfl):Below B w (((u.setCell ⟨g,0,none⟩ a).setCell ⟨g,1,none⟩ b).setCell ⟨g,2,none⟩ c):=by
 subst hg
 exact ((hb.setCell (p:=⟨g,0,none⟩) hB a).setCell (p:=⟨g,1,none⟩) hB b).setCell (p:=⟨g,2,none⟩) hB c
set_option maxHeartbeats 8000000 in
theorem smeet_any (A1 A2 A3 B1 B2 B3:Option Addr) (n1 c1 n2 c2 n3 c3 m1 d1 m2 d2 m3 d3:Nat) (a b:St) (w:World) (h:Has3 w A1 n1 A2 n2 A3 n3 a) (k:Has3 w B1 m1 B2 m2 B3 m3 b) (hN:NmS a) (kN:NmS b) (hsm:n3+m3≤1073741824) :
  Calls Tryz.prog 300 #[.agg #[.slice A1 n1 c1,.slice A2 n2 c2,.slice A3 n3 c3],.agg #[.slice B1 m1 d1,.slice B2 m2 d2,.slice B3 m3 d3]] w (OwnS w (meetS a b)):=by
 obtain ⟨i0,hi,hz0,hz1,hz2⟩:=info_parts infoStr
 obtain ⟨g,hg⟩:∃g,g=w.heap.size:=⟨_,rfl⟩
 obtain ⟨W0,hW0⟩:∃W0,W0=((w.alloc (.cells #[.slice A1 n1 c1,.slice A2 n2 c2,.slice A3 n3 c3] 39)).alloc (.cells #[.slice B1 m1 d1,.slice B2 m2 d2,.slice B3 m3 d3] 39)).alloc (.cells #[.slice none 0 0,.slice none 0 0,.slice none 0 0] 39):=⟨_,rfl⟩
 have hb0:Below w.heap.size w W0:=by rw [hW0];exact (((Below.refl _ _).alloc (Nat.le_refl _) _).alloc (by simp) _).alloc (by simp;omega) _
 have k0:BlkS W0 g (.slice A1 n1 c1) (.slice A2 n2 c2) (.slice A3 n3 c3):=by rw [hW0,hg];exact ((BlkS.new w _ _ _).alloc _).alloc _
 have k1:BlkS W0 (g+1) (.slice B1 m1 d1) (.slice B2 m2 d2) (.slice B3 m3 d3):=by
  have:=(BlkS.new (w.alloc (.cells #[.slice A1 n1 c1,.slice A2 n2 c2,.slice A3 n3 c3] 39)) (.slice B1 m1 d1) (.slice B2 m2 d2) (.slice B3 m3 d3)).alloc (.cells #[.slice none 0 0,.slice none 0 0,.slice none 0 0] 39)
  rw [hW0,hg];simpa using this
 have k2:BlkS W0 (g+2) (.slice none 0 0) (.slice none 0 0) (.slice none 0 0):=by
  have:=BlkS.new ((w.alloc (.cells #[.slice A1 n1 c1,.slice A2 n2 c2,.slice A3 n3 c3] 39)).alloc (.cells #[.slice B1 m1 d1,.slice B2 m2 d2,.slice B3 m3 d3] 39)) (.slice none 0 0) (.slice none 0 0) (.slice none 0 0)
  rw [hW0,hg];simpa using this
 have H:=Lib.hid (h.next hb0);have K:=Lib.hid (k.next hb0)
 have HW:=Lib.hid hW0;have HG:=Lib.hid hg;have HB0:=Lib.hid hb0;have HK0:=Lib.hid k0;have HK1:=Lib.hid k1;have HK2:=Lib.hid k2
 have HN1:=Lib.hid (show ∀u,Below W0.heap.size W0 u→Calls Tryz.prog 309 #[.slice A1 n1 c1,.slice B1 m1 d1] u (Own u (meet a.s b.s)) from fun u hu=>by
  have k:=H.out.s.next hu;have k':=K.out.s.next hu;exact Rset.meet_any A1 B1 a.s b.s n1 m1 c1 d1 u k.rd k'.rd k.len k'.len k.fit k'.fit (by have:=k.sm;have:=k'.sm;omega))
 have HN2:=Lib.hid (show ∀u,Below W0.heap.size W0 u→Calls Tryz.prog 309 #[.slice A2 n2 c2,.slice B2 m2 d2] u (Own u (meet a.m b.m)) from fun u hu=>by
  have k:=H.out.m.next hu;have k':=K.out.m.next hu;exact Rset.meet_any A2 B2 a.m b.m n2 m2 c2 d2 u k.rd k'.rd k.len k'.len k.fit k'.fit (by have:=k.sm;have:=k'.sm;omega))
 have HKP:=Lib.hid (show ∀u,Below W0.heap.size W0 u→u.cell? ⟨g,0,none⟩=some (.slice A1 n1 c1)∧u.cell? ⟨g,1,none⟩=some (.slice A2 n2 c2)∧u.cell? ⟨g+1,0,none⟩=some (.slice B1 m1 d1)∧u.cell? ⟨g+1,1,none⟩=some (.slice B2 m2 d2)∧Below W0.heap.size W0 u from fun u hu =>
  ⟨(HK0.out.next hu).c0,(HK0.out.next hu).c1,(HK1.out.next hu).c0,(HK1.out.next hu).c1,hu⟩)
 have x0:=k0.c0;have x1:=k0.c1;have y0:=k1.c0;have y1:=k1.c1
 clear h k hg hW0 hb0 k0 k1 k2
 go_enter Tryz.func300,Tryz.ntmps300
 go_wp2_with fail
 rw [←HW.out,←HG.out]
 go_cut [5] (fun s5 W=>∃(gs:Nat) (P1:Option Addr) (k1:Nat) (P2:Option Addr) (k2:Nat),s5=.pointer (some ⟨gs,0,none⟩)∧Hid (Begun W0 W W0.heap.size gs (.slice P1 (meet a.s b.s).length k1) (.slice P2 (meet a.m b.m).length k2) (meet a.s b.s) (meet a.m b.m)))
 case first =>
  go_region_held3 (fun w'=>w'.cell? ⟨g,0,none⟩=some (.slice A1 n1 c1)∧w'.cell? ⟨g,1,none⟩=some (.slice A2 n2 c2)∧w'.cell? ⟨g+1,0,none⟩=some (.slice B1 m1 d1)∧w'.cell? ⟨g+1,1,none⟩=some (.slice B2 m2 d2)∧Below W0.heap.size W0 w')
   (first | assumption | exact HKP.out _ (below_drewN (Below.refl _ _) 1) | exact HKP.out _ HX2.out | exact HKP.out _ (HX2.out.alloc HX2.out.size _) | exact HKP.out _ (putB HX2.out (Nat.le_refl _) _ _ _) | exact HKP.out _ (putB HX2.out HX1.out.size _ _ _) | exact HKP.out _ HX1.out | exact HKP.out _ (HX1.out.alloc HX1.out.size _) | exact HKP.out _ ((below_drewN (Below.refl _ _) 1).alloc (Nat.le_refl _) _))
   (first
   | (
    go_at_call 309;(with_reducible refine (HN1.out _ (by first | assumption | exact (by assumption:_∧_∧_∧_∧_).2.2.2.2)).mono ?_);rintro e w4 ⟨z1,rfl,p1,q1⟩;obtain ⟨P1,k1,rfl,_,_,_⟩:=own_form p1;have HP1:=Lib.hid p1;have HQ1:=Lib.hid q1;have HX1:=Lib.hid (Below.trans (by first | assumption | exact (by assumption:_∧_∧_∧_∧_).2.2.2.2) (q1.mono (Below.size (by first | assumption | exact (by assumption:_∧_∧_∧_∧_).2.2.2.2))));
    (try (have HZA:=Lib.hid (show BlkS w4 W0.heap.size (.slice none 0 0) (.slice none 0 0) (.slice none 0 0) from BlkS.next (BlkS.new W0.drew (.slice none 0 0) (.slice none 0 0) (.slice none 0 0)) q1))))
   | (
    go_at_call 309;(with_reducible refine (HN2.out _ (by first | assumption | exact (by assumption:_∧_∧_∧_∧_).2.2.2.2)).mono ?_);rintro e w5 ⟨z2,rfl,p2,q2⟩;obtain ⟨P2,k2,rfl,_,_,_⟩:=own_form p2;have HP2:=Lib.hid p2;have HQ2:=Lib.hid q2;have HX2:=Lib.hid (Below.trans (by first | assumption | exact (by assumption:_∧_∧_∧_∧_).2.2.2.2) (q2.mono (Below.size (by first | assumption | exact (by assumption:_∧_∧_∧_∧_).2.2.2.2))));
    (
     first
     | (have HZB:=Lib.hid (show BlkS w5 W0.heap.size (.slice none 0 0) (.slice none 0 0) (.slice none 0 0) from BlkS.next HZA.out q2);have t0:=HZB.out.c0;have t1:=HZB.out.c1;have t2:=HZB.out.c2;have f0:=HZB.out.fr 0;have f1:=HZB.out.fr 1;have f2:=HZB.out.fr 2)
     | (have HZC:=Lib.hid (show BlkS w5 w4.heap.size (.slice none 0 0) (.slice none 0 0) (.slice none 0 0) from BlkS.next (BlkS.new w4 (.slice none 0 0) (.slice none 0 0) (.slice none 0 0)) q2);have t0:=HZC.out.c0;have t1:=HZC.out.c1;have t2:=HZC.out.c2;have f0:=HZC.out.fr 0;have f1:=HZC.out.fr 1;have f2:=HZC.out.fr 2)
     | skip)))
  all_goals (go_wp2_with fail;go_meet)
  all_goals first
   | exact ⟨_,_,_,_,_,rfl,Lib.hid ⟨HZB.out.put _ _ _,Nat.le_refl _,own_mono (own_putS (own_below HP1.out HQ2.out) HZB.out (by decide) _ _ _) (by simp),own_mono (own_putS HP2.out HZB.out (by decide) _ _ _) HX1.out.size,putB HX2.out (Nat.le_refl _) _ _ _⟩⟩
   | exact ⟨_,_,_,_,_,rfl,Lib.hid ⟨HZC.out.put _ _ _,HX1.out.size,own_mono (own_putS (own_below (HP1.out.alloc _) HQ2.out) HZC.out (by decide) _ _ _) (Nat.le_refl _),own_mono (own_putS HP2.out HZC.out (by decide) _ _ _) (Nat.le_trans HX1.out.size (by simp)),putB HX2.out HX1.out.size _ _ _⟩⟩
   | exact ⟨_,_,_,_,_,rfl,Lib.hid ⟨BlkS.new w5 _ _ _,HX2.out.size,own_mono ((own_below HP1.out HQ2.out).alloc _) (Nat.le_refl _),own_mono (HP2.out.alloc _) HX1.out.size,HX2.out.alloc HX2.out.size _⟩⟩
 case rest =>
  obtain ⟨gs,P1,k1,P2,k2,rfl,HBG⟩:=hcut
  have HBL:=Lib.hid HBG.out.bel
  have x2:=(HK0.out.next HBL.out).c2
  have y2:=(HK1.out.next HBL.out).c2
  obtain ⟨W2,hW2⟩:∃W2,W2=wc.alloc (.cells #[.slice A3 n3 c3,.slice B3 m3 d3] 32):=⟨_,rfl⟩
  have hb2:Below wc.heap.size wc W2:=by rw [hW2];exact (Below.refl _ _).alloc (Nat.le_refl _) _
  have kb:Blk W2 wc.heap.size 32 [.slice A3 n3 c3,.slice B3 m3 d3]:=by rw [hW2];exact Blk.new wc _ [.slice A3 n3 c3,.slice B3 m3 d3]
  have HBL2:=Lib.hid (HBL.out.trans (hb2.mono HBL.out.size))
  have HR:=Lib.hid (rising2_any wc.heap.size 0 n3 c3 m3 d3 A3 B3 a.o b.o W2 kb.lt (kb.cell 0) (kb.cell 1) (H.out.o.next HBL2.out) (K.out.o.next HBL2.out))
  have HW2:=Lib.hid hW2;have HCB:=Lib.hid hb2
  have HLN:=Lib.hid (show (rise (a.o++b.o)).length≤1073741824 from Nat.le_trans (rise_len _) (by rw [List.length_append];have:=H.out.o.len;have:=K.out.o.len;omega))
  have HSH:=Lib.hid (short_rise (short_append H.out.o.short K.out.o.short))
  have HNE:=Lib.hid (show ∀t∈rise (a.o++b.o),t≠[] from fun t ht=>okT_ne (by
   rcases List.mem_append.1 ((rise_mem _ t).1 ht) with h1 | h1
   ·exact hN.ok t h1
   ·exact kN.ok t h1))
  have HOE:=Lib.hid (show (meetS a b).o=(rise (a.o++b.o)).filter (fun t=>(memS a t && memS b t) != has (meet a.m b.m) (fst t)) from rfl)
  have HSE:=Lib.hid (show (meetS a b).s=meet a.s b.s∧(meetS a b).m=meet a.m b.m from ⟨rfl,rfl⟩)
  generalize rise (a.o++b.o)=L at *
  clear hW2 hb2 kb x0 x1 y0 y1 HN1 HN2 HKP
  go_wp2_with fail
  rw [←HW2.out]
  refine HR.out.mono ?_
  rintro e w2 ⟨vL,rfl,oL,hb3⟩
  obtain ⟨AL,cL,rfl,_,_,rL⟩:=own_form oL
  obtain ⟨N,hNL⟩:∃N,N=L.length:=⟨_,rfl⟩
  rw [←hNL] at oL ⊢
  have HNL:=Lib.hid hNL
  have hN30:=HLN.out
  rw [←hNL] at hN30
  obtain ⟨F,hF⟩:∃F:Tx→Bool,F=fun t=>(memS a t && memS b t) != has (meet a.m b.m) (fst t):=⟨_,rfl⟩
  have HF:=Lib.hid hF
  have HB3:=Lib.hid hb3
  have HB33:=Lib.hid (show Below wc.heap.size wc w2 from HCB.out.trans (hb3.mono HCB.out.size))
  have HST:=Lib.hid (show MI W0 w2 W2.heap.size w2.heap.size gs (.slice P1 (meet a.s b.s).length k1) (.slice P2 (meet a.m b.m).length k2) (.slice none 0 0) (meet a.s b.s) (meet a.m b.m) (.slice AL N cL) N L [] from
   ⟨HBG.out.blk.next HB33.out,HBG.out.big,Nat.lt_of_lt_of_le HBG.out.blk.lt HCB.out.size,own_below HBG.out.o1 HB33.out,own_below HBG.out.o2 HB33.out,World.ownsRow_nil _ _ _ _,oL,fun k hk=>(oL.lt k hk).2,HBL2.out.trans (hb3.mono HBL2.out.size),Nat.le_trans HBL2.out.size hb3.size,Nat.le_refl _⟩)
  clear hb3 oL rL hNL hF x2 y2
  go_wp2_with fail
  go_loopw [28] (fun i wr=>∃(k:Nat) (Ao:Option Addr) (no co:Nat),k≤N∧i=.int .i64 k∧Hid (MI W0 wr W2.heap.size w2.heap.size gs (.slice P1 (meet a.s b.s).length k1) (.slice P2 (meet a.m b.m).length k2) (.slice Ao no co) (meet a.s b.s) (meet a.m b.m) (.slice AL N cL) N L ((L.take k).filter F))) (fun i _=>N - (intOf i).toNat)
  case atStart=>exact ⟨0,none,0,0,Nat.zero_le _,rfl,HST⟩
  case round =>
   obtain ⟨k,Ao,no,co,hk,rfl,HM⟩:=hrel
   by_cases hlt:k < N
   ·have hkl:k < L.length:=by rw [←HNL.out];exact hlt
    have hrd:=Rd.of_own HM.out.lo
    obtain ⟨bl,ol,rfl,hbl⟩:=rd_form_tx hrd (by omega)
    have c0:=rd_tx hrd hkl
    obtain ⟨X,hX⟩:∃X:ByteArray,X=⟨L[k].toArray⟩:=⟨_,rfl⟩
    have hXl:X.toList=L[k]:=by rw [hX,mk_toList]
    have cX:wr.cell? ⟨bl,ol+k,none⟩=some (.string X):=by rw [c0,hX]
    have HFX:=Lib.hid (show F L[k]=(((has a.m (fst L[k]) != isIn a.o L[k]) && (has b.m (fst L[k]) != isIn b.o L[k])) != has (meet a.m b.m) (fst L[k])) by rw [HF.out];rfl)
    have HFT:=Lib.hid (show (L.take (k+1)).filter F=(L.take k).filter F++if F L[k] then [L[k]] else [] by
     rw [List.take_succ_eq_append_getElem hkl,List.filter_append,List.filter_cons,List.filter_nil])
    have HXE:=Lib.hid (show encStr L[k]=.string X by rw [hX])
    have HFI:=Lib.hid (first_any X L[k] hXl (HNE.out _ (List.getElem_mem hkl)) (by have:=HSH.out _ (List.getElem_mem hkl);omega) wr)
    have HX:=Lib.hid hXl
    clear c0 hrd hX hXl
    generalize L[k]=x at *
    clear hkl
    go_wp2_with fail
    refine HFI.out.mono ?_
    rintro e w3 ⟨rfl,hb3⟩
    have HM3:=Lib.hid (HM.out.next hb3)
    have HBW:=Lib.hid HM3.out.bel
    have HSW:=Lib.hid (show ∀u,Below w3.heap.size w3 u→u.cell? ⟨g,0,none⟩=some (.slice A1 n1 c1)∧u.cell? ⟨g,1,none⟩=some (.slice A2 n2 c2)∧u.cell? ⟨g,2,none⟩=some (.slice A3 n3 c3)∧u.cell? ⟨g+1,0,none⟩=some (.slice B1 m1 d1)∧u.cell? ⟨g+1,1,none⟩=some (.slice B2 m2 d2)∧u.cell? ⟨g+1,2,none⟩=some (.slice B3 m3 d3)∧u.cell? ⟨gs,1,none⟩=some (.slice P2 (meet a.m b.m).length k2) from fun u hu=>by
     have ka:=(HK0.out.next HBW.out).next hu
     have kb:=(HK1.out.next HBW.out).next hu
     have ks:=HM3.out.blk.next hu
     exact ⟨ka.c0,ka.c1,ka.c2,kb.c0,kb.c1,kb.c2,ks.c1⟩)
    have HMA:=Lib.hid (show ∀u,Below w3.heap.size w3 u→_ from fun u hu=>member_any A1 A2 A3 n1 c1 n2 c2 n3 c3 a X x HX.out (fst x) u ((H.out.next HBW.out).next hu) hN)
    have HMB:=Lib.hid (show ∀u,Below w3.heap.size w3 u→_ from fun u hu=>member_any B1 B2 B3 m1 d1 m2 d2 m3 d3 b X x HX.out (fst x) u ((K.out.next HBW.out).next hu) kN)
    have HMH:=Lib.hid (show ∀u,Below w3.heap.size w3 u→_ from fun u hu=>holds_any P2 (meet a.m b.m) (meet a.m b.m).length k2 (fst x) u (by
     have hr:=Rd.of_own (own_below HM3.out.o2 hu)
     exact ⟨hr,rfl,(nl_nm _).fit,by have:=nm_len (nl_nm (fun x=>has a.m x && has b.m x));exact Nat.le_trans this (by omega)⟩) (nl_nm _))
    generalize (has a.m (fst x) != isIn a.o x)=p at HMA HFX
    generalize (has b.m (fst x) != isIn b.o x)=q at HMB HFX
    generalize has (meet a.m b.m) (fst x)=r at HMH HFX
    generalize fst x=fx at *
    have HOL:=Lib.hid (show ((L.take k).filter F).length≤1073741824 from Nat.le_trans (List.length_filter_le _ _) (by rw [List.length_take];omega))
    clear hb3 cX HFI
    cases p with
    | true =>
     go_wp2_with fail
     refine wp_region_held_drew (S:=fun u=>u.cell? ⟨g,0,none⟩=some (.slice A1 n1 c1)∧u.cell? ⟨g,1,none⟩=some (.slice A2 n2 c2)∧u.cell? ⟨g,2,none⟩=some (.slice A3 n3 c3)∧u.cell? ⟨g+1,0,none⟩=some (.slice B1 m1 d1)∧u.cell? ⟨g+1,1,none⟩=some (.slice B2 m2 d2)∧u.cell? ⟨g+1,2,none⟩=some (.slice B3 m3 d3)∧u.cell? ⟨gs,1,none⟩=some (.slice P2 (meet a.m b.m).length k2)) (by kernel_rfl) (HSW.out _ (Below.refl _ _).drew) (fun hHeld=>?_)
     refine wpAnyH_take (i:=0) (oi:=_) (v:=?_) rfl (by kernel_rfl) (by kernel_rfl) (by kernel_rfl) (fun _ _ _ h=>h) (Or.inl ⟨by rfl,?_⟩) (by assumption) ?_
     rotate_left
     ·(intro w hSw;(try dsimp only at hSw);(try obtain ⟨s1_,s2_,s3_,s4_,s5_,s6_,s7_⟩:=hSw);go_simp <;> with_reducible rfl)
     simp only [List.getElem_toArray,List.getElem_cons_zero,Act.put,List.setIfInBounds_toArray,List.set_cons_zero,List.set_cons_succ]
     refine wpAnyH_take (i:=1) (oi:=_) (v:=?_) rfl (by kernel_rfl) (by kernel_rfl) (by kernel_rfl) (fun _ _ _ h=>h) (Or.inl ⟨by rfl,?_⟩) (by assumption) ?_
     rotate_left
     ·(intro w hSw;(try dsimp only at hSw);(try obtain ⟨s1_,s2_,s3_,s4_,s5_,s6_,s7_⟩:=hSw);go_simp <;> with_reducible rfl)
     simp only [List.getElem_toArray,List.getElem_cons_succ,List.getElem_cons_zero,Act.put,List.setIfInBounds_toArray,List.set_cons_zero,List.set_cons_succ]
     refine wpAnyH_take (i:=2) (oi:=_) (v:=?_) rfl (by kernel_rfl) (by kernel_rfl) (by kernel_rfl) (fun _ _ _ h=>h) (Or.inl ⟨by rfl,?_⟩) (by assumption) ?_
     rotate_left
     ·(intro w hSw;(try dsimp only at hSw);(try obtain ⟨s1_,s2_,s3_,s4_,s5_,s6_,s7_⟩:=hSw);go_simp <;> with_reducible rfl)
     simp only [List.getElem_toArray,List.getElem_cons_succ,List.getElem_cons_zero,Act.put,List.setIfInBounds_toArray,List.set_cons_zero,List.set_cons_succ]
     refine wpAnyH_take (i:=10) (oi:=_) (v:=?_) rfl (by kernel_rfl) (by kernel_rfl) (by kernel_rfl) (fun _ _ _ h=>h) (Or.inl ⟨by rfl,?_⟩) (by assumption) ?_
     rotate_left
     ·(intro w hSw;(try dsimp only at hSw);(try obtain ⟨s1_,s2_,s3_,s4_,s5_,s6_,s7_⟩:=hSw);go_simp <;> with_reducible rfl)
     simp only [List.getElem_toArray,List.getElem_cons_succ,List.getElem_cons_zero,Act.put,List.setIfInBounds_toArray,List.set_cons_zero,List.set_cons_succ]
     refine wpAnyH_take (i:=11) (oi:=_) (v:=?_) rfl (by kernel_rfl) (by kernel_rfl) (by kernel_rfl) (fun _ _ _ h=>h) (Or.inl ⟨by rfl,?_⟩) (by assumption) ?_
     rotate_left
     ·(intro w hSw;(try dsimp only at hSw);(try obtain ⟨s1_,s2_,s3_,s4_,s5_,s6_,s7_⟩:=hSw);go_simp <;> with_reducible rfl)
     simp only [List.getElem_toArray,List.getElem_cons_succ,List.getElem_cons_zero,Act.put,List.setIfInBounds_toArray,List.set_cons_zero,List.set_cons_succ]
     refine wpAnyH_take (i:=12) (oi:=_) (v:=?_) rfl (by kernel_rfl) (by kernel_rfl) (by kernel_rfl) (fun _ _ _ h=>h) (Or.inl ⟨by rfl,?_⟩) (by assumption) ?_
     rotate_left
     ·(intro w hSw;(try dsimp only at hSw);(try obtain ⟨s1_,s2_,s3_,s4_,s5_,s6_,s7_⟩:=hSw);go_simp <;> with_reducible rfl)
     simp only [List.getElem_toArray,List.getElem_cons_succ,List.getElem_cons_zero,Act.put,List.setIfInBounds_toArray,List.set_cons_zero,List.set_cons_succ]
     refine wpAnyH_ready (rs:=[3]) (by kernel_rfl) (by simp) (AllReadyH.cons rfl (fun K hK=>?_) AllReadyH.nil)
     go_simp
     go_at_call 311
     refine (HMA.out _ (Below.refl _ _).drew).mono ?_
     rintro e w4 ⟨rfl,hb4⟩
     have HB4:=Lib.hid (show Below w3.heap.size w3 w4 from (Below.refl _ _).drew.trans hb4)
     clear hb4
     refine hK.out _ _ (HSW.out _ HB4.out) (fun hHeld2=>?_)
     clear hK K hHeld
     have hHeld:=hHeld2
     clear hHeld2
     refine wpAnyH_take (i:=4) (oi:=_) (v:=?_) rfl (by kernel_rfl) (by kernel_rfl) (by kernel_rfl) (fun _ _ _ h=>h) (Or.inl ⟨by rfl,?_⟩) (by assumption) ?_
     rotate_left
     ·(intro w hSw;(try dsimp only at hSw);(try obtain ⟨s1_,s2_,s3_,s4_,s5_,s6_,s7_⟩:=hSw);go_simp <;> with_reducible rfl)
     simp only [List.getElem_toArray,List.getElem_cons_succ,List.getElem_cons_zero,Act.put,List.setIfInBounds_toArray,List.set_cons_zero,List.set_cons_succ]
     refine wpAnyH_take (i:=5) (oi:=_) (v:=?_) rfl (by kernel_rfl) (by kernel_rfl) (by kernel_rfl) (fun _ _ _ h=>h) (Or.inl ⟨by rfl,?_⟩) (by assumption) ?_
     rotate_left
     ·(intro w hSw;(try dsimp only at hSw);(try obtain ⟨s1_,s2_,s3_,s4_,s5_,s6_,s7_⟩:=hSw);go_simp <;> with_reducible rfl)
     simp only [List.getElem_toArray,List.getElem_cons_succ,List.getElem_cons_zero,Act.put,List.setIfInBounds_toArray,List.set_cons_zero,List.set_cons_succ]
     refine wpAnyH_take (i:=6) (oi:=_) (v:=?_) rfl (by kernel_rfl) (by kernel_rfl) (by kernel_rfl) (fun _ _ _ h=>h) (Or.inl ⟨by rfl,?_⟩) (by assumption) ?_
     rotate_left
     ·(intro w hSw;(try dsimp only at hSw);(try obtain ⟨s1_,s2_,s3_,s4_,s5_,s6_,s7_⟩:=hSw);go_simp <;> with_reducible rfl)
     simp only [List.getElem_toArray,List.getElem_cons_succ,List.getElem_cons_zero,Act.put,List.setIfInBounds_toArray,List.set_cons_zero,List.set_cons_succ]
     refine wpAnyH_take (i:=7) (oi:=_) (v:=?_) rfl (by kernel_rfl) (by kernel_rfl) (by kernel_rfl) (fun _ _ _ h=>h) (Or.inl ⟨by rfl,?_⟩) (by assumption) ?_
     rotate_left
     ·(intro w hSw;(try dsimp only at hSw);(try obtain ⟨s1_,s2_,s3_,s4_,s5_,s6_,s7_⟩:=hSw);go_simp <;> with_reducible rfl)
     simp only [List.getElem_toArray,List.getElem_cons_succ,List.getElem_cons_zero,Act.put,List.setIfInBounds_toArray,List.set_cons_zero,List.set_cons_succ]
     refine wpAnyH_ready (rs:=[8]) (by kernel_rfl) (by simp) (AllReadyH.cons rfl (fun K hK=>?_) AllReadyH.nil)
     go_simp
     go_at_call 311
     refine (HMB.out _ HB4.out).mono ?_
     rintro e w5 ⟨rfl,hb5⟩
     have HB5:=Lib.hid (HB4.out.trans (hb5.mono HB4.out.size))
     clear hb5
     refine hK.out _ _ (HSW.out _ HB5.out) (fun hHeld2=>?_)
     clear hK K hHeld
     have hHeld:=hHeld2
     clear hHeld2
     refine wpAnyH_take (i:=9) (oi:=_) (v:=?_) rfl (by kernel_rfl) (by kernel_rfl) (by kernel_rfl) (fun _ _ _ h=>h) (Or.inl ⟨by rfl,?_⟩) (by assumption) ?_
     rotate_left
     ·(intro w hSw;(try dsimp only at hSw);(try obtain ⟨s1_,s2_,s3_,s4_,s5_,s6_,s7_⟩:=hSw);go_simp <;> with_reducible rfl)
     simp only [List.getElem_toArray,List.getElem_cons_succ,List.getElem_cons_zero,Act.put,List.setIfInBounds_toArray,List.set_cons_zero,List.set_cons_succ]
     refine wpAnyH_ready (rs:=[13]) (by kernel_rfl) (by simp) (AllReadyH.cons rfl (fun K hK=>?_) AllReadyH.nil)
     go_simp
     go_at_call 312
     refine (HMH.out _ HB5.out).mono ?_
     rintro e w6 ⟨rfl,hb6⟩
     have HB6:=Lib.hid (HB5.out.trans (hb6.mono HB5.out.size))
     clear hb6
     refine hK.out _ _ (HSW.out _ HB6.out) (fun hHeld2=>?_)
     clear hK K hHeld
     have hHeld:=hHeld2
     clear hHeld2
     refine wpAnyH_take (i:=14) (oi:=_) (v:=?_) rfl (by kernel_rfl) (by kernel_rfl) (by kernel_rfl) (fun _ _ _ h=>h) (Or.inl ⟨by rfl,?_⟩) (by assumption) ?_
     rotate_left
     ·(intro w hSw;(try dsimp only at hSw);(try obtain ⟨s1_,s2_,s3_,s4_,s5_,s6_,s7_⟩:=hSw);go_simp <;> with_reducible rfl)
     simp only [List.getElem_toArray,List.getElem_cons_succ,List.getElem_cons_zero,Act.put,List.setIfInBounds_toArray,List.set_cons_zero,List.set_cons_succ]
     refine wpAnyH_done (by kernel_rfl) ?_ _
     have HM6:=Lib.hid (HM3.out.next HB6.out)
     have e0:=HM6.out.blk.c2
     clear HSW HMA HMB HMH
     cases q with
     | true =>
      cases r with
      | true =>
       have HFE:=Lib.hid (show (L.take (k+1)).filter F=(L.take k).filter F by rw [HFT.out,show F x=false from HFX.out];exact List.append_nil _)
       go_wp2_with fail
       go_roundw
       case rel=>exact ⟨k+1,Ao,no,co,by omega,by go_num,by rw [HFE.out];exact HM6⟩
       case measure=>simp [intOf];omega
      | false =>
       have HFE:=Lib.hid (show (L.take (k+1)).filter F=(L.take k).filter F++[x] by rw [HFT.out,show F x=true from HFX.out];rfl)
       go_wp2_with (at_builtin;refine wpList_append_rd _ rfl (.tmp 53) (.tmp 55) _ rfl w2.heap.size 9 i0 _ 1 16 Tryz.underlying32 hi hz0 hz1 hz2 rfl (by decide) (.slice Ao no co) _ (txs ((L.take k).filter F)) rfl (HM6.out.oo.alloc _) _ (some ⟨w6.heap.size,0,none⟩) 1 1 [.string X] rfl rfl (rd_new _ _ [.string X] _ (by simp)) (by simp [Value.oneCell']) (by have:=HOL.out;unfold maxLen;omega) (by have:=HOL.out;omega) (by have:=HM6.out.bs;simp;omega) ?_;intro v7 w7 hown7 hgr7 _;rw [←HXE.out] at hown7;obtain ⟨A7,c7,rfl,_,_,_⟩:=own_form hown7;obtain ⟨hk7,hm7⟩:=MI.app (HM6.out.next ((Below.refl _ _).alloc (Nat.le_refl _) _)) hgr7 hown7;have e2:=hk7.c2;have f2:=hk7.fr 2;have HM7:=Lib.hid hm7;clear hown7 hgr7 hm7 hk7)
       go_roundw
       case rel=>exact ⟨k+1,A7,_,c7,by omega,by go_num,by rw [HFE.out];exact HM7⟩
       case measure=>simp [intOf];omega
     | false =>
      cases r with
      | true =>
       have HFE:=Lib.hid (show (L.take (k+1)).filter F=(L.take k).filter F++[x] by rw [HFT.out,show F x=true from HFX.out];rfl)
       go_wp2_with (at_builtin;refine wpList_append_rd _ rfl (.tmp 53) (.tmp 55) _ rfl w2.heap.size 9 i0 _ 1 16 Tryz.underlying32 hi hz0 hz1 hz2 rfl (by decide) (.slice Ao no co) _ (txs ((L.take k).filter F)) rfl (HM6.out.oo.alloc _) _ (some ⟨w6.heap.size,0,none⟩) 1 1 [.string X] rfl rfl (rd_new _ _ [.string X] _ (by simp)) (by simp [Value.oneCell']) (by have:=HOL.out;unfold maxLen;omega) (by have:=HOL.out;omega) (by have:=HM6.out.bs;simp;omega) ?_;intro v7 w7 hown7 hgr7 _;rw [←HXE.out] at hown7;obtain ⟨A7,c7,rfl,_,_,_⟩:=own_form hown7;obtain ⟨hk7,hm7⟩:=MI.app (HM6.out.next ((Below.refl _ _).alloc (Nat.le_refl _) _)) hgr7 hown7;have e2:=hk7.c2;have f2:=hk7.fr 2;have HM7:=Lib.hid hm7;clear hown7 hgr7 hm7 hk7)
       go_roundw
       case rel=>exact ⟨k+1,A7,_,c7,by omega,by go_num,by rw [HFE.out];exact HM7⟩
       case measure=>simp [intOf];omega
      | false =>
       have HFE:=Lib.hid (show (L.take (k+1)).filter F=(L.take k).filter F by rw [HFT.out,show F x=false from HFX.out];exact List.append_nil _)
       go_wp2_with fail
       go_roundw
       case rel=>exact ⟨k+1,Ao,no,co,by omega,by go_num,by rw [HFE.out];exact HM6⟩
       case measure=>simp [intOf];omega
    | false =>
     go_wp2_with fail
     refine wp_region_held_drew (S:=fun u=>u.cell? ⟨g,0,none⟩=some (.slice A1 n1 c1)∧u.cell? ⟨g,1,none⟩=some (.slice A2 n2 c2)∧u.cell? ⟨g,2,none⟩=some (.slice A3 n3 c3)∧u.cell? ⟨g+1,0,none⟩=some (.slice B1 m1 d1)∧u.cell? ⟨g+1,1,none⟩=some (.slice B2 m2 d2)∧u.cell? ⟨g+1,2,none⟩=some (.slice B3 m3 d3)∧u.cell? ⟨gs,1,none⟩=some (.slice P2 (meet a.m b.m).length k2)) (by kernel_rfl) (HSW.out _ (Below.refl _ _).drew) (fun hHeld=>?_)
     refine wpAnyH_take (i:=0) (oi:=_) (v:=?_) rfl (by kernel_rfl) (by kernel_rfl) (by kernel_rfl) (fun _ _ _ h=>h) (Or.inl ⟨by rfl,?_⟩) (by assumption) ?_
     rotate_left
     ·(intro w hSw;(try dsimp only at hSw);(try obtain ⟨s1_,s2_,s3_,s4_,s5_,s6_,s7_⟩:=hSw);go_simp <;> with_reducible rfl)
     simp only [List.getElem_toArray,List.getElem_cons_zero,Act.put,List.setIfInBounds_toArray,List.set_cons_zero,List.set_cons_succ]
     refine wpAnyH_take (i:=1) (oi:=_) (v:=?_) rfl (by kernel_rfl) (by kernel_rfl) (by kernel_rfl) (fun _ _ _ h=>h) (Or.inl ⟨by rfl,?_⟩) (by assumption) ?_
     rotate_left
     ·(intro w hSw;(try dsimp only at hSw);(try obtain ⟨s1_,s2_,s3_,s4_,s5_,s6_,s7_⟩:=hSw);go_simp <;> with_reducible rfl)
     simp only [List.getElem_toArray,List.getElem_cons_succ,List.getElem_cons_zero,Act.put,List.setIfInBounds_toArray,List.set_cons_zero,List.set_cons_succ]
     refine wpAnyH_take (i:=2) (oi:=_) (v:=?_) rfl (by kernel_rfl) (by kernel_rfl) (by kernel_rfl) (fun _ _ _ h=>h) (Or.inl ⟨by rfl,?_⟩) (by assumption) ?_
     rotate_left
     ·(intro w hSw;(try dsimp only at hSw);(try obtain ⟨s1_,s2_,s3_,s4_,s5_,s6_,s7_⟩:=hSw);go_simp <;> with_reducible rfl)
     simp only [List.getElem_toArray,List.getElem_cons_succ,List.getElem_cons_zero,Act.put,List.setIfInBounds_toArray,List.set_cons_zero,List.set_cons_succ]
     refine wpAnyH_take (i:=10) (oi:=_) (v:=?_) rfl (by kernel_rfl) (by kernel_rfl) (by kernel_rfl) (fun _ _ _ h=>h) (Or.inl ⟨by rfl,?_⟩) (by assumption) ?_
     rotate_left
     ·(intro w hSw;(try dsimp only at hSw);(try obtain ⟨s1_,s2_,s3_,s4_,s5_,s6_,s7_⟩:=hSw);go_simp <;> with_reducible rfl)
     simp only [List.getElem_toArray,List.getElem_cons_succ,List.getElem_cons_zero,Act.put,List.setIfInBounds_toArray,List.set_cons_zero,List.set_cons_succ]
     refine wpAnyH_take (i:=11) (oi:=_) (v:=?_) rfl (by kernel_rfl) (by kernel_rfl) (by kernel_rfl) (fun _ _ _ h=>h) (Or.inl ⟨by rfl,?_⟩) (by assumption) ?_
     rotate_left
     ·(intro w hSw;(try dsimp only at hSw);(try obtain ⟨s1_,s2_,s3_,s4_,s5_,s6_,s7_⟩:=hSw);go_simp <;> with_reducible rfl)
     simp only [List.getElem_toArray,List.getElem_cons_succ,List.getElem_cons_zero,Act.put,List.setIfInBounds_toArray,List.set_cons_zero,List.set_cons_succ]
     refine wpAnyH_take (i:=12) (oi:=_) (v:=?_) rfl (by kernel_rfl) (by kernel_rfl) (by kernel_rfl) (fun _ _ _ h=>h) (Or.inl ⟨by rfl,?_⟩) (by assumption) ?_
     rotate_left
     ·(intro w hSw;(try dsimp only at hSw);(try obtain ⟨s1_,s2_,s3_,s4_,s5_,s6_,s7_⟩:=hSw);go_simp <;> with_reducible rfl)
     simp only [List.getElem_toArray,List.getElem_cons_succ,List.getElem_cons_zero,Act.put,List.setIfInBounds_toArray,List.set_cons_zero,List.set_cons_succ]
     refine wpAnyH_ready (rs:=[3]) (by kernel_rfl) (by simp) (AllReadyH.cons rfl (fun K hK=>?_) AllReadyH.nil)
     go_simp
     go_at_call 311
     refine (HMA.out _ (Below.refl _ _).drew).mono ?_
     rintro e w4 ⟨rfl,hb4⟩
     have HB4:=Lib.hid (show Below w3.heap.size w3 w4 from (Below.refl _ _).drew.trans hb4)
     clear hb4
     refine hK.out _ _ (HSW.out _ HB4.out) (fun hHeld2=>?_)
     clear hK K hHeld
     have hHeld:=hHeld2
     clear hHeld2
     refine wpAnyH_take (i:=4) (oi:=_) (v:=?_) rfl (by kernel_rfl) (by kernel_rfl) (by kernel_rfl) (fun _ _ _ h=>h) (Or.inl ⟨by rfl,?_⟩) (by assumption) ?_
     rotate_left
     ·(intro w hSw;(try dsimp only at hSw);(try obtain ⟨s1_,s2_,s3_,s4_,s5_,s6_,s7_⟩:=hSw);go_simp <;> with_reducible rfl)
     simp only [List.getElem_toArray,List.getElem_cons_succ,List.getElem_cons_zero,Act.put,List.setIfInBounds_toArray,List.set_cons_zero,List.set_cons_succ]
     refine wpAnyH_take (i:=5) (oi:=_) (v:=undef) rfl (by kernel_rfl) (by kernel_rfl) (by kernel_rfl) (fun _ _ _ h=>h) (Or.inr ⟨by rfl,rfl⟩) (by assumption) ?_
     simp only [List.getElem_toArray,List.getElem_cons_succ,List.getElem_cons_zero,Act.put,List.setIfInBounds_toArray,List.set_cons_zero,List.set_cons_succ]
     refine wpAnyH_take (i:=6) (oi:=_) (v:=undef) rfl (by kernel_rfl) (by kernel_rfl) (by kernel_rfl) (fun _ _ _ h=>h) (Or.inr ⟨by rfl,rfl⟩) (by assumption) ?_
     simp only [List.getElem_toArray,List.getElem_cons_succ,List.getElem_cons_zero,Act.put,List.setIfInBounds_toArray,List.set_cons_zero,List.set_cons_succ]
     refine wpAnyH_take (i:=7) (oi:=_) (v:=undef) rfl (by kernel_rfl) (by kernel_rfl) (by kernel_rfl) (fun _ _ _ h=>h) (Or.inr ⟨by rfl,rfl⟩) (by assumption) ?_
     simp only [List.getElem_toArray,List.getElem_cons_succ,List.getElem_cons_zero,Act.put,List.setIfInBounds_toArray,List.set_cons_zero,List.set_cons_succ]
     refine wpAnyH_take (i:=8) (oi:=_) (v:=undef) rfl (by kernel_rfl) (by kernel_rfl) (by kernel_rfl) (fun _ _ _ h=>h) (Or.inr ⟨by rfl,rfl⟩) (by assumption) ?_
     simp only [List.getElem_toArray,List.getElem_cons_succ,List.getElem_cons_zero,Act.put,List.setIfInBounds_toArray,List.set_cons_zero,List.set_cons_succ]
     have HB5:=HB4
     refine wpAnyH_take (i:=9) (oi:=_) (v:=?_) rfl (by kernel_rfl) (by kernel_rfl) (by kernel_rfl) (fun _ _ _ h=>h) (Or.inl ⟨by rfl,?_⟩) (by assumption) ?_
     rotate_left
     ·(intro w hSw;(try dsimp only at hSw);(try obtain ⟨s1_,s2_,s3_,s4_,s5_,s6_,s7_⟩:=hSw);go_simp <;> with_reducible rfl)
     simp only [List.getElem_toArray,List.getElem_cons_succ,List.getElem_cons_zero,Act.put,List.setIfInBounds_toArray,List.set_cons_zero,List.set_cons_succ]
     refine wpAnyH_ready (rs:=[13]) (by kernel_rfl) (by simp) (AllReadyH.cons rfl (fun K hK=>?_) AllReadyH.nil)
     go_simp
     go_at_call 312
     refine (HMH.out _ HB5.out).mono ?_
     rintro e w6 ⟨rfl,hb6⟩
     have HB6:=Lib.hid (HB5.out.trans (hb6.mono HB5.out.size))
     clear hb6
     refine hK.out _ _ (HSW.out _ HB6.out) (fun hHeld2=>?_)
     clear hK K hHeld
     have hHeld:=hHeld2
     clear hHeld2
     refine wpAnyH_take (i:=14) (oi:=_) (v:=?_) rfl (by kernel_rfl) (by kernel_rfl) (by kernel_rfl) (fun _ _ _ h=>h) (Or.inl ⟨by rfl,?_⟩) (by assumption) ?_
     rotate_left
     ·(intro w hSw;(try dsimp only at hSw);(try obtain ⟨s1_,s2_,s3_,s4_,s5_,s6_,s7_⟩:=hSw);go_simp <;> with_reducible rfl)
     simp only [List.getElem_toArray,List.getElem_cons_succ,List.getElem_cons_zero,Act.put,List.setIfInBounds_toArray,List.set_cons_zero,List.set_cons_succ]
     refine wpAnyH_done (by kernel_rfl) ?_ _
     have HM6:=Lib.hid (HM3.out.next HB6.out)
     have e0:=HM6.out.blk.c2
     clear HSW HMA HMB HMH
     cases r with
     | true =>
      have HFE:=Lib.hid (show (L.take (k+1)).filter F=(L.take k).filter F++[x] by rw [HFT.out,show F x=true from HFX.out];rfl)
      go_wp2_with (at_builtin;refine wpList_append_rd _ rfl (.tmp 53) (.tmp 55) _ rfl w2.heap.size 9 i0 _ 1 16 Tryz.underlying32 hi hz0 hz1 hz2 rfl (by decide) (.slice Ao no co) _ (txs ((L.take k).filter F)) rfl (HM6.out.oo.alloc _) _ (some ⟨w6.heap.size,0,none⟩) 1 1 [.string X] rfl rfl (rd_new _ _ [.string X] _ (by simp)) (by simp [Value.oneCell']) (by have:=HOL.out;unfold maxLen;omega) (by have:=HOL.out;omega) (by have:=HM6.out.bs;simp;omega) ?_;intro v7 w7 hown7 hgr7 _;rw [←HXE.out] at hown7;obtain ⟨A7,c7,rfl,_,_,_⟩:=own_form hown7;obtain ⟨hk7,hm7⟩:=MI.app (HM6.out.next ((Below.refl _ _).alloc (Nat.le_refl _) _)) hgr7 hown7;have e2:=hk7.c2;have f2:=hk7.fr 2;have HM7:=Lib.hid hm7;clear hown7 hgr7 hm7 hk7)
      go_roundw
      case rel=>exact ⟨k+1,A7,_,c7,by omega,by go_num,by rw [HFE.out];exact HM7⟩
      case measure=>simp [intOf];omega
     | false =>
      have HFE:=Lib.hid (show (L.take (k+1)).filter F=(L.take k).filter F by rw [HFT.out,show F x=false from HFX.out];exact List.append_nil _)
      go_wp2_with fail
      go_roundw
      case rel=>exact ⟨k+1,Ao,no,co,by omega,by go_num,by rw [HFE.out];exact HM6⟩
      case measure=>simp [intOf];omega
   ·have HXT:=Lib.hid (show (L.take k).filter F=L.filter F by rw [List.take_of_length_le (by have:=HNL.out;omega)])
    have HMN:=HM
    rw [HXT.out] at HMN
    have e0:=HMN.out.blk.c0;have e1:=HMN.out.blk.c1;have e2:=HMN.out.blk.c2
    have HZ:=Lib.hid (HK2.out.next HMN.out.bel)
    have d0:=HZ.out.c0;have d1:=HZ.out.c1;have d2:=HZ.out.c2;have f0:=HZ.out.fr 0;have f1:=HZ.out.fr 1;have f2:=HZ.out.fr 2
    clear HM HXT
    go_wp2_with fail
    refine (HZ.out.put _ _ _).ret rfl rfl rfl ?_
    have hno:no=(L.filter F).length:=by
     obtain ⟨Ax,cx,hx,_⟩:=own_form HMN.out.oo
     injection hx
    rw [show meetS a b=⟨meet a.s b.s,meet a.m b.m,L.filter F⟩ by
     have h1:=HOE.out;have h2:=HSE.out.1;have h3:=HSE.out.2
     rw [←HF.out] at h1
     rw [←h1,←h2,←h3]]
    exact OwnS.of HZ.out HMN.out.o1 HMN.out.o2 HMN.out.oo (HB0.out.trans (HMN.out.bel.mono HB0.out.size)) (by have:=HG.out;omega) HB0.out.size HB0.out.size (Nat.le_trans HB0.out.size HMN.out.bb)
end Go.Proofs.YtkgeiokckfpjlaaGreatDoor.Sset
namespace Go.Proofs.YtkgeiokckfpjlaaGreatDoor.Sset
open Go.RowKit
open Utf (Rd Blk pts pts_len Pts)
open Rset
set_option maxRecDepth 100000
structure Made (w w':World) (A1:Option Addr) (n1 c1:Nat) (A2:Option Addr) (n2 c2:Nat) (A3:Option Addr) (n3 c3:Nat) (a:St):Prop where
 has:Has3 w' A1 n1 A2 n2 A3 n3 a
 o1:w'.ownsRow w.heap.size 48 2 (.slice A1 n1 c1) a.s.length (rgs a.s)
 o2:w'.ownsRow w.heap.size 48 2 (.slice A2 n2 c2) a.m.length (rgs a.m)
 o3:w'.ownsRow w.heap.size 9 1 (.slice A3 n3 c3) a.o.length (txs a.o)
 bel:Below w.heap.size w w'
def ResO (w:World) (a:St) (e:Ending) (w':World):Prop:=∃A1 n1 c1 A2 n2 c2 A3 n3 c3,e=.returned (.agg #[.slice A1 n1 c1,.slice A2 n2 c2,.slice A3 n3 c3])∧Made w w' A1 n1 c1 A2 n2 c2 A3 n3 c3 a
theorem OwnS.made {w w':World} {a:St} {e:Ending} (h:OwnS w a e w') (hN:NmS a) (hS:Short a.o) (hsm:a.o.length≤1073741824):ResO w a e w':=by
 obtain ⟨v1,v2,v3,rfl,h1,h2,h3,hb⟩:=h
 obtain ⟨A1,c1,rfl,k1⟩:=argR_own h1 rfl hN.s
 obtain ⟨A2,c2,rfl,k2⟩:=argR_own h2 rfl hN.m
 obtain ⟨A3,c3,rfl,k3⟩:=argT_own h3 rfl hS hsm
 exact ⟨_,_,_,_,_,_,_,_,_,rfl,⟨k1,k2,k3⟩,h1,h2,h3,hb⟩
section
variable {w:World} {A1 A2 A3 B1 B2 B3:Option Addr} {n1 n2 n3 m1 m2 m3:Nat} {a b:St}
theorem r_norm (c1 c2 c3:Nat) (h:Has3 w A1 n1 A2 n2 A3 n3 a):Calls Tryz.prog 258 #[.agg #[.slice A1 n1 c1,.slice A2 n2 c2,.slice A3 n3 c3]] w (ResO w (normS a)) :=
 (snorm_any A1 A2 A3 n1 c1 n2 c2 n3 c3 a w h).mono fun _ _ k=>k.made (normS_nm a) (short_norm h.o.short) (Nat.le_trans (normS_len a) (by have:=h.o.len;have:=h.o.sm;omega))
theorem r_meet (c1 c2 c3 d1 d2 d3:Nat) (h:Has3 w A1 n1 A2 n2 A3 n3 a) (k:Has3 w B1 m1 B2 m2 B3 m3 b) (hN:NmS a) (kN:NmS b) (hsm:n3+m3≤1073741824):Calls Tryz.prog 300 #[.agg #[.slice A1 n1 c1,.slice A2 n2 c2,.slice A3 n3 c3],.agg #[.slice B1 m1 d1,.slice B2 m2 d2,.slice B3 m3 d3]] w (ResO w (meetS a b)) :=
 (smeet_any A1 A2 A3 B1 B2 B3 n1 c1 n2 c2 n3 c3 m1 d1 m2 d2 m3 d3 a b w h k hN kN hsm).mono fun _ _ q=>q.made (meetS_nm hN kN) (short_meet h.o.short k.o.short) (Nat.le_trans (meetS_len a b) (by have:=h.o.len;have:=k.o.len;omega))
structure Turned (w w':World) (A1:Option Addr) (n1 c1:Nat) (A2:Option Addr) (n2 c2:Nat) (A3:Option Addr) (n3:Nat) (a:St):Prop where
 has:Has3 w' A1 n1 A2 n2 A3 n3 (notS a)
 o1:w'.ownsRow w.heap.size 48 2 (.slice A1 n1 c1) (notS a).s.length (rgs (notS a).s)
 o2:w'.ownsRow w.heap.size 48 2 (.slice A2 n2 c2) (notS a).m.length (rgs (notS a).m)
 bel:Below w.heap.size w w'
theorem r_not (c1 c2 c3:Nat) (h:Has3 w A1 n1 A2 n2 A3 n3 a):Calls Tryz.prog 248 #[.agg #[.slice A1 n1 c1,.slice A2 n2 c2,.slice A3 n3 c3]] w (fun e w'=>∃B1 m1 d1 B2 m2 d2,e=.returned (.agg #[.slice B1 m1 d1,.slice B2 m2 d2,.slice A3 n3 c3])∧Turned w w' B1 m1 d1 B2 m2 d2 A3 n3 a) :=
 (snot_any A1 A2 A3 n1 c1 n2 c2 n3 c3 a.s a.m w h.s h.m).mono fun e w' ⟨v1,v2,he,h1,h2,hb⟩=>by
  obtain ⟨X1,x1,rfl,k1⟩:=argR_own h1 rfl (nl_nm _)
  obtain ⟨X2,x2,rfl,k2⟩:=argR_own h2 rfl (nl_nm _)
  exact ⟨_,_,_,_,_,_,he,⟨k1,k2,h.o.next hb⟩,h1,h2,hb⟩
end
set_option maxHeartbeats 8000000 in
theorem sunion_any (A1 A2 A3 B1 B2 B3:Option Addr) (n1 c1 n2 c2 n3 c3 m1 d1 m2 d2 m3 d3:Nat) (a b:St) (w:World) (h:Has3 w A1 n1 A2 n2 A3 n3 a) (k:Has3 w B1 m1 B2 m2 B3 m3 b) (hsm:n3+m3≤1073741824) :
  Calls Tryz.prog 283 #[.agg #[.slice A1 n1 c1,.slice A2 n2 c2,.slice A3 n3 c3],.agg #[.slice B1 m1 d1,.slice B2 m2 d2,.slice B3 m3 d3]] w (OwnS w (uni2 a b)):=by
 obtain ⟨g,hg⟩:∃g,g=w.heap.size:=⟨_,rfl⟩
 obtain ⟨W0,hW0⟩:∃W0,W0=((w.alloc (.cells #[.slice A1 n1 c1,.slice A2 n2 c2,.slice A3 n3 c3] 39)).alloc (.cells #[.slice B1 m1 d1,.slice B2 m2 d2,.slice B3 m3 d3] 39)).alloc (.cells #[.slice none 0 0,.slice none 0 0,.slice none 0 0] 39):=⟨_,rfl⟩
 have hb0:Below w.heap.size w W0:=by rw [hW0];exact (((Below.refl _ _).alloc (Nat.le_refl _) _).alloc (by simp) _).alloc (by simp;omega) _
 have k0:BlkS W0 g (.slice A1 n1 c1) (.slice A2 n2 c2) (.slice A3 n3 c3):=by rw [hW0,hg];exact ((BlkS.new w _ _ _).alloc _).alloc _
 have k1:BlkS W0 (g+1) (.slice B1 m1 d1) (.slice B2 m2 d2) (.slice B3 m3 d3):=by
  have:=(BlkS.new (w.alloc (.cells #[.slice A1 n1 c1,.slice A2 n2 c2,.slice A3 n3 c3] 39)) (.slice B1 m1 d1) (.slice B2 m2 d2) (.slice B3 m3 d3)).alloc (.cells #[.slice none 0 0,.slice none 0 0,.slice none 0 0] 39)
  rw [hW0,hg];simpa using this
 have k2:BlkS W0 (g+2) (.slice none 0 0) (.slice none 0 0) (.slice none 0 0):=by
  have:=BlkS.new ((w.alloc (.cells #[.slice A1 n1 c1,.slice A2 n2 c2,.slice A3 n3 c3] 39)).alloc (.cells #[.slice B1 m1 d1,.slice B2 m2 d2,.slice B3 m3 d3] 39)) (.slice none 0 0) (.slice none 0 0) (.slice none 0 0)
  rw [hW0,hg];simpa using this
 have H:=Lib.hid (h.next hb0);have HJ:=Lib.hid (k.next hb0)
 have HW:=Lib.hid hW0;have HG:=Lib.hid hg;have HB0:=Lib.hid hb0;have HK0:=Lib.hid k0;have HK1:=Lib.hid k1;have HK2:=Lib.hid k2
 have HSW:=Lib.hid (show ∀u,Below (g+2) W0 u→u.cell? ⟨g,0,none⟩=some (.slice A1 n1 c1)∧u.cell? ⟨g,1,none⟩=some (.slice A2 n2 c2)∧u.cell? ⟨g,2,none⟩=some (.slice A3 n3 c3)∧u.cell? ⟨g+1,0,none⟩=some (.slice B1 m1 d1)∧u.cell? ⟨g+1,1,none⟩=some (.slice B2 m2 d2)∧u.cell? ⟨g+1,2,none⟩=some (.slice B3 m3 d3) from fun u hu=>by
  have ka:=HK0.out.below hu (by omega)
  have kb:=HK1.out.below hu (by omega)
  exact ⟨ka.c0,ka.c1,ka.c2,kb.c0,kb.c1,kb.c2⟩)
 have HMO:=Lib.hid (show (g+2)≤W0.heap.size from HK2.out.lt |> Nat.le_of_lt)
 clear h k hg hW0 hb0 k0 k1 k2
 go_enter Tryz.func283,Tryz.ntmps283
 go_wp2_with fail
 rw [←HW.out,←HG.out]
 refine wp_region_held_drew (S:=fun u=>u.cell? ⟨g,0,none⟩=some (.slice A1 n1 c1)∧u.cell? ⟨g,1,none⟩=some (.slice A2 n2 c2)∧u.cell? ⟨g,2,none⟩=some (.slice A3 n3 c3)∧u.cell? ⟨g+1,0,none⟩=some (.slice B1 m1 d1)∧u.cell? ⟨g+1,1,none⟩=some (.slice B2 m2 d2)∧u.cell? ⟨g+1,2,none⟩=some (.slice B3 m3 d3)) (by kernel_rfl) (HSW.out _ (Below.refl _ _).drew) (fun hHeld=>?_)
 refine wpAnyH_take (i:=0) (oi:=_) (v:=?_) rfl (by kernel_rfl) (by kernel_rfl) (by kernel_rfl) (fun _ _ _ h=>h) (Or.inl ⟨by rfl,?_⟩) (by assumption) ?_
 rotate_left
 ·(intro w hSw;(try dsimp only at hSw);(try obtain ⟨s1_,s2_,s3_,s4_,s5_,s6_⟩:=hSw);go_simp <;> with_reducible rfl)
 simp only [List.getElem_toArray,List.getElem_cons_zero,Act.put,List.setIfInBounds_toArray,List.set_cons_zero,List.set_cons_succ]
 refine wpAnyH_take (i:=3) (oi:=_) (v:=?_) rfl (by kernel_rfl) (by kernel_rfl) (by kernel_rfl) (fun _ _ _ h=>h) (Or.inl ⟨by rfl,?_⟩) (by assumption) ?_
 rotate_left
 ·(intro w hSw;(try dsimp only at hSw);(try obtain ⟨s1_,s2_,s3_,s4_,s5_,s6_⟩:=hSw);go_simp <;> with_reducible rfl)
 simp only [List.getElem_toArray,List.getElem_cons_succ,List.getElem_cons_zero,Act.put,List.setIfInBounds_toArray,List.set_cons_zero,List.set_cons_succ]
 refine wpAnyH_ready (rs:=[1]) (by kernel_rfl) (by simp) (AllReadyH.cons rfl (fun K hK=>?_) AllReadyH.nil)
 go_simp
 go_at_call 258
 refine (r_norm _ _ _ (H.out.next (Below.refl _ _).drew)).mono ?_
 rintro e w_1 ⟨P1_1,p1_1,q1_1,P1_2,p1_2,q1_2,P1_3,p1_3,q1_3,rfl,M1⟩
 have HM1:=Lib.hid M1
 have HB1:=Lib.hid (show Below W0.heap.size W0 w_1 from below_drewl M1.bel)
 clear M1
 refine hK.out _ _ (HSW.out _ (HB1.out.mono HMO.out)) (fun hHeld2=>?_)
 clear hK K hHeld
 have hHeld:=hHeld2
 clear hHeld2
 refine wpAnyH_ready (rs:=[2]) (by kernel_rfl) (by simp) (AllReadyH.cons rfl (fun K hK=>?_) AllReadyH.nil)
 go_simp
 go_at_call 248
 refine (r_not _ _ _ HM1.out.has).mono ?_
 rintro e w_2 ⟨P2_1,p2_1,q2_1,P2_2,p2_2,q2_2,rfl,M2⟩
 have HM2:=Lib.hid M2
 have HB2:=Lib.hid (show Below W0.heap.size W0 w_2 from HB1.out.trans (M2.bel.mono HB1.out.size))
 have HC1_2:=Lib.hid (show Below w_1.heap.size w_1 w_2 from M2.bel)
 clear M2
 refine hK.out _ _ (HSW.out _ (HB2.out.mono HMO.out)) (fun hHeld2=>?_)
 clear hK K hHeld
 have hHeld:=hHeld2
 clear hHeld2
 refine wpAnyH_ready (rs:=[4]) (by kernel_rfl) (by simp) (AllReadyH.cons rfl (fun K hK=>?_) AllReadyH.nil)
 go_simp
 go_at_call 258
 refine (r_norm _ _ _ (HJ.out.next HB2.out)).mono ?_
 rintro e w_3 ⟨P3_1,p3_1,q3_1,P3_2,p3_2,q3_2,P3_3,p3_3,q3_3,rfl,M3⟩
 have HM3:=Lib.hid M3
 have HB3:=Lib.hid (show Below W0.heap.size W0 w_3 from HB2.out.trans (M3.bel.mono HB2.out.size))
 have HC1_3:=Lib.hid (show Below w_1.heap.size w_1 w_3 from HC1_2.out.trans (M3.bel.mono HC1_2.out.size))
 have HC2_3:=Lib.hid (show Below w_2.heap.size w_2 w_3 from M3.bel)
 clear M3
 refine hK.out _ _ (HSW.out _ (HB3.out.mono HMO.out)) (fun hHeld2=>?_)
 clear hK K hHeld
 have hHeld:=hHeld2
 clear hHeld2
 refine wpAnyH_ready (rs:=[5]) (by kernel_rfl) (by simp) (AllReadyH.cons rfl (fun K hK=>?_) AllReadyH.nil)
 go_simp
 go_at_call 248
 refine (r_not _ _ _ HM3.out.has).mono ?_
 rintro e w_4 ⟨P4_1,p4_1,q4_1,P4_2,p4_2,q4_2,rfl,M4⟩
 have HM4:=Lib.hid M4
 have HB4:=Lib.hid (show Below W0.heap.size W0 w_4 from HB3.out.trans (M4.bel.mono HB3.out.size))
 have HC1_4:=Lib.hid (show Below w_1.heap.size w_1 w_4 from HC1_3.out.trans (M4.bel.mono HC1_3.out.size))
 have HC2_4:=Lib.hid (show Below w_2.heap.size w_2 w_4 from HC2_3.out.trans (M4.bel.mono HC2_3.out.size))
 have HC3_4:=Lib.hid (show Below w_3.heap.size w_3 w_4 from M4.bel)
 clear M4
 refine hK.out _ _ (HSW.out _ (HB4.out.mono HMO.out)) (fun hHeld2=>?_)
 clear hK K hHeld
 have hHeld:=hHeld2
 clear hHeld2
 refine wpAnyH_ready (rs:=[6]) (by kernel_rfl) (by simp) (AllReadyH.cons rfl (fun K hK=>?_) AllReadyH.nil)
 go_simp
 go_at_call 300
 refine (r_meet _ _ _ _ _ _ (HM2.out.has.next HC2_4.out) HM4.out.has (notS_nm (normS_nm a)) (notS_nm (normS_nm b)) (by have h1:=normS_len a;have h2:=normS_len b;have h3:=HM2.out.has.o.len;have h4:=HM4.out.has.o.len;have h5:=H.out.o.len;have h6:=HJ.out.o.len;(try simp only [notS] at h3 h4);omega)).mono ?_
 rintro e w_5 ⟨P5_1,p5_1,q5_1,P5_2,p5_2,q5_2,P5_3,p5_3,q5_3,rfl,M5⟩
 have HM5:=Lib.hid M5
 have HB5:=Lib.hid (show Below W0.heap.size W0 w_5 from HB4.out.trans (M5.bel.mono HB4.out.size))
 have HC1_5:=Lib.hid (show Below w_1.heap.size w_1 w_5 from HC1_4.out.trans (M5.bel.mono HC1_4.out.size))
 have HC2_5:=Lib.hid (show Below w_2.heap.size w_2 w_5 from HC2_4.out.trans (M5.bel.mono HC2_4.out.size))
 have HC3_5:=Lib.hid (show Below w_3.heap.size w_3 w_5 from HC3_4.out.trans (M5.bel.mono HC3_4.out.size))
 have HC4_5:=Lib.hid (show Below w_4.heap.size w_4 w_5 from M5.bel)
 clear M5
 refine hK.out _ _ (HSW.out _ (HB5.out.mono HMO.out)) (fun hHeld2=>?_)
 clear hK K hHeld
 have hHeld:=hHeld2
 clear hHeld2
 refine wpAnyH_ready (rs:=[7]) (by kernel_rfl) (by simp) (AllReadyH.cons rfl (fun K hK=>?_) AllReadyH.nil)
 go_simp
 go_at_call 248
 refine (r_not _ _ _ HM5.out.has).mono ?_
 rintro e w_6 ⟨P6_1,p6_1,q6_1,P6_2,p6_2,q6_2,rfl,M6⟩
 have HM6:=Lib.hid M6
 have HB6:=Lib.hid (show Below W0.heap.size W0 w_6 from HB5.out.trans (M6.bel.mono HB5.out.size))
 have HC1_6:=Lib.hid (show Below w_1.heap.size w_1 w_6 from HC1_5.out.trans (M6.bel.mono HC1_5.out.size))
 have HC2_6:=Lib.hid (show Below w_2.heap.size w_2 w_6 from HC2_5.out.trans (M6.bel.mono HC2_5.out.size))
 have HC3_6:=Lib.hid (show Below w_3.heap.size w_3 w_6 from HC3_5.out.trans (M6.bel.mono HC3_5.out.size))
 have HC4_6:=Lib.hid (show Below w_4.heap.size w_4 w_6 from HC4_5.out.trans (M6.bel.mono HC4_5.out.size))
 have HC5_6:=Lib.hid (show Below w_5.heap.size w_5 w_6 from M6.bel)
 clear M6
 refine hK.out _ _ (HSW.out _ (HB6.out.mono HMO.out)) (fun hHeld2=>?_)
 clear hK K hHeld
 have hHeld:=hHeld2
 clear hHeld2
 refine wpAnyH_ready (rs:=[8]) (by kernel_rfl) (by simp) (AllReadyH.cons rfl (fun K hK=>?_) AllReadyH.nil)
 have HZ:=Lib.hid (HK2.out.next HB6.out)
 have d0:=HZ.out.c0;have d1:=HZ.out.c1;have d2:=HZ.out.c2;have f0:=HZ.out.fr 0;have f1:=HZ.out.fr 1;have f2:=HZ.out.fr 2
 go_simp
 clear d0 d1 d2 f0 f1 f2
 refine hK.out _ _ (HSW.out _ (putB (HB6.out.mono HMO.out) (Nat.le_refl (g+2)) _ _ _)) (fun hHeld2=>?_)
 clear hK K hHeld
 have hHeld:=hHeld2
 clear hHeld2
 refine wpAnyH_done (by kernel_rfl) ?_ _
 go_wp2_with fail
 refine (HZ.out.put _ _ _).ret rfl rfl rfl ?_
 have e:uni2 a b=notS (meetS (notS (normS a)) (notS (normS b))):=rfl
 rw [e]
 exact OwnS.of HZ.out HM6.out.o1 HM6.out.o2 (own_below HM5.out.o3 HC5_6.out) (HB0.out.trans (HB6.out.mono HB0.out.size)) (by have:=HG.out;omega) (Nat.le_trans HB0.out.size HB5.out.size) (Nat.le_trans HB0.out.size HB5.out.size) (Nat.le_trans HB0.out.size HB4.out.size)
end Go.Proofs.YtkgeiokckfpjlaaGreatDoor.Sset
namespace Go.Proofs.YtkgeiokckfpjlaaGreatDoor.Sset
open Go.RowKit
open Utf (Rd Blk pts pts_len Pts Pt rune wid)
open Rset
set_option maxRecDepth 100000
set_option maxHeartbeats 4000000 in
theorem sfirst_any (A:Option Addr) (l:List Rg) (n c:Nat) (w:World) (h:ArgR w A n l) :
  Calls Tryz.prog 215 #[.slice A n c] w (OwnS w (firstS l)):=by
 obtain ⟨W0,hW0⟩:∃W0,W0=w.alloc (.cells #[.slice none 0 0,.slice none 0 0,.slice none 0 0] 39):=⟨_,rfl⟩
 obtain ⟨g,hg⟩:∃g,g=w.heap.size:=⟨_,rfl⟩
 have hb0:Below w.heap.size w W0:=by rw [hW0];exact (Below.refl _ _).alloc (Nat.le_refl _) _
 have k0:BlkS W0 g (.slice none 0 0) (.slice none 0 0) (.slice none 0 0):=by rw [hW0,hg];exact BlkS.new w _ _ _
 have HK:=Lib.hid k0;have HW:=Lib.hid hW0;have HG:=Lib.hid hg;have HB0:=Lib.hid hb0
 have HN:=Lib.hid (show ∀u,Below W0.heap.size W0 u→Calls Tryz.prog 253 #[.slice A n c] u (Own u (norm l)) from fun u hu=>by
  have k:=(h.next hb0).next hu;exact Rset.norm_any A l n c u k.rd k.len k.fit (by have:=k.sm;omega))
 have HE:=Lib.hid (show firstS l=⟨norm l,norm l,[]⟩ from rfl)
 rw [HE.out]
 generalize norm l=L at HN ⊢
 clear h hW0 hg hb0 k0
 go_enter Tryz.func215,Tryz.ntmps215
 go_wp2_with fail
 rw [←HW.out]
 refine (HN.out _ (Below.refl _ _)).mono ?_
 rintro e w1 ⟨v1,rfl,o1,b1⟩
 obtain ⟨P1,p1,rfl,_,_,_⟩:=own_form o1
 have HO1:=Lib.hid o1;have HB1:=Lib.hid b1
 clear o1 b1
 go_wp2_with fail
 refine (HN.out _ HB1.out).mono ?_
 rintro e w2 ⟨v2,rfl,o2,b2⟩
 obtain ⟨P2,p2,rfl,_,_,_⟩:=own_form o2
 have HO2:=Lib.hid o2;have HB2:=Lib.hid b2
 have HZ:=Lib.hid (HK.out.next (HB1.out.trans (b2.mono HB1.out.size)))
 have d0:=HZ.out.c0;have d1:=HZ.out.c1;have d2:=HZ.out.c2;have f0:=HZ.out.fr 0;have f1:=HZ.out.fr 1;have f2:=HZ.out.fr 2
 rw [HG.out] at d0 d1 d2 f0 f1 f2
 clear o2 b2
 go_wp2_with fail
 rw [←HG.out]
 refine (HZ.out.put _ _ _).ret rfl (by rw [HG.out];rfl) rfl ?_
 exact OwnS.of (a:=⟨L,L,[]⟩) HZ.out (own_below HO1.out HB2.out) HO2.out (World.ownsRow_nil _ w.heap.size _ _) (HB0.out.trans ((HB1.out.trans (HB2.out.mono HB1.out.size)).mono HB0.out.size)) (by rw [HG.out];exact Nat.le_refl _) HB0.out.size (Nat.le_trans HB0.out.size HB1.out.size) (Nat.le_refl _)
set_option maxHeartbeats 4000000 in
theorem sones_any (A:Option Addr) (l:List Rg) (n c:Nat) (w:World) (h:ArgR w A n l) :
  Calls Tryz.prog 257 #[.slice A n c] w (OwnS w (onesS l)):=by
 obtain ⟨W0,hW0⟩:∃W0,W0=w.alloc (.cells #[.slice none 0 0,.slice none 0 0,.slice none 0 0] 39):=⟨_,rfl⟩
 obtain ⟨g,hg⟩:∃g,g=w.heap.size:=⟨_,rfl⟩
 have hb0:Below w.heap.size w W0:=by rw [hW0];exact (Below.refl _ _).alloc (Nat.le_refl _) _
 have k0:BlkS W0 g (.slice none 0 0) (.slice none 0 0) (.slice none 0 0):=by rw [hW0,hg];exact BlkS.new w _ _ _
 have HK:=Lib.hid k0;have HW:=Lib.hid hW0;have HG:=Lib.hid hg;have HB0:=Lib.hid hb0
 have HN:=Lib.hid (show ∀u,Below W0.heap.size W0 u→Calls Tryz.prog 253 #[.slice A n c] u (Own u (norm l)) from fun u hu=>by
  have k:=(h.next hb0).next hu;exact Rset.norm_any A l n c u k.rd k.len k.fit (by have:=k.sm;omega))
 have HE:=Lib.hid (show onesS l=⟨norm l,[],[]⟩ from rfl)
 rw [HE.out]
 generalize norm l=L at HN ⊢
 clear h hW0 hg hb0 k0
 go_enter Tryz.func257,Tryz.ntmps257
 go_wp2_with fail
 rw [←HW.out]
 refine (HN.out _ (Below.refl _ _)).mono ?_
 rintro e w1 ⟨v1,rfl,o1,b1⟩
 obtain ⟨P1,p1,rfl,_,_,_⟩:=own_form o1
 have HO1:=Lib.hid o1;have HB1:=Lib.hid b1
 have HZ:=Lib.hid (HK.out.next HB1.out)
 have d0:=HZ.out.c0;have d1:=HZ.out.c1;have d2:=HZ.out.c2;have f0:=HZ.out.fr 0;have f1:=HZ.out.fr 1;have f2:=HZ.out.fr 2
 rw [HG.out] at d0 d1 d2 f0 f1 f2
 clear o1 b1
 go_wp2_with fail
 rw [←HG.out]
 refine (HZ.out.put _ _ _).ret rfl (by rw [HG.out];rfl) rfl ?_
 exact OwnS.of (a:=⟨L,[],[]⟩) HZ.out HO1.out (World.ownsRow_nil _ w.heap.size _ _) (World.ownsRow_nil _ w.heap.size _ _) (HB0.out.trans (HB1.out.mono HB0.out.size)) (by rw [HG.out];exact Nat.le_refl _) HB0.out.size (Nat.le_refl _) (Nat.le_refl _)
theorem has3_none (w:World):Has3 w none 0 none 0 none 0 none_:=⟨⟨rd_nil _ _ _,rfl,fit_nil,by omega⟩,⟨rd_nil _ _ _,rfl,fit_nil,by omega⟩,⟨Rd.empty _ _ _,rfl,fun _ h=>by simp [none_] at h,by omega⟩⟩
set_option maxHeartbeats 4000000 in
theorem sall_any (w:World):Calls Tryz.prog 212 #[] w (OwnS w allS):=by
 obtain ⟨W0,hW0⟩:∃W0,W0=w.alloc (.cells #[.slice none 0 0,.slice none 0 0,.slice none 0 0] 39):=⟨_,rfl⟩
 obtain ⟨g,hg⟩:∃g,g=w.heap.size:=⟨_,rfl⟩
 have hb0:Below w.heap.size w W0:=by rw [hW0];exact (Below.refl _ _).alloc (Nat.le_refl _) _
 have k0:BlkS W0 g (.slice none 0 0) (.slice none 0 0) (.slice none 0 0):=by rw [hW0,hg];exact BlkS.new w _ _ _
 have HK:=Lib.hid k0;have HW:=Lib.hid hW0;have HG:=Lib.hid hg;have HB0:=Lib.hid hb0
 have HN:=Lib.hid (r_not 0 0 0 (has3_none W0))
 clear hW0 hg hb0 k0
 go_enter Tryz.func212,Tryz.ntmps212
 go_wp2_with fail
 rw [←HW.out]
 refine HN.out.mono ?_
 rintro e w1 ⟨P1,p1,q1,P2,p2,q2,rfl,M1⟩
 have HM:=Lib.hid M1
 have HZ:=Lib.hid (HK.out.next M1.bel)
 have d0:=HZ.out.c0;have d1:=HZ.out.c1;have d2:=HZ.out.c2;have f0:=HZ.out.fr 0;have f1:=HZ.out.fr 1;have f2:=HZ.out.fr 2
 rw [HG.out] at d0 d1 d2 f0 f1 f2
 clear M1
 go_wp2_with fail
 rw [←HG.out]
 refine (HZ.out.put _ _ _).ret rfl (by rw [HG.out];rfl) rfl ?_
 exact OwnS.of (a:=allS) HZ.out HM.out.o1 HM.out.o2 (World.ownsRow_nil _ w.heap.size _ _) (HB0.out.trans (HM.out.bel.mono HB0.out.size)) (by rw [HG.out];exact Nat.le_refl _) HB0.out.size HB0.out.size (Nat.le_refl _)
set_option maxHeartbeats 4000000 in
theorem snot2_any (A1 A2 A3:Option Addr) (n1 c1 n2 c2 n3 c3:Nat) (a:St) (w:World) (h:Has3 w A1 n1 A2 n2 A3 n3 a) :
  Calls Tryz.prog 251 #[.agg #[.slice A1 n1 c1,.slice A2 n2 c2,.slice A3 n3 c3]] w (OwnS w (not2 a)):=by
 obtain ⟨g,hg⟩:∃g,g=w.heap.size:=⟨_,rfl⟩
 obtain ⟨g1,hg1⟩:∃g1,g1=w.heap.size+1:=⟨_,rfl⟩
 obtain ⟨W0,hW0⟩:∃W0,W0=(w.alloc (.cells #[.slice A1 n1 c1,.slice A2 n2 c2,.slice A3 n3 c3] 39)).alloc (.cells #[.slice none 0 0,.slice none 0 0,.slice none 0 0] 39):=⟨_,rfl⟩
 have k0:BlkS W0 g (.slice A1 n1 c1) (.slice A2 n2 c2) (.slice A3 n3 c3):=by rw [hW0,hg];exact (BlkS.new w _ _ _).alloc _
 have k1:BlkS W0 g1 (.slice none 0 0) (.slice none 0 0) (.slice none 0 0):=by
  have:=BlkS.new (w.alloc (.cells #[.slice A1 n1 c1,.slice A2 n2 c2,.slice A3 n3 c3] 39)) (.slice none 0 0) (.slice none 0 0) (.slice none 0 0)
  rw [hW0,hg1];simpa using this
 have hb0:Below w.heap.size w W0:=by rw [hW0];exact ((Below.refl _ _).alloc (Nat.le_refl _) _).alloc (by simp) _
 have HK:=Lib.hid k1;have HW:=Lib.hid hW0;have HG:=Lib.hid hg;have HG1:=Lib.hid hg1;have HB0:=Lib.hid hb0
 have HN:=Lib.hid (r_norm c1 c2 c3 (h.next hb0))
 have x0:=k0.c0;have x1:=k0.c1;have x2:=k0.c2
 clear h hW0 hg hg1 hb0 k0 k1
 go_enter Tryz.func251,Tryz.ntmps251
 go_wp2_with fail
 rw [←HW.out]
 refine HN.out.mono ?_
 rintro e w1 ⟨P1,p1,q1,P2,p2,q2,P3,p3,q3,rfl,M1⟩
 have HM1:=Lib.hid M1
 clear M1 x0 x1 x2
 go_wp2_with fail
 refine (r_not _ _ _ HM1.out.has).mono ?_
 rintro e w2 ⟨R1,r1,s1,R2,r2,s2,rfl,M2⟩
 have HM2:=Lib.hid M2
 have HZ:=Lib.hid (HK.out.next (HM1.out.bel.trans (M2.bel.mono HM1.out.bel.size)))
 have d0:=HZ.out.c0;have d1:=HZ.out.c1;have d2:=HZ.out.c2;have f0:=HZ.out.fr 0;have f1:=HZ.out.fr 1;have f2:=HZ.out.fr 2
 rw [HG1.out] at d0 d1 d2 f0 f1 f2
 clear M2
 go_wp2_with fail
 rw [←HG1.out]
 refine (HZ.out.put _ _ _).ret rfl (by rw [HG1.out];rfl) rfl ?_
 have hs:=HB0.out.size
 have hs1:=HM1.out.bel.size
 exact OwnS.of (a:=not2 a) HZ.out HM2.out.o1 HM2.out.o2 (own_below HM1.out.o3 HM2.out.bel) (HB0.out.trans ((HM1.out.bel.trans (HM2.out.bel.mono hs1)).mono hs)) (by have:=HG1.out;omega) (Nat.le_trans hs hs1) (Nat.le_trans hs hs1) hs
end Go.Proofs.YtkgeiokckfpjlaaGreatDoor.Sset
