/-
  Texts of stage 7, part 30.
-/
import Derived.Test.YtkgeiokckfpjlaaGreatDoorK29
namespace Go.Proofs.YtkgeiokckfpjlaaGreatDoor.Seg
open Go.Shelf Go.RowKit Go.Sort
open Utf hiding infoI32 rd_new own_form below_drewN new_any write_any close_any
open Ucd hiding grow same Told
open Norm hiding new_any write_any close_any
set_option maxRecDepth 100000
def Shuts (w:World) (g:Nat) (k0 k1 k2:UInt8) (n q:Nat) (e:Ending) (w':World):Prop :=
 ∃v,e=.returned v∧w'.ownsRow w.heap.size 117 3 v (last n q).length (pts (last n q))∧Dc w' g k0 k1 k2 0 q true∧w.grownBy w' (some g)
set_option maxHeartbeats 1000000 in
theorem shut_zero (g q:Nat) (k0 k1 k2:UInt8) (b:Bool) (w:World) (h:Dc w g k0 k1 k2 0 q b):Calls Tryz.prog 149 #[.pointer (some ⟨g,0,none⟩)] w (Shuts w g k0 k1 k2 0 q):=by
 have h3:w.cell? ⟨g,3,none⟩=some (.int .i64 0):=h.c3
 have h5:=h.c5
 have f5:=h.fr 5
 have H:=Lib.hid h
 clear h
 go_enter Tryz.func149,Tryz.ntmps149
 go_wp2
 go_ret
 exact ⟨.slice none 0 0,rfl,World.ownsRow_nil _ _ _ _,(H.out:Blk _ _ _ _).set_ 5 (.bool true),⟨rfl,rfl,rfl,by simp,fun k _ hk=>heap_setCell_other _ _ _ _ (fun e=>hk (by rw [e]))⟩⟩
set_option maxHeartbeats 1000000 in
theorem shut_more (g n q:Nat) (k0 k1 k2:UInt8) (b:Bool) (w:World) (h:Dc w g k0 k1 k2 n q b) (hn:n≠0):Calls Tryz.prog 149 #[.pointer (some ⟨g,0,none⟩)] w (Shuts w g k0 k1 k2 n q):=by
 have h3:=h.c3
 have h4:=h.c4
 have h5:=h.c5
 have f3:=h.fr 3
 have f4:=h.fr 4
 have f5:=h.fr 5
 have hne:((n:Int) == 0)=false:=by simp;omega
 have H:=Lib.hid h
 have HN:=Lib.hid hn
 have hlt:g < w.heap.size:=Blk.lt h
 clear h hn
 go_enter Tryz.func149,Tryz.ntmps149
 go_wp2
 go_region
 all_goals go_wp2
 go_ret
 have el:last n q=[⟨65533,q,n⟩]:=by unfold last;rw [if_neg HN.out]
 have hB:Blk ((w.setCell ⟨g,5,none⟩ (.bool true)).setCell ⟨g,3,none⟩ (.int .i64 0)) g 192 (dcs k0 k1 k2 0 q true) :=
  ((H.out:Blk _ _ _ _).set_ 5 (.bool true)).set_ 3 (.int .i64 0)
 refine ⟨.slice (some ⟨w.heap.size+1,0,none⟩) 1 1,rfl,?_,(hB.alloc _).alloc _,grown_drew (grown_alloc (grown_alloc (grown_set (grown_set (World.grownBy.refl w _) 5 _) 3 _) _) _)⟩
 rw [el]
 refine ⟨rfl,.inr ⟨w.heap.size+1,1,#[.int .i32 65533,.int .i64 q,.int .i64 n],rfl,by omega,?_,Nat.le_refl _,by simp [maxLen],rfl,rfl⟩⟩
 have h1:(((w.setCell ⟨g,5,none⟩ (.bool true)).setCell ⟨g,3,none⟩ (.int .i64 0)).alloc (.cells #[.int .i32 65533,.int .i64 q,.int .i64 n] 117)).heap.size=w.heap.size+1:=by simp
 have:=heap_alloc_new (((w.setCell ⟨g,5,none⟩ (.bool true)).setCell ⟨g,3,none⟩ (.int .i64 0)).alloc (.cells #[.int .i32 65533,.int .i64 q,.int .i64 n] 117)) (.cells #[.int .i32 65533,.int .i64 q,.int .i64 n] 117)
 rw [h1] at this
 exact this
theorem shut_dec (g n q:Nat) (k0 k1 k2:UInt8) (b:Bool) (w:World) (h:Dc w g k0 k1 k2 n q b):Calls Tryz.prog 149 #[.pointer (some ⟨g,0,none⟩)] w (Shuts w g k0 k1 k2 n q):=by
 by_cases hn:n=0
 ·subst hn;exact shut_zero g q k0 k1 k2 b w h
 ·exact shut_more g n q k0 k1 k2 b w h hn
theorem Sm.turn {w w1:World} {base sb db a e:Nat} {lim:Int} {dc dc':List Value} {vo:Value} {O:List Pt} (h:Sm w base sb db lim dc vo O a e) (hg:w.grownBy w1 (some db)) (hD:Blk w1 db 192 dc'):Sm w1 base sb db lim dc' vo O a e :=
 ⟨h.blk.grown hg (fun e=>h.apart (by injection e)),hD,h.own.kept hg (.inr (fun e=>h.ned e)),h.le,h.led,h.reach⟩
def Writes (w:World) (base sb db lim:Nat) (vo:Value) (O:List Pt) (q:Nat) (L:List UInt8) (e:Ending) (w':World):Prop :=
 ∃v T O' b,go opP flen lim [] O (dec true q L)=(T,O',b)∧e=.returned (.tuple #[v,.int .i64 (if b then 6 else 0)])∧w'.ownsRow w.heap.size 43 3 v (T.map sgOf).length (sgs (T.map sgOf))∧Chg w w' (Hers sb db vo) ∧
  (b=false→∃vo' a' k0 k1 k2,Sm w' base sb db lim (dcs k0 k1 k2 (L.length - eat L) (q+eat L) false) vo' O' a' (q+eat L)∧kept k0 k1 k2 (L.length - eat L)=L.drop (eat L)∧∀g,vo'.ownBlock=some g→w.heap.size≤g∨vo.ownBlock=some g) ∧
  (b=true→Done w' sb 6)
set_option maxHeartbeats 4000000 in
theorem write_any (base sb db lim a m c n q:Nat) (k0 k1 k2:UInt8) (vo:Value) (O:List Pt) (A:Option Addr) (l:List UInt8) (w:World) (hL:Laid w) (hS:Sm w base sb db lim (dcs k0 k1 k2 n q false) vo O a q)
  (hn3:n≤3) (hr:Rd w w.heap.size A (bys l)) (hm:l.length=m) (hc:m≤c) (hcm:c≤9223372036854775807) (hb:base≤w.heap.size) (hg:8 < base) (hsm:flen O+3*(n+m)≤1073741824) (hq:q+n+m≤1073741824) :
  Calls Tryz.prog 113 #[.pointer (some ⟨sb,0,none⟩),.slice A m c] w (Writes w base sb db lim vo O q (kept k0 k1 k2 n++l)):=by
 have HW:=Lib.hid (Utf.write_any db n q m c k0 k1 k2 A l w hS.dec hn3 hr hm hc hcm (by omega) (by omega))
 have hkl:(kept k0 k1 k2 n).length=n:=by unfold kept;rw [List.length_take];show min n 3=n;omega
 have hLl:(kept k0 k1 k2 n++l).length=n+m:=by rw [List.length_append,hkl,hm]
 generalize kept k0 k1 k2 n++l=L at HW hLl ⊢
 have hdl:=dec_len_le true L q
 have hww:=ww_eat L q
 have htl:=dec_tile true L q
 have hel:=eat_le L
 rw [hLl] at hdl hel
 have c1:=hS.blk.cell 1
 have c5:=hS.blk.cell 5
 simp only [scs,List.getElem?_cons_succ,List.getElem?_cons_zero] at c1 c5
 have HS:=Lib.hid hS
 have HL:=Lib.hid hL
 have HLL:=Lib.hid hLl
 have HDL:=Lib.hid hdl;have HWW:=Lib.hid hww;have HTL:=Lib.hid htl;have HEL:=Lib.hid hel
 obtain ⟨dl,hdl2⟩:∃dl,dl=(dec true q L).length:=⟨_,rfl⟩
 have HDL2:=Lib.hid hdl2
 clear hS hL hr hm hc hkl hLl hdl hww htl hel hdl2
 go_enter Tryz.func113,Tryz.ntmps113
 go_wp2_with fail
 refine HW.out.mono ?_
 rintro e1 w1 ⟨v1,j0,j1,j2,rfl,hown,hD,hk,hgr⟩
 obtain ⟨A1,ca1,rfl,_⟩:=Utf.own_form hown
 rw [←HDL2.out] at hown ⊢
 have HS1:=Lib.hid (HS.out.turn hgr hD)
 have HG:=Lib.hid hgr
 have HK:=Lib.hid hk
 have HO:=Lib.hid hown
 have HC1:=Lib.hid ((Chg.refl w (Hers sb db vo)).grown hgr (fun i _ h=>.inr (.inl (by injection h with h;exact h.symm))))
 have HL1:=Lib.hid (HL.out.below (HC1.out.below hb (fun i hi=>HS.out.hers hi)) hg)
 have hb1:base≤w1.heap.size:=Nat.le_trans hb hgr.size
 clear hown hD hk hgr c1 c5 HW
 go_wp2_with fail
 refine (take_any base sb db lim a q dl ca1 w.heap.size (dcs j0 j1 j2 (L.length - eat L) (q+eat L) false) vo O (dec true q L) A1 w1 HL1.out HS1.out HO.out HDL2.out.symm HTL.out hb1 hg (by have:=HDL.out;have:=HDL2.out;omega) (by rw [HWW.out];have:=HEL.out;omega)).mono ?_
 rintro e2 w2 ⟨v,T,O',b,hgo,rfl,ho2,hc2,hf,ht⟩
 have HGO:=Lib.hid hgo
 have HO2:=Lib.hid (Norm.own_mono ho2 HG.out.size)
 have HC2:=Lib.hid (HC1.out.trans hc2 (fun _ _ h=>h))
 have HF:=Lib.hid hf
 have HT:=Lib.hid ht
 clear hgo ho2 hc2 hf ht
 cases b with
 | true =>
  go_wp2_with fail
  go_ret2
  exact ⟨v,T,O',true,HGO.out,rfl,HO2.out,HC2.out,(fun h=>by cases h),fun h=>HT.out (by first | trivial | exact h)⟩
 | false =>
  go_wp2_with fail
  go_ret2
  refine ⟨v,T,O',false,HGO.out,rfl,HO2.out,HC2.out,fun h=>?_,(fun h=>by cases h)⟩
  obtain ⟨vo',a',hs,ho⟩:=HF.out (by first | trivial | exact h)
  rw [HWW.out] at hs
  refine ⟨vo',a',j0,j1,j2,hs,HK.out,fun g hg=>?_⟩
  rcases ho g hg with h | h
  ·left;have:=HG.out.size;omega
  ·exact .inr h
def Over (w:World) (er:Int) (e:Ending) (w':World):Prop:=e=.returned (.tuple #[.slice none 0 0,.int .i64 er])∧∃n,w'=w.drewN n
theorem close_done (sb:Nat) (er:Int) (w:World) (h:Done w sb er) (he:er≠0):Calls Tryz.prog 114 #[.pointer (some ⟨sb,0,none⟩)] w (Over w er):=by
 obtain ⟨lim,a,e,h⟩:=h
 have c5:=h.cell 5
 simp only [scs,List.getElem?_cons_succ,List.getElem?_cons_zero] at c5
 have hne:(er != 0)=true:=by simpa using he
 clear h he
 go_enter Tryz.func114,Tryz.ntmps114
 go_wp2_with fail
 go_quiet (fail)
 go_wp2_with fail
 go_ret2
 exact ⟨rfl,_,rfl⟩
def Closes (w:World) (sb db lim:Nat) (vo:Value) (O:List Pt) (ps:List Pt) (e:Ending) (w':World):Prop :=
 ∃v T O' b,go opP flen lim [] O ps=(T,O',b)∧e=.returned (.tuple #[v,.int .i64 (if b then 6 else 0)])∧Chg w w' (Hers sb db vo) ∧
  (b=false→w'.ownsRow w.heap.size 43 3 v ((shut (T,O')).map sgOf).length (sgs ((shut (T,O')).map sgOf))∧Done w' sb 8) ∧
  (b=true→w'.ownsRow w.heap.size 43 3 v (T.map sgOf).length (sgs (T.map sgOf))∧Done w' sb 6)
theorem shut_two (T:List (List Pt)) (O:List Pt):shut (T,O)=T++shut ([],O):=by have:=shut_pre T (([],O):List (List Pt) × List Pt);simpa using this
theorem last_tile (n q:Nat):Tile q (last n q)∧ww (last n q)=n:=by
 unfold last
 split
 ·rename_i h;exact ⟨trivial,by rw [ww_nil,h]⟩
 ·rename_i h;exact ⟨⟨rfl,by show 1≤n;omega,trivial⟩,by simp [ww]⟩
set_option maxHeartbeats 4000000 in
theorem close_any (base sb db lim a n q:Nat) (k0 k1 k2:UInt8) (vo:Value) (O:List Pt) (w:World) (hL:Laid w) (hS:Sm w base sb db lim (dcs k0 k1 k2 n q false) vo O a q)
  (hb:base≤w.heap.size) (hg:8 < base) (hsm:flen O+3≤1073741824) (hq:q+n≤1073741824) :
  Calls Tryz.prog 114 #[.pointer (some ⟨sb,0,none⟩)] w (Closes w sb db lim vo O (last n q)):=by
 have HW:=Lib.hid (shut_dec db n q k0 k1 k2 false w hS.dec)
 have hll:=last_len n q
 obtain ⟨htl,hww⟩:=last_tile n q
 have c1:=hS.blk.cell 1
 have c5:=hS.blk.cell 5
 simp only [scs,List.getElem?_cons_succ,List.getElem?_cons_zero] at c1 c5
 have HS:=Lib.hid hS
 have HL:=Lib.hid hL
 have HSH:=Lib.hid shut_two
 obtain ⟨ps,hps⟩:∃ps,ps=last n q:=⟨_,rfl⟩
 rw [←hps] at hll htl hww ⊢
 have HPS:=Lib.hid hps
 have HTL:=Lib.hid htl;have HWW:=Lib.hid hww
 obtain ⟨dl,hdl⟩:∃dl,dl=ps.length:=⟨_,rfl⟩
 rw [←hdl] at hll
 have HDL:=Lib.hid hdl
 clear hS hL htl hww hdl hps
 go_enter Tryz.func114,Tryz.ntmps114
 go_wp2_with fail
 refine HW.out.mono ?_
 rintro e1 w1 ⟨v1,rfl,hown,hD,hgr⟩
 rw [←HPS.out] at hown
 obtain ⟨A1,ca1,rfl,_⟩:=Utf.own_form hown
 rw [←HDL.out] at hown ⊢
 have HS1:=Lib.hid (HS.out.turn hgr hD)
 have HG:=Lib.hid hgr
 have HO:=Lib.hid hown
 have HC1:=Lib.hid ((Chg.refl w (Hers sb db vo)).grown hgr (fun i _ h=>.inr (.inl (by injection h with h;exact h.symm))))
 have HL1:=Lib.hid (HL.out.below (HC1.out.below hb (fun i hi=>HS.out.hers hi)) hg)
 have hb1:base≤w1.heap.size:=Nat.le_trans hb hgr.size
 clear hown hD hgr c1 c5 HW
 go_wp2_with fail
 refine (take_any base sb db lim a q dl ca1 w.heap.size (dcs k0 k1 k2 0 q true) vo O ps A1 w1 HL1.out HS1.out HO.out HDL.out.symm HTL.out hb1 hg (by omega) (by rw [HWW.out];omega)).mono ?_
 rintro e2 w2 ⟨v,T,O',b,hgo,rfl,ho2,hc2,hf,ht⟩
 have HGO:=Lib.hid hgo
 have HO2:=Lib.hid ho2
 have HC2:=Lib.hid (HC1.out.trans hc2 (fun _ _ h=>h))
 have HF:=Lib.hid hf
 have HT:=Lib.hid ht
 have hs12:=hc2.size
 clear hgo hc2 hf ht
 cases b with
 | true =>
  clear ho2 hs12
  go_wp2_with fail
  go_ret2
  exact ⟨v,T,O',true,HGO.out,rfl,HC2.out,(fun h=>by cases h),fun _=>⟨Norm.own_mono HO2.out HG.out.size,HT.out (by first | trivial | rfl)⟩⟩
 | false =>
  obtain ⟨vo',a',hs,ho⟩:=HF.out (by first | trivial | rfl)
  obtain ⟨TS,hTS⟩:∃TS,TS=T.map sgOf:=⟨_,rfl⟩
  rw [←hTS] at ho2
  have HTS:=Lib.hid hTS
  obtain ⟨A2,c2,rfl,_⟩:=Utf.own_form ho2
  have hb2:=HC2.out.below hb (fun i hi=>HS.out.hers hi)
  have hL2:=HL.out.below hb2 hg
  have hof:=go_open HGO.out
  have hgl:=go_len opP flen lim ps [] O
  rw [HGO.out] at hgl
  have hTm:TS.length≤1073741824:=by rw [hTS,List.length_map];have:=HDL.out;simp at hgl;omega
  have HTE:=Lib.hid (tell_any w1.heap.size base sb db lim (dcs k0 k1 k2 0 q true) vo' (.slice A2 TS.length c2) TS O' a' (q+ww ps) w2 hL2 hs ho2 hs12 (by have:=HDL.out;omega) hTm)
  have HS12:=Lib.hid hs12
  have HS2:=Lib.hid hs
  have HORG:=Lib.hid ho
  have HTO:=Lib.hid ho2
  clear hTS hs ho ho2 hb2 hL2 hof hgl hTm HO2 HT hs12
  go_wp2_with fail
  refine HTE.out.mono ?_
  rintro e3 w3 ⟨v',vo'',rfl,ho3,hS3,hc3,hv3,ha3⟩
  rw [HTS.out,←List.map_append,←HSH.out] at ho3
  have HO3:=Lib.hid ho3
  have HS3:=Lib.hid hS3
  have HC3:=Lib.hid (HC2.out.trans hc3 (fun i hi h=>by
   rcases h with h | h
   ·exact .inl h
   ·have:=(HTO.out.lt i h).1;have:=HG.out.size;omega))
  clear ho3 hS3 hc3 hv3 ha3 HTE
  go_wp2_with fail
  refine (stop_any sb lim 0 8 _ _ _ _ w3 HS3.out.blk).mono ?_
  rintro e4 w4 ⟨rfl,hD4,hC4⟩
  have HD4:=Lib.hid hD4
  have HO4:=Lib.hid (Norm.own_mono (Norm.own_keep HO3.out hC4 (fun g hg h=>own_ne HO3.out HS3.out.blk (by decide) (h ▸ hg))) HG.out.size)
  have HC4:=Lib.hid (HC3.out.trans hC4 (fun i _ h=>.inl h))
  clear hD4 hC4
  go_wp2_with fail
  go_ret2
  exact ⟨v',T,O',false,HGO.out,rfl,HC4.out,(fun _=>⟨HO4.out,HD4.out⟩),(fun h=>by cases h)⟩
end Go.Proofs.YtkgeiokckfpjlaaGreatDoor.Seg
namespace Go.Proofs.YtkgeiokckfpjlaaGreatDoor.Seg
open Go.Shelf Go.RowKit Go.Sort
open Utf hiding infoI32 rd_new own_form below_drewN new_any write_any close_any
open Ucd hiding grow same Told
open Norm hiding new_any write_any close_any
set_option maxRecDepth 100000
def okS (lim:Nat) (l:List UInt8):List (List Pt):=okG flen lim (grp (dec false 0 l))
def badS (lim:Nat) (l:List UInt8):Bool:=badG flen lim (grp (dec false 0 l))
def Live (w:World) (base sb db lim:Nat) (vo:Value) (X:List UInt8) (T:List (List Pt)):Prop :=
 ∃O a k0 k1 k2,go opP flen lim [] [] (dec true 0 X)=(T,O,false)∧Sm w base sb db lim (dcs k0 k1 k2 (X.length - eat X) (eat X) false) vo O a (eat X)∧kept k0 k1 k2 (X.length - eat X)=X.drop (eat X)
theorem live_new {w:World} {base sb db lim:Nat} (h:Sm w base sb db lim (dcs 0 0 0 0 0 false) (.slice none 0 0) [] 0 0):Live w base sb db lim (.slice none 0 0) [] []:=⟨[],0,0,0,0,rfl,h,rfl⟩
section
variable {w w':World} {base sb db lim:Nat} {vo:Value} {X:List UInt8} {T:List (List Pt)}
theorem Live.hers (h:Live w base sb db lim vo X T) {k:Nat} (hk:k < base):¬Hers sb db vo k:=by obtain ⟨O,a,k0,k1,k2,_,hs,_⟩:=h;exact hs.hers hk
theorem Live.apart (h:Live w base sb db lim vo X T) {bs:Nat} {e:TypeId} {size n:Nat} {v:Value} {xs:List Value} (ho:w.ownsRow bs e size v n xs) (h1:e≠159) (h2:e≠192) (h3:e≠21) :
  ∀k,v.ownBlock=some k→¬Hers sb db vo k:=by
 obtain ⟨O,a,k0,k1,k2,_,hs,_⟩:=h
 intro k hk hi
 rcases hi with rfl | rfl | hi
 ·exact own_ne ho hs.blk h1 hk
 ·exact own_ne ho hs.dec h2 hk
 ·exact own_apart ho hs.own h3 k hk hi
end
theorem go_on {lim:Nat} {a b:List Pt} {T Tn:List (List Pt)} {O O':List Pt} {r:Bool} (h:go opP flen lim [] [] a=(T,O,false)) (h':go opP flen lim [] O b=(Tn,O',r)):go opP flen lim [] [] (a++b)=(T++Tn,O',r):=by
 rw [go_append,h]
 simp only [Bool.false_eq_true,if_false]
 have:=go_pre opP flen lim T b [] O
 rw [List.append_nil,h'] at this
 exact this
def LiveWrote (w:World) (base sb db lim:Nat) (vo:Value) (X l:List UInt8) (T:List (List Pt)) (e:Ending) (w':World):Prop :=
 ∃v Tn b,e=.returned (.tuple #[v,.int .i64 (if b then 6 else 0)])∧w'.ownsRow w.heap.size 43 3 v (Tn.map sgOf).length (sgs (Tn.map sgOf))∧Chg w w' (Hers sb db vo) ∧
  (b=false→∃vo',Live w' base sb db lim vo' (X++l) (T++Tn)∧∀g,vo'.ownBlock=some g→w.heap.size≤g∨vo.ownBlock=some g) ∧
  (b=true→Done w' sb 6∧∀c,okG flen lim (grp (dec true 0 (X++l)++c))=T++Tn∧badG flen lim (grp (dec true 0 (X++l)++c))=true)
theorem live_write (base sb db lim m c:Nat) (vo:Value) (X l:List UInt8) (T:List (List Pt)) (A:Option Addr) (w:World) (hL:Laid w) (h:Live w base sb db lim vo X T)
  (hr:Rd w w.heap.size A (bys l)) (hm:l.length=m) (hc:m≤c) (hcm:c≤9223372036854775807) (hb:base≤w.heap.size) (hg:8 < base) (hsm:X.length+m≤268435456) :
  Calls Tryz.prog 113 #[.pointer (some ⟨sb,0,none⟩),.slice A m c] w (LiveWrote w base sb db lim vo X l T):=by
 obtain ⟨O,a,k0,k1,k2,g1,hs,g2⟩:=h
 have h3:=rest_short X
 have hel:=eat_le X
 have hfo:=go_open g1
 have hdl:=dec_len_le true X 0
 have hf0:flen []=0:=rfl
 refine (write_any base sb db lim a m c (X.length - eat X) (eat X) k0 k1 k2 vo O A l w hL hs h3 hr hm hc hcm hb hg (by omega) (by omega)).mono ?_
 rw [g2]
 rintro e w' ⟨v,Tn,O',b,hgo,rfl,ho,hch,hf,ht⟩
 have hda:=dec_append true X l 0
 rw [Nat.zero_add] at hda
 have hgo2:go opP flen lim [] [] (dec true 0 (X++l))=(T++Tn,O',b):=by rw [hda];exact go_on g1 hgo
 have hea:=eat_append X l
 have hle:=eat_le (X.drop (eat X)++l)
 rw [List.length_append,List.length_drop] at hle
 have hn:(X.drop (eat X)++l).length - eat (X.drop (eat X)++l)=(X++l).length - eat (X++l):=by
  rw [hea,List.length_append,List.length_append,List.length_drop];omega
 have hdr:(X.drop (eat X)++l).drop (eat (X.drop (eat X)++l))=(X++l).drop (eat (X++l)):=by
  rw [hea,←List.drop_drop,List.drop_append_of_le_length hel]
 refine ⟨v,Tn,b,rfl,ho,hch,fun hb=>?_,fun hb=>⟨ht hb,?_⟩⟩
 ·subst hb
  obtain ⟨vo',a',j0,j1,j2,hs',hk,hor⟩:=hf rfl
  rw [hn,←hea] at hs'
  rw [hn,hdr] at hk
  exact ⟨vo',⟨O',a',j0,j1,j2,hgo2,hs',hk⟩,hor⟩
 ·subst hb
  exact (go_all opP flen lim flen_grows hgo2).2 rfl
def LiveClosed (w:World) (sb db lim:Nat) (vo:Value) (X:List UInt8) (T:List (List Pt)) (e:Ending) (w':World):Prop :=
 ∃v Tn,e=.returned (.tuple #[v,.int .i64 (if badS lim X then 6 else 0)])∧w'.ownsRow w.heap.size 43 3 v (Tn.map sgOf).length (sgs (Tn.map sgOf))∧Chg w w' (Hers sb db vo)∧T++Tn=okS lim X∧Done w' sb (if badS lim X then 6 else 8)
theorem live_close (base sb db lim:Nat) (vo:Value) (X:List UInt8) (T:List (List Pt)) (w:World) (hL:Laid w) (h:Live w base sb db lim vo X T) (hb:base≤w.heap.size) (hg:8 < base) (hsm:X.length≤268435456) :
  Calls Tryz.prog 114 #[.pointer (some ⟨sb,0,none⟩)] w (LiveClosed w sb db lim vo X T):=by
 obtain ⟨O,a,k0,k1,k2,g1,hs,g2⟩:=h
 have h3:=rest_short X
 have hel:=eat_le X
 have hfo:=go_open g1
 have hdl:=dec_len_le true X 0
 have hf0:flen []=0:=rfl
 refine (close_any base sb db lim a (X.length - eat X) (eat X) k0 k1 k2 vo O w hL hs hb hg (by omega) (by omega)).mono ?_
 rintro e w' ⟨v,Tn,O',b,hgo,rfl,hch,hf,ht⟩
 have hda:=dec_close 0 X
 rw [Nat.zero_add] at hda
 have hgo2:go opP flen lim [] [] (dec false 0 X)=(T++Tn,O',b):=by rw [hda];exact go_on g1 hgo
 have hall:=go_all opP flen lim flen_grows hgo2
 cases b with
 | false =>
  obtain ⟨e1,_,e3⟩:=hall.1 rfl
  obtain ⟨hok,hbad⟩:=okG_all flen lim (gs:=grp (dec false 0 X)) e3
  have hbs:badS lim X=false:=hbad
  obtain ⟨ho,hd⟩:=hf rfl
  refine ⟨v,shut (Tn,O'),by rw [hbs],ho,hch,?_,by rw [hbs];exact hd⟩
  show _=okG flen lim (grp (dec false 0 X))
  rw [hok]
  have hp:=shut_pre T (Tn,O')
  simp only at hp
  rw [←hp]
  exact e1
 | true =>
  obtain ⟨e1,e2⟩:=hall.2 rfl []
  rw [List.append_nil] at e1 e2
  have hbs:badS lim X=true:=e2
  obtain ⟨ho,hd⟩:=ht rfl
  exact ⟨v,Tn,by rw [hbs],ho,hch,e1.symm,by rw [hbs];exact hd⟩
def Wholes (w:World) (base lim:Nat) (l:List UInt8) (e:Ending) (w':World):Prop :=
 ∃v,e=.returned (.tuple #[v,.int .i64 (if badS lim l then 6 else 0)])∧w'.ownsRow w.heap.size 43 3 v ((okS lim l).map sgOf).length (sgs ((okS lim l).map sgOf))∧Below base w w'
theorem dec_more (l:List UInt8):∃c,dec false 0 l=dec true 0 l++c:=⟨_,dec_close 0 l⟩
theorem grp_len (o:Bool) (l:List UInt8):(grp (dec o 0 l)).length≤l.length:=by
 have h1:=cuts_flat opP (dec o 0 l)
 have h2:=dec_len_le o l 0
 have h3:∀gs:List (List Pt),(∀g∈gs,∃q t,g=q :: t)→gs.length≤gs.flatten.length:=fun gs=>by
  induction gs with
  | nil=>simp
  | cons g t ih =>
   intro h
   obtain ⟨q,u,rfl⟩:=h g (by simp)
   have:=ih fun g hg=>h g (by simp [hg])
   simp only [List.length_cons,List.flatten_cons,List.length_append]
   omega
 have:=h3 (grp (dec o 0 l)) (fun g hg=>cuts_group opP hg)
 rw [grp,h1] at this
 exact Nat.le_trans this h2
theorem okS_len (lim:Nat) (l:List UInt8):(okS lim l).length≤l.length:=Nat.le_trans (List.takeWhile_sublist _).length_le (grp_len false l)
set_option maxHeartbeats 4000000 in
theorem whole_any (base sb db lim m c:Nat) (vo:Value) (l:List UInt8) (A:Option Addr) (w:World) (hL:Laid w) (h:Live w base sb db lim vo [] [])
  (hr:Rd w w.heap.size A (bys l)) (hm:l.length=m) (hc:m≤c) (hcm:c≤9223372036854775807) (hb:base≤w.heap.size) (hg:8 < base) (hsm:m≤134217728) :
  Calls Tryz.prog 82 #[.pointer (some ⟨sb,0,none⟩),.slice A m c] w (Wholes w base lim l):=by
 obtain ⟨i0,hi,hz0,hz1,hz2⟩:=info_parts infoSg
 have HW:=Lib.hid (live_write base sb db lim m c vo [] l [] A w hL h hr hm hc hcm hb hg (by simp;omega))
 have HLI:=Lib.hid h
 have HL:=Lib.hid hL
 have HM:=Lib.hid hm
 have hol:=okS_len lim l
 rw [hm] at hol
 have HOL:=Lib.hid hol
 clear hL h hr hm hc hol
 go_enter Tryz.func82,Tryz.ntmps82
 go_wp2_with fail
 refine HW.out.mono ?_
 rintro e1 w1 ⟨v1,Tn,b,rfl,ho,hch,hf,ht⟩
 have HB1:=Lib.hid (hch.below hb (fun i hi=>HLI.out.hers hi))
 have HL1:=Lib.hid (HL.out.below HB1.out hg)
 have HF:=Lib.hid hf
 have HT:=Lib.hid ht
 have hs1:=hch.size
 cases b with
 | true =>
  obtain ⟨hD,hbad⟩:=HT.out (by first | trivial | rfl)
  obtain ⟨cc,hcc⟩:=dec_more l
  obtain ⟨e1,e2⟩:=hbad cc
  rw [List.nil_append,←hcc] at e1 e2
  rw [List.nil_append] at e1
  have HOK:=Lib.hid (show okS lim l=Tn from e1)
  have HBAD:=Lib.hid (show badS lim l=true from e2)
  have HO:=Lib.hid ho
  have HC:=Lib.hid (close_done sb 6 w1 hD (by decide))
  have hTl:(Tn.map sgOf).length≤134217728:=by rw [List.length_map,←e1];have:=HOL.out;unfold okS at this;omega
  obtain ⟨tl,htl⟩:∃tl,tl=(Tn.map sgOf).length:=⟨_,rfl⟩
  have HTL:=Lib.hid htl
  rw [←htl] at HO hTl
  clear ho hch hf ht hD hbad hcc e1 e2 htl HF HT
  go_wp2_with fail
  refine HC.out.mono ?_
  rintro e2 w2 ⟨rfl,n2,hw2⟩
  have HO2:=Lib.hid (show w2.ownsRow w.heap.size 43 3 v1 tl (sgs (Tn.map sgOf)) by rw [hw2];exact Ucd.own_below HO.out (below_drewN (Below.refl _ _) n2))
  have HB2:=Lib.hid (show Below base w w2 by rw [hw2];exact below_drewN HB1.out n2)
  have hs2:w.heap.size≤w2.heap.size:=HB2.out.size
  clear hw2 hs1
  go_wp2_with (at_builtin;refine wpList_append_rd _ rfl (.tmp 21) (.tmp 22) _ rfl w.heap.size 43 i0 _ 3 32 Tryz.underlying34 hi hz0 hz1 hz2 rfl (by decide) v1 tl (sgs (Tn.map sgOf)) rfl HO2.out 0 none 0 0 [] rfl rfl (Rd.empty _ _ _) (fun _ h=>nomatch h) (by unfold maxLen;omega) (by omega) hs2 ?_;intro v6 w6 hown6 hgr6 _)
  have HO6:=Lib.hid hown6
  have HB6:=Lib.hid (HB2.out.grown hgr6 (Nat.le_trans hb hs2) fun k hk=>Nat.le_trans hb (HO2.out.lt k hk).1)
  clear hown6 hgr6
  go_ret2
  refine ⟨v6,by rw [HBAD.out];rfl,?_,HB6.out⟩
  rw [HOK.out,←HTL.out]
  simpa using HO6.out
 | false =>
  obtain ⟨vo',hlv,hor⟩:=HF.out (by first | trivial | rfl)
  rw [List.nil_append,List.nil_append] at hlv
  have hb1:base≤w1.heap.size:=Nat.le_trans hb hs1
  have HC:=Lib.hid (live_close base sb db lim vo' l Tn w1 HL1.out hlv hb1 hg (by have:=HM.out;omega))
  have HAP:=Lib.hid (hlv.apart ho (by decide) (by decide) (by decide))
  have HLV:=Lib.hid hlv
  obtain ⟨TS,hTS⟩:∃TS,TS=Tn.map sgOf:=⟨_,rfl⟩
  rw [←hTS] at ho
  have HO:=Lib.hid ho
  have HTS:=Lib.hid hTS
  clear ho hch hf ht hlv hor hTS HF HT
  go_wp2_with fail
  refine HC.out.mono ?_
  rintro e2 w2 ⟨v2,T2,rfl,ho2,hc2,hok,_⟩
  have HOK:=Lib.hid hok
  obtain ⟨TS2,hTS2⟩:∃TS,TS=T2.map sgOf:=⟨_,rfl⟩
  rw [←hTS2] at ho2
  have hsum:TS.length+TS2.length≤134217728:=by
   have:=HOL.out
   rw [←hok,List.length_append] at this
   rw [HTS.out,hTS2,List.length_map,List.length_map];omega
  have HTS2:=Lib.hid hTS2
  obtain ⟨A2,c2,rfl,_,_,hr2⟩:=Utf.own_form ho2
  have HR2:=Lib.hid hr2
  have HO2:=Lib.hid (Norm.own_keep HO.out hc2 HAP.out)
  have HB2:=Lib.hid (HB1.out.trans (hc2.below hb1 (fun i hi=>HLV.out.hers hi)))
  have hs2:w.heap.size≤w2.heap.size:=HB2.out.size
  clear ho2 hc2 hok hTS2 hr2 hs1
  cases hbb:badS lim l
  all_goals
   have HBB:=Lib.hid hbb
   clear hbb
   go_wp2_with (at_builtin;refine wpList_append_rd _ rfl (.tmp 21) (.tmp 22) _ rfl w.heap.size 43 i0 _ 3 32 Tryz.underlying34 hi hz0 hz1 hz2 rfl (by decide) v1 TS.length (sgs TS) rfl HO2.out _ A2 TS2.length c2 (sgs TS2) rfl (sgs_len _) HR2.out (sgs_one _) (by unfold maxLen;omega) (by omega) hs2 ?_;intro v6 w6 hown6 hgr6 _)
   have HO6:=Lib.hid hown6
   have HB6:=Lib.hid (HB2.out.grown hgr6 (Nat.le_trans hb hs2) fun k hk=>Nat.le_trans hb (HO2.out.lt k hk).1)
   clear hown6 hgr6
   go_ret2
   refine ⟨v6,by rw [HBB.out];rfl,?_,HB6.out⟩
   rw [←HOK.out,List.map_append,←HTS.out,←HTS2.out,sgs_append,List.length_append]
   exact HO6.out
end Go.Proofs.YtkgeiokckfpjlaaGreatDoor.Seg
namespace Go.Proofs.YtkgeiokckfpjlaaGreatDoor.Seg
open Go.Shelf Go.RowKit Go.Sort
open Utf hiding infoI32 rd_new own_form below_drewN new_any write_any close_any
open Ucd hiding grow same Told
open Norm hiding new_any write_any close_any
set_option maxRecDepth 100000
def spS (lim:Int) (l:List UInt8):List Sg:=if 1≤lim∧lim≤64 then (okS lim.toNat l).map sgOf else []
def spE (lim:Int) (l:List UInt8):Int:=if 1≤lim∧lim≤64 then (if badS lim.toNat l then 6 else 0) else 1
def SplitAns (w:World) (lim:Int) (l:List UInt8) (e:Ending) (w':World):Prop :=
 ∃v,e=.returned (.tuple #[v,.int .i64 (spE lim l)])∧w'.ownsRow w.heap.size 43 3 v (spS lim l).length (sgs (spS lim l))∧Below w.heap.size w w'
set_option maxHeartbeats 4000000 in
theorem split_any (lim:Int) (l:List UInt8) (A:Option Addr) (m c:Nat) (w:World) (hL:Laid w)
  (hr:Rd w w.heap.size A (bys l)) (hm:l.length=m) (hc:m≤c) (hcm:c≤9223372036854775807) (hsm:m≤134217728) :
  Calls Tryz.prog 45 #[.slice A m c,.int .i64 lim] w (SplitAns w lim l):=by
 have HR:=Lib.hid hr;have HL:=Lib.hid hL;have HM:=Lib.hid hm
 by_cases hlim:1≤lim∧lim≤64
 ·obtain ⟨lm,rfl⟩:∃lm:Nat,lim=lm:=⟨lim.toNat,by omega⟩
  have HN:=Lib.hid (new_good lm w hlim.1 hlim.2)
  have HE:=Lib.hid (show spE lm l=if badS lm l then 6 else 0 by unfold spE;rw [if_pos hlim];rfl)
  have HS:=Lib.hid (show spS lm l=(okS lm l).map sgOf by unfold spS;rw [if_pos hlim];rfl)
  clear hr hL hm hlim
  go_enter Tryz.func45,Tryz.ntmps45
  go_wp2_with fail
  refine HN.out.mono ?_
  rintro e1 w1 ⟨sb,db,rfl,hS,hb⟩
  have HSM:=Lib.hid (live_new hS)
  have HB:=Lib.hid hb
  have HL1:=Lib.hid (HL.out.next hb)
  have HW:=Lib.hid (whole_any w.heap.size sb db lm m c (.slice none 0 0) l A w1 HL1.out HSM.out ((HR.out.below hb).more hb.size) HM.out hc hcm hb.size HL.out.size hsm)
  clear hS hb
  go_wp2_with fail
  refine HW.out.mono ?_
  rintro e2 w2 ⟨v,rfl,ho,hb2⟩
  have HO:=Lib.hid ho
  have HB2:=Lib.hid hb2
  clear ho hb2
  cases hbb:badS lm l
  all_goals
   have HBB:=Lib.hid hbb
   clear hbb
   go_wp2_with fail
   go_ret2
   refine ⟨v,by rw [HE.out,HBB.out];rfl,?_,HB.out.trans HB2.out⟩
   rw [HS.out]
   exact Norm.own_mono HO.out HB.out.size
 ·have HN:=Lib.hid (new_bad lim w (by omega))
  have HE:=Lib.hid (show spE lim l=1 by unfold spE;rw [if_neg hlim])
  have HS:=Lib.hid (show spS lim l=[] by unfold spS;rw [if_neg hlim])
  clear hr hL hm hlim
  go_enter Tryz.func45,Tryz.ntmps45
  go_wp2_with fail
  refine HN.out.mono ?_
  rintro e1 w1 ⟨rfl,rfl⟩
  go_wp2_with fail
  go_ret2
  exact ⟨.slice none 0 0,by rw [HE.out];rfl,by rw [HS.out];exact World.ownsRow_nil _ _ _ _,Below.refl _ _⟩
def TextsAns (w:World) (ts:List ByteArray) (e:Ending) (w':World):Prop :=
 ∃v,e=.returned v∧w'.ownsRow w.heap.size 9 1 v ts.length (strs ts)∧Below w.heap.size w w'
theorem ok_all {lim:Nat} {l:List UInt8} (h:3*l.length≤lim):okS lim l=grp (dec false 0 l)∧badS lim l=false:=by
 refine okG_all flen lim fun g hg=>?_
 have h1:=flen_le g
 have h2:=dec_len_le false l 0
 have h3:g.length≤(grp (dec false 0 l)).flatten.length:=(List.sublist_flatten_of_mem hg).length_le
 rw [grp,cuts_flat] at h3
 omega
set_option maxHeartbeats 4000000 in
theorem texts_any (l:List UInt8) (A:Option Addr) (m c:Nat) (w:World) (hL:Laid w)
  (hr:Rd w w.heap.size A (bys l)) (hm:l.length=m) (hc:m≤c) (hcm:c≤9223372036854775807) (hsm:m≤134217728) :
  Calls Tryz.prog 48 #[.slice A m c] w (TextsAns w (texts l)):=by
 obtain ⟨i0,hi,hz0,hz1,hz2⟩:=info_parts infoStr
 have HR:=Lib.hid hr;have HL:=Lib.hid hL;have HM:=Lib.hid hm
 obtain ⟨lm,hlm⟩:∃lm:Nat,(lm:Int)=9223372036854775807:=⟨9223372036854775807,rfl⟩
 obtain ⟨h1,h2⟩:=ok_all (lim:=lm) (l:=l) (by omega)
 have HBN:=Lib.hid (begin_any lm w)
 rw [hlm] at HBN
 have HLM:=Lib.hid hlm
 have HOK:=Lib.hid (show (okS lm l).map sgOf=(grp (dec false 0 l)).map sgOf by rw [h1])
 have HBD:=Lib.hid h2
 have HTX:=Lib.hid (show texts l=((grp (dec false 0 l)).map sgOf).map Sg.t by rw [List.map_map];rfl)
 have hol:((grp (dec false 0 l)).map sgOf).length≤m:=by rw [List.length_map,←hm];exact grp_len false l
 generalize (grp (dec false 0 l)).map sgOf=S at HOK HTX hol
 generalize texts l=TX at HTX ⊢
 obtain ⟨B0,hB0⟩:∃B0,B0=w.heap.size:=⟨_,rfl⟩
 have HB0:=Lib.hid hB0
 clear hr hL hm hlm h1 h2 hB0
 go_enter Tryz.func48,Tryz.ntmps48
 go_wp2_with fail
 refine HBN.out.mono ?_
 rintro e1 w1 ⟨sb,db,rfl,hS,hb⟩
 rw [←HLM.out] at hS
 have HB:=Lib.hid hb
 have HL1:=Lib.hid (HL.out.next hb)
 have HW:=Lib.hid (whole_any w.heap.size sb db lm m c (.slice none 0 0) l A w1 HL1.out (live_new hS) ((HR.out.below hb).more hb.size) HM.out hc hcm hb.size HL.out.size hsm)
 clear hS hb
 go_wp2_with fail
 refine HW.out.mono ?_
 rintro e2 w2 ⟨v,rfl,ho,hb2⟩
 rw [HOK.out] at ho
 rw [HBD.out]
 obtain ⟨A1,c1,rfl,_,_,hr1⟩:=own_form ho
 have HR1:=Lib.hid hr1
 have HB1:=Lib.hid (show Below B0 w w2 by rw [HB0.out];exact HB.out.trans hb2)
 obtain ⟨n,hn⟩:∃n,n=S.length:=⟨_,rfl⟩
 rw [←hn] at hol ⊢
 have HN:=Lib.hid hn
 clear ho hb2 hr1 hn HW
 go_wp2_with fail
 go_loopw [5,16] (fun vo i wr=>∃k:Nat,k≤n∧i=.int .i64 k∧Hid (wr.ownsRow w2.heap.size 9 1 vo ((S.take k).map Sg.t).length (strs ((S.take k).map Sg.t)))∧Hid (Below w2.heap.size w2 wr)) (fun _ i _=>n - (intOf i).toNat)
 case atStart=>exact ⟨0,Nat.zero_le _,rfl,Lib.hid (World.ownsRow_nil _ _ _ _),Lib.hid (Below.refl _ _)⟩
 case round =>
  obtain ⟨k,hk,rfl,HO,HB⟩:=hrel
  by_cases hlt:k < n
  ·have hkl:k < S.length:=by rw [←HN.out];exact hlt
   obtain ⟨b,o,rfl,hbl⟩:=HR1.out.form (by rw [sgs_len];omega)
   obtain ⟨p1,p2,p3⟩:=Rd_sg (HR1.out.below HB.out) hkl
   have HT:=Lib.hid (show (S.take (k+1)).map Sg.t=(S.take k).map Sg.t++[S[k].t] by rw [List.take_succ_eq_append_getElem hkl,List.map_append];rfl)
   have hlen:((S.take k).map Sg.t).length=k:=by rw [List.length_map,List.length_take];omega
   generalize (S.take k).map Sg.t=L at HO HT hlen
   have hbw:=HB.out.size
   rw [hlen] at HO
   have HLN:=Lib.hid hlen
   obtain ⟨x,hx⟩:∃x:ByteArray,x=S[k].t:=⟨_,rfl⟩
   obtain ⟨y,hy⟩:∃y:Int,y=(S[k].a:Int):=⟨_,rfl⟩
   obtain ⟨z,hz⟩:∃z:Int,z=(S[k].e:Int):=⟨_,rfl⟩
   rw [←hx] at p1 HT
   rw [←hy] at p2
   rw [←hz] at p3
   have hbk:k≤134217728:=by omega
   clear hkl hx hy hz hlen hbl
   go_wp2_with (at_builtin;refine wpList_append_rd _ rfl (.tmp 20) (.tmp 23) _ rfl w2.heap.size 9 i0 _ 1 16 Tryz.underlying32 hi hz0 hz1 hz2 rfl (by decide) u5 k (strs L) rfl ((HO.out.alloc _).alloc _) _ (some ⟨wr.heap.size+1,0,none⟩) 1 1 [.string x] rfl rfl (rd_new _ _ [.string x] _ (by simp)) (strs_one [x]) (by unfold maxLen;omega) (by omega) (by simp;omega) ?_;intro v6 w6 hown6 hgr6 _)
   have HO6:=Lib.hid (show w6.ownsRow w2.heap.size 9 1 v6 ((S.take (k+1)).map Sg.t).length (strs ((S.take (k+1)).map Sg.t)) by
    rw [HT.out,List.length_append,HLN.out,strs_append];exact hown6)
   have HB6:=Lib.hid (((HB.out.alloc hbw _).alloc (by simp;omega) _).grown hgr6 (by simp;omega) (fun g hg=>(HO.out.lt g hg).1))
   clear hown6 hgr6 HO HT
   go_roundw
   case rel=>exact ⟨k+1,by omega,by go_num,HO6,HB6⟩
   case measure=>simp [intOf];omega
  ·have HXT:=Lib.hid (show S.take k=S by rw [List.take_of_length_le (by rw [←HN.out];omega)])
   rw [HXT.out,←HTX.out] at HO
   have hs2:B0≤w2.heap.size:=by have:=HB1.out.size;rw [HB0.out];exact this
   go_wp2
   go_ret
   exact ⟨u5,rfl,Norm.own_mono HO.out (by rw [←HB0.out];exact hs2),by rw [←HB0.out];exact HB1.out.trans (HB.out.mono hs2)⟩
end Go.Proofs.YtkgeiokckfpjlaaGreatDoor.Seg
