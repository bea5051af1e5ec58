/-
  Whatever bytes there are: equivalent texts have the same words, by keys and segments, and each word's key is that of its bytes. Conditions: the arguments hold at most 1048576 values; the package's tables are laid as the program's text lays them (tied).
-/
import Derived.Deep.SlicePairs
import Derived.BigRegion
import Derived.Test.YtdngaddggcmjgaaDoorW21
import Derived.Test.YtdngaddggcmjgaaDoorW22
import Derived.Test.YtdngaddggcmjgaaDoorW23
import Derived.Test.YtdngaddggcmjgaaDoorW24
namespace Go.Proofs.YtdngaddggcmjgaaDoor.LawWordsSame
open Go.ChangeShapes Go.WideShapes Go.ChangeAt Go.RowKit
open Utf hiding infoI32 rd_new own_form own_below rdec_any below_drewN new_any write_any close_any infoU8
open Ucd hiding grow same Told grp
open Norm hiding new_any write_any close_any
open Seg
open Words
theorem gist_len {S T:List Wd} (h:S.map gist=T.map gist):S.length=T.length:=by
 have:=congrArg List.length h
 rwa [List.length_map,List.length_map] at this
theorem gist_at {S T:List Wd} (h:S.map gist=T.map gist) {i:Nat} (hi:i < S.length) (hj:i < T.length):S[i].k=T[i].k∧S[i].f=T[i].f∧S[i].g=T[i].g:=by
 have:=congrArg (fun l=>l[i]?) h
 simp only [List.getElem?_map,List.getElem?_eq_getElem hi,List.getElem?_eq_getElem hj,Option.map_some,Option.some.injEq,gist,Prod.mk.injEq] at this
 exact ⟨this.1,this.2.1,this.2.2⟩
set_option maxHeartbeats 8000000 in
set_option maxRecDepth 100000 in
theorem walk (A:Option Addr) (a:List UInt8) (n c:Nat) (B:Option Addr) (b:List UInt8) (m d:Nat) (w:World) (hL:Laid w) (hra:Rd w w.heap.size A (bys a)) (hn:a.length=n) (hc:n≤c) (hcm:c≤9223372036854775807)
  (hrb:Rd w w.heap.size B (bys b)) (hm:b.length=m) (hd:m≤d) (hdm:d≤9223372036854775807) (hsn:n≤1048576) (hsm:m≤1048576) :
  Calls Tryd.prog 4 #[.slice A n c,.slice B m d] w (Law w):=by
 have HF:=Lib.hid (fixed_any w hL)
 have HL:=Lib.hid hL
 have HRA:=Lib.hid hra
 have HN:=Lib.hid hn
 have htl:=text_len a
 obtain ⟨TS,hTS⟩:∃TS:ByteArray,TS=⟨(textF a).toArray⟩:=⟨_,rfl⟩
 obtain ⟨TB,hTB⟩:∃TB:ByteArray,TB=⟨(textF b).toArray⟩:=⟨_,rfl⟩
 obtain ⟨tl,htn⟩:∃tl,(textF a).length=tl:=⟨_,rfl⟩
 rw [htn,hn] at htl
 have HTL:=Lib.hid (show TS.data.toList=textF a by rw [hTS])
 have HTN:=Lib.hid htn
 have H4:=Lib.hid (fun (u:World) (h:Rd u u.heap.size A (bys a))=>rtext_any A a n c u h hn (by omega))
 have H9:=Lib.hid (fun (u:World) (h:Rd u u.heap.size B (bys b))=>rtext_any B b m d u h hm (by omega))
 simp only [←hTS,←hTB] at H4 H9
 have HT:=Lib.hid (show textF a=textF b∧(TS.toList == TB.toList)=true∨(TS.toList == TB.toList)=false by
  by_cases h:textF a=textF b
  ·exact .inl ⟨h,by rw [hTS,hTB,h];simp⟩
  ·exact .inr (by rw [hTS,hTB,bytes_list,bytes_list,beq_eq_false_iff_ne];exact h))
 have HM:=Lib.hid hm
 have HRB:=Lib.hid hrb
 have HTT:=Lib.hid (text_text a)
 clear hL hra hrb hn hm hTS hTB htn
 go_enter Tryd.func4,Tryd.ntmps4
 go_wp2_with fail
 refine HF.out.mono ?_
 rintro e w1 ⟨rfl,hb1⟩
 have HB1:=Lib.hid hb1
 clear hb1 HF
 go_wp2_with fail
 refine (H4.out w1 ((HRA.out.below HB1.out).more HB1.out.size)).mono ?_
 rintro e w2 ⟨rfl,hb2⟩
 have HB2:=Lib.hid (HB1.out.trans (hb2.mono HB1.out.size))
 clear hb2
 go_wp2_with fail
 refine (H9.out w2 ((HRB.out.below HB2.out).more HB2.out.size)).mono ?_
 rintro e w3 ⟨rfl,hb3⟩
 have HB3:=Lib.hid (HB2.out.trans (hb3.mono HB2.out.size))
 clear hb3 H9
 have hT:=HT.out
 clear HT
 rcases hT with ⟨hte,heq⟩ | hne
 rotate_left
 focus
  clear HRB HM hd hdm
  go_wp2_with fail
  refine (H4.out w3 ((HRA.out.below HB3.out).more HB3.out.size)).mono ?_
  rintro e w4 ⟨rfl,hb4⟩
  have HB4:=Lib.hid (HB3.out.trans (hb4.mono HB3.out.size))
  obtain ⟨g7,d2,W7,hcv,hrd7,hbl7,hd2,hdm2,_⟩:=conv_str w4 TS (textF a) HTL.out tl HTN.out (by omega)
  have HB7:=Lib.hid (HB4.out.trans (hbl7.mono HB4.out.size))
  have HRB2:=Lib.hid hrd7
  clear hb4 hrd7 hbl7 H4
  go_wp2_with fail
  have HM2:=Lib.hid HTN.out
  have hsm2:tl≤12582912:=by omega
  obtain ⟨b2,hb2⟩:∃b2,b2=textF a:=⟨_,rfl⟩
  have HE2:=Lib.hid (show textF a=textF b2 by rw [hb2];exact HTT.out.symm)
  rw [←hb2] at HRB2 HM2
  clear HTN HTL HTT
  obtain ⟨B2,hB2⟩:∃B2:Option Addr,B2=some ⟨g7,0,none⟩:=⟨_,rfl⟩
  rw [←hB2] at HRB2 ⊢
  obtain ⟨m2,hm2⟩:∃m2,m2=tl:=⟨_,rfl⟩
  rw [←hm2] at HM2 hd2 hsm2 ⊢
  obtain ⟨wk,hwk⟩:∃wk,wk=W7:=⟨_,rfl⟩
  rw [←hwk] at HRB2 HB7 ⊢
  have HWK:=HB7
  have HRK:=HRB2
  clear hb2 hB2 hm2 hwk HB7 HRB2 hcv
 rotate_left
 focus
  clear H4
  go_wp2_with fail
  have HE2:=Lib.hid hte
  have HM2:=HM
  have hsm2:m≤12582912:=by omega
  have HRK:=Lib.hid ((HRB.out.below HB3.out).more HB3.out.size)
  obtain ⟨b2,hb2⟩:∃b2,b2=b:=⟨_,rfl⟩
  obtain ⟨B2,hB2⟩:∃B2,B2=B:=⟨_,rfl⟩
  obtain ⟨m2,hm2⟩:∃m2,m2=m:=⟨_,rfl⟩
  obtain ⟨d2,hd2⟩:∃d2,d2=d:=⟨_,rfl⟩
  obtain ⟨wk,hwk⟩:∃wk,wk=w3:=⟨_,rfl⟩
  rw [←hb2] at HE2 HM2 HRK
  rw [←hB2] at HRK ⊢
  rw [←hm2] at HM2 hsm2 hd ⊢
  rw [←hd2] at hd hdm ⊢
  rw [←hwk] at HRK HB3 ⊢
  have HWK:=HB3
  have hdm2:=hdm
  clear hb2 hB2 hm2 hd2 hwk HB3 HRB HM hte heq hdm HTN HTL HTT
  have hd2:=hd
  clear hd
 all_goals
  have hwl:=words_len 64 a
  rw [HN.out] at hwl
  have HSE:=(split_same (a:=a) (b:=b2) HE2.out 64).1
  have HS1:=Lib.hid (words_same (a:=a) (b:=b2) HE2.out 64)
  have H1:=Lib.hid (fun (u:World) (hu:Laid u) (h:Rd u u.heap.size A (bys a))=>words_any 64 a A n c u hu h HN.out hc hcm (by omega))
  have H2:=Lib.hid (fun (u:World) (hu:Laid u) (h:Rd u u.heap.size B2 (bys b2))=>words_any 64 b2 B2 m2 d2 u hu h HM2.out hd2 hdm2 (by omega))
  obtain ⟨hf1,_⟩:=apart_facts a (wordsF 64 a) rfl
  obtain ⟨hg1,_⟩:=apart_facts b2 (wordsF 64 b2) rfl
  have hra:=raw_facts a (wordsF 64 a) rfl
  have hrb:=raw_facts b2 (wordsF 64 b2) rfl
  unfold WordsAns at H1 H2
  rw [HSE] at H1
  clear HSE
  rw [HN.out] at hf1
  rw [HM2.out] at hg1
  generalize spE 64 b2=E at H1 H2
  generalize wordsF 64 a=S at H1 HS1 hf1 hra hwl
  generalize wordsF 64 b2=T at H2 HS1 hg1 hrb
  have HF1:=Lib.hid hf1
  have HG1:=Lib.hid hg1
  have HA1:=Lib.hid hra
  have HA2:=Lib.hid hrb
  obtain ⟨sl,hsl⟩:∃sl,sl=S.length:=⟨_,rfl⟩
  have HSL:=Lib.hid hsl
  have HTL:=Lib.hid (show sl=T.length by rw [hsl];exact gist_len HS1.out)
  rw [←hsl] at hwl
  have hee:(E == E)=true:=by simp
  clear hsl hf1 hg1 hra hrb
  refine (H1.out wk (HL.out.next HWK.out) ((HRA.out.below HWK.out).more HWK.out.size)).mono ?_
  rintro e w1 ⟨v1,rfl,ho1,hb1⟩
  rw [←HSL.out] at ho1
  obtain ⟨A1,c1,rfl,_,_,hr1⟩:=own_form ho1
  have HB1:=Lib.hid (HWK.out.trans (hb1.mono HWK.out.size))
  have HR1:=Lib.hid hr1
  have HRK1:=Lib.hid ((HRK.out.below hb1).more hb1.size)
  clear ho1 hr1 hb1 H1 HWK HRK
  go_wp2_with fail
  refine (H2.out w1 (HL.out.next HB1.out) HRK1.out).mono ?_
  rintro e w2 ⟨v2,rfl,ho2,hb2⟩
  rw [←HTL.out] at ho2
  obtain ⟨A2,c2',rfl,_,_,hr2⟩:=own_form ho2
  have HB2:=Lib.hid (HB1.out.trans (hb2.mono HB1.out.size))
  have HR2:=Lib.hid hr2
  have HR12:=Lib.hid ((HR1.out.below hb2).more hb2.size)
  have HRK2:=Lib.hid ((HRK1.out.below hb2).more hb2.size)
  clear ho2 hr2 hb2 H2 HB1 HR1 HRK1
  go_wp2_with fail
  go_loopw [44] (fun vi wr=>∃k:Nat,k≤sl∧vi=.int .i64 k∧Hid (Below w2.heap.size w2 wr)) (fun vi _=>sl - (intOf vi).toNat)
  case atStart=>exact ⟨0,Nat.zero_le _,rfl,Lib.hid (Below.refl _ _)⟩
  case round =>
   obtain ⟨k,hk,rfl,HB⟩:=hrel
   have HBW:=Lib.hid (HB2.out.trans (HB.out.mono HB2.out.size))
   by_cases hlt:k < sl
   ·have hkl:k < S.length:=by rw [←HSL.out];exact hlt
    have hkm:k < T.length:=by rw [←HTL.out];exact hlt
    obtain ⟨bl,ol,rfl,hbl⟩:=HR12.out.form (by rw [wds_len];omega)
    obtain ⟨bm,om,rfl,hbm⟩:=HR2.out.form (by rw [wds_len];omega)
    have cc:=Rd_wd (HR12.out.below HB.out) hkl
    have dd:=Rd_wd (HR2.out.below HB.out) hkm
    have a0:=cc 0 (by omega);have a1:=cc 1 (by omega);have a2:=cc 2 (by omega);have a3:=cc 3 (by omega);have a4:=cc 4 (by omega)
    have b0:=dd 0 (by omega);have b1:=dd 1 (by omega);have b2':=dd 2 (by omega);have b3:=dd 3 (by omega);have b4:=dd 4 (by omega)
    simp only [rowW,Nat.add_zero,List.getElem?_cons_zero,List.getElem?_cons_succ] at a0 a1 a2 a3 a4 b0 b1 b2' b3 b4
    obtain ⟨g1,g2,g3⟩:=gist_at HS1.out hkl hkm
    rw [←g1] at b0
    rw [←g2] at b1
    rw [←g3] at b2'
    obtain ⟨z1,z2,p1,p2,p3⟩:=HF1.out k hkl
    obtain ⟨z3,z4,q1,q2,q3⟩:=HG1.out k hkm
    have ka:=HA1.out k hkl
    have kb:=HA2.out k hkm
    rw [←g1] at kb
    obtain ⟨s1,hs1⟩:∃s,s=S[k].a.toNat:=⟨_,rfl⟩
    obtain ⟨s2,hs2⟩:∃s,s=S[k].e.toNat:=⟨_,rfl⟩
    obtain ⟨r1,hr1⟩:∃s,s=T[k].a.toNat:=⟨_,rfl⟩
    obtain ⟨r2,hr2⟩:∃s,s=T[k].e.toNat:=⟨_,rfl⟩
    rw [show S[k].a=(s1:Int) by omega] at a3
    rw [show S[k].e=(s2:Int) by omega] at a4
    rw [show T[k].a=(r1:Int) by omega] at b3
    rw [show T[k].e=(r2:Int) by omega] at b4
    rw [←hs1,←hs2] at ka
    rw [←hr1,←hr2] at kb
    have hs12:s1 < s2:=by omega
    have hs2n:s2≤n:=by omega
    have hr12:r1 < r2:=by omega
    have hr2m:r2≤m2:=by omega
    obtain ⟨A',hsl1,hrp⟩:=bytes_cut (HRA.out.below HBW.out) HN.out hs12 hs2n hc
    obtain ⟨B',hsl2,hrq⟩:=bytes_cut (HRK2.out.below HB.out) HM2.out hr12 hr2m hd2
    have HCA:=Lib.hid (show ((a.drop s1).take (s2 - s1)).length=s2 - s1 by rw [List.length_take,List.length_drop,HN.out];omega)
    have HCB:=Lib.hid (show ((b2.drop r1).take (r2 - r1)).length=r2 - r1 by rw [List.length_take,List.length_drop,HM2.out];omega)
    obtain ⟨ky,hK⟩:∃ky:ByteArray,ky=⟨S[k].k.toArray⟩:=⟨_,rfl⟩
    rw [←hK] at a0 b0
    have HKA:=Lib.hid (fun (u:World) (hu:Laid u) (h:Rd u u.heap.size A' (bys ((a.drop s1).take (s2 - s1))))=>key_any A' _ (s2 - s1) (c - s1) u hu h HCA.out (by omega) (by omega) (by omega) (key_room (by rw [HCA.out];omega)))
    have HKB:=Lib.hid (fun (u:World) (hu:Laid u) (h:Rd u u.heap.size B' (bys ((b2.drop r1).take (r2 - r1))))=>key_any B' _ (r2 - r1) (d2 - r1) u hu h HCB.out (by omega) (by omega) (by omega) (key_room (by rw [HCB.out];omega)))
    rw [←ka,←hK] at HKA
    rw [←kb,←hK] at HKB
    have hkk:(ky.toList == ky.toList)=true:=by simp
    generalize S[k].f=f at a1 b1
    generalize S[k].g=g at a2 b2'
    have hbl1:=Nat.lt_of_lt_of_le hbl HB.out.size
    have hbm1:=Nat.lt_of_lt_of_le hbm HB.out.size
    have HP1:=Lib.hid (hrp.more HBW.out.size)
    have HQ1:=Lib.hid (hrq.more HB.out.size)
    clear z1 z2 z3 z4 cc dd g1 g2 g3 p1 p2 p3 q1 q2 q3 ka kb hs1 hs2 hr1 hr2 hK hrp hrq hbl hbm HCA HCB hkl hkm
    go_wp2_with fail
    go_region
    focus
     obtain ⟨wz,hwz⟩:∃x,x=((wr.alloc (.cells #[.string ky,.int .i64 f,.int .i64 g,.int .i64 (s1:Int),.int .i64 (s2:Int)] 33)).alloc (.cells #[.string ky,.int .i64 f,.int .i64 g,.int .i64 (r1:Int),.int .i64 (r2:Int)] 33)).drew:=⟨_,rfl⟩
     obtain ⟨YB,hYB⟩:∃x,x=wr.heap.size+1:=⟨_,rfl⟩
     obtain ⟨XB,hXB⟩:∃x,x=wr.heap.size:=⟨_,rfl⟩
     have YK:=Lib.hid (show Blk wz YB 33 [.string ky,.int .i64 f,.int .i64 g,.int .i64 (r1:Int),.int .i64 (r2:Int)] by
      rw [hwz,hYB]
      have h:=Blk.new (wr.alloc (.cells #[.string ky,.int .i64 f,.int .i64 g,.int .i64 (s1:Int),.int .i64 (s2:Int)] 33)) 33 [.string ky,.int .i64 f,.int .i64 g,.int .i64 (r1:Int),.int .i64 (r2:Int)]
      rw [show (wr.alloc (.cells #[.string ky,.int .i64 f,.int .i64 g,.int .i64 (s1:Int),.int .i64 (s2:Int)] 33)).heap.size=wr.heap.size+1 by simp] at h
      exact h)
     have XK:=Lib.hid (show Blk wz XB 33 [.string ky,.int .i64 f,.int .i64 g,.int .i64 (s1:Int),.int .i64 (s2:Int)] by rw [hwz,hXB];exact (Blk.new wr _ [_,_,_,_,_]).alloc _)
     have HZ:=Lib.hid (show Below wr.heap.size wr wz by rw [hwz];exact (((Below.refl _ _).alloc (Nat.le_refl _) _).alloc (by simp) _).drew)
     rw [←hwz,←hYB,←hXB]
     clear hwz hXB hYB
    rotate_left
    focus
     obtain ⟨wz,hwz⟩:∃x,x=((wr.alloc (.cells #[.string ky,.int .i64 f,.int .i64 g,.int .i64 (r1:Int),.int .i64 (r2:Int)] 33)).alloc (.cells #[.string ky,.int .i64 f,.int .i64 g,.int .i64 (s1:Int),.int .i64 (s2:Int)] 33)).drew:=⟨_,rfl⟩
     obtain ⟨XB,hXB⟩:∃x,x=wr.heap.size+1:=⟨_,rfl⟩
     obtain ⟨YB,hYB⟩:∃x,x=wr.heap.size:=⟨_,rfl⟩
     have XK:=Lib.hid (show Blk wz XB 33 [.string ky,.int .i64 f,.int .i64 g,.int .i64 (s1:Int),.int .i64 (s2:Int)] by
      rw [hwz,hXB]
      have h:=Blk.new (wr.alloc (.cells #[.string ky,.int .i64 f,.int .i64 g,.int .i64 (r1:Int),.int .i64 (r2:Int)] 33)) 33 [.string ky,.int .i64 f,.int .i64 g,.int .i64 (s1:Int),.int .i64 (s2:Int)]
      rw [show (wr.alloc (.cells #[.string ky,.int .i64 f,.int .i64 g,.int .i64 (r1:Int),.int .i64 (r2:Int)] 33)).heap.size=wr.heap.size+1 by simp] at h
      exact h)
     have YK:=Lib.hid (show Blk wz YB 33 [.string ky,.int .i64 f,.int .i64 g,.int .i64 (r1:Int),.int .i64 (r2:Int)] by rw [hwz,hYB];exact (Blk.new wr _ [_,_,_,_,_]).alloc _)
     have HZ:=Lib.hid (show Below wr.heap.size wr wz by rw [hwz];exact (((Below.refl _ _).alloc (Nat.le_refl _) _).alloc (by simp) _).drew)
     rw [←hwz,←hXB,←hYB]
     clear hwz hXB hYB
    all_goals as_aux_lemma =>
     have HZW:=Lib.hid (HBW.out.trans (HZ.out.mono HBW.out.size))
     have HLZ:=Lib.hid (show Laid wz.drew from (HL.out.next HZW.out).drew)
     have HRA:=Lib.hid (show Rd wz.drew wz.drew.heap.size A' (bys ((a.drop s1).take (s2 - s1))) from ((HP1.out.below HZ.out).more HZ.out.size).drew)
     have HRB:=Lib.hid (show Rd wz wz.heap.size B' (bys ((b2.drop r1).take (r2 - r1))) from (HQ1.out.below HZ.out).more HZ.out.size)
     have x0:=XK.out.cell 0;have x1:=XK.out.cell 1;have x2:=XK.out.cell 2;have x3:=XK.out.cell 3;have x4:=XK.out.cell 4
     have y0:=YK.out.cell 0;have y1:=YK.out.cell 1;have y2:=YK.out.cell 2;have y3:=YK.out.cell 3;have y4:=YK.out.cell 4
     simp only [List.getElem?_cons_zero,List.getElem?_cons_succ] at x0 x1 x2 x3 x4 y0 y1 y2 y3 y4
     clear a0 a1 a2 a3 a4 b0 b1 b2' b3 b4 HP1 HQ1
     go_wp2_with fail
     refine wp_region_held_drew (S:=fun u=>u.cell? ⟨XB,0,none⟩=some (.string ky)∧u.cell? ⟨XB,1,none⟩=some (.int .i64 f)∧u.cell? ⟨XB,2,none⟩=some (.int .i64 g)∧u.cell? ⟨XB,3,none⟩=some (.int .i64 (s1:Int))∧u.cell? ⟨XB,4,none⟩=some (.int .i64 (s2:Int))∧u.cell? ⟨YB,0,none⟩=some (.string ky)∧u.cell? ⟨YB,1,none⟩=some (.int .i64 f)∧u.cell? ⟨YB,2,none⟩=some (.int .i64 g)∧u.cell? ⟨YB,3,none⟩=some (.int .i64 (r1:Int))∧u.cell? ⟨YB,4,none⟩=some (.int .i64 (r2:Int))) (by kernel_rfl) ⟨x0,x1,x2,x3,x4,y0,y1,y2,y3,y4⟩ (fun hHeld=>?_)
     refine wpAnyH_take (i:=0) (oi:=_) (v:=?_) rfl (by kernel_rfl) (by kernel_rfl) (by kernel_rfl) (fun _ _ _ h=>h) (Or.inl ⟨by rfl,?_⟩) (by assumption) ?_
     rotate_left
     ·(intro w hSw;(try dsimp only at hSw);(try obtain ⟨s1_,s2_,s3_,s4_,s5_,s6_,s7_,s8_,s9_,s10_⟩:=hSw);go_simp <;> with_reducible rfl)
     simp only [List.getElem_toArray,List.getElem_cons_zero,Act.put,List.setIfInBounds_toArray,List.set_cons_zero,List.set_cons_succ]
     refine wpAnyH_take (i:=1) (oi:=_) (v:=?_) rfl (by kernel_rfl) (by kernel_rfl) (by kernel_rfl) (fun _ _ _ h=>h) (Or.inl ⟨by rfl,?_⟩) (by assumption) ?_
     rotate_left
     ·(intro w hSw;(try dsimp only at hSw);(try obtain ⟨s1_,s2_,s3_,s4_,s5_,s6_,s7_,s8_,s9_,s10_⟩:=hSw);go_simp <;> with_reducible rfl)
     simp only [List.getElem_toArray,List.getElem_cons_succ,List.getElem_cons_zero,Act.put,List.setIfInBounds_toArray,List.set_cons_zero,List.set_cons_succ]
     refine wpAnyH_take (i:=2) (oi:=_) (v:=?_) rfl (by kernel_rfl) (by kernel_rfl) (by kernel_rfl) (fun _ _ _ h=>h) (Or.inl ⟨by rfl,?_⟩) (by assumption) ?_
     rotate_left
     ·(intro w hSw;(try dsimp only at hSw);(try obtain ⟨s1_,s2_,s3_,s4_,s5_,s6_,s7_,s8_,s9_,s10_⟩:=hSw);go_simp <;> with_reducible rfl)
     simp only [List.getElem_toArray,List.getElem_cons_succ,List.getElem_cons_zero,Act.put,List.setIfInBounds_toArray,List.set_cons_zero,List.set_cons_succ]
     refine wpAnyH_take (i:=3) (oi:=_) (v:=?_) rfl (by kernel_rfl) (by kernel_rfl) (by kernel_rfl) (fun _ _ _ h=>h) (Or.inl ⟨by rfl,?_⟩) (by assumption) ?_
     rotate_left
     ·(intro w hSw;(try dsimp only at hSw);(try obtain ⟨s1_,s2_,s3_,s4_,s5_,s6_,s7_,s8_,s9_,s10_⟩:=hSw);go_simp <;> with_reducible rfl)
     simp only [List.getElem_toArray,List.getElem_cons_succ,List.getElem_cons_zero,Act.put,List.setIfInBounds_toArray,List.set_cons_zero,List.set_cons_succ]
     refine wpAnyH_take (i:=4) (oi:=_) (v:=?_) rfl (by kernel_rfl) (by kernel_rfl) (by kernel_rfl) (fun _ _ _ h=>h) (Or.inl ⟨by rfl,?_⟩) (by assumption) ?_
     rotate_left
     ·(intro w hSw;(try dsimp only at hSw);(try obtain ⟨s1_,s2_,s3_,s4_,s5_,s6_,s7_,s8_,s9_,s10_⟩:=hSw);go_simp <;> with_reducible rfl)
     simp only [List.getElem_toArray,List.getElem_cons_succ,List.getElem_cons_zero,Act.put,List.setIfInBounds_toArray,List.set_cons_zero,List.set_cons_succ]
     refine wpAnyH_take (i:=5) (oi:=_) (v:=?_) rfl (by kernel_rfl) (by kernel_rfl) (by kernel_rfl) (fun _ _ _ h=>h) (Or.inl ⟨by rfl,?_⟩) (by assumption) ?_
     rotate_left
     ·(intro w hSw;(try dsimp only at hSw);(try obtain ⟨s1_,s2_,s3_,s4_,s5_,s6_,s7_,s8_,s9_,s10_⟩:=hSw);go_simp <;> with_reducible rfl)
     simp only [List.getElem_toArray,List.getElem_cons_succ,List.getElem_cons_zero,Act.put,List.setIfInBounds_toArray,List.set_cons_zero,List.set_cons_succ]
     refine wpAnyH_take (i:=6) (oi:=_) (v:=?_) rfl (by kernel_rfl) (by kernel_rfl) (by kernel_rfl) (fun _ _ _ h=>h) (Or.inl ⟨by rfl,?_⟩) (by assumption) ?_
     rotate_left
     ·(intro w hSw;(try dsimp only at hSw);(try obtain ⟨s1_,s2_,s3_,s4_,s5_,s6_,s7_,s8_,s9_,s10_⟩:=hSw);go_simp <;> with_reducible rfl)
     simp only [List.getElem_toArray,List.getElem_cons_succ,List.getElem_cons_zero,Act.put,List.setIfInBounds_toArray,List.set_cons_zero,List.set_cons_succ]
     refine wpAnyH_take (i:=7) (oi:=_) (v:=?_) rfl (by kernel_rfl) (by kernel_rfl) (by kernel_rfl) (fun _ _ _ h=>h) (Or.inl ⟨by rfl,?_⟩) (by assumption) ?_
     rotate_left
     ·(intro w hSw;(try dsimp only at hSw);(try obtain ⟨s1_,s2_,s3_,s4_,s5_,s6_,s7_,s8_,s9_,s10_⟩:=hSw);go_simp <;> with_reducible rfl)
     simp only [List.getElem_toArray,List.getElem_cons_succ,List.getElem_cons_zero,Act.put,List.setIfInBounds_toArray,List.set_cons_zero,List.set_cons_succ]
     refine wpAnyH_take (i:=8) (oi:=_) (v:=?_) rfl (by kernel_rfl) (by kernel_rfl) (by kernel_rfl) (fun _ _ _ h=>h) (Or.inl ⟨by rfl,?_⟩) (by assumption) ?_
     rotate_left
     ·(intro w hSw;(try dsimp only at hSw);(try obtain ⟨s1_,s2_,s3_,s4_,s5_,s6_,s7_,s8_,s9_,s10_⟩:=hSw);go_simp <;> with_reducible rfl)
     simp only [List.getElem_toArray,List.getElem_cons_succ,List.getElem_cons_zero,Act.put,List.setIfInBounds_toArray,List.set_cons_zero,List.set_cons_succ]
     refine wpAnyH_take (i:=9) (oi:=_) (v:=?_) rfl (by kernel_rfl) (by kernel_rfl) (by kernel_rfl) (fun _ _ _ h=>h) (Or.inl ⟨by rfl,?_⟩) (by assumption) ?_
     rotate_left
     ·(intro w hSw;(try dsimp only at hSw);(try obtain ⟨s1_,s2_,s3_,s4_,s5_,s6_,s7_,s8_,s9_,s10_⟩:=hSw);go_simp <;> with_reducible rfl)
     simp only [List.getElem_toArray,List.getElem_cons_succ,List.getElem_cons_zero,Act.put,List.setIfInBounds_toArray,List.set_cons_zero,List.set_cons_succ]
     refine wpAnyH_take (i:=10) (oi:=_) (v:=?_) rfl (by kernel_rfl) (by kernel_rfl) (by kernel_rfl) (fun _ _ _ h=>h) (Or.inl ⟨by rfl,?_⟩) (by assumption) ?_
     rotate_left
     ·(intro w hSw;(try dsimp only at hSw);(try obtain ⟨s1_,s2_,s3_,s4_,s5_,s6_,s7_,s8_,s9_,s10_⟩:=hSw);go_simp <;> with_reducible rfl)
     simp only [List.getElem_toArray,List.getElem_cons_succ,List.getElem_cons_zero,Act.put,List.setIfInBounds_toArray,List.set_cons_zero,List.set_cons_succ]
     refine wpAnyH_take (i:=11) (oi:=_) (v:=?_) rfl (by kernel_rfl) (by kernel_rfl) (by kernel_rfl) (fun _ _ _ h=>h) (Or.inl ⟨by rfl,?_⟩) (by assumption) ?_
     rotate_left
     ·(intro w hSw;(try dsimp only at hSw);(try obtain ⟨s1_,s2_,s3_,s4_,s5_,s6_,s7_,s8_,s9_,s10_⟩:=hSw);go_simp <;> with_reducible rfl)
     simp only [List.getElem_toArray,List.getElem_cons_succ,List.getElem_cons_zero,Act.put,List.setIfInBounds_toArray,List.set_cons_zero,List.set_cons_succ]
     refine wpAnyH_take (i:=12) (oi:=_) (v:=?_) rfl (by kernel_rfl) (by kernel_rfl) (by kernel_rfl) (fun _ _ _ h=>h) (Or.inl ⟨by rfl,?_⟩) (by assumption) ?_
     rotate_left
     ·(intro w hSw;(try dsimp only at hSw);(try obtain ⟨s1_,s2_,s3_,s4_,s5_,s6_,s7_,s8_,s9_,s10_⟩:=hSw);go_simp <;> with_reducible rfl)
     simp only [List.getElem_toArray,List.getElem_cons_succ,List.getElem_cons_zero,Act.put,List.setIfInBounds_toArray,List.set_cons_zero,List.set_cons_succ]
     refine wpAnyH_take (i:=13) (oi:=_) (v:=?_) rfl (by kernel_rfl) (by kernel_rfl) (by kernel_rfl) (fun _ _ _ h=>h) (Or.inl ⟨by rfl,?_⟩) (by assumption) ?_
     rotate_left
     ·(intro w hSw;(try dsimp only at hSw);(try obtain ⟨s1_,s2_,s3_,s4_,s5_,s6_,s7_,s8_,s9_,s10_⟩:=hSw);go_simp <;> with_reducible rfl)
     simp only [List.getElem_toArray,List.getElem_cons_succ,List.getElem_cons_zero,Act.put,List.setIfInBounds_toArray,List.set_cons_zero,List.set_cons_succ]
     refine wpAnyH_take (i:=14) (oi:=_) (v:=?_) rfl (by kernel_rfl) (by kernel_rfl) (by kernel_rfl) (fun _ _ _ h=>h) (Or.inl ⟨by rfl,?_⟩) (by assumption) ?_
     rotate_left
     ·(intro w hSw;(try dsimp only at hSw);(try obtain ⟨s1_,s2_,s3_,s4_,s5_,s6_,s7_,s8_,s9_,s10_⟩:=hSw);go_simp <;> with_reducible rfl)
     simp only [List.getElem_toArray,List.getElem_cons_succ,List.getElem_cons_zero,Act.put,List.setIfInBounds_toArray,List.set_cons_zero,List.set_cons_succ]
     refine wpAnyH_take (i:=15) (oi:=_) (v:=?_) rfl (by kernel_rfl) (by kernel_rfl) (by kernel_rfl) (fun _ _ _ h=>h) (Or.inl ⟨by rfl,?_⟩) (by assumption) ?_
     rotate_left
     ·(intro w hSw;(try dsimp only at hSw);(try obtain ⟨s1_,s2_,s3_,s4_,s5_,s6_,s7_,s8_,s9_,s10_⟩:=hSw);go_simp <;> with_reducible rfl)
     simp only [List.getElem_toArray,List.getElem_cons_succ,List.getElem_cons_zero,Act.put,List.setIfInBounds_toArray,List.set_cons_zero,List.set_cons_succ]
     refine wpAnyH_take (i:=16) (oi:=_) (v:=?_) rfl (by kernel_rfl) (by kernel_rfl) (by kernel_rfl) (fun _ _ _ h=>h) (Or.inl ⟨by rfl,?_⟩) (by assumption) ?_
     rotate_left
     ·(intro w hSw;(try dsimp only at hSw);(try obtain ⟨s1_,s2_,s3_,s4_,s5_,s6_,s7_,s8_,s9_,s10_⟩:=hSw);go_simp <;> with_reducible rfl)
     simp only [List.getElem_toArray,List.getElem_cons_succ,List.getElem_cons_zero,Act.put,List.setIfInBounds_toArray,List.set_cons_zero,List.set_cons_succ]
     refine wpAnyH_take (i:=17) (oi:=_) (v:=?_) rfl (by kernel_rfl) (by kernel_rfl) (by kernel_rfl) (fun _ _ _ h=>h) (Or.inl ⟨by rfl,?_⟩) (by assumption) ?_
     rotate_left
     ·(intro w hSw;(try dsimp only at hSw);(try obtain ⟨s1_,s2_,s3_,s4_,s5_,s6_,s7_,s8_,s9_,s10_⟩:=hSw);go_simp <;> with_reducible rfl)
     simp only [List.getElem_toArray,List.getElem_cons_succ,List.getElem_cons_zero,Act.put,List.setIfInBounds_toArray,List.set_cons_zero,List.set_cons_succ]
     refine wpAnyH_take (i:=18) (oi:=_) (v:=?_) rfl (by kernel_rfl) (by kernel_rfl) (by kernel_rfl) (fun _ _ _ h=>h) (Or.inl ⟨by rfl,?_⟩) (by assumption) ?_
     rotate_left
     ·(intro w hSw;(try dsimp only at hSw);(try obtain ⟨s1_,s2_,s3_,s4_,s5_,s6_,s7_,s8_,s9_,s10_⟩:=hSw);go_simp <;> with_reducible rfl)
     simp only [List.getElem_toArray,List.getElem_cons_succ,List.getElem_cons_zero,Act.put,List.setIfInBounds_toArray,List.set_cons_zero,List.set_cons_succ]
     refine wpAnyH_take (i:=19) (oi:=_) (v:=?_) rfl (by kernel_rfl) (by kernel_rfl) (by kernel_rfl) (fun _ _ _ h=>h) (Or.inl ⟨by rfl,?_⟩) (by assumption) ?_
     rotate_left
     ·(intro w hSw;(try dsimp only at hSw);(try obtain ⟨s1_,s2_,s3_,s4_,s5_,s6_,s7_,s8_,s9_,s10_⟩:=hSw);go_simp <;> with_reducible rfl)
     simp only [List.getElem_toArray,List.getElem_cons_succ,List.getElem_cons_zero,Act.put,List.setIfInBounds_toArray,List.set_cons_zero,List.set_cons_succ]
     refine wpAnyH_take (i:=20) (oi:=_) (v:=?_) rfl (by kernel_rfl) (by kernel_rfl) (by kernel_rfl) (fun _ _ _ h=>h) (Or.inl ⟨by rfl,?_⟩) (by assumption) ?_
     rotate_left
     ·(intro w hSw;(try dsimp only at hSw);(try obtain ⟨s1_,s2_,s3_,s4_,s5_,s6_,s7_,s8_,s9_,s10_⟩:=hSw);go_simp <;> with_reducible rfl)
     simp only [List.getElem_toArray,List.getElem_cons_succ,List.getElem_cons_zero,Act.put,List.setIfInBounds_toArray,List.set_cons_zero,List.set_cons_succ]
     refine wpAnyH_take (i:=21) (oi:=_) (v:=?_) rfl (by kernel_rfl) (by kernel_rfl) (by kernel_rfl) (fun _ _ _ h=>h) (Or.inl ⟨by rfl,?_⟩) (by assumption) ?_
     rotate_left
     ·(intro w hSw;(try dsimp only at hSw);(try obtain ⟨s1_,s2_,s3_,s4_,s5_,s6_,s7_,s8_,s9_,s10_⟩:=hSw);go_simp <;> with_reducible rfl)
     simp only [List.getElem_toArray,List.getElem_cons_succ,List.getElem_cons_zero,Act.put,List.setIfInBounds_toArray,List.set_cons_zero,List.set_cons_succ]
     refine wpAnyH_take (i:=22) (oi:=_) (v:=?_) rfl (by kernel_rfl) (by kernel_rfl) (by kernel_rfl) (fun _ _ _ h=>h) (Or.inl ⟨by rfl,?_⟩) (by assumption) ?_
     rotate_left
     ·(intro w hSw;(try dsimp only at hSw);(try obtain ⟨s1_,s2_,s3_,s4_,s5_,s6_,s7_,s8_,s9_,s10_⟩:=hSw);go_simp <;> with_reducible rfl)
     simp only [List.getElem_toArray,List.getElem_cons_succ,List.getElem_cons_zero,Act.put,List.setIfInBounds_toArray,List.set_cons_zero,List.set_cons_succ]
     refine wpAnyH_take (i:=23) (oi:=_) (v:=?_) rfl (by kernel_rfl) (by kernel_rfl) (by kernel_rfl) (fun _ _ _ h=>h) (Or.inl ⟨by rfl,?_⟩) (by assumption) ?_
     rotate_left
     ·(intro w hSw;(try dsimp only at hSw);(try obtain ⟨s1_,s2_,s3_,s4_,s5_,s6_,s7_,s8_,s9_,s10_⟩:=hSw);go_simp <;> with_reducible rfl)
     simp only [List.getElem_toArray,List.getElem_cons_succ,List.getElem_cons_zero,Act.put,List.setIfInBounds_toArray,List.set_cons_zero,List.set_cons_succ]
     refine wpAnyH_take (i:=24) (oi:=_) (v:=?_) rfl (by kernel_rfl) (by kernel_rfl) (by kernel_rfl) (fun _ _ _ h=>h) (Or.inl ⟨by rfl,?_⟩) (by assumption) ?_
     rotate_left
     ·(intro w hSw;(try dsimp only at hSw);(try obtain ⟨s1_,s2_,s3_,s4_,s5_,s6_,s7_,s8_,s9_,s10_⟩:=hSw);go_simp <;> with_reducible rfl)
     simp only [List.getElem_toArray,List.getElem_cons_succ,List.getElem_cons_zero,Act.put,List.setIfInBounds_toArray,List.set_cons_zero,List.set_cons_succ]
     refine wpAnyH_take (i:=25) (oi:=_) (v:=?_) rfl (by kernel_rfl) (by kernel_rfl) (by kernel_rfl) (fun _ _ _ h=>h) (Or.inl ⟨by rfl,?_⟩) (by assumption) ?_
     rotate_left
     ·(intro w hSw;(try dsimp only at hSw);(try obtain ⟨s1_,s2_,s3_,s4_,s5_,s6_,s7_,s8_,s9_,s10_⟩:=hSw);go_simp <;> with_reducible rfl)
     simp only [List.getElem_toArray,List.getElem_cons_succ,List.getElem_cons_zero,Act.put,List.setIfInBounds_toArray,List.set_cons_zero,List.set_cons_succ]
     refine wpAnyH_take (i:=26) (oi:=_) (v:=?_) rfl (by kernel_rfl) (by kernel_rfl) (by kernel_rfl) (fun _ _ _ h=>h) (Or.inl ⟨by rfl,?_⟩) (by assumption) ?_
     rotate_left
     ·(intro w hSw;(try dsimp only at hSw);(try obtain ⟨s1_,s2_,s3_,s4_,s5_,s6_,s7_,s8_,s9_,s10_⟩:=hSw);go_simp <;> with_reducible rfl)
     simp only [List.getElem_toArray,List.getElem_cons_succ,List.getElem_cons_zero,Act.put,List.setIfInBounds_toArray,List.set_cons_zero,List.set_cons_succ]
     refine wpAnyH_take (i:=27) (oi:=_) (v:=?_) rfl (by kernel_rfl) (by kernel_rfl) (by kernel_rfl) (fun _ _ _ h=>h) (Or.inl ⟨by rfl,?_⟩) (by assumption) ?_
     rotate_left
     ·(intro w hSw;(try dsimp only at hSw);(try obtain ⟨s1_,s2_,s3_,s4_,s5_,s6_,s7_,s8_,s9_,s10_⟩:=hSw);go_simp <;> with_reducible rfl)
     simp only [List.getElem_toArray,List.getElem_cons_succ,List.getElem_cons_zero,Act.put,List.setIfInBounds_toArray,List.set_cons_zero,List.set_cons_succ]
     refine wpAnyH_take (i:=28) (oi:=_) (v:=?_) rfl (by kernel_rfl) (by kernel_rfl) (by kernel_rfl) (fun _ _ _ h=>h) (Or.inl ⟨by rfl,?_⟩) (by assumption) ?_
     rotate_left
     ·(intro w hSw;(try dsimp only at hSw);(try obtain ⟨s1_,s2_,s3_,s4_,s5_,s6_,s7_,s8_,s9_,s10_⟩:=hSw);go_simp <;> with_reducible rfl)
     simp only [List.getElem_toArray,List.getElem_cons_succ,List.getElem_cons_zero,Act.put,List.setIfInBounds_toArray,List.set_cons_zero,List.set_cons_succ]
     refine wpAnyH_take (i:=29) (oi:=_) (v:=?_) rfl (by kernel_rfl) (by kernel_rfl) (by kernel_rfl) (fun _ _ _ h=>h) (Or.inl ⟨by rfl,?_⟩) (by assumption) ?_
     rotate_left
     ·(intro w hSw;(try dsimp only at hSw);(try obtain ⟨s1_,s2_,s3_,s4_,s5_,s6_,s7_,s8_,s9_,s10_⟩:=hSw);go_simp <;> with_reducible rfl)
     simp only [List.getElem_toArray,List.getElem_cons_succ,List.getElem_cons_zero,Act.put,List.setIfInBounds_toArray,List.set_cons_zero,List.set_cons_succ]
     refine wpAnyH_take (i:=30) (oi:=_) (v:=?_) rfl (by kernel_rfl) (by kernel_rfl) (by kernel_rfl) (fun _ _ _ h=>h) (Or.inl ⟨by rfl,?_⟩) (by assumption) ?_
     rotate_left
     ·(intro w hSw;(try dsimp only at hSw);(try obtain ⟨s1_,s2_,s3_,s4_,s5_,s6_,s7_,s8_,s9_,s10_⟩:=hSw);go_simp <;> with_reducible rfl)
     simp only [List.getElem_toArray,List.getElem_cons_succ,List.getElem_cons_zero,Act.put,List.setIfInBounds_toArray,List.set_cons_zero,List.set_cons_succ]
     refine wpAnyH_take (i:=31) (oi:=_) (v:=?_) rfl (by kernel_rfl) (by kernel_rfl) (by kernel_rfl) (fun _ _ _ h=>h) (Or.inl ⟨by rfl,?_⟩) (by assumption) ?_
     rotate_left
     ·(intro w hSw;(try dsimp only at hSw);(try obtain ⟨s1_,s2_,s3_,s4_,s5_,s6_,s7_,s8_,s9_,s10_⟩:=hSw);go_simp <;> with_reducible rfl)
     simp only [List.getElem_toArray,List.getElem_cons_succ,List.getElem_cons_zero,Act.put,List.setIfInBounds_toArray,List.set_cons_zero,List.set_cons_succ]
     refine wpAnyH_take (i:=33) (oi:=_) (v:=?_) rfl (by kernel_rfl) (by kernel_rfl) (by kernel_rfl) (fun _ _ _ h=>h) (Or.inl ⟨by rfl,?_⟩) (by assumption) ?_
     rotate_left
     ·(intro w hSw;(try dsimp only at hSw);(try obtain ⟨s1_,s2_,s3_,s4_,s5_,s6_,s7_,s8_,s9_,s10_⟩:=hSw);go_simp <;> with_reducible rfl)
     simp only [List.getElem_toArray,List.getElem_cons_succ,List.getElem_cons_zero,Act.put,List.setIfInBounds_toArray,List.set_cons_zero,List.set_cons_succ]
     refine wpAnyH_take (i:=34) (oi:=_) (v:=?_) rfl (by kernel_rfl) (by kernel_rfl) (by kernel_rfl) (fun _ _ _ h=>h) (Or.inl ⟨by rfl,?_⟩) (by assumption) ?_
     rotate_left
     ·(intro w hSw;(try dsimp only at hSw);(try obtain ⟨s1_,s2_,s3_,s4_,s5_,s6_,s7_,s8_,s9_,s10_⟩:=hSw);go_simp <;> with_reducible rfl)
     simp only [List.getElem_toArray,List.getElem_cons_succ,List.getElem_cons_zero,Act.put,List.setIfInBounds_toArray,List.set_cons_zero,List.set_cons_succ]
     refine wpAnyH_ready (rs:=[32]) (by kernel_rfl) (by simp) (AllReadyH.cons rfl (fun K hK=>?_) AllReadyH.nil)
     go_simp
     go_at_call 9
     refine (HKA.out wz.drew HLZ.out HRA.out).mono ?_
     rintro e5 w5 ⟨rfl,hb5⟩
     have HB5:=Lib.hid (show Below wz.heap.size wz w5 from (Below.refl _ _).drew.trans hb5)
     have XK5:=Lib.hid (XK.out.below HB5.out XK.out.lt)
     have YK5:=Lib.hid (YK.out.below HB5.out YK.out.lt)
     have hs5:w5.cell? ⟨XB,0,none⟩=some (.string ky)∧w5.cell? ⟨XB,1,none⟩=some (.int .i64 f)∧w5.cell? ⟨XB,2,none⟩=some (.int .i64 g)∧w5.cell? ⟨XB,3,none⟩=some (.int .i64 (s1:Int))∧w5.cell? ⟨XB,4,none⟩=some (.int .i64 (s2:Int))∧w5.cell? ⟨YB,0,none⟩=some (.string ky)∧w5.cell? ⟨YB,1,none⟩=some (.int .i64 f)∧w5.cell? ⟨YB,2,none⟩=some (.int .i64 g)∧w5.cell? ⟨YB,3,none⟩=some (.int .i64 (r1:Int))∧w5.cell? ⟨YB,4,none⟩=some (.int .i64 (r2:Int)):=⟨XK5.out.cell 0,XK5.out.cell 1,XK5.out.cell 2,XK5.out.cell 3,XK5.out.cell 4,YK5.out.cell 0,YK5.out.cell 1,YK5.out.cell 2,YK5.out.cell 3,YK5.out.cell 4⟩
     clear hb5
     refine hK.out _ _ hs5 (fun hHeld2=>?_)
     clear hK K hHeld
     have hHeld:=hHeld2
     clear hHeld2
     refine wpAnyH_take (i:=35) (oi:=_) (v:=?_) rfl (by kernel_rfl) (by kernel_rfl) (by kernel_rfl) (fun _ _ _ h=>h) (Or.inl ⟨by rfl,?_⟩) (by assumption) ?_
     rotate_left
     ·(intro w hSw;(try dsimp only at hSw);(try obtain ⟨s1_,s2_,s3_,s4_,s5_,s6_,s7_,s8_,s9_,s10_⟩:=hSw);go_simp <;> with_reducible rfl)
     simp only [List.getElem_toArray,List.getElem_cons_succ,List.getElem_cons_zero,Act.put,List.setIfInBounds_toArray,List.set_cons_zero,List.set_cons_succ]
     refine wpAnyH_take (i:=36) (oi:=_) (v:=?_) rfl (by kernel_rfl) (by kernel_rfl) (by kernel_rfl) (fun _ _ _ h=>h) (Or.inl ⟨by rfl,?_⟩) (by assumption) ?_
     rotate_left
     ·(intro w hSw;(try dsimp only at hSw);(try obtain ⟨s1_,s2_,s3_,s4_,s5_,s6_,s7_,s8_,s9_,s10_⟩:=hSw);go_simp <;> with_reducible rfl)
     simp only [List.getElem_toArray,List.getElem_cons_succ,List.getElem_cons_zero,Act.put,List.setIfInBounds_toArray,List.set_cons_zero,List.set_cons_succ]
     refine wpAnyH_take (i:=37) (oi:=_) (v:=?_) rfl (by kernel_rfl) (by kernel_rfl) (by kernel_rfl) (fun _ _ _ h=>h) (Or.inl ⟨by rfl,?_⟩) (by assumption) ?_
     rotate_left
     ·(intro w hSw;(try dsimp only at hSw);(try obtain ⟨s1_,s2_,s3_,s4_,s5_,s6_,s7_,s8_,s9_,s10_⟩:=hSw);go_simp <;> with_reducible rfl)
     simp only [List.getElem_toArray,List.getElem_cons_succ,List.getElem_cons_zero,Act.put,List.setIfInBounds_toArray,List.set_cons_zero,List.set_cons_succ]
     refine wpAnyH_take (i:=38) (oi:=_) (v:=?_) rfl (by kernel_rfl) (by kernel_rfl) (by kernel_rfl) (fun _ _ _ h=>h) (Or.inl ⟨by rfl,?_⟩) (by assumption) ?_
     rotate_left
     ·(intro w hSw;(try dsimp only at hSw);(try obtain ⟨s1_,s2_,s3_,s4_,s5_,s6_,s7_,s8_,s9_,s10_⟩:=hSw);go_simp <;> with_reducible rfl)
     simp only [List.getElem_toArray,List.getElem_cons_succ,List.getElem_cons_zero,Act.put,List.setIfInBounds_toArray,List.set_cons_zero,List.set_cons_succ]
     refine wpAnyH_take (i:=39) (oi:=_) (v:=?_) rfl (by kernel_rfl) (by kernel_rfl) (by kernel_rfl) (fun _ _ _ h=>h) (Or.inl ⟨by rfl,?_⟩) (by assumption) ?_
     rotate_left
     ·(intro w hSw;(try dsimp only at hSw);(try obtain ⟨s1_,s2_,s3_,s4_,s5_,s6_,s7_,s8_,s9_,s10_⟩:=hSw);go_simp <;> with_reducible rfl)
     simp only [List.getElem_toArray,List.getElem_cons_succ,List.getElem_cons_zero,Act.put,List.setIfInBounds_toArray,List.set_cons_zero,List.set_cons_succ]
     refine wpAnyH_take (i:=40) (oi:=_) (v:=?_) rfl (by kernel_rfl) (by kernel_rfl) (by kernel_rfl) (fun _ _ _ h=>h) (Or.inl ⟨by rfl,?_⟩) (by assumption) ?_
     rotate_left
     ·(intro w hSw;(try dsimp only at hSw);(try obtain ⟨s1_,s2_,s3_,s4_,s5_,s6_,s7_,s8_,s9_,s10_⟩:=hSw);go_simp <;> with_reducible rfl)
     simp only [List.getElem_toArray,List.getElem_cons_succ,List.getElem_cons_zero,Act.put,List.setIfInBounds_toArray,List.set_cons_zero,List.set_cons_succ]
     refine wpAnyH_take (i:=41) (oi:=_) (v:=?_) rfl (by kernel_rfl) (by kernel_rfl) (by kernel_rfl) (fun _ _ _ h=>h) (Or.inl ⟨by rfl,?_⟩) (by assumption) ?_
     rotate_left
     ·(intro w hSw;(try dsimp only at hSw);(try obtain ⟨s1_,s2_,s3_,s4_,s5_,s6_,s7_,s8_,s9_,s10_⟩:=hSw);go_simp <;> with_reducible rfl)
     simp only [List.getElem_toArray,List.getElem_cons_succ,List.getElem_cons_zero,Act.put,List.setIfInBounds_toArray,List.set_cons_zero,List.set_cons_succ]
     refine wpAnyH_take (i:=42) (oi:=_) (v:=?_) rfl (by kernel_rfl) (by kernel_rfl) (by kernel_rfl) (fun _ _ _ h=>h) (Or.inl ⟨by rfl,?_⟩) (by assumption) ?_
     rotate_left
     ·(intro w hSw;(try dsimp only at hSw);(try obtain ⟨s1_,s2_,s3_,s4_,s5_,s6_,s7_,s8_,s9_,s10_⟩:=hSw);go_simp <;> with_reducible rfl)
     simp only [List.getElem_toArray,List.getElem_cons_succ,List.getElem_cons_zero,Act.put,List.setIfInBounds_toArray,List.set_cons_zero,List.set_cons_succ]
     refine wpAnyH_take (i:=43) (oi:=_) (v:=?_) rfl (by kernel_rfl) (by kernel_rfl) (by kernel_rfl) (fun _ _ _ h=>h) (Or.inl ⟨by rfl,?_⟩) (by assumption) ?_
     rotate_left
     ·(intro w hSw;(try dsimp only at hSw);(try obtain ⟨s1_,s2_,s3_,s4_,s5_,s6_,s7_,s8_,s9_,s10_⟩:=hSw);go_simp <;> with_reducible rfl)
     simp only [List.getElem_toArray,List.getElem_cons_succ,List.getElem_cons_zero,Act.put,List.setIfInBounds_toArray,List.set_cons_zero,List.set_cons_succ]
     refine wpAnyH_take (i:=44) (oi:=_) (v:=?_) rfl (by kernel_rfl) (by kernel_rfl) (by kernel_rfl) (fun _ _ _ h=>h) (Or.inl ⟨by rfl,?_⟩) (by assumption) ?_
     rotate_left
     ·(intro w hSw;(try dsimp only at hSw);(try obtain ⟨s1_,s2_,s3_,s4_,s5_,s6_,s7_,s8_,s9_,s10_⟩:=hSw);go_simp <;> with_reducible rfl)
     simp only [List.getElem_toArray,List.getElem_cons_succ,List.getElem_cons_zero,Act.put,List.setIfInBounds_toArray,List.set_cons_zero,List.set_cons_succ]
     refine wpAnyH_take (i:=45) (oi:=_) (v:=?_) rfl (by kernel_rfl) (by kernel_rfl) (by kernel_rfl) (fun _ _ _ h=>h) (Or.inl ⟨by rfl,?_⟩) (by assumption) ?_
     rotate_left
     ·(intro w hSw;(try dsimp only at hSw);(try obtain ⟨s1_,s2_,s3_,s4_,s5_,s6_,s7_,s8_,s9_,s10_⟩:=hSw);go_simp <;> with_reducible rfl)
     simp only [List.getElem_toArray,List.getElem_cons_succ,List.getElem_cons_zero,Act.put,List.setIfInBounds_toArray,List.set_cons_zero,List.set_cons_succ]
     refine wpAnyH_take (i:=47) (oi:=_) (v:=?_) rfl (by kernel_rfl) (by kernel_rfl) (by kernel_rfl) (fun _ _ _ h=>h) (Or.inl ⟨by rfl,?_⟩) (by assumption) ?_
     rotate_left
     ·(intro w hSw;(try dsimp only at hSw);(try obtain ⟨s1_,s2_,s3_,s4_,s5_,s6_,s7_,s8_,s9_,s10_⟩:=hSw);go_simp <;> with_reducible rfl)
     simp only [List.getElem_toArray,List.getElem_cons_succ,List.getElem_cons_zero,Act.put,List.setIfInBounds_toArray,List.set_cons_zero,List.set_cons_succ]
     refine wpAnyH_take (i:=48) (oi:=_) (v:=?_) rfl (by kernel_rfl) (by kernel_rfl) (by kernel_rfl) (fun _ _ _ h=>h) (Or.inl ⟨by rfl,?_⟩) (by assumption) ?_
     rotate_left
     ·(intro w hSw;(try dsimp only at hSw);(try obtain ⟨s1_,s2_,s3_,s4_,s5_,s6_,s7_,s8_,s9_,s10_⟩:=hSw);go_simp <;> with_reducible rfl)
     simp only [List.getElem_toArray,List.getElem_cons_succ,List.getElem_cons_zero,Act.put,List.setIfInBounds_toArray,List.set_cons_zero,List.set_cons_succ]
     refine wpAnyH_ready (rs:=[46]) (by kernel_rfl) (by simp) (AllReadyH.cons rfl (fun K hK=>?_) AllReadyH.nil)
     go_simp
     go_at_call 9
     refine (HKB.out w5 (HL.out.next (HZW.out.trans (HB5.out.mono HZW.out.size))) ((HRB.out.below HB5.out).more HB5.out.size)).mono ?_
     rintro e6 w6 ⟨rfl,hb6⟩
     have HB6:=Lib.hid (show Below wz.heap.size wz w6 from HB5.out.trans (hb6.mono HB5.out.size))
     have XK6:=Lib.hid (XK.out.below HB6.out XK.out.lt)
     have YK6:=Lib.hid (YK.out.below HB6.out YK.out.lt)
     have hs6:w6.cell? ⟨XB,0,none⟩=some (.string ky)∧w6.cell? ⟨XB,1,none⟩=some (.int .i64 f)∧w6.cell? ⟨XB,2,none⟩=some (.int .i64 g)∧w6.cell? ⟨XB,3,none⟩=some (.int .i64 (s1:Int))∧w6.cell? ⟨XB,4,none⟩=some (.int .i64 (s2:Int))∧w6.cell? ⟨YB,0,none⟩=some (.string ky)∧w6.cell? ⟨YB,1,none⟩=some (.int .i64 f)∧w6.cell? ⟨YB,2,none⟩=some (.int .i64 g)∧w6.cell? ⟨YB,3,none⟩=some (.int .i64 (r1:Int))∧w6.cell? ⟨YB,4,none⟩=some (.int .i64 (r2:Int)):=⟨XK6.out.cell 0,XK6.out.cell 1,XK6.out.cell 2,XK6.out.cell 3,XK6.out.cell 4,YK6.out.cell 0,YK6.out.cell 1,YK6.out.cell 2,YK6.out.cell 3,YK6.out.cell 4⟩
     clear hb6
     refine hK.out _ _ hs6 (fun hHeld2=>?_)
     clear hK K hHeld
     have hHeld:=hHeld2
     clear hHeld2
     refine wpAnyH_take (i:=49) (oi:=_) (v:=?_) rfl (by kernel_rfl) (by kernel_rfl) (by kernel_rfl) (fun _ _ _ h=>h) (Or.inl ⟨by rfl,?_⟩) (by assumption) ?_
     rotate_left
     ·(intro w hSw;(try dsimp only at hSw);(try obtain ⟨s1_,s2_,s3_,s4_,s5_,s6_,s7_,s8_,s9_,s10_⟩:=hSw);go_simp <;> with_reducible rfl)
     simp only [List.getElem_toArray,List.getElem_cons_succ,List.getElem_cons_zero,Act.put,List.setIfInBounds_toArray,List.set_cons_zero,List.set_cons_succ]
     refine wpAnyH_take (i:=50) (oi:=_) (v:=?_) rfl (by kernel_rfl) (by kernel_rfl) (by kernel_rfl) (fun _ _ _ h=>h) (Or.inl ⟨by rfl,?_⟩) (by assumption) ?_
     rotate_left
     ·(intro w hSw;(try dsimp only at hSw);(try obtain ⟨s1_,s2_,s3_,s4_,s5_,s6_,s7_,s8_,s9_,s10_⟩:=hSw);go_simp <;> with_reducible rfl)
     simp only [List.getElem_toArray,List.getElem_cons_succ,List.getElem_cons_zero,Act.put,List.setIfInBounds_toArray,List.set_cons_zero,List.set_cons_succ]
     refine wpAnyH_done (by kernel_rfl) ?_ _
     clear x0 x1 x2 x3 x4 y0 y1 y2 y3 y4 hHeld hs5 hs6
     have HB9:=Lib.hid (HB.out.trans ((HZ.out.trans (HB6.out.mono HZ.out.size)).mono HB.out.size))
     go_wp2_with fail
     go_roundw
     case rel=>exact ⟨k+1,by omega,by go_num,HB9⟩
     case measure=>simp [intOf];omega
   ·go_wp2_with fail
    go_ret
    exact ⟨rfl,HBW.out⟩
set_option maxRecDepth 100000 in
theorem contract (H:Type) (enc:TypeId × Value→H) (W:World) (base:Nat) (args:Array Value) (ds gs:List (DataW H)) (before:List MemPlace)
  (hval:∀(j:Nat) t v,Tryd.f4.params[j]? = some t→args[j]? = some v→Value.okWide Tryd.prog W .any base t v)
  (hW:DataW.Whole enc Tryd.prog Tryd.f4.params.toList Rows.wordsSameSpec.vars false W args.toList ds gs before) (hLL:laidMetH Tryd.prog Rows.wordsSameUptoRow.laid W) (hk:Rows.uptoSmall H (ds++gs)=true) :
  Calls Tryd.prog 4 args W fun e W'=>∃v,e=.returned v∧Rows.wordsSameSpec.post enc Tryd.prog Tryd.f4 false true false false W args v W':=by
 have hL:Laid W:=laid_of hLL
 have hW':=hW
 obtain ⟨p,q,hA0,hV,rfl,hfz,hnd⟩:=hW
 have hA:DataW.TrodAll enc Tryd.prog W 0 (fun _=>true) true Tryd.f4.params.toList args.toList ds p:=hA0
 rw [Tryd.params4] at hA hval
 obtain ⟨v0,vs0,d0,ds0,p0,q0,hargs,rfl,rfl,h0,r0⟩:=trodAll_cons hA
 obtain ⟨v1,vs1,d1,ds1,p1,q1,rfl,rfl,rfl,h1,r1⟩:=trodAll_cons r0
 obtain ⟨rfl,rfl,rfl⟩:=trodAll_nil r1
 obtain rfl:args=#[v0,v1]:=by cases args;simp_all
 obtain ⟨rfl,rfl⟩:=trodVars_none hV
 obtain ⟨a0,len0,cap0,rfl⟩:=okWide_slice Tryd.underlying22 (hval 0 22 v0 rfl rfl)
 have k0:=h0
 have lt0:∀x∈p0,x.block < W.heap.size:=by obtain ⟨m,hm⟩:=k0;exact DataW.trod_lt m _ _ _ hm
 obtain ⟨l0,hl0,hc0,hm0,hr0,hb0⟩:=open_bytes h0
 obtain ⟨a1,len1,cap1,rfl⟩:=okWide_slice Tryd.underlying22 (hval 1 22 v1 rfl rfl)
 have k1:=h1
 have lt1:∀x∈p1,x.block < W.heap.size:=by obtain ⟨m,hm⟩:=k1;exact DataW.trod_lt m _ _ _ hm
 obtain ⟨l1,hl1,hc1,hm1,hr1,hb1⟩:=open_bytes h1
 have hbd:=bulk_bound hk
 simp only [List.append_nil,Rows.uptoBulkAll] at hbd
 clear hA0
 refine (walk a0 l0 len0 cap0 a1 l1 len1 cap1 W hL hr0 hl0 hc0 hm0 hr1 hl1 hc1 hm1 (by omega) (by omega)).mono fun e W' ⟨he,bel⟩=>?_
 subst he
 exact ⟨_,rfl,_,_,_,[],_,[],hW',trodAll_mk1 (shut_bool Tryd.underlying4 _),(trodAll_cons_mk (Below.trod laidOut (by kernel_rfl) (of_decide_eq_true (by kernel_rfl)) k0 bel lt0) (trodAll_cons_mk (Below.trod laidOut (by kernel_rfl) (of_decide_eq_true (by kernel_rfl)) k1 bel lt1) trodAll_mk0)),rfl,bel.frame _,fun h=>by cases h⟩
set_option maxRecDepth 100000 in
theorem laid_met (os:Os):laidMet Tryd.prog Rows.wordsSameUptoRow.laid ((laidWorld os).forCall (fun _ _=>0) ⟨#[],#[.slice none 0 0,.slice none 0 0],[]⟩).memory :=
 laidMet_of_run' 8 (by kernel_rfl) (by kernel_rfl)
set_option maxRecDepth 100000 in
theorem reads (os:Os) {H:Type} (enc:TypeId × Value→H):∃places,DataW.whole enc Tryd.prog ((laidWorld os).forCall (fun _ _=>0) ⟨#[],#[.slice none 0 0,.slice none 0 0],[]⟩).memory Tryd.f4.params.toList Rows.wordsSameSpec.vars false (#[.slice none 0 0,.slice none 0 0]:Array Value).toList 8=some ([.nil,.nil],[],places) :=
 ⟨[],by kernel_rfl⟩
set_option maxRecDepth 100000 in
theorem lifted (os:Os) (started:os.Started) (H:Type) (enc:TypeId × Value→H) (F:Stop.Interp) :
  ReturnsInHanded {} Tryd.checked os 4 .any ((Rows.OpenSpec.upto Rows.wordsSameSpec).preRow enc Tryd.prog Tryd.f4 Rows.wordsSameUptoRow.domain false Rows.wordsSameUptoRow.laid) (((Rows.OpenSpec.upto Rows.wordsSameSpec).at F).post enc Tryd.prog Tryd.f4 false true false false):=by
 obtain ⟨places,hx⟩:=reads os enc
 refine returnsInHanded_of_row (C:=Tryd.checked) (s:=Rows.OpenSpec.upto Rows.wordsSameSpec) own started (by kernel_rfl) Tryd.func4
  (witness_row_at (enc:=enc) (C:=Tryd.checked) false (laidWorld os) #[.slice none 0 0,.slice none 0 0] rfl (by kernel_rfl) (by kernel_rfl) (by kernel_rfl)
   (OpenSpec.preRow_of_cond 8 hx (by kernel_rfl) (fun k hk=>by cases hk;kernel_rfl) (by kernel_rfl) (laid_met os))) ?_
 intro W base args ds gs before hval hW _ hcond _ hL _ _
 exact contract H enc W base args ds gs before hval hW hL (hcond _ rfl)
set_option maxRecDepth 100000 in
theorem said:Rows.WordsSameUptoSaid :=
 OpenClaim.holds_of_cond 4 Tryd.f4 rfl rfl rfl rfl rfl rfl rfl ⟨rfl,rfl,rfl,rfl,rfl⟩ rfl rfl rfl rfl rfl (by kernel_rfl) Tryd.func4 (by kernel_rfl)
  (of_decide_eq_true (by kernel_rfl)) (by unfold Func.isWrapper;first | (rw [if_pos (by decide +kernel)];kernel_rfl) | (rw [if_neg (by decide +kernel)];exact ⟨rfl,rfl⟩))
  (fun os started H enc _ F=>by rw [OpenClaim.pre_eq_preRow];exact lifted os started H enc F)
set_option maxRecDepth 100000 in
theorem plain (f:FuncId) (fn:Func) (hf:Tryd.pinned.checked.prog.funcNamed Rows.wordsSameUptoRow.func=some f) (hfn:Tryd.pinned.checked.prog.funcs[f]? = some fn) :
  false=Tryd.pinned.checked.prog.looks []∧∀(j:Nat) t,fn.params[j]? = some t→Tryd.pinned.checked.prog.wantsStandIn t=false:=by
 obtain rfl:f=4:=Option.some.inj ((show Tryd.prog.funcNamed Rows.wordsSameUptoRow.func=some 4 by kernel_rfl).symm.trans hf) |>.symm
 obtain rfl:fn=Tryd.f4:=(Option.some.inj (Tryd.func4.symm.trans hfn)).symm
 refine ⟨by kernel_rfl,fun j t ht=>?_⟩
 rw [Tryd.params4] at ht
 have hm:=Array.mem_of_getElem? ht
 simp only [List.mem_toArray,List.mem_cons,List.not_mem_nil,or_false] at hm
 rcases hm with rfl | rfl
 all_goals first | exact (show Tryd.prog.wantsStandIn 22=false by kernel_rfl)
set_option maxRecDepth 100000 in
theorem proved:Rows.WordsSameUptoCardSaid :=
 Claim7.holds_tied_plain_at .later [] _ _ _ _ said (fun _ h=>by cases h) (by kernel_rfl) (fun _ h=>by cases h) wordsSameUpto_row_tie rfl ⟨rfl,rfl⟩ (by kernel_rfl) rfl plain (by kernel_rfl)
end Go.Proofs.YtdngaddggcmjgaaDoor.LawWordsSame
