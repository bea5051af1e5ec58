/-
  Texts of stage 7, part 24.
-/
import Derived.Shelf.Strings.BuilderK
import Derived.BigRegion
import Derived.Deep.RegionWith
import Derived.Deep.RegionHeld3
import Derived.Deep.DeepCutAuto
import Derived.Test.YtdngaddggcmjgaaDoorW20
import Derived.Test.YtdngaddggcmjgaaDoorW22
import Derived.Test.YtdngaddggcmjgaaDoorW23
namespace Go.Proofs.YtdngaddggcmjgaaDoor.Words
open Go.Shelf Go.RowKit Go.Sort
open Utf hiding infoI32 rd_new own_form own_below rdec_any below_drewN new_any write_any close_any infoU8
open Norm hiding new_any write_any close_any
open Seg
open Ucd hiding grow same Told
def wbr:Go.Shelf.Ren:=⟨fun | 166=>48 | 169=>49 | 240=>68 | 276=>81 | n=>n,fun | 0=>0 | 3=>3 | 4=>4 | 5=>5 | 9=>9 | 20=>20 | 37=>22 | 70=>76 | 72=>78 | 75=>80 | 76=>81 | 80=>83 | 127=>96 | 164=>111 | n=>n,fun | n=>n⟩
theorem wbW:Go.Proofs.Lays.n166 Tryd.prog wbr:={
 mixed:=by kernel_rfl
 f166:=Tryd.func48.trans (congrArg some (by kernel_rfl))
 f240:=Tryd.func68.trans (congrArg some (by kernel_rfl))
 f276:=Tryd.func81.trans (congrArg some (by kernel_rfl))
 t0:=Tryd.underlying0
 a0:=Tryd.isAgg0
 z0:=Tryd.sizeOf0
 v0:=Tryd.zeroValue0
 t3:=Tryd.underlying3
 a3:=Tryd.isAgg3
 z3:=Tryd.sizeOf3
 v3:=Tryd.zeroValue3
 t4:=Tryd.underlying4
 a4:=Tryd.isAgg4
 z4:=Tryd.sizeOf4
 v4:=Tryd.zeroValue4
 t9:=Tryd.underlying9
 a9:=Tryd.isAgg9
 z9:=Tryd.sizeOf9
 v9:=Tryd.zeroValue9
 t20:=Tryd.underlying20
 a20:=Tryd.isAgg20
 z20:=Tryd.sizeOf20
 v20:=Tryd.zeroValue20
 t37:=Tryd.underlying22
 a37:=Tryd.isAgg22
 z37:=Tryd.sizeOf22
 v37:=Tryd.zeroValue22
 t70:=Tryd.underlying76
 a70:=Tryd.isAgg76
 z70:=Tryd.sizeOf76
 v70:=Tryd.zeroValue76
 t72:=Tryd.underlying78
 a72:=Tryd.isAgg78
 z72:=Tryd.sizeOf78
 v72:=Tryd.zeroValue78
 t75:=Tryd.underlying80
 a75:=Tryd.isAgg80
 z75:=Tryd.sizeOf80
 v75:=Tryd.zeroValue80
 t164:=Tryd.underlying111
 a164:=Tryd.isAgg111
 z164:=Tryd.sizeOf111
 v164:=Tryd.zeroValue111 }
theorem wbS:Go.Proofs.Lays.n169 Tryd.prog wbr:={
 mixed:=by kernel_rfl
 f169:=Tryd.func49.trans (congrArg some (by kernel_rfl))
 t0:=Tryd.underlying0
 a0:=Tryd.isAgg0
 z0:=Tryd.sizeOf0
 v0:=Tryd.zeroValue0
 t3:=Tryd.underlying3
 a3:=Tryd.isAgg3
 z3:=Tryd.sizeOf3
 v3:=Tryd.zeroValue3
 t9:=Tryd.underlying9
 a9:=Tryd.isAgg9
 z9:=Tryd.sizeOf9
 v9:=Tryd.zeroValue9
 t37:=Tryd.underlying22
 a37:=Tryd.isAgg22
 z37:=Tryd.sizeOf22
 v37:=Tryd.zeroValue22
 t70:=Tryd.underlying76
 a70:=Tryd.isAgg76
 z70:=Tryd.sizeOf76
 v70:=Tryd.zeroValue76
 t72:=Tryd.underlying78
 a72:=Tryd.isAgg78
 z72:=Tryd.sizeOf78
 v72:=Tryd.zeroValue78
 t127:=Tryd.underlying96
 a127:=Tryd.isAgg96
 z127:=Tryd.sizeOf96
 v127:=Tryd.zeroValue96 }
theorem wbX:Go.Proofs.Builder.Extra Tryd.prog wbr where
 sizeBuilder:=by kernel_rfl
 liesBuilder:=by kernel_rfl
 t5:=Tryd.underlying5
 a5:=Tryd.isAgg5
 z5:=Tryd.sizeOf5
 v5:=Tryd.zeroValue5
 infoByte:=by kernel_rfl
 cellsByte:=by kernel_rfl
 sizeByte:=by kernel_rfl
 neB5:=by decide
def Bld (w:World) (B b:Nat) (l:List UInt8):Prop:=Lib.IsBuilderF 78 5 B b (Lib.byteCells l) w
theorem bytes_append (l m:List UInt8):Lib.byteCells (l++m)=Lib.byteCells l++Lib.byteCells m:=List.map_append
theorem put_any {B b:Nat} {l:List UInt8} {x:ByteArray} {t:List UInt8} {w:World} (h:Bld w B b l) (hx:x.data.toList=t) (hl:l.length+t.length≤140737488355328) (hB:B≤w.heap.size) :
  Calls Tryd.prog 48 #[.pointer (some ⟨b,0,none⟩),.string x] w fun e w'=>(∃v,e=.returned v)∧Bld w' B b (l++t)∧Below B w w':=by
 subst hx
 have hs:x.size=x.data.toList.length:=rfl
 refine (Any.Builder_WriteString_k (ρ:=wbr) wbW wbX B b _ x w h (by rw [Lib.byteCells_length,hs];exact hl) hB).mono ?_
 rintro e w' ⟨rfl,h1,h2,_⟩
 exact ⟨⟨_,rfl⟩,.inr (by rw [bytes_append];exact h1),h2⟩
theorem str_any {B b:Nat} {l:List UInt8} {w:World} (h:Bld w B b l) (hB:B≤w.heap.size) :
  Calls Tryd.prog 49 #[.pointer (some ⟨b,0,none⟩)] w fun e w'=>e=.returned (.string ⟨l.toArray⟩)∧Below B w w'∧∀g t cs,g≠b→t≠5→Blk w g t cs→Blk w' g t cs:=by
 refine (Any.Builder_String_any_k (ρ:=wbr) wbS wbX B b l w h hB).mono ?_
 rintro e w' ⟨rfl,_,h2,h3⟩
 exact ⟨rfl,h2,fun g t cs hg ht hb=>h3 g _ hb (fun e=>hg (by injection e)) (fun c fz e=>by injection e with _ e _;exact ht e)⟩
end Go.Proofs.YtdngaddggcmjgaaDoor.Words
namespace Go.Proofs.YtdngaddggcmjgaaDoor.Words
open Go.Shelf Go.RowKit Go.Sort
open Utf hiding infoI32 rd_new own_form own_below rdec_any below_drewN new_any write_any close_any infoU8
open Norm hiding new_any write_any close_any
open Seg hiding take_any
open Ucd hiding grow same Told grp
set_option maxRecDepth 100000
def agW (x:Wd):Value:=.agg #[.string ⟨x.k.toArray⟩,.int .i64 x.f,.int .i64 x.g,.int .i64 x.a,.int .i64 x.e]
theorem blk5_ret {w:World} {g:Nat} {v1 v2 v3 v4 v5:Value} {fn:Func} {p:Tmp} {R:Ending→World→Prop} {a:Act} (h:Blk w g 33 [v1,v2,v3,v4,v5]) (hr:fn.results=#[.cell p 33]) (hp:a.tmps.getD p undef=.pointer (some ⟨g,0,none⟩)) (hd:a.defers=[]) (hR:R (.returned (.agg #[v1,v2,v3,v4,v5])) w):bodyPost Tryd.prog fn R .ret a w :=
 bodyPost_ret (results_cell_row hr a.tmps w g 33 [v1,v2,v3,v4,v5].toArray (0,0) _ hp h Tryd.underlying33 rfl (by kernel_rfl)) hd hR
set_option maxHeartbeats 8000000 in
theorem word_any (A:Option Addr) (l:List Sx) (n c i j:Nat) (w:World) (hL:Laid w) (hr:Rd w w.heap.size A (sxs l)) (hn:l.length=n) (hc:n≤c) (_hcm:c≤9223372036854775807) (hsm:n≤4294967296) (ht:total l≤2147483648) (hij:i < j) (hj:j≤n) :
  Calls Tryd.prog 33 #[.slice A n c,.int .i64 i,.int .i64 j] w (Ret w (agW (wdF l (i,j)))):=by
 obtain ⟨A0,o0,rfl,hA0⟩:=hr.form (by rw [sxs_len];omega)
 have HR:=Lib.hid hr
 have HL:=Lib.hid hL
 have HN:=Lib.hid hn
 have HT:=Lib.hid ht
 obtain ⟨R,hR⟩:∃R,R=w.heap.size:=⟨_,rfl⟩
 obtain ⟨W1,hW1⟩:∃W1,W1=w.alloc (.cells #[.string ⟨#[]⟩,.int .i64 0,.int .i64 0,.int .i64 0,.int .i64 0] 33):=⟨_,rfl⟩
 obtain ⟨b,hb⟩:∃b,b=R+1:=⟨_,rfl⟩
 obtain ⟨u,hu⟩:∃u,u=W1.alloc (.cells #[.pointer none,.slice none 0 0] 78):=⟨_,rfl⟩
 have hb1:b=W1.heap.size:=by rw [hb,hR,hW1];simp
 have hbw:Below w.heap.size w W1:=by rw [hW1];exact (Below.refl _ _).alloc (Nat.le_refl _) _
 have hbu:Below b W1 u:=by rw [hu,hb1];exact (Below.refl _ _).alloc (Nat.le_refl _) _
 have hk:u.heap[b]? = some (.cells #[.pointer none,.slice none 0 0] 78 (0,0)):=by rw [hu,hb1];exact heap_alloc_new W1 _
 have hrk:Blk W1 R 33 [.string ⟨#[]⟩,.int .i64 0,.int .i64 0,.int .i64 0,.int .i64 0]:=by rw [hW1,hR];exact Blk.new w _ _
 have HBL:=Lib.hid (show Bld u b b [] from .inl ⟨Nat.le_refl _,.slice none 0 0,hk,World.ownsRowF_of (World.ownsRow_nil _ _ _ _),by simp [Value.ownBlock]⟩)
 have HB:=Lib.hid (show Below w.heap.size w u from hbw.trans (hbu.mono (by omega)))
 have HRK:=Lib.hid (hrk.below hbu (by omega))
 have HU:=Lib.hid hu;have HW1:=Lib.hid hW1;have HG:=Lib.hid hb;have HRR:=Lib.hid hR
 have hsu:b≤u.heap.size:=by have:=hbu.size;omega
 clear hb hu hbu hk hL hr hn ht hR hW1 hb1 hbw hrk
 go_enter Tryd.func33,Tryd.ntmps33
 go_wp2_with fail
 rw [←HW1.out,←HU.out,←HRR.out,←HG.out]
 obtain ⟨d,hd⟩:∃d,d=j - i:=⟨_,rfl⟩
 rw [←hd]
 have HD:=Lib.hid hd
 have hdn:d≤4294967296:=by omega
 have HT0:=Lib.hid (show ∀k (hk:i+k < l.length),catF l i (i+(k+1))=catF l i (i+k)++txt l[i+k] from fun k hk=>by
  exact cat_next (l:=l) (s:=i) (k:=i+k) (by omega) (by omega))
 clear hd
 go_loopw [16] (fun v wr=>∃k:Nat,k≤d∧v=.int .i64 k∧Hid (Bld wr b b (catF l i (i+k)))∧Hid (Below b u wr)) (fun v _=>d - (intOf v).toNat)
 case atStart=>exact ⟨0,Nat.zero_le _,rfl,by rw [Nat.add_zero,cat_none];exact HBL,Lib.hid (Below.refl _ _)⟩
 case round =>
  clear HBL
  obtain ⟨k,hk,rfl,HBL,HB2⟩:=hrel
  by_cases hlt:k < d
  ·have hkl:i+k < l.length:=by have:=HN.out;have:=HD.out;omega
   have HBW:=Lib.hid (HB.out.trans (HB2.out.mono (by have:=HG.out;have:=HRR.out;omega)))
   obtain ⟨c1,c2,c3⟩:=Rd_sx (HR.out.below HBW.out) hkl
   have ha:o0+(i+k)*3=o0+i*3+k*3:=by omega
   rw [ha] at c1 c2 c3
   have HTX:=Lib.hid (HT0.out k hkl)
   have HTL:=Lib.hid (cat_len l i (i+(k+1)))
   obtain ⟨x,hx⟩:∃x,x=l[i+k].t:=⟨_,rfl⟩
   have hxt:x.data.toList=txt l[i+k]:=by rw [hx];rfl
   generalize txt l[i+k]=t at HTX hxt
   have HP:=Lib.hid (fun (v:World) (hv:Bld v b b (catF l i (i+k))) (hb:b≤v.heap.size)=>put_any (x:=x) (t:=t) hv hxt (by have h1:=HTL.out;rw [HTX.out,List.length_append] at h1;have:=HT.out;omega) hb)
   rw [←hx] at c1
   generalize l[i+k].a=y1 at c2
   generalize l[i+k].e=y2 at c3
   have hA1:A0 < wr.heap.size:=by have:=HBW.out.size;omega
   have hb2:b≤wr.heap.size:=by have:=HB2.out.size;omega
   clear hx hkl ha hxt
   go_wp2_with fail
   refine (HP.out _ (Lib.IsBuilderF.alloc HBL.out _) (by simp;omega)).mono ?_
   rintro e w3 ⟨⟨v,rfl⟩,hb3,hw3⟩
   have HBL3:=Lib.hid (show Bld w3 b b (catF l i (i+(k+1))) by rw [HTX.out];exact hb3)
   have HB3:=Lib.hid ((HB2.out.alloc hb2 _).trans hw3)
   clear hb3 hw3 HBL HB2 HP HTX
   go_wp2_with fail
   go_roundw
   case rel=>exact ⟨k+1,by omega,by go_num,HBL3,HB3⟩
   case measure=>simp [intOf];omega
  ·have hkd:i+k=j:=by have:=HD.out;omega
   rw [hkd] at HBL
   have HBW:=Lib.hid (HB.out.trans (HB2.out.mono (by have:=HG.out;have:=HRR.out;omega)))
   have hil:i < l.length:=by have:=HN.out;omega
   have hjl:j - 1 < l.length:=by have:=HN.out;omega
   have ci:=(Rd_sx (HR.out.below HBW.out) hil).2.1
   have cj:=(Rd_sx (HR.out.below HBW.out) hjl).2.2
   have HWD:=Lib.hid (show agW (wdF l (i,j))=.agg #[.string ⟨(keyF (catF l i j)).toArray⟩,.int .i64 i,.int .i64 j,.int .i64 l[i].a,.int .i64 l[j - 1].e] by
    unfold agW wdF;rw [at_get hil,end_get hjl])
   generalize l[i].a=ya at ci HWD
   generalize l[j - 1].e=ye at cj HWD
   have HCL:=Lib.hid (cat_len l i j)
   obtain ⟨C,hC⟩:∃C,C=catF l i j:=⟨_,rfl⟩
   rw [←hC] at HBL HCL HWD
   obtain ⟨cl,hcl⟩:∃cl,C.length=cl:=⟨_,rfl⟩
   have hcb:cl≤2147483648:=by rw [←hcl];exact Nat.le_trans HCL.out HT.out
   have HKK:=Lib.hid (fun (A:Option Addr) (c:Nat) (v:World) (hv:Laid v) (h:Rd v v.heap.size A (bys C)) (h1:cl≤c) (h2:c≤9223372036854775807)=>key_any A C cl c v hv h hcl h1 h2 hcb (key_room (by omega)))
   have HST:=Lib.hid (fun (v:World) (hv:Bld v b b C) (hb:b≤v.heap.size)=>str_any hv hb)
   have HC:=Lib.hid hcl
   have hA1:A0 < wr.heap.size:=by have:=HBW.out.size;omega
   have hb2:b≤wr.heap.size:=by have:=HB2.out.size;omega
   have hrk:=HRK.out.below HB2.out (by have:=HG.out;omega)
   have hji:((j:Int) - 1).toNat=j - 1:=by omega
   clear hil hjl hC hcl hkd HT0 HD
   go_wp2_with fail
   go_region
   obtain ⟨w4,hw4⟩:∃w4,w4=(wr.alloc (.cells #[.int .i64 i,.int .i64 j,.int .i64 ya,.int .i64 ye] 31)).drew:=⟨_,rfl⟩
   obtain ⟨SP,hSP⟩:∃SP,SP=wr.heap.size:=⟨_,rfl⟩
   have hsp:Blk w4 SP 31 [.int .i64 i,.int .i64 j,.int .i64 ya,.int .i64 ye]:=by rw [hw4,hSP];exact Blk.new wr _ _
   have HBL4:=Lib.hid (show Bld w4 b b C by rw [hw4];exact Lib.IsBuilderF.alloc HBL.out _)
   have hb4:Below b wr w4:=by rw [hw4];exact ((Below.refl _ _).alloc hb2 _).drew
   have HB4:=Lib.hid (HB2.out.trans hb4)
   have HRK4:=Lib.hid (HRK.out.below HB4.out (by have:=HG.out;omega))
   have HSP4:=Lib.hid hsp
   have hs4:b≤w4.heap.size:=by have:=HB4.out.size;omega
   have hlt4:SP < w4.heap.size:=hsp.lt
   have HW4:=Lib.hid (HB.out.trans (HB4.out.mono (by have:=HG.out;have:=HRR.out;omega)))
   have HSB:=Lib.hid (show SP≠b by rcases HBL.out with h | h <;> (have:=Lib.BuilderAtF.lt h;omega))
   rw [←hw4,←hSP]
   have s0:=hsp.cell 0;have s1:=hsp.cell 1;have s2:=hsp.cell 2;have s3:=hsp.cell 3
   simp only [List.getElem?_cons_succ,List.getElem?_cons_zero] at s0 s1 s2 s3
   clear hw4 hSP hsp hb4 hrk ci cj HBL HB2 hA1 hb2 hlt hk hdn
   go_wp2_with fail
   go_region_with (first
    | (go_at_call 49;refine (HST.out w4.drew HBL4.out hs4).mono ?_;rintro e w5 ⟨rfl,hb5,hk5⟩;have SP5:=Lib.hid (hk5 SP _ _ HSB.out (by decide) HSP4.out);have RK5:=Lib.hid (Blk.below (w:=w4.drew) HRK4.out hb5 (by have:=HG.out;omega));have HW5:=Lib.hid (HW4.out.drew.trans (hb5.mono (by have:=HG.out;have:=HRR.out;omega)));obtain ⟨g6,c6,w6,hcv,hr6,hb6,hc6,hc6',_⟩:=conv_str w5 ⟨C.toArray⟩ C rfl cl HC.out (by omega);have HR6:=Lib.hid hr6;have SP6:=Lib.hid (SP5.out.below hb6 SP5.out.lt);have RK6:=Lib.hid (RK5.out.below hb6 RK5.out.lt);have HW6:=Lib.hid (HW5.out.trans (hb6.mono HW5.out.size));have t0:=SP5.out.cell 0;have t1:=SP5.out.cell 1;have t2:=SP5.out.cell 2;have t3:=SP5.out.cell 3;have p0:=SP6.out.cell 0;have p1:=SP6.out.cell 1;have p2:=SP6.out.cell 2;have p3:=SP6.out.cell 3;simp only [List.getElem?_cons_succ,List.getElem?_cons_zero] at t0 t1 t2 t3 p0 p1 p2 p3;clear hb5 hk5 hr6 hb6)
    | (go_at_call 9;refine (HKK.out _ c6 w6 (HL.out.next HW6.out) HR6.out hc6 hc6').mono ?_;rintro e w7 ⟨rfl,hb7⟩;have SP7:=Lib.hid (SP6.out.below hb7 SP6.out.lt);have RK7:=Lib.hid (RK6.out.below hb7 RK6.out.lt);have HW7:=Lib.hid (HW6.out.trans (hb7.mono HW6.out.size));have q0:=SP7.out.cell 0;have q1:=SP7.out.cell 1;have q2:=SP7.out.cell 2;have q3:=SP7.out.cell 3;have r0:=RK7.out.cell 0;have r1:=RK7.out.cell 1;have r2:=RK7.out.cell 2;have r3:=RK7.out.cell 3;have r4:=RK7.out.cell 4;have f0:=RK7.out.frozen 0;have f1:=RK7.out.frozen 1;have f2:=RK7.out.frozen 2;have f3:=RK7.out.frozen 3;have f4:=RK7.out.frozen 4;simp only [List.getElem?_cons_succ,List.getElem?_cons_zero] at q0 q1 q2 q3 r0 r1 r2 r3 r4;clear hb7))
   all_goals
    obtain ⟨w8,hw8⟩:∃w8,w8=((((w7.setCell ⟨R,0,none⟩ (.string ⟨(keyF C).toArray⟩)).setCell ⟨R,1,none⟩ (.int .i64 i)).setCell ⟨R,2,none⟩ (.int .i64 j)).setCell ⟨R,3,none⟩ (.int .i64 ya)).setCell ⟨R,4,none⟩ (.int .i64 ye):=⟨_,rfl⟩
    have RK8:=Lib.hid (show Blk w8 R 33 [.string ⟨(keyF C).toArray⟩,.int .i64 i,.int .i64 j,.int .i64 ya,.int .i64 ye] by rw [hw8];exact ((((RK7.out.set_ 0 _).set_ 1 _).set_ 2 _).set_ 3 _).set_ 4 _)
    have hrw:w.heap.size≤R:=Nat.le_of_eq HRR.out.symm
    have HB8:=Lib.hid (show Below w.heap.size w w8 by rw [hw8];exact ((((HW7.out.setCell (p:=⟨R,0,none⟩) hrw _).setCell (p:=⟨R,1,none⟩) hrw _).setCell (p:=⟨R,2,none⟩) hrw _).setCell (p:=⟨R,3,none⟩) hrw _).setCell (p:=⟨R,4,none⟩) hrw _)
    rw [←hw8]
    clear hw8 s0 s1 s2 s3 t0 t1 t2 t3 p0 p1 p2 p3 q0 q1 q2 q3 r0 r1 r2 r3 r4 f0 f1 f2 f3 f4 hcv
    go_wp2_with fail
    (try simp only [Exit.inBlock,Exit.then])
    refine blk5_ret RK8.out rfl rfl rfl ?_
    exact ⟨by rw [HWD.out],HB8.out⟩
end Go.Proofs.YtdngaddggcmjgaaDoor.Words
namespace Go.Proofs.YtdngaddggcmjgaaDoor.Words
open Go.Shelf Go.RowKit Go.Sort
open Utf hiding infoI32 rd_new own_form own_below rdec_any below_drewN new_any write_any close_any infoU8
open Norm hiding new_any write_any close_any
open Seg hiding take_any
open Ucd hiding grow same Told grp
set_option maxRecDepth 100000
set_option maxHeartbeats 8000000 in
theorem join_any (A:Option Addr) (l:List Sx) (n c:Nat) (w:World) (hL:Laid w) (hr:Rd w w.heap.size A (sxs l)) (hn:l.length=n) (hc:n≤c) (hcm:c≤9223372036854775807) (hsm:n≤4294967296) (ht:total l≤2147483648) :
  Calls Tryd.prog 17 #[.slice A n c] w fun e w'=>∃v,e=.returned v∧w'.ownsRow w.heap.size 33 5 v (joinF l).length (wds (joinF l))∧Below w.heap.size w w':=by
 obtain ⟨i2,hj,hy0,hy1,hy2⟩:=info_parts infoWd
 have HC:=Lib.hid (kindsOf_any A l n c w hL hr hn hsm ht)
 have HR:=Lib.hid hr
 have HL:=Lib.hid hL
 have HN:=Lib.hid hn
 have HT:=Lib.hid ht
 have HKN:=Lib.hid (show (kindsF l).length=n by rw [kinds_len];exact hn)
 have HKR:=Lib.hid (show ∀i,i < n→0≤(kindsF l).getD i 0∧(kindsF l).getD i 0≤5 from fun i hi=>by
  rw [get_D (by rw [kinds_len,hn];exact hi),kinds_get (by rw [hn];exact hi)];exact kind_range _)
 obtain ⟨M,hM⟩:∃M,M=marksF (kindsF l):=⟨_,rfl⟩
 have HML:=Lib.hid (show M.length=n by rw [hM,marks_kinds_len,hn])
 have HMK:=Lib.hid (show ∀i (h:i < M.length),inF (kindsF l) i=M[i] from fun i h=>by subst hM;exact (marks_get h).symm)
 have HJ:=Lib.hid (show joinF l=(runsF M).map (wdF l) by rw [hM];rfl)
 have HRW:=Lib.hid (fun x (hx:x∈runsF M)=>runs_within hx)
 have HRF:=Lib.hid (runs_few M)
 clear hr hL hn ht hM
 go_enter Tryd.func17,Tryd.ntmps17
 go_wp2_with fail
 refine HC.out.mono ?_
 rintro e w1 ⟨g,rfl,hk1,hb1⟩
 have HK1:=Lib.hid (blk_rd hk1)
 have HB1:=Lib.hid hb1
 obtain ⟨B1,hB1⟩:∃B1,B1=w1.heap.size:=⟨_,rfl⟩
 have HBB:=Lib.hid hB1
 have hww:w.heap.size≤B1:=by rw [hB1];exact hb1.size
 clear hk1 hb1 hB1 HC
 go_wp2_with fail
 go_loopw [4,5] (fun vo va wr=>∃(k:Nat) (cs:List (Nat × Nat)),k≤n+1∧va=.int .i64 k∧cs.length≤n∧Hid (cs++runsB k none (M.drop k)=runsF M)∧Hid (wr.ownsRow B1 33 5 vo cs.length (wds (cs.map (wdF l))))∧Hid (Below B1 w1 wr)) (fun _ va _=>n+1 - (intOf va).toNat)
 case atStart=>exact ⟨0,[],Nat.zero_le _,rfl,Nat.zero_le _,Lib.hid rfl,Lib.hid (World.ownsRow_nil _ _ _ _),Lib.hid (Below.refl _ _)⟩
 case round =>
  obtain ⟨k,cs,hk,rfl,hcn,HRN,HO,HB⟩:=hrel
  obtain ⟨wo,hwo⟩:∃wo,wo=wr:=⟨_,rfl⟩
  subst hwo
  have hbw:B1≤wo.heap.size:=by have:=HB.out.size;have:=HBB.out;omega
  by_cases hlt:k < n
  ·have HW0:=Lib.hid (HB1.out.trans (HB.out.mono hww))
   have HX0:=Lib.hid (show Hid (runsB k none (M.drop k)=runsB k (opnR k k) (M.drop k)) from Lib.hid (by rw [runs_start]))
   go_wp2_with fail
   go_loopw [6] (fun ve wx=>∃e:Nat,k≤e∧e≤n∧ve=.int .i64 e∧Hid (runsB k none (M.drop k)=runsB e (opnR k e) (M.drop e))∧Hid (Below wo.heap.size wo wx)) (fun ve _=>n - (intOf ve).toNat)
   case atStart=>exact ⟨k,Nat.le_refl _,by omega,rfl,HX0.out,Lib.hid (Below.refl _ _)⟩
   case round =>
    clear HX0
    obtain ⟨e,hke,hen,rfl,HE,HX⟩:=hrel
    have HW:=Lib.hid (HW0.out.trans (HX.out.mono HW0.out.size))
    have HKX:=Lib.hid (((HK1.out.below (by rw [←HBB.out];exact HB.out)).more (by rw [←HBB.out];exact hbw)).below HX.out)
    have hws:wo.heap.size≤wr.heap.size:=HX.out.size
    by_cases hlte:e < n
    ·have HBG:=Lib.hid (belongs_any _ (kindsF l) n n e wr (HKX.out.more hws) HKN.out hlte hsm (HKR.out e hlte))
     have hem:e < M.length:=by rw [HML.out];exact hlte
     rw [HMK.out e hem] at HBG
     obtain ⟨z,hz⟩:∃z,M[e]=z:=⟨_,rfl⟩
     rw [hz] at HBG
     cases z with
     | true =>
      have HE2:=Lib.hid (HE.out.trans (runs_on hke hem hz))
      clear hz hem
      go_wp2_with fail
      refine HBG.out.mono ?_
      rintro e2 w2 ⟨rfl,hb2⟩
      have HX2:=Lib.hid (HX.out.trans (hb2.mono hws))
      clear hb2 HBG HE HX HW HKX
      go_wp2_with fail
      go_roundw
      case rel=>exact ⟨e+1,by omega,by omega,by go_num,HE2,HX2⟩
      case measure=>simp [intOf];omega
     | false =>
      have HS:=Lib.hid (show ∀h:e < M.length,M[e]=false from fun _=>hz)
      clear hz hem
      go_wp2_with fail
      refine HBG.out.mono ?_
      rintro e2 w2 ⟨rfl,hb2⟩
      have HX2:=Lib.hid (HX.out.trans (hb2.mono hws))
      clear hb2 HBG HW HKX
      obtain ⟨wz,hwz⟩:∃wz,wz=w2:=⟨_,rfl⟩
      subst hwz
      have HXZ:=HX2
      have hzs:wo.heap.size≤wz.heap.size:=HXZ.out.size
      have HBZ:=Lib.hid (HB.out.trans (HXZ.out.mono hbw))
      have HWZ:=Lib.hid (HW0.out.trans (HXZ.out.mono HW0.out.size))
      have hbz:B1≤wz.heap.size:=by omega
      by_cases hke2:k < e
      ·have HRN2:=Lib.hid (show (cs++[(k,e)])++runsB (e+1) none (M.drop (e+1))=runsF M by
        rw [List.append_assoc,List.singleton_append,←runs_stop hke2 HS.out,←HE.out];exact HRN.out)
       have hcn2:cs.length+1≤n:=by
        have h1:=congrArg List.length HRN2.out
        have h2:=HRF.out
        rw [HML.out] at h2
        rw [List.length_append,List.length_append,List.length_singleton] at h1
        omega
       have HWC:=Lib.hid (word_any A l n c k e wz (HL.out.next HWZ.out) ((HR.out.below HWZ.out).more HWZ.out.size) HN.out hc hcm hsm HT.out hke2 hen)
       have HO1:=Lib.hid (own_below HO.out HXZ.out)
       have hag:agW (wdF l (k,e))=.agg #[.string ⟨(keyF (catF l k e)).toArray⟩,.int .i64 k,.int .i64 e,.int .i64 (atF l k),.int .i64 (endF l (e - 1))]:=rfl
       have HRw2:=Lib.hid (show rowW (wdF l (k,e))=[.string ⟨(keyF (catF l k e)).toArray⟩,.int .i64 k,.int .i64 e,.int .i64 (atF l k),.int .i64 (endF l (e - 1))] from rfl)
       rw [hag] at HWC
       generalize (⟨(keyF (catF l k e)).toArray⟩:ByteArray)=ky at HWC HRw2
       generalize atF l k=ya at HWC HRw2
       generalize endF l (e - 1)=ye at HWC HRw2
       obtain ⟨q,hq⟩:∃q,cs.length=q:=⟨_,rfl⟩
       rw [hq] at HO1 hcn2
       have HQ:=Lib.hid hq
       clear hag HS HE HRN HO HX hq hcn
       go_wp2_with fail
       refine HWC.out.mono ?_
       rintro e3 w3 ⟨rfl,hb3⟩
       have HO3:=Lib.hid (own_below HO1.out hb3)
       have HB3:=Lib.hid (HBZ.out.trans (hb3.mono hbz))
       have hb3z:B1≤w3.heap.size:=by have:=hb3.size;omega
       clear hb3 HWC HO1 HBZ
       go_wp2_with (at_builtin;refine wpList_append_rd _ rfl (.tmp 30) (.tmp 35) _ rfl B1 33 i2 _ 5 48 Tryd.underlying26 hj hy0 hy1 hy2 rfl (by decide) u4 q (wds (cs.map (wdF l))) rfl (HO3.out.alloc _) _ (some ⟨w3.heap.size,0,none⟩) 1 1 [.string ky,.int .i64 k,.int .i64 e,.int .i64 ya,.int .i64 ye] rfl rfl (rd_new _ _ [.string ky,.int .i64 k,.int .i64 e,.int .i64 ya,.int .i64 ye] _ rfl) (by simp [Value.oneCell']) (by unfold maxLen;omega) (by omega) (by simp;omega) ?_;intro v6 w6 hown6 hgr6 _)
       have HO6:=Lib.hid (show w6.ownsRow B1 33 5 v6 (cs++[(k,e)]).length (wds ((cs++[(k,e)]).map (wdF l))) by
        rw [List.map_append,wds_append,List.length_append,HQ.out]
        have e1:wds ([(k,e)].map (wdF l))=rowW (wdF l (k,e)):=by simp [wds]
        rw [e1,HRw2.out];exact hown6)
       have HB6:=Lib.hid ((HB3.out.alloc hb3z _).grown hgr6 (by simp;omega) (fun y hy=>(HO3.out.lt y hy).1))
       clear hown6 hgr6 HO3 HB3
       go_roundw
       case rel=>exact ⟨e+1,cs++[(k,e)],by omega,by go_num,by rw [List.length_append,HQ.out];exact hcn2,HRN2,HO6,HB6⟩
       case measure=>simp [intOf];omega
      ·have hek:e=k:=by omega
       have d1:decide ((k:Int) < (e:Int))=false:=decide_eq_false (by omega)
       have n1:decide (k < e)=false:=decide_eq_false hke2
       have HRN2:=Lib.hid (show cs++runsB (e+1) none (M.drop (e+1))=runsF M by
        have hs:=HS.out
        have hr:=HRN.out
        rw [←hek] at hr
        rw [←runs_off (show e < M.length by rw [HML.out,hek];exact hlt) (hs _)];exact hr)
       have HO1:=Lib.hid (own_below HO.out HXZ.out)
       clear HS HE HRN HO HX hek
       go_wp2_with fail
       go_roundw
       case rel=>exact ⟨e+1,cs,by omega,by go_num,hcn,HRN2,HO1,HBZ⟩
       case measure=>simp [intOf];omega
    ·have HS:=Lib.hid (show ∀h:e < M.length,M[e]=false from fun h=>by rw [HML.out] at h;omega)
     clear HW HKX
     obtain ⟨wz,hwz⟩:∃wz,wz=wr:=⟨_,rfl⟩
     subst hwz
     have HXZ:=HX
     have hzs:wo.heap.size≤wz.heap.size:=HXZ.out.size
     have HBZ:=Lib.hid (HB.out.trans (HXZ.out.mono hbw))
     have HWZ:=Lib.hid (HW0.out.trans (HXZ.out.mono HW0.out.size))
     have hbz:B1≤wz.heap.size:=by omega
     by_cases hke2:k < e
     ·have HRN2:=Lib.hid (show (cs++[(k,e)])++runsB (e+1) none (M.drop (e+1))=runsF M by
       rw [List.append_assoc,List.singleton_append,←runs_stop hke2 HS.out,←HE.out];exact HRN.out)
      have hcn2:cs.length+1≤n:=by
       have h1:=congrArg List.length HRN2.out
       have h2:=HRF.out
       rw [HML.out] at h2
       rw [List.length_append,List.length_append,List.length_singleton] at h1
       omega
      have HWC:=Lib.hid (word_any A l n c k e wz (HL.out.next HWZ.out) ((HR.out.below HWZ.out).more HWZ.out.size) HN.out hc hcm hsm HT.out hke2 hen)
      have HO1:=Lib.hid (own_below HO.out HXZ.out)
      have hag:agW (wdF l (k,e))=.agg #[.string ⟨(keyF (catF l k e)).toArray⟩,.int .i64 k,.int .i64 e,.int .i64 (atF l k),.int .i64 (endF l (e - 1))]:=rfl
      have HRwr:=Lib.hid (show rowW (wdF l (k,e))=[.string ⟨(keyF (catF l k e)).toArray⟩,.int .i64 k,.int .i64 e,.int .i64 (atF l k),.int .i64 (endF l (e - 1))] from rfl)
      rw [hag] at HWC
      generalize (⟨(keyF (catF l k e)).toArray⟩:ByteArray)=ky at HWC HRwr
      generalize atF l k=ya at HWC HRwr
      generalize endF l (e - 1)=ye at HWC HRwr
      obtain ⟨q,hq⟩:∃q,cs.length=q:=⟨_,rfl⟩
      rw [hq] at HO1 hcn2
      have HQ:=Lib.hid hq
      clear hag HS HE HRN HO HX hq hcn
      go_wp2_with fail
      refine HWC.out.mono ?_
      rintro e3 w3 ⟨rfl,hb3⟩
      have HO3:=Lib.hid (own_below HO1.out hb3)
      have HB3:=Lib.hid (HBZ.out.trans (hb3.mono hbz))
      have hb3z:B1≤w3.heap.size:=by have:=hb3.size;omega
      clear hb3 HWC HO1 HBZ
      go_wp2_with (at_builtin;refine wpList_append_rd _ rfl (.tmp 30) (.tmp 35) _ rfl B1 33 i2 _ 5 48 Tryd.underlying26 hj hy0 hy1 hy2 rfl (by decide) u4 q (wds (cs.map (wdF l))) rfl (HO3.out.alloc _) _ (some ⟨w3.heap.size,0,none⟩) 1 1 [.string ky,.int .i64 k,.int .i64 e,.int .i64 ya,.int .i64 ye] rfl rfl (rd_new _ _ [.string ky,.int .i64 k,.int .i64 e,.int .i64 ya,.int .i64 ye] _ rfl) (by simp [Value.oneCell']) (by unfold maxLen;omega) (by omega) (by simp;omega) ?_;intro v6 w6 hown6 hgr6 _)
      have HO6:=Lib.hid (show w6.ownsRow B1 33 5 v6 (cs++[(k,e)]).length (wds ((cs++[(k,e)]).map (wdF l))) by
       rw [List.map_append,wds_append,List.length_append,HQ.out]
       have e1:wds ([(k,e)].map (wdF l))=rowW (wdF l (k,e)):=by simp [wds]
       rw [e1,HRwr.out];exact hown6)
      have HB6:=Lib.hid ((HB3.out.alloc hb3z _).grown hgr6 (by simp;omega) (fun y hy=>(HO3.out.lt y hy).1))
      clear hown6 hgr6 HO3 HB3
      go_roundw
      case rel=>exact ⟨e+1,cs++[(k,e)],by omega,by go_num,by rw [List.length_append,HQ.out];exact hcn2,HRN2,HO6,HB6⟩
      case measure=>simp [intOf];omega
     ·have hek:e=k:=by omega
      have d1:decide ((k:Int) < (e:Int))=false:=decide_eq_false (by omega)
      have n1:decide (k < e)=false:=decide_eq_false hke2
      have HRN2:=Lib.hid (show cs++runsB (e+1) none (M.drop (e+1))=runsF M by
       have hs:=HS.out
       have hr:=HRN.out
       rw [←hek] at hr
       rw [←runs_off (show e < M.length by rw [HML.out,hek];exact hlt) (hs _)];exact hr)
      have HO1:=Lib.hid (own_below HO.out HXZ.out)
      clear HS HE HRN HO HX hek
      go_wp2_with fail
      go_roundw
      case rel=>exact ⟨e+1,cs,by omega,by go_num,hcn,HRN2,HO1,HBZ⟩
      case measure=>simp [intOf];omega
  ·have hkn:M.length≤k:=by rw [HML.out];omega
   have hcs:cs=runsF M:=by
    have:=HRN.out
    rwa [runs_end hkn,List.append_nil] at this
   have HO2:=Lib.hid (show wo.ownsRow B1 33 5 u4 (joinF l).length (wds (joinF l)) by
    rw [HJ.out,List.length_map,←hcs];exact HO.out)
   have HW:=Lib.hid (HB1.out.trans (HB.out.mono hww))
   clear hcs hkn HO HRN
   go_wp2_with fail
   go_ret
   exact ⟨u4,rfl,own_mono HO2.out hww,HW.out⟩
set_option maxHeartbeats 8000000 in
theorem words_any (lim:Int) (l:List UInt8) (A:Option Addr) (m c:Nat) (w:World) (hL:Laid w) (hr:Rd w w.heap.size A (bys l)) (hm:l.length=m) (hc:m≤c) (hcm:c≤9223372036854775807) (hsm:m≤134217728) :
  Calls Tryd.prog 13 #[.slice A m c,.int .i64 lim] w (WordsAns w lim l):=by
 have HL:=Lib.hid hL
 have HS:=Lib.hid (split_any lim l A m c w hL hr hm hc hcm hsm)
 have HT:=Lib.hid (show total ((spS lim l).map up)≤2147483648 by have:=total_split lim l;omega)
 have HN:=Lib.hid (show (spS lim l).length≤4294967296 by have:=split_len lim l;omega)
 have HE:=sp_err lim l
 clear hr hm hsm hL hc hcm
 rcases HE with he | he
 ·have HWF:=Lib.hid (show wordsF lim l=joinF ((spS lim l).map up) by unfold wordsF;rw [if_pos he])
  unfold SplitAns at HS
  unfold WordsAns
  rw [he] at HS ⊢
  rw [HWF.out]
  generalize spS lim l=S at HS HT HN ⊢
  clear HWF he
  go_enter Tryd.func13,Tryd.ntmps13
  go_wp2_with fail
  refine HS.out.mono ?_
  rintro e w1 ⟨v,rfl,ho,hb1⟩
  rw [←sxs_up] at ho
  obtain ⟨A1,c1,rfl,hc1,hcm1,hr1⟩:=own_form ho
  have HJ:=Lib.hid (join_any A1 (S.map up) S.length c1 w1 (HL.out.next hb1) hr1 (List.length_map _) hc1 hcm1 HN.out HT.out)
  have HB1:=Lib.hid hb1
  clear hr1 hb1 ho
  go_wp2_with fail
  refine HJ.out.mono ?_
  rintro e w2 ⟨v,rfl,ho,hb2⟩
  have HO:=Lib.hid ho
  have HB2:=Lib.hid (HB1.out.trans (hb2.mono HB1.out.size))
  clear ho hb2
  go_wp2_with fail
  go_ret2
  exact ⟨v,rfl,own_mono HO.out HB1.out.size,HB2.out⟩
 ·have HWF:=Lib.hid (show wordsF lim l=[] by unfold wordsF;rw [if_neg (by omega)])
  have hne:(spE lim l == 0)=false:=by rw [beq_eq_false_iff_ne];omega
  have hne2:(spE lim l != 0)=true:=by simp;omega
  unfold SplitAns at HS
  unfold WordsAns
  rw [HWF.out]
  clear HWF
  generalize spE lim l=er at HS hne hne2 he ⊢
  have HHE:=Lib.hid he
  clear he
  go_enter Tryd.func13,Tryd.ntmps13
  go_wp2_with fail
  refine HS.out.mono ?_
  rintro e w1 ⟨v,rfl,ho,hb1⟩
  obtain ⟨A1,c1,rfl,_,_,_⟩:=own_form ho
  have HB1:=Lib.hid hb1
  clear hb1 ho
  go_wp2_with fail
  go_ret2
  exact ⟨_,rfl,World.ownsRow_nil _ _ _ _,HB1.out⟩
end Go.Proofs.YtdngaddggcmjgaaDoor.Words
namespace Go.Proofs.YtdngaddggcmjgaaDoor.Words
open Go.Shelf Go.RowKit Go.Sort
open Utf hiding infoI32 rd_new own_form own_below rdec_any below_drewN new_any write_any close_any infoU8
open Norm hiding new_any write_any close_any
open Seg
open Ucd hiding grow same Told grp
set_option maxRecDepth 100000
theorem conv_lits (n:Nat) (w:World) (C:Array Value):(convert 22 22 (.slice (some ⟨w.heap.size,0,none⟩) n n)).run Tryd.prog (w.alloc (.cells C 5))=.ok (.slice (some ⟨w.heap.size,0,none⟩) n n) (w.alloc (.cells C 5 (C.size,C.size+1))):=by
 have hsh:(w.alloc (.cells C 5)).shape? w.heap.size=some (5,C.size):=by
  have:(w.alloc (.cells C 5)).heap[w.heap.size]? = some (.cells C 5):=heap_alloc_new w _
  unfold World.shape?
  rw [this]
 have hfr:(w.alloc (.cells C 5)).freeze ⟨w.heap.size,C.size,none⟩ 1=w.alloc (.cells C 5 (C.size,C.size+1)):=by
  have hm:∀(a:Array Obj) (x:Obj) (f:Obj→Obj),(a.push x).modify a.size f=a.push (f x):=by
   intro a x f
   apply Array.ext
   ·simp
   ·intro i h1 h2
    simp only [Array.getElem_modify,Array.getElem_push]
    by_cases h:a.size=i
    ·subst h
     simp
    ·have hi:i < a.size:=by simp at h1;omega
     simp [h,hi]
  unfold World.freeze
  rw [if_neg (by decide)]
  show ({ w.alloc (.cells C 5) with heap:=(w.heap.push (.cells C 5)).modify w.heap.size _ }:World)=_
  rw [hm]
  rfl
 simp [convert,run_underlying Tryd.underlying22,run_underlying Tryd.underlying5,markStringish,hsh]
 exact hfr
theorem words_at (lim:Int) (l:List UInt8) (S:List Wd) (E:Int) (n m:Nat) (hS:wordsF lim l=S) (hE:spE lim l=E) (hn:l.length=n) (hm:S.length=m) (A:Option Addr) (c:Nat) (w:World) (hL:Laid w) (hr:Rd w w.heap.size A (bys l)) (hc:n≤c) (hcm:c≤9223372036854775807) (hsm:n≤1000) :
  Calls Tryd.prog 13 #[.slice A n c,.int .i64 lim] w fun e w'=>∃A2 c2,e=.returned (.tuple #[.slice A2 m c2,.int .i64 E])∧Rd w' w'.heap.size A2 (wds S)∧Below w.heap.size w w' :=
 (words_any lim l A n c w hL hr hn hc hcm (by omega)).mono fun e w' ⟨v,he,ho,hb⟩=>by
  rw [hS] at ho
  obtain ⟨A2,c2,rfl,_,_,h6⟩:=own_form ho
  exact ⟨A2,c2,by rw [he,hE,hm],h6,hb⟩
theorem key_at (l K:List UInt8) (n:Nat) (hK:keyF l=K) (hn:l.length=n) (A:Option Addr) (c:Nat) (w:World) (hL:Laid w) (hr:Rd w w.heap.size A (bys l)) (hc:n≤c) (hcm:c≤9223372036854775807) (hsm:n≤1000) :
  Calls Tryd.prog 9 #[.slice A n c] w (Ret w (.string ⟨K.toArray⟩)) :=
 hK ▸ key_any A l n c w hL hr hn hc hcm (by omega) (key_room (by omega))
theorem wsame_at (a b:List UInt8) (m n:Nat) (v:Bool) (hv:decide (keyF a=keyF b)=v) (hm:a.length=m) (hn:b.length=n) (A B:Option Addr) (c d:Nat) (w:World) (hL:Laid w) (ha:Rd w w.heap.size A (bys a)) (hb:Rd w w.heap.size B (bys b)) (hc:m≤c) (hcm:c≤9223372036854775807) (hd:n≤d) (hdm:d≤9223372036854775807)
  (hsm:m≤1000) (hsn:n≤1000):Calls Tryd.prog 12 #[.slice A m c,.slice B n d] w (Ret w (.bool v)) :=
 hv ▸ wsame_any a b A B m c n d w hL ha hb hm hc hcm hn hd hdm (by omega) (by omega) (key_room (by omega)) (key_room (by omega))
theorem key_sharp:decide (keyF big=keyF sharp)=true:=by rw [key_big.1,key_big.2];decide
structure F0 (base:Nat) (w wk:World):Prop where
 bel:Below base w wk
 laid:Laid wk
 le:base≤wk.heap.size
theorem F0.next {base:Nat} {w wk wl:World} (h:F0 base w wk) (hb:Below wk.heap.size wk wl):F0 base w wl:=⟨h.bel.trans (hb.mono h.le),h.laid.next hb,Nat.le_trans h.le hb.size⟩
theorem F0.alloc {base:Nat} {w wk:World} (h:F0 base w wk) (o:Obj):F0 base w (wk.alloc o):=h.next ((Below.refl _ _).alloc (Nat.le_refl _) o)
set_option maxHeartbeats 8000000 in
theorem fixed_any (w:World) (hL:Laid w):Calls Tryd.prog 8 #[] w (Ret w (.bool true)):=by
 have X0:=Lib.hid (show F0 w.heap.size w w from ⟨Below.refl _ _,hL,Nat.le_refl _⟩)
 have X1:=Lib.hid (X0.out.alloc (.cells (bys ex1).toArray 5 (25,26)))
 have hcv:(convert 22 22 (.slice (some ⟨w.heap.size,0,none⟩) 25 25)).run Tryd.prog (w.alloc (.cells #[.int .u8 73,.int .u8 116,.int .u8 39,.int .u8 115,.int .u8 32,.int .u8 51,.int .u8 46,.int .u8 53,.int .u8 32,.int .u8 195,.int .u8 137,.int .u8 116,.int .u8 195,.int .u8 169,.int .u8 115,.int .u8 44,.int .u8 32,.int .u8 101,.int .u8 46,.int .u8 103,.int .u8 46,.int .u8 32,.int .u8 95,.int .u8 120,.int .u8 49] 5))=.ok (.slice (some ⟨w.heap.size,0,none⟩) 25 25) (w.alloc (.cells (bys ex1).toArray 5 (25,26))):=conv_lits 25 w _
 clear hL
 go_enter Tryd.func8,Tryd.ntmps8
 go_wp2_with fail
 refine (words_at 64 ex1 ans1 0 25 6 words_ex1.1 words_ex1.2 rfl rfl _ _ _ X1.out.laid ((rd_lit w _ (25,26) (bys ex1)).more (by simp)) (Nat.le_refl _) (by decide) (by decide)).mono ?_
 rintro e w2 ⟨A2,c2,rfl,hr2,hb2⟩
 have X2:=Lib.hid (X1.out.next hb2)
 have HR2:=Lib.hid hr2
 clear hr2 hb2 hcv X1
 have X3:=Lib.hid (X2.out.alloc (.cells (bys ex2).toArray 5 (9,10)))
 have hcv:(convert 22 22 (.slice (some ⟨w2.heap.size,0,none⟩) 9 9)).run Tryd.prog (w2.alloc (.cells #[.int .u8 39,.int .u8 97,.int .u8 39,.int .u8 32,.int .u8 49,.int .u8 46,.int .u8 32,.int .u8 46,.int .u8 53] 5))=.ok (.slice (some ⟨w2.heap.size,0,none⟩) 9 9) (w2.alloc (.cells (bys ex2).toArray 5 (9,10))):=conv_lits 9 w2 _
 go_wp2_with fail
 refine (words_at 64 ex2 ans2 0 9 3 words_ex2.1 words_ex2.2 rfl rfl _ _ _ X3.out.laid ((rd_lit w2 _ (9,10) (bys ex2)).more (by simp)) (Nat.le_refl _) (by decide) (by decide)).mono ?_
 rintro e w4 ⟨A4,c4,rfl,_,hb4⟩
 have X4:=Lib.hid (X3.out.next hb4)
 have HR4:=Lib.hid ((((HR2.out.alloc (Nat.le_refl _) (.cells (bys ex2).toArray 5 (9,10))).more (B':=(w2.alloc (.cells (bys ex2).toArray 5 (9,10))).heap.size) (by simp)).below hb4).more hb4.size)
 clear hb4 hcv X2 X3 HR2
 go_wp2_with fail
 refine (words_at 0 [] [] 1 0 0 words_none.1 words_none.2 rfl rfl none 0 w4 X4.out.laid (Rd.empty _ _ _) (Nat.le_refl _) (by decide) (by decide)).mono ?_
 rintro e w5 ⟨A5,c5,rfl,_,hb5⟩
 have X5:=Lib.hid (X4.out.next hb5)
 have HR5:=Lib.hid ((HR4.out.below hb5).more hb5.size)
 clear hb5 X4 HR4
 obtain ⟨bq,oq,rfl,_⟩:=HR5.out.form (by decide)
 have p0:=Rd_wd (k:=0) HR5.out (by decide) 0 (by decide)
 have p1:=Rd_wd (k:=1) HR5.out (by decide) 0 (by decide)
 have p2:=Rd_wd (k:=2) HR5.out (by decide) 0 (by decide)
 have p3:=Rd_wd (k:=2) HR5.out (by decide) 1 (by decide)
 have p4:=Rd_wd (k:=2) HR5.out (by decide) 2 (by decide)
 have p5:=Rd_wd (k:=5) HR5.out (by decide) 0 (by decide)
 have q0:w5.cell? ⟨bq,oq,none⟩=some (.string ⟨#[105,116,39,115]⟩):=p0
 have q1:w5.cell? ⟨bq,oq+5,none⟩=some (.string ⟨#[51,46,53]⟩):=p1
 have q2:w5.cell? ⟨bq,oq+10,none⟩=some (.string ⟨#[101,204,129,116,101,204,129,115]⟩):=p2
 have q3:w5.cell? ⟨bq,oq+11,none⟩=some (.int .i64 9):=p3
 have q4:w5.cell? ⟨bq,oq+12,none⟩=some (.int .i64 13):=p4
 have q5:w5.cell? ⟨bq,oq+25,none⟩=some (.string ⟨#[95,120,49]⟩):=p5
 clear p0 p1 p2 p3 p4 p5 HR5
 have X6:=Lib.hid (X5.out.alloc (.cells (bys big).toArray 5 (7,8)))
 have hcv:(convert 22 22 (.slice (some ⟨w5.heap.size,0,none⟩) 7 7)).run Tryd.prog (w5.alloc (.cells #[.int .u8 83,.int .u8 84,.int .u8 82,.int .u8 65,.int .u8 83,.int .u8 83,.int .u8 69] 5))=.ok (.slice (some ⟨w5.heap.size,0,none⟩) 7 7) (w5.alloc (.cells (bys big).toArray 5 (7,8))):=conv_lits 7 w5 _
 go_wp2_with fail
 refine (key_at big small 7 key_big.1 rfl _ _ _ X6.out.laid ((rd_lit w5 _ (7,8) (bys big)).more (by simp)) (Nat.le_refl _) (by decide) (by decide)).mono ?_
 rintro e w7 ⟨rfl,hb7⟩
 have X7:=Lib.hid (X6.out.next hb7)
 clear hb7 hcv X5 X6 q0 q1 q2 q3 q4 q5
 have X8:=Lib.hid (X7.out.alloc (.cells (bys big).toArray 5 (7,8)))
 have X9:=Lib.hid (X8.out.alloc (.cells (bys sharp).toArray 5 (7,8)))
 have hcv:(convert 22 22 (.slice (some ⟨w7.heap.size,0,none⟩) 7 7)).run Tryd.prog (w7.alloc (.cells #[.int .u8 83,.int .u8 84,.int .u8 82,.int .u8 65,.int .u8 83,.int .u8 83,.int .u8 69] 5))=.ok (.slice (some ⟨w7.heap.size,0,none⟩) 7 7) (w7.alloc (.cells (bys big).toArray 5 (7,8))):=conv_lits 7 w7 _
 have hcv2:(convert 22 22 (.slice (some ⟨w7.heap.size+1,0,none⟩) 7 7)).run Tryd.prog ((w7.alloc (.cells (bys big).toArray 5 (7,8))).alloc (.cells #[.int .u8 83,.int .u8 116,.int .u8 114,.int .u8 97,.int .u8 195,.int .u8 159,.int .u8 101] 5))=.ok (.slice (some ⟨w7.heap.size+1,0,none⟩) 7 7) ((w7.alloc (.cells (bys big).toArray 5 (7,8))).alloc (.cells (bys sharp).toArray 5 (7,8))):=by
  have h:=conv_lits 7 (w7.alloc (.cells (bys big).toArray 5 (7,8))) #[.int .u8 83,.int .u8 116,.int .u8 114,.int .u8 97,.int .u8 195,.int .u8 159,.int .u8 101]
  rw [World.size_alloc] at h
  exact h
 go_wp2_with fail
 have hr1:Rd (w7.alloc (.cells (bys big).toArray 5 (7,8))) (w7.heap.size+1) (some ⟨w7.heap.size,0,none⟩) (bys big):=rd_lit w7 _ (7,8) (bys big)
 have hr2:Rd ((w7.alloc (.cells (bys big).toArray 5 (7,8))).alloc (.cells (bys sharp).toArray 5 (7,8))) (w7.heap.size+2) (some ⟨w7.heap.size+1,0,none⟩) (bys sharp):=by
  have h:=rd_lit (w7.alloc (.cells (bys big).toArray 5 (7,8))) 5 (7,8) (bys sharp)
  rw [World.size_alloc] at h
  exact h
 refine (wsame_at big sharp 7 7 true key_sharp rfl rfl _ _ _ _ _ X9.out.laid ((hr1.alloc (by simp) _).more (by simp)) (hr2.more (by simp)) (Nat.le_refl _) (by decide) (Nat.le_refl _) (by decide) (by decide) (by decide)).mono ?_
 rintro e w10 ⟨rfl,hb10⟩
 have X10:=Lib.hid (X9.out.next hb10)
 clear hb10 hcv hcv2 hr1 hr2 X7 X8 X9
 go_wp2_with fail
 refine (join_any none [] 0 0 w10 X10.out.laid (Rd.empty _ _ _) rfl (by decide) (by decide) (by decide) (by decide)).mono ?_
 rintro e w11 ⟨v,rfl,ho,hb11⟩
 obtain ⟨A11,c11,rfl,_⟩:=own_form ho
 have X11:=Lib.hid (X10.out.next hb11)
 clear ho hb11 X10
 go_wp2_with fail
 go_ret
 exact ⟨rfl,X11.out.bel⟩
end Go.Proofs.YtdngaddggcmjgaaDoor.Words
