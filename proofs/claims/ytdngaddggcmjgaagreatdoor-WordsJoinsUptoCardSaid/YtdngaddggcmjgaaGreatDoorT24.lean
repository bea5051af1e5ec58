/-
  Texts of stage 7, part 24.
-/
import Derived.Deep.RegionHeld3
import Derived.Deep.DeepCutAuto
import Derived.BigRegion
import Derived.Test.YtdngaddggcmjgaaGreatDoorT14
import Derived.Test.YtdngaddggcmjgaaGreatDoorT15
import Derived.Test.YtdngaddggcmjgaaGreatDoorT19
import Derived.Test.YtdngaddggcmjgaaGreatDoorT20
import Derived.Test.YtdngaddggcmjgaaGreatDoorT22
import Derived.Test.YtdngaddggcmjgaaGreatDoorT23
namespace Go.Proofs.YtdngaddggcmjgaaGreatDoor.Words
open Go.Shelf Go.RowKit Go.Sort
open Utf hiding infoI32 rd_new own_form own_below rdec_any below_drewN new_any write_any close_any infoU8
open Norm hiding new_any write_any close_any
open Seg
open Ucd hiding grow same Told
def total (l:List Sx):Nat:=((l.map txt).flatten).length
theorem flat_sub {a b:List (List UInt8)} (h:a.Sublist b):a.flatten.length≤b.flatten.length:=by
 induction h with
 | slnil=>simp
 | cons x _ ih=>simp only [List.flatten_cons,List.length_append];omega
 | cons_cons x _ ih=>simp only [List.flatten_cons,List.length_append];omega
theorem cat_len (l:List Sx) (i j:Nat):(catF l i j).length≤total l:=by
 unfold catF total
 exact flat_sub (((List.drop_sublist i _).trans (List.take_sublist j l)).map txt)
theorem txt_len {l:List Sx} {x:Sx} (h:x∈l):(txt x).length≤total l:=by
 unfold total
 exact (List.sublist_flatten_of_mem (List.mem_map_of_mem h)).length_le
theorem key_room {l:List UInt8} (h:l.length≤4294967296):(normal (runesF l)).length≤17179869184:=by
 have h1:=runes_len l
 have h2:=normal_len (runesF l)
 have h3:=fulls_len (runesF l)
 omega
def w0 (l:List Sx) (x:Nat × Nat):Wd:=⟨[],x.1,x.2,atF l x.1,endF l (x.2 - 1)⟩
theorem at_get {l:List Sx} {k:Nat} (h:k < l.length):atF l k=l[k].a:=by simp [atF,List.getElem?_eq_getElem h]
theorem end_get {l:List Sx} {k:Nat} (h:k < l.length):endF l k=l[k].e:=by simp [endF,List.getElem?_eq_getElem h]
set_option maxHeartbeats 16000000 in
set_option maxRecDepth 100000 in
theorem rjoin_any (A:Option Addr) (l:List Sx) (n c:Nat) (w:World) (hr:Rd w w.heap.size A (sxs l)) (hn:l.length=n) (hsm:n≤4294967296) (ht:total l≤4294967296) :
  Calls Tryz.prog 10 #[.slice A n c] w fun e w'=>∃v,e=.returned v∧w'.ownsRow w.heap.size 36 5 v (joinF l).length (wds (joinF l))∧Below w.heap.size w w':=by
 obtain ⟨i1,hi,hz0,hz1,hz2⟩:=info_parts infoInt
 obtain ⟨i2,hj,hy0,hy1,hy2⟩:=info_parts infoWd
 obtain ⟨i3,hu,hx0,hx1,hx2⟩:=info_parts infoU8
 have HR:=Lib.hid hr
 have HN:=Lib.hid hn
 have HT:=Lib.hid ht
 obtain ⟨B0,hB0⟩:∃B0,B0=w.heap.size:=⟨_,rfl⟩
 have HB0:=Lib.hid hB0
 rw [←hB0] at HR ⊢
 clear hr hn hB0 ht
 go_enter Tryz.func10,Tryz.ntmps10
 go_wp2_with fail
 go_loopw [3,4] (fun vo i wr=>∃k:Nat,k≤n∧i=.int .i64 k∧Hid (wr.ownsRow B0 3 1 vo k (ns ((kindsF l).take k)))∧Hid (Below B0 w wr)) (fun _ i _=>n - (intOf i).toNat)
 case atStart=>exact ⟨0,Nat.zero_le _,rfl,Lib.hid (by simp only [List.take_zero];exact World.ownsRow_nil _ _ _ _),Lib.hid (Below.refl _ _)⟩
 case round =>
  obtain ⟨k,hk,rfl,HO,HB⟩:=hrel
  by_cases hlt:k < n
  ·have hkl:k < l.length:=by rw [HN.out];exact hlt
   obtain ⟨b,o,rfl,hbl⟩:=HR.out.form (by rw [sxs_len];omega)
   have hcell:=(Rd_sx (HR.out.below HB.out) hkl).1
   have HTK:=Lib.hid (show ns ((kindsF l).take (k+1))=ns ((kindsF l).take k)++[.int .i64 (kindF (txt l[k]))] by
    rw [List.take_succ_eq_append_getElem (by rw [kinds_len];exact hkl),ns_append,kinds_get hkl];rfl)
   have HC:=Lib.hid (rkind_any l[k].t (txt l[k]) rfl wr (by have:=txt_len (List.getElem_mem hkl);have:=HT.out;omega))
   generalize l[k].t=X at hcell HC
   generalize kindF (txt l[k])=kd at HTK HC
   have hb1:B0≤wr.heap.size:=Nat.le_trans (Nat.le_of_eq HB0.out) HB.out.size
   have HO1:=HO
   clear hkl
   go_wp2_with fail
   refine HC.out.mono ?_
   rintro e w1 ⟨rfl,hw1⟩
   have HO2:=Lib.hid (own_below HO.out hw1)
   have HB2:=Lib.hid (HB.out.trans (hw1.mono hb1))
   have hb2:B0≤w1.heap.size:=by have:=hw1.size;omega
   clear hw1 HO HB HC HO1 hcell
   go_wp2_with (at_builtin;refine wpList_append_rd _ rfl (.tmp 21) (.tmp 28) _ rfl B0 3 i1 _ 1 8 Tryz.underlying45 hi hz0 hz1 hz2 rfl (by decide) u3 k (ns ((kindsF l).take k)) rfl (HO2.out.alloc _) _ (some ⟨w1.heap.size,0,none⟩) 1 1 [.int .i64 kd] rfl rfl (rd_new _ _ [.int .i64 kd] _ rfl) (ns_one [kd]) (by unfold maxLen;omega) (by omega) (by simp;omega) ?_;intro v6 w6 hown6 hgr6 _)
   have HO6:=Lib.hid (show w6.ownsRow B0 3 1 v6 (k+1) (ns ((kindsF l).take (k+1))) by rw [HTK.out];exact hown6)
   have HB6:=Lib.hid ((HB2.out.alloc hb2 _).grown hgr6 (by simp;omega) (fun g hg=>(HO2.out.lt g hg).1))
   clear hown6 hgr6 HO2 HB2 HTK
   go_roundw
   case rel=>exact ⟨k+1,by omega,by go_num,HO6,HB6⟩
   case measure=>simp [intOf];omega
  ·rw [show k=n by omega] at HO
   rw [show (kindsF l).take n=kindsF l from List.take_of_length_le (by rw [kinds_len,HN.out];exact Nat.le_refl _)] at HO
   obtain ⟨Ak,ck,rfl,_,_,hrk⟩:=own_form HO.out
   obtain ⟨W1,hW1⟩:∃W1,W1=wr:=⟨_,rfl⟩
   obtain ⟨B1,hB1⟩:∃B1,B1=W1.heap.size:=⟨_,rfl⟩
   subst hW1
   have HB1:=Lib.hid hB1
   rw [←hB1] at hrk
   have HRK:=Lib.hid hrk
   have HBB:=Lib.hid (show B0≤B1 by have:=HB.out.size;have:=HB0.out;omega)
   obtain ⟨M,hM⟩:∃M,M=marksF (kindsF l):=⟨_,rfl⟩
   have HM:=Lib.hid hM
   have HML:=Lib.hid (show M.length=n by rw [hM,marks_kinds_len,HN.out])
   clear hrk HO hB1 hM
   go_wp2_with fail
   clear hk hlt
   go_loopw [5,6,7] (fun vo vb i wr=>∃k:Nat,k≤n∧i=.int .i64 k∧vb=.bool (opF M k)∧Hid (wr.ownsRow B1 36 5 vo (outF M k).length (wds ((outF M k).map (w0 l))))∧Hid (Below B1 W1 wr)) (fun _ _ i _=>n - (intOf i).toNat)
   case atStart=>exact ⟨0,Nat.zero_le _,rfl,rfl,Lib.hid (World.ownsRow_nil _ _ _ _),Lib.hid (by rw [HB1.out];exact Below.refl _ _)⟩
   case round =>
    obtain ⟨k,hk,rfl,rfl,HO,HB2⟩:=hrel
    by_cases hlt:k < n
    ·have hkl:k < l.length:=by rw [HN.out];exact hlt
     have hkm:k < M.length:=by rw [HML.out];exact hlt
     have hks:k < (kindsF l).length:=by rw [kinds_len];exact hkl
     have hbw:B1≤wr.heap.size:=Nat.le_trans (Nat.le_of_eq HB1.out) HB2.out.size
     obtain ⟨b,o,rfl,hbl⟩:=HR.out.form (by rw [sxs_len];omega)
     obtain ⟨bk,ok,rfl,hbk⟩:=HRK.out.form (by rw [ns_len];omega)
     have hsx:wr.cell? ⟨b,o+k*3+1,none⟩=some (.int .i64 l[k].a)∧wr.cell? ⟨b,o+k*3+2,none⟩=some (.int .i64 l[k].e):=(Rd_sx (((HR.out.below HB.out).more HBB.out).below HB2.out) hkl).2
     obtain ⟨hca,hce⟩:=hsx
     have hck:=Rd_ns (HRK.out.below HB2.out) hks
     have HKC:=Lib.hid (fun (i:Nat) (h:i < (kindsF l).length)=>Rd_ns (HRK.out.below HB2.out) h)
     have HMK:=Lib.hid (show M[k]=inF (kindsF l) k by simp only [HM.out];exact marks_get _)
     have HOP:=Lib.hid (op_next hkm)
     have HOFF:=Lib.hid (fun h=>out_off hkm h)
     have HNEW:=Lib.hid (fun h h2=>out_new hkm h h2)
     have HON:=Lib.hid (fun h h2=>out_on hkm h h2)
     have HAT:=Lib.hid (at_get hkl)
     have HEN:=Lib.hid (end_get hkl)
     have HOL:=Lib.hid (out_len M k)
     have HKR:=Lib.hid (show (kindsF l)[k]=kindF (txt l[k]) from kinds_get hkl)
     have hkr:=kind_range (txt l[k])
     rw [←kinds_get hkl] at hkr
     obtain ⟨kv,hkv⟩:∃kv,kv=(kindsF l)[k]:=⟨_,rfl⟩
     rw [←hkv] at hck hkr
     have HKV:=Lib.hid (show ∀h:k < (kindsF l).length,kv=(kindsF l)[k]'h from fun _=>hkv)
     generalize l[k].a=sa at hca HAT
     generalize l[k].e=se at hce HEN
     obtain ⟨mk,hmk⟩:∃mk,mk=M[k]:=⟨_,rfl⟩
     rw [←hmk] at HMK HOP HOFF HNEW HON
     have HKS:=Lib.hid hks
     clear hkl hkm hks hkv hmk HKR
     by_cases c1:1≤kv
     ·have d1:decide (1≤kv)=true:=decide_eq_true c1
      by_cases c2:kv≤3
      ·have d2:decide (kv≤3)=true:=decide_eq_true c2
       have d3:decide (3 < kv)=false:=decide_eq_false (by omega)
       have hm:mk=true:=by rw [HMK.out,in_low HKS.out (by rw [←HKV.out HKS.out];exact c2),←HKV.out HKS.out];exact d1
       clear c1 c2 hkr HKC
       obtain rfl:=hm
       obtain ⟨z,hz⟩:∃z,z=opF M k:=⟨_,rfl⟩
       rw [←hz]
       cases z with
       | false =>
        have HNE:=Lib.hid (HNEW.out rfl hz.symm)
        have hN:(outF M k).length≤n:=by have:=HOL.out;omega
        obtain ⟨N,hNl⟩:∃N,N=(outF M k).length:=⟨_,rfl⟩
        rw [←hNl] at HO hN
        have HNL:=Lib.hid hNl
        clear hz hNl HMK HOFF HNEW HON
        have HNE2:=Lib.hid (show u5.ownBlock≠some b from fun e=>by have:=(HO.out.lt b e).1;have:=HBB.out;omega)
        have hbs:b < wr.heap.size:=by have:=HBB.out;omega
        go_wp2_with fail
        go_region_held3 (fun w'=>w'.cell? ⟨b,o+k*3+1,none⟩=some (.int .i64 sa)∧w'.cell? ⟨b,o+k*3+2,none⟩=some (.int .i64 se))
         (first
          | go_keep
          | (
           go_split_ands
           refine ⟨?_,?_⟩
           ·(rw [hgr6.cell_far _ (by simp;omega) (Ne.symm HNE2.out)];assumption)
           ·(rw [hgr6.cell_far _ (by simp;omega) (Ne.symm HNE2.out)];assumption)))
         ((refine step_append_rd (by rfl) _ _ _ (by rfl) B1 36 i2 _ 5 48 Tryz.underlying24 hj hy0 hy1 hy2 rfl (by decide) u5 N (wds ((outF M k).map (w0 l))) (by rfl) ((HO.out.alloc _).drew) _ (some ⟨wr.heap.size,0,none⟩) 1 1 [.string ⟨#[]⟩,.int .i64 k,.int .i64 (IntKind.i64.wrap ((k:Int)+1)),.int .i64 sa,.int .i64 se] (by rfl) (by rfl) (rd_new _ _ [.string ⟨#[]⟩,.int .i64 k,.int .i64 (IntKind.i64.wrap ((k:Int)+1)),.int .i64 sa,.int .i64 se] _ (by simp)) (by simp [Value.oneCell']) (by unfold maxLen;omega) (by omega) (by simp;omega) ?_;intro v6 w6 hown6 hgr6 hat6))
        have HO6:=Lib.hid (show w6.ownsRow B1 36 5 v6 (outF M (k+1)).length (wds ((outF M (k+1)).map (w0 l))) by
         rw [HNE.out,List.map_append,wds_append,List.length_append,←HNL.out]
         have e:wds ([(k,k+1)].map (w0 l))=[.string ⟨#[]⟩,.int .i64 k,.int .i64 (IntKind.i64.wrap ((k:Int)+1)),.int .i64 sa,.int .i64 se]:=by
          rw [←HAT.out,←HEN.out,show IntKind.i64.wrap ((k:Int)+1)=(k:Int)+1 from IntWalk.i64_in _ (by omega)];rfl
         rw [e];exact hown6)
        have HB6:=Lib.hid ((HB2.out.alloc hbw _).drew.grown hgr6 (by simp;omega) (fun g hg=>(HO.out.lt g hg).1))
        clear hown6 hgr6 hat6 HO HB2 HNE
        go_wp2_with fail
        go_roundw
        case rel=>exact ⟨k+1,by omega,by go_num,by rw [HOP.out],HO6,HB6⟩
        case measure=>simp [intOf];omega
       | true =>
        obtain ⟨cs,s,he1,he2⟩:=HON.out rfl hz.symm
        have hN:(outF M k).length≤n:=by have:=HOL.out;omega
        rw [he1,List.length_append,List.map_append] at HO
        rw [he1,List.length_append] at hN
        obtain ⟨N,hNl⟩:∃N,N=cs.length:=⟨_,rfl⟩
        rw [←hNl] at HO hN
        rw [show ([(s,k)]:List (Nat × Nat)).length=1 from rfl] at HO hN
        have HNL:=Lib.hid hNl
        have HE2:=Lib.hid he2
        have hDl:(cs.map (w0 l)++[(s,k)].map (w0 l)).length=N+1:=by rw [List.length_append,List.length_map,hNl];rfl
        obtain ⟨g,c5,rfl,_,hg⟩:=HO.out.form (by omega)
        have hgN:=(HO.out.lt g rfl)
        have cc:=five HO.out (i:=N) (by omega) hDl (by omega)
        have hel:(cs.map (w0 l)++[(s,k)].map (w0 l))[N]'(by omega)=w0 l (s,k):=by
         rw [List.getElem_append_right (by rw [List.length_map,hNl];exact Nat.le_refl _)];simp [hNl]
        rw [hel] at cc
        have a0:=cc 0 (by omega);have a1:=cc 1 (by omega);have a2:=cc 2 (by omega);have a3:=cc 3 (by omega);have a4:=cc 4 (by omega)
        simp only [rowW,w0,Nat.add_zero,List.getElem?_cons_zero,List.getElem?_cons_succ] at a0 a1 a2 a3 a4
        obtain ⟨sas,hsas⟩:∃x,x=atF l s:=⟨_,rfl⟩
        rw [←hsas] at a3
        have HSA:=Lib.hid hsas
        generalize endF l (k - 1)=ae at a4
        have HEL:=Lib.hid (show ∀h:N < (cs.map (w0 l)++[(s,k)].map (w0 l)).length,(cs.map (w0 l)++[(s,k)].map (w0 l))[N]'h=w0 l (s,k) from fun _=>hel)
        clear hz hNl HMK HOFF HNEW HON he1 he2 cc hel hsas
        go_wp2_with fail
        obtain ⟨W2,hW2⟩:∃W2,W2=wr.alloc (.cells #[.string ⟨#[]⟩,.int .i64 s,.int .i64 k,.int .i64 sas,.int .i64 ae] 36):=⟨_,rfl⟩
        have hblk:Blk W2 wr.heap.size 36 [.string ⟨#[]⟩,.int .i64 s,.int .i64 k,.int .i64 sas,.int .i64 ae]:=by rw [hW2];exact Blk.new wr _ _
        have hce2:W2.cell? ⟨b,o+k*3+2,none⟩=some (.int .i64 se):=by rw [hW2,World.cell?_alloc_lt _ _ _ (by have:=HBB.out;show b < _;omega)];exact hce
        have hbb:Below wr.heap.size wr W2:=by rw [hW2];exact (Below.refl _ _).alloc (Nat.le_refl _) _
        have HBL:=Lib.hid hblk
        have HBW2:=Lib.hid hbb
        obtain ⟨gw,hgw⟩:∃gw,gw=wr.heap.size:=⟨_,rfl⟩
        have HGW:=Lib.hid hgw
        have hgg:g < gw:=by rw [hgw];exact hgN.2
        have hbg:b < gw:=by rw [hgw];have:=HBB.out;omega
        rw [←hW2]
        rw [←hgw] at hblk HBL HBW2 hbw ⊢
        have b0:=hblk.cell 0;have b1:=hblk.cell 1;have b2:=hblk.cell 2;have b3:=hblk.cell 3;have b4:=hblk.cell 4
        have f2:=hblk.frozen 2;have f4:=hblk.frozen 4
        simp only [List.getElem?_cons_succ,List.getElem?_cons_zero] at b0 b1 b2 b3 b4
        have hne:b≠gw:=by omega
        have HG1:=Lib.hid hgN.1
        clear hblk hW2 hbb hgw hca hce a0 a1 a2 a3 a4 hck hbk hgN
        go_region
        obtain ⟨W3,hW3⟩:∃W3,W3=((W2.setCell ⟨gw,2,none⟩ (.int .i64 ((k:Int)+1))).setCell ⟨gw,4,none⟩ (.int .i64 se)).drew:=⟨_,rfl⟩
        rw [←hW3]
        have hblk3:Blk W3 gw 36 [.string ⟨#[]⟩,.int .i64 s,.int .i64 ((k:Int)+1),.int .i64 sas,.int .i64 se]:=by rw [hW3];exact (HBL.out.set_ 2 (.int .i64 ((k:Int)+1))).set_ 4 (.int .i64 se)
        have hb3:Below gw wr W3:=by rw [hW3];exact ((HBW2.out.setCell (p:=⟨gw,2,none⟩) (Nat.le_refl _) _).setCell (p:=⟨gw,4,none⟩) (Nat.le_refl _) _).drew
        have hown3:=own_below HO.out (show Below wr.heap.size wr W3 by rw [←HGW.out];exact hb3)
        have fz:∀j,W3.frozen? ⟨g,j,none⟩=false:=own_frozen hown3
        have HBX:=Lib.hid (HB2.out.trans (hb3.mono hbw))
        have HO3:=Lib.hid hown3
        clear b0 b1 b2 b3 b4 f2 f4 hW3 hce2 hown3 hb3 HO HB2 HBL HBW2
        have b0:=hblk3.cell 0;have b1:=hblk3.cell 1;have b2:=hblk3.cell 2;have b3:=hblk3.cell 3;have b4:=hblk3.cell 4
        simp only [List.getElem?_cons_succ,List.getElem?_cons_zero] at b0 b1 b2 b3 b4
        have hne2:g≠gw:=by omega
        have cc:=five HO3.out (i:=N) (by omega) hDl (by omega)
        rw [HEL.out] at cc
        have a0:=cc 0 (by omega);have a1:=cc 1 (by omega);have a2:=cc 2 (by omega);have a3:=cc 3 (by omega);have a4:=cc 4 (by omega)
        simp only [rowW,w0,Nat.add_zero,List.getElem?_cons_zero,List.getElem?_cons_succ] at a0 a1 a2 a3 a4
        clear hblk3 cc
        go_wp2_with fail
        have hse:(cs.map (w0 l)++[(s,k)].map (w0 l)).set N ⟨[],s,k+1,sas,se⟩=(outF M (k+1)).map (w0 l):=by
         rw [HE2.out,List.map_append,show [(s,k)].map (w0 l)=[w0 l (s,k)] from rfl,set_last _ _ _ N (by rw [List.length_map];exact HNL.out),HSA.out,←HEN.out]
         rfl
        obtain ⟨k1,q1⟩:=own_word HO3.out N ⟨[],s,k+1,sas,se⟩ (by omega) hDl
        rw [hse] at k1
        have HB6:=Lib.hid (HBX.out.grown q1 (by have:=(HO3.out.lt g rfl).2;have:=HG1.out;omega) (fun y hy=>by injection hy with hy;rw [←hy];exact HG1.out))
        have HO6:=Lib.hid (show (W3.setCells g (N*5) (rowW ⟨[],s,k+1,sas,se⟩)).ownsRow B1 36 5 (.slice (some ⟨g,0,none⟩) (N+1) c5) (outF M (k+1)).length (wds ((outF M (k+1)).map (w0 l))) by rw [HE2.out,List.length_append,←HNL.out] at *;exact k1)
        refine ⟨⟨k+1,by omega,by go_num,by rw [HOP.out],HO6,HB6⟩,by simp [intOf];omega⟩
      ·have d2:decide (kv≤3)=false:=decide_eq_false c2
       have d3:decide (3 < kv)=true:=decide_eq_true (by omega)
       have hr3:kv≤5:=hkr.2
       have hl3:3 < kv:=by omega
       by_cases k0:0 < k
       ·have d4:decide ((0:Int) < (k:Int))=true:=decide_eq_true (by omega)
        by_cases k1:k+1 < n
        ·have d5:decide ((k:Int) < (n:Int) - 1)=true:=decide_eq_true (by omega)
         have hkp:k - 1 < (kindsF l).length:=by have:=HKS.out;omega
         have hkq:k+1 < (kindsF l).length:=by rw [kinds_len,HN.out];exact k1
         have hcp:=HKC.out (k - 1) hkp
         have hcq:=HKC.out (k+1) hkq
         have HMI:=Lib.hid (show mk=((kindsF l)[k - 1] == kv - 3 && (kindsF l)[k+1] == kv - 3) by rw [HMK.out,in_mid HKS.out (by rw [←HKV.out HKS.out];omega) k0 hkq,←HKV.out HKS.out])
         generalize (kindsF l)[k - 1]=xp at hcp HMI
         generalize (kindsF l)[k+1]=xq at hcq HMI
         have hkp2:((k:Int) - 1).toNat=k - 1:=by omega
         clear hkp hkq HKC hkr c1 c2
         by_cases e1:xp=kv - 3
         ·have f1:(xp == kv - 3)=true:=by simpa using e1
          by_cases e2:xq=kv - 3
          ·have f2:(xq == kv - 3)=true:=by simpa using e2
           have hm:mk=true:=by rw [HMI.out,f1,f2];rfl
           clear e1 e2 HMI
           obtain rfl:=hm
           obtain ⟨z,hz⟩:∃z,z=opF M k:=⟨_,rfl⟩
           rw [←hz]
           cases z with
           | false =>
            have HNE:=Lib.hid (HNEW.out rfl hz.symm)
            have hN:(outF M k).length≤n:=by have:=HOL.out;omega
            obtain ⟨N,hNl⟩:∃N,N=(outF M k).length:=⟨_,rfl⟩
            rw [←hNl] at HO hN
            have HNL:=Lib.hid hNl
            clear hz hNl HMK HOFF HNEW HON
            have HNE2:=Lib.hid (show u5.ownBlock≠some b from fun e=>by have:=(HO.out.lt b e).1;have:=HBB.out;omega)
            have hbs:b < wr.heap.size:=by have:=HBB.out;omega
            go_wp2_with fail
            go_region_held3 (fun w'=>w'.cell? ⟨b,o+k*3+1,none⟩=some (.int .i64 sa)∧w'.cell? ⟨b,o+k*3+2,none⟩=some (.int .i64 se))
             (first
              | go_keep
              | (
               go_split_ands
               refine ⟨?_,?_⟩
               ·(rw [hgr6.cell_far _ (by simp;omega) (Ne.symm HNE2.out)];assumption)
               ·(rw [hgr6.cell_far _ (by simp;omega) (Ne.symm HNE2.out)];assumption)))
             ((refine step_append_rd (by rfl) _ _ _ (by rfl) B1 36 i2 _ 5 48 Tryz.underlying24 hj hy0 hy1 hy2 rfl (by decide) u5 N (wds ((outF M k).map (w0 l))) (by rfl) ((HO.out.alloc _).drew) _ (some ⟨wr.heap.size,0,none⟩) 1 1 [.string ⟨#[]⟩,.int .i64 k,.int .i64 (IntKind.i64.wrap ((k:Int)+1)),.int .i64 sa,.int .i64 se] (by rfl) (by rfl) (rd_new _ _ [.string ⟨#[]⟩,.int .i64 k,.int .i64 (IntKind.i64.wrap ((k:Int)+1)),.int .i64 sa,.int .i64 se] _ (by simp)) (by simp [Value.oneCell']) (by unfold maxLen;omega) (by omega) (by simp;omega) ?_;intro v6 w6 hown6 hgr6 hat6))
            have HO6:=Lib.hid (show w6.ownsRow B1 36 5 v6 (outF M (k+1)).length (wds ((outF M (k+1)).map (w0 l))) by
             rw [HNE.out,List.map_append,wds_append,List.length_append,←HNL.out]
             have e:wds ([(k,k+1)].map (w0 l))=[.string ⟨#[]⟩,.int .i64 k,.int .i64 (IntKind.i64.wrap ((k:Int)+1)),.int .i64 sa,.int .i64 se]:=by
              rw [←HAT.out,←HEN.out,show IntKind.i64.wrap ((k:Int)+1)=(k:Int)+1 from IntWalk.i64_in _ (by omega)];rfl
             rw [e];exact hown6)
            have HB6:=Lib.hid ((HB2.out.alloc hbw _).drew.grown hgr6 (by simp;omega) (fun g hg=>(HO.out.lt g hg).1))
            clear hown6 hgr6 hat6 HO HB2 HNE
            go_wp2_with fail
            go_roundw
            case rel=>exact ⟨k+1,by omega,by go_num,by rw [HOP.out],HO6,HB6⟩
            case measure=>simp [intOf];omega
           | true =>
            obtain ⟨cs,s,he1,he2⟩:=HON.out rfl hz.symm
            have hN:(outF M k).length≤n:=by have:=HOL.out;omega
            rw [he1,List.length_append,List.map_append] at HO
            rw [he1,List.length_append] at hN
            obtain ⟨N,hNl⟩:∃N,N=cs.length:=⟨_,rfl⟩
            rw [←hNl] at HO hN
            rw [show ([(s,k)]:List (Nat × Nat)).length=1 from rfl] at HO hN
            have HNL:=Lib.hid hNl
            have HE2:=Lib.hid he2
            have hDl:(cs.map (w0 l)++[(s,k)].map (w0 l)).length=N+1:=by rw [List.length_append,List.length_map,hNl];rfl
            obtain ⟨g,c5,rfl,_,hg⟩:=HO.out.form (by omega)
            have hgN:=(HO.out.lt g rfl)
            have cc:=five HO.out (i:=N) (by omega) hDl (by omega)
            have hel:(cs.map (w0 l)++[(s,k)].map (w0 l))[N]'(by omega)=w0 l (s,k):=by
             rw [List.getElem_append_right (by rw [List.length_map,hNl];exact Nat.le_refl _)];simp [hNl]
            rw [hel] at cc
            have a0:=cc 0 (by omega);have a1:=cc 1 (by omega);have a2:=cc 2 (by omega);have a3:=cc 3 (by omega);have a4:=cc 4 (by omega)
            simp only [rowW,w0,Nat.add_zero,List.getElem?_cons_zero,List.getElem?_cons_succ] at a0 a1 a2 a3 a4
            obtain ⟨sas,hsas⟩:∃x,x=atF l s:=⟨_,rfl⟩
            rw [←hsas] at a3
            have HSA:=Lib.hid hsas
            generalize endF l (k - 1)=ae at a4
            have HEL:=Lib.hid (show ∀h:N < (cs.map (w0 l)++[(s,k)].map (w0 l)).length,(cs.map (w0 l)++[(s,k)].map (w0 l))[N]'h=w0 l (s,k) from fun _=>hel)
            clear hz hNl HMK HOFF HNEW HON he1 he2 cc hel hsas
            go_wp2_with fail
            obtain ⟨W2,hW2⟩:∃W2,W2=wr.alloc (.cells #[.string ⟨#[]⟩,.int .i64 s,.int .i64 k,.int .i64 sas,.int .i64 ae] 36):=⟨_,rfl⟩
            have hblk:Blk W2 wr.heap.size 36 [.string ⟨#[]⟩,.int .i64 s,.int .i64 k,.int .i64 sas,.int .i64 ae]:=by rw [hW2];exact Blk.new wr _ _
            have hce2:W2.cell? ⟨b,o+k*3+2,none⟩=some (.int .i64 se):=by rw [hW2,World.cell?_alloc_lt _ _ _ (by have:=HBB.out;show b < _;omega)];exact hce
            have hbb:Below wr.heap.size wr W2:=by rw [hW2];exact (Below.refl _ _).alloc (Nat.le_refl _) _
            have HBL:=Lib.hid hblk
            have HBW2:=Lib.hid hbb
            obtain ⟨gw,hgw⟩:∃gw,gw=wr.heap.size:=⟨_,rfl⟩
            have HGW:=Lib.hid hgw
            have hgg:g < gw:=by rw [hgw];exact hgN.2
            have hbg:b < gw:=by rw [hgw];have:=HBB.out;omega
            rw [←hW2]
            rw [←hgw] at hblk HBL HBW2 hbw ⊢
            have b0:=hblk.cell 0;have b1:=hblk.cell 1;have b2:=hblk.cell 2;have b3:=hblk.cell 3;have b4:=hblk.cell 4
            have f2:=hblk.frozen 2;have f4:=hblk.frozen 4
            simp only [List.getElem?_cons_succ,List.getElem?_cons_zero] at b0 b1 b2 b3 b4
            have hne:b≠gw:=by omega
            have HG1:=Lib.hid hgN.1
            clear hblk hW2 hbb hgw hca hce a0 a1 a2 a3 a4 hck hbk hgN
            go_region
            obtain ⟨W3,hW3⟩:∃W3,W3=((W2.setCell ⟨gw,2,none⟩ (.int .i64 ((k:Int)+1))).setCell ⟨gw,4,none⟩ (.int .i64 se)).drew:=⟨_,rfl⟩
            rw [←hW3]
            have hblk3:Blk W3 gw 36 [.string ⟨#[]⟩,.int .i64 s,.int .i64 ((k:Int)+1),.int .i64 sas,.int .i64 se]:=by rw [hW3];exact (HBL.out.set_ 2 (.int .i64 ((k:Int)+1))).set_ 4 (.int .i64 se)
            have hb3:Below gw wr W3:=by rw [hW3];exact ((HBW2.out.setCell (p:=⟨gw,2,none⟩) (Nat.le_refl _) _).setCell (p:=⟨gw,4,none⟩) (Nat.le_refl _) _).drew
            have hown3:=own_below HO.out (show Below wr.heap.size wr W3 by rw [←HGW.out];exact hb3)
            have fz:∀j,W3.frozen? ⟨g,j,none⟩=false:=own_frozen hown3
            have HBX:=Lib.hid (HB2.out.trans (hb3.mono hbw))
            have HO3:=Lib.hid hown3
            clear b0 b1 b2 b3 b4 f2 f4 hW3 hce2 hown3 hb3 HO HB2 HBL HBW2
            have b0:=hblk3.cell 0;have b1:=hblk3.cell 1;have b2:=hblk3.cell 2;have b3:=hblk3.cell 3;have b4:=hblk3.cell 4
            simp only [List.getElem?_cons_succ,List.getElem?_cons_zero] at b0 b1 b2 b3 b4
            have hne2:g≠gw:=by omega
            have cc:=five HO3.out (i:=N) (by omega) hDl (by omega)
            rw [HEL.out] at cc
            have a0:=cc 0 (by omega);have a1:=cc 1 (by omega);have a2:=cc 2 (by omega);have a3:=cc 3 (by omega);have a4:=cc 4 (by omega)
            simp only [rowW,w0,Nat.add_zero,List.getElem?_cons_zero,List.getElem?_cons_succ] at a0 a1 a2 a3 a4
            clear hblk3 cc
            go_wp2_with fail
            have hse:(cs.map (w0 l)++[(s,k)].map (w0 l)).set N ⟨[],s,k+1,sas,se⟩=(outF M (k+1)).map (w0 l):=by
             rw [HE2.out,List.map_append,show [(s,k)].map (w0 l)=[w0 l (s,k)] from rfl,set_last _ _ _ N (by rw [List.length_map];exact HNL.out),HSA.out,←HEN.out]
             rfl
            obtain ⟨k1,q1⟩:=own_word HO3.out N ⟨[],s,k+1,sas,se⟩ (by omega) hDl
            rw [hse] at k1
            have HB6:=Lib.hid (HBX.out.grown q1 (by have:=(HO3.out.lt g rfl).2;have:=HG1.out;omega) (fun y hy=>by injection hy with hy;rw [←hy];exact HG1.out))
            have HO6:=Lib.hid (show (W3.setCells g (N*5) (rowW ⟨[],s,k+1,sas,se⟩)).ownsRow B1 36 5 (.slice (some ⟨g,0,none⟩) (N+1) c5) (outF M (k+1)).length (wds ((outF M (k+1)).map (w0 l))) by rw [HE2.out,List.length_append,←HNL.out] at *;exact k1)
            refine ⟨⟨k+1,by omega,by go_num,by rw [HOP.out],HO6,HB6⟩,by simp [intOf];omega⟩
          ·have f2:(xq == kv - 3)=false:=by simpa using e2
           have hm:mk=false:=by rw [HMI.out,f2,Bool.and_false]
           clear e1 e2 HMI
           obtain rfl:=hm
           have HO3:=Lib.hid (show wr.ownsRow B1 36 5 u5 (outF M (k+1)).length (wds ((outF M (k+1)).map (w0 l))) by rw [HOFF.out rfl];exact HO.out)
           clear HO HMK HOFF HNEW HON
           generalize opF M k=z
           go_wp2_with fail
           go_roundw
           case rel=>exact ⟨k+1,by omega,by go_num,by rw [HOP.out],HO3,HB2⟩
           case measure=>simp [intOf];omega
         ·have f1:(xp == kv - 3)=false:=by simpa using e1
          have hm:mk=false:=by rw [HMI.out,f1,Bool.false_and]
          clear e1 HMI
          obtain rfl:=hm
          have HO3:=Lib.hid (show wr.ownsRow B1 36 5 u5 (outF M (k+1)).length (wds ((outF M (k+1)).map (w0 l))) by rw [HOFF.out rfl];exact HO.out)
          clear HO HMK HOFF HNEW HON
          generalize opF M k=z
          go_wp2_with fail
          go_roundw
          case rel=>exact ⟨k+1,by omega,by go_num,by rw [HOP.out],HO3,HB2⟩
          case measure=>simp [intOf];omega
        ·have d5:decide ((k:Int) < (n:Int) - 1)=false:=decide_eq_false (by omega)
         have hm:mk=false:=by rw [HMK.out,in_edge HKS.out (by rw [←HKV.out HKS.out];omega) (.inr (by rw [kinds_len,HN.out];exact k1))]
         clear c1 c2 hkr HKC
         obtain rfl:=hm
         have HO3:=Lib.hid (show wr.ownsRow B1 36 5 u5 (outF M (k+1)).length (wds ((outF M (k+1)).map (w0 l))) by rw [HOFF.out rfl];exact HO.out)
         clear HO HMK HOFF HNEW HON
         generalize opF M k=z
         go_wp2_with fail
         go_roundw
         case rel=>exact ⟨k+1,by omega,by go_num,by rw [HOP.out],HO3,HB2⟩
         case measure=>simp [intOf];omega
       ·have d4:decide ((0:Int) < (k:Int))=false:=decide_eq_false (by omega)
        have hm:mk=false:=by rw [HMK.out,in_edge HKS.out (by rw [←HKV.out HKS.out];omega) (.inl (by omega))]
        clear c1 c2 hkr HKC
        obtain rfl:=hm
        have HO3:=Lib.hid (show wr.ownsRow B1 36 5 u5 (outF M (k+1)).length (wds ((outF M (k+1)).map (w0 l))) by rw [HOFF.out rfl];exact HO.out)
        clear HO HMK HOFF HNEW HON
        generalize opF M k=z
        go_wp2_with fail
        go_roundw
        case rel=>exact ⟨k+1,by omega,by go_num,by rw [HOP.out],HO3,HB2⟩
        case measure=>simp [intOf];omega
     ·have d1:decide (1≤kv)=false:=decide_eq_false c1
      have d3:decide (3 < kv)=false:=decide_eq_false (by omega)
      have hm:mk=false:=by rw [HMK.out,in_low HKS.out (by rw [←HKV.out HKS.out];omega),←HKV.out HKS.out];exact d1
      clear c1 hkr HKC
      obtain rfl:=hm
      have HO3:=Lib.hid (show wr.ownsRow B1 36 5 u5 (outF M (k+1)).length (wds ((outF M (k+1)).map (w0 l))) by rw [HOFF.out rfl];exact HO.out)
      clear HO HMK HOFF HNEW HON
      generalize opF M k=z
      go_wp2_with fail
      go_roundw
      case rel=>exact ⟨k+1,by omega,by go_num,by rw [HOP.out],HO3,HB2⟩
      case measure=>simp [intOf];omega
    ·rw [show k=n by omega] at HO ⊢
     have HP:=Lib.hid (show outF M n=runsF M by rw [←HML.out];exact st_end M)
     rw [HP.out] at HO
     obtain ⟨P,hP⟩:∃P,P=runsF M:=⟨_,rfl⟩
     have HPE:=Lib.hid hP
     have HPW:=Lib.hid (show ∀x∈P,x.1 < x.2∧x.2≤n from fun x hx=>by rw [hP] at hx;have:=runs_within hx;rw [HML.out] at this;exact this)
     have hpl:P.length≤n:=by rw [hP,←HP.out];exact out_len M n
     rw [←hP] at HO
     obtain ⟨p,hp⟩:∃p,p=P.length:=⟨_,rfl⟩
     rw [←hp] at HO hpl
     have HPL:=Lib.hid hp
     have HB3:=HB2
     clear hP hp hk hlt HB2 HP
     by_cases hp0:p=0
     ·have hP0:P=[]:=List.eq_nil_of_length_eq_zero (by rw [←HPL.out];exact hp0)
      have HO6:=Lib.hid (show wr.ownsRow B0 36 5 u5 (joinF l).length (wds (joinF l)) by
       have h:=HO.out
       have e1:joinF l=[]:=by rw [joinF,←HM.out,←HPE.out,hP0];rfl
       rw [hP0,hp0] at h
       rw [e1]
       exact own_mono h HBB.out)
      have HB6:=Lib.hid (HB.out.trans (HB3.out.mono HBB.out))
      obtain ⟨A5,c5,rfl,_⟩:=own_form HO.out
      clear HO hP0
      subst hp0
      obtain ⟨W5,hW5⟩:∃W5,W5=wr:=⟨_,rfl⟩
      have HWE:=Lib.hid hW5
      rw [←hW5] at HO6 HB6
      clear hW5
      go_wp2_with fail
      go_loopw [11] (fun i wx=>i=.int .i64 ((0:Nat):Int)∧Hid (W5=wx)) (fun _ _=>0)
      case atStart=>exact ⟨rfl,HWE⟩
      case round =>
       obtain ⟨rfl,HW⟩:=hrel
       have HW5:=HW.out
       subst HW5
       go_wp2_with fail
       go_ret
       exact ⟨_,rfl,HO6.out,HB6.out⟩
     ·obtain ⟨g,c5,rfl,hg0,hg1⟩:=HO.out.form (by omega)
      have HG0:=Lib.hid hg0
      have HM0:=Lib.hid (show wr.ownsRow B1 36 5 (.slice (some ⟨g,0,none⟩) p c5) p (wds ((P.take 0).map (wdF l)++(P.drop 0).map (w0 l))) by simpa using HO.out)
      clear HO hg0 hg1
      go_wp2_with fail
      go_loopw [11] (fun i wx=>∃q:Nat,q≤p∧i=.int .i64 q∧Hid (wx.ownsRow B1 36 5 (.slice (some ⟨g,0,none⟩) p c5) p (wds ((P.take q).map (wdF l)++(P.drop q).map (w0 l))))∧Hid (Below B1 W1 wx)) (fun i _=>p - (intOf i).toNat)
      case atStart=>exact ⟨0,Nat.zero_le _,rfl,HM0,HB3⟩
      case round =>
       clear HM0 HB3
       obtain ⟨q,hq,rfl,HO,HB2⟩:=hrel
       by_cases hqp:q < p
       ·have hqP:q < P.length:=by rw [←HPL.out];exact hqp
        have hDl:((P.take q).map (wdF l)++(P.drop q).map (w0 l)).length=p:=by simp;have:=HPL.out;omega
        have hel:∀h:q < ((P.take q).map (wdF l)++(P.drop q).map (w0 l)).length,((P.take q).map (wdF l)++(P.drop q).map (w0 l))[q]'h=w0 l P[q]:=fun h=>mix_get _ _ hqP h
        obtain ⟨hse,hen⟩:=HPW.out P[q] (List.getElem_mem hqP)
        have hpt:=mix_set (wdF l) (w0 l) hqP
        obtain ⟨D,hD⟩:∃D,D=(P.take q).map (wdF l)++(P.drop q).map (w0 l):=⟨_,rfl⟩
        rw [←hD] at hDl hel HO hpt
        have HDT:=Lib.hid hpt
        obtain ⟨x,hx⟩:∃x,x=P[q]:=⟨_,rfl⟩
        rw [←hx] at hse hen HDT
        simp only [←hx] at hel
        obtain ⟨s,e⟩:=x
        simp only at hse hen
        have HEL:=Lib.hid hel
        have cc:=five HO.out hqp hDl (by omega)
        rw [hel] at cc
        have a1:=cc 1 (by omega);have a2:=cc 2 (by omega)
        simp only [rowW,w0,List.getElem?_cons_zero,List.getElem?_cons_succ] at a1 a2
        obtain ⟨W5,hW5⟩:∃W5,W5=wr:=⟨_,rfl⟩
        subst hW5
        obtain ⟨Bt,hBt⟩:∃Bt,Bt=W5.heap.size:=⟨_,rfl⟩
        have HBt:=Lib.hid hBt
        have hgB:g < Bt:=by rw [hBt];exact (HO.out.lt g rfl).2
        have hBB:B1≤Bt:=by rw [hBt];exact Nat.le_trans (Nat.le_of_eq HB1.out) HB2.out.size
        have HDL:=Lib.hid hDl
        have HA1:=Lib.hid a1
        have HA2:=Lib.hid a2
        clear hD hpt hx hqP hel cc hDl hBt
        go_wp2_with fail
        go_loopw [12,13] (fun vt vk wx=>∃k cl:Nat,s≤k∧k≤e∧vk=.int .i64 k∧Hid (cl=(catF l s k).length)∧Hid (wx.ownsRow Bt 5 1 vt cl (bys (catF l s k)))∧Hid (Below Bt W5 wx)) (fun _ vk _=>e - (intOf vk).toNat)
        case atStart=>exact ⟨s,0,Nat.le_refl _,Nat.le_of_lt hse,rfl,Lib.hid (by rw [cat_none];rfl),Lib.hid (by rw [cat_none];exact World.ownsRow_nil _ _ _ _),Lib.hid (by rw [HBt.out];exact Below.refl _ _)⟩
        case round =>
         obtain ⟨k,cl,hsk,hke,rfl,HCLN,HOT,HBT⟩:=hrel
         have hca1:=(HBT.out.cell (p:=⟨g,q*5+1,none⟩) hgB).trans HA1.out
         have hca2:=(HBT.out.cell (p:=⟨g,q*5+2,none⟩) hgB).trans HA2.out
         have hbw5:Bt≤wr.heap.size:=Nat.le_trans (Nat.le_of_eq HBt.out) HBT.out.size
         have hcl:cl≤4294967296:=by rw [HCLN.out];exact Nat.le_trans (cat_len l s k) HT.out
         by_cases hlt:k < e
         ·have hkl:k < l.length:=by rw [HN.out];omega
          obtain ⟨b,o,rfl,hbl⟩:=HR.out.form (by rw [sxs_len];omega)
          have HCX:=Lib.hid (show ∀u,Below Bt W5 u→u.cell? ⟨b,o+k*3,none⟩=some (.string l[k].t) from fun u hu=>(Rd_sx (((((HR.out.below HB.out).more HBB.out).below HB2.out).more hBB).below hu) hkl).1)
          have hcx:=HCX.out wr HBT.out
          have HCN:=Lib.hid (cat_next hsk hkl)
          have HCT:=Lib.hid (show (catF l s (k+1)).length≤4294967296 from Nat.le_trans (cat_len l s (k+1)) HT.out)
          have htx:txt l[k]=l[k].t.data.toList:=rfl
          rw [htx] at HCN
          generalize l[k].t=X at HCX hcx HCN
          obtain ⟨t,htt⟩:∃t,X.data.toList=t:=⟨_,rfl⟩
          have hX:X=⟨t.toArray⟩:=by cases X;subst htt;rfl
          subst hX
          rw [show (⟨t.toArray⟩:ByteArray).data.toList=t from rfl] at HCN
          obtain ⟨tl,htl⟩:∃tl,t.length=tl:=⟨_,rfl⟩
          have hsz:(⟨t.toArray⟩:ByteArray).size=tl:=by show t.toArray.size=tl;rw [List.size_toArray];exact htl
          have htl2:cl+tl≤4294967296:=by
           have h1:=HCT.out
           rw [HCN.out,List.length_append,←HCLN.out,htl] at h1
           exact h1
          have HTLN:=Lib.hid htl
          have hkn:k < n:=by omega
          clear htl htx htt hkl
          go_wp2_with fail
          go_loopw [12,14] (fun vt vj wj=>∃j:Nat,j≤tl∧vj=.int .i64 j∧Hid (wj.ownsRow Bt 5 1 vt (cl+j) (bys (catF l s k++t.take j)))∧Hid (Below Bt W5 wj)) (fun _ vj _=>tl - (intOf vj).toNat)
          case atStart=>exact ⟨0,Nat.zero_le _,rfl,Lib.hid (by rw [List.take_zero,List.append_nil];exact HOT.out),HBT⟩
          case round =>
           clear hcx
           obtain ⟨j,hj,rfl,HO5,HB5⟩:=hrel
           have hcx:=HCX.out _ HB5.out
           by_cases hlj:j < tl
           ·have hjt:j < t.length:=by rw [HTLN.out];exact hlj
            have hjs:j < (⟨t.toArray⟩:ByteArray).size:=by rw [hsz];exact hlj
            have HY:=Lib.hid (show (⟨t.toArray⟩:ByteArray)[j]=t[j] by show t.toArray[j]=t[j];simp)
            have HTK:=Lib.hid (show t.take (j+1)=t.take j++[t[j]] from List.take_succ_eq_append_getElem hjt)
            have hbj:Bt≤wr.heap.size:=Nat.le_trans (Nat.le_of_eq HBt.out) HB5.out.size
            clear hjt
            go_wp2_with (at_builtin;refine wpList_append_rd _ rfl (.tmp 159) (.tmp 167) _ rfl Bt 5 i3 _ 1 1 Tryz.underlying22 hu hx0 hx1 hx2 rfl (by decide) u12 (cl+j) (bys (catF l s k++t.take j)) rfl (HO5.out.alloc _) _ (some ⟨wr.heap.size,0,none⟩) 1 1 [.int .u8 ((⟨t.toArray⟩:ByteArray)[j]).toNat] rfl rfl (rd_new _ _ [.int .u8 ((⟨t.toArray⟩:ByteArray)[j]).toNat] _ rfl) (by simp [Value.oneCell']) (by unfold maxLen;omega) (by omega) (by simp;omega) ?_;intro v6 w6 hown6 hgr6 _)
            have HO6:=Lib.hid (show w6.ownsRow Bt 5 1 v6 (cl+(j+1)) (bys (catF l s k++t.take (j+1))) by
             rw [HTK.out,←List.append_assoc,bys_append,←HY.out];exact hown6)
            have HB6:=Lib.hid ((HB5.out.alloc hbj _).grown hgr6 (by simp;omega) (fun g hg=>(HO5.out.lt g hg).1))
            clear hown6 hgr6 HO5 HY HTK
            go_roundw
            case rel=>exact ⟨j+1,by omega,by go_num,HO6,HB6⟩
            case measure=>simp [intOf];omega
           ·have hjj:j=tl:=by omega
            have HO6:=Lib.hid (show wr.ownsRow Bt 5 1 u12 (catF l s (k+1)).length (bys (catF l s (k+1))) by
             have h:=HO5.out
             rw [hjj,show t.take tl=t from List.take_of_length_le (by rw [HTLN.out];exact Nat.le_refl _),←HCN.out] at h
             have e2:cl+tl=(catF l s (k+1)).length:=by rw [HCN.out,List.length_append,HTLN.out,←HCLN.out]
             rw [←e2];exact h)
            clear HO5 HOT
            go_wp2_with fail
            go_roundw
            case rel=>exact ⟨k+1,(catF l s (k+1)).length,by omega,by omega,by go_num,Lib.hid rfl,HO6,HB5⟩
            case measure=>simp [intOf];omega
         ·have hk2:k=e:=by omega
          subst hk2
          obtain ⟨At,ct,rfl,_,_,hrt⟩:=own_form HOT.out
          have HKY:=Lib.hid (rkey_any At (catF l s k) cl ct wr hrt HCLN.out.symm (by omega) (key_room (by rw [←HCLN.out];exact hcl)))
          obtain ⟨K,hK⟩:∃K:ByteArray,K=⟨(keyF (catF l s k)).toArray⟩:=⟨_,rfl⟩
          rw [←hK] at HKY
          have HKE:=Lib.hid hK
          clear HOT hK hrt
          go_wp2_with fail
          refine HKY.out.mono ?_
          rintro e2 w2 ⟨rfl,hbk⟩
          have hbx:=HBT.out.trans (hbk.mono hbw5)
          have own2:=own_below HO.out (by rw [←HBt.out];exact hbx)
          have fz:∀j,w2.frozen? ⟨g,j,none⟩=false:=own_frozen own2
          have c0:=five own2 hqp HDL.out (by have:=HDL.out;omega) 0 (by omega)
          rw [HEL.out] at c0
          simp only [rowW,w0,Nat.add_zero,List.getElem?_cons_zero] at c0
          have HBX:=Lib.hid hbx
          have HO2:=Lib.hid own2
          clear hbk hbx own2 HKY hca1 hca2 a1 a2 HBT
          go_wp2_with fail
          obtain ⟨k1,q1⟩:=HO2.out.stored (q*5) (.string K)
          have hqD:q < D.length:=by rw [HDL.out];exact hqp
          have hwk:=wds_key D q (wdF l (s,k)) hqD (by rw [HEL.out];rfl) (by rw [HEL.out];rfl) (by rw [HEL.out];rfl) (by rw [HEL.out];rfl)
          rw [HDT.out,show (⟨(wdF l (s,k)).k.toArray⟩:ByteArray)=K from HKE.out.symm] at hwk
          rw [hwk] at k1
          have HB6:=Lib.hid ((HB2.out.trans (HBX.out.mono hBB)).grown q1 (by have:=(HO2.out.lt g rfl).2;have:=HG0.out;omega) (fun y hy=>by injection hy with hy;rw [←hy];exact HG0.out))
          have HO6:=Lib.hid k1
          clear k1 q1 hwk
          go_roundw
          case rel=>exact ⟨q+1,by omega,by go_num,HO6,HB6⟩
          case measure=>simp [intOf];omega
       ·have hqq:q=p:=by omega
        have HO6:=Lib.hid (show wr.ownsRow B0 36 5 (.slice (some ⟨g,0,none⟩) p c5) (joinF l).length (wds (joinF l)) by
         have h:=HO.out
         rw [hqq,List.take_of_length_le (by rw [←HPL.out];exact Nat.le_refl _),List.drop_of_length_le (by rw [←HPL.out];exact Nat.le_refl _),List.map_nil,List.append_nil] at h
         have e1:joinF l=P.map (wdF l):=by rw [joinF,HPE.out,HM.out]
         rw [e1,List.length_map,←HPL.out]
         exact own_mono h HBB.out)
        have HB6:=Lib.hid (HB.out.trans (HB2.out.mono HBB.out))
        clear HO
        go_wp2_with fail
        go_ret
        exact ⟨_,rfl,HO6.out,HB6.out⟩
end Go.Proofs.YtdngaddggcmjgaaGreatDoor.Words
namespace Go.Proofs.YtdngaddggcmjgaaGreatDoor.Words
open Go.Shelf Go.RowKit Go.Sort
open Utf hiding infoI32 rd_new own_form own_below rdec_any below_drewN new_any write_any close_any infoU8
open Norm hiding new_any write_any close_any
open Seg hiding take_any
open Ucd hiding grow same Told
def wordsF (lim:Int) (l:List UInt8):List Wd:=if spE lim l=0 then joinF ((spS lim l).map up) else []
theorem total_says:∀gs:List (List Pt),total ((gs.map sgOf).map up)≤12*gs.flatten.length
 | []=>by simp [total]
 | g :: t=>by
  have ih:=total_says t
  have h1:=says_size g
  have h2:(txt (up (sgOf g))).length=(says g).size:=Array.length_toList
  unfold total at ih ⊢
  simp only [List.map_cons,List.flatten_cons,List.length_append] at ih ⊢
  omega
theorem flat_subP {a b:List (List Pt)} (h:a.Sublist b):a.flatten.length≤b.flatten.length:=by
 induction h with
 | slnil=>simp
 | cons x _ ih=>simp only [List.flatten_cons,List.length_append];omega
 | cons_cons x _ ih=>simp only [List.flatten_cons,List.length_append];omega
theorem total_split (lim:Int) (l:List UInt8):total ((spS lim l).map up)≤12*l.length:=by
 unfold spS
 split
 ·refine Nat.le_trans (total_says _) (Nat.mul_le_mul_left _ ?_)
  have h1:(okS lim.toNat l).flatten.length≤(Seg.grp (dec false 0 l)).flatten.length:=flat_subP (List.takeWhile_sublist _)
  rw [Seg.grp,cuts_flat] at h1
  exact Nat.le_trans h1 (dec_len_le false l 0)
 ·simp [total]
theorem split_len (lim:Int) (l:List UInt8):(spS lim l).length≤l.length:=by
 unfold spS
 split
 ·rw [List.length_map];exact okS_len _ l
 ·simp
def WordsAns (w:World) (lim:Int) (l:List UInt8) (e:Ending) (w':World):Prop :=
 ∃v,e=.returned (.tuple #[v,.int .i64 (spE lim l)])∧w'.ownsRow w.heap.size 36 5 v (wordsF lim l).length (wds (wordsF lim l))∧Below w.heap.size w w'
theorem sp_err (lim:Int) (l:List UInt8):spE lim l=0∨spE lim l=1∨spE lim l=6:=by
 unfold spE
 split
 ·split
  ·exact .inr (.inr rfl)
  ·exact .inl rfl
 ·exact .inr (.inl rfl)
set_option maxHeartbeats 8000000 in
set_option maxRecDepth 100000 in
theorem rwords_any (lim:Int) (l:List UInt8) (A:Option Addr) (m c:Nat) (w:World) (hr:Rd w w.heap.size A (bys l)) (hm:l.length=m) (hsm:m≤134217728) :
  Calls Tryz.prog 7 #[.slice A m c,.int .i64 lim] w (WordsAns w lim l):=by
 have HS:=Lib.hid (rsplit_any lim l A m c w hr hm hsm)
 have HT:=Lib.hid (show total ((spS lim l).map up)≤4294967296 by have:=total_split lim l;omega)
 have HN:=Lib.hid (show (spS lim l).length≤4294967296 by have:=split_len lim l;omega)
 have HE:=sp_err lim l
 clear hr hm hsm
 rcases HE with he | he
 ·have HWF:=Lib.hid (show wordsF lim l=joinF ((spS lim l).map up) by unfold wordsF;rw [if_pos he])
  unfold RSplit at HS
  unfold WordsAns
  rw [he] at HS ⊢
  rw [HWF.out]
  generalize spS lim l=S at HS HT HN ⊢
  clear HWF he
  go_enter Tryz.func7,Tryz.ntmps7
  go_wp2_with fail
  refine HS.out.mono ?_
  rintro e w1 ⟨A1,n,c1,rfl,hn,hr1,hb1⟩
  rw [←sxs_up] at hr1
  have HJ:=Lib.hid (rjoin_any A1 (S.map up) n c1 w1 hr1 (by rw [List.length_map];exact hn.symm) (by rw [hn];exact HN.out) HT.out)
  have HB1:=Lib.hid hb1
  clear hr1 hb1 hn
  go_wp2_with fail
  refine HJ.out.mono ?_
  rintro e w2 ⟨v,rfl,ho,hb2⟩
  have HO:=Lib.hid ho
  have HB2:=Lib.hid (HB1.out.trans (hb2.mono HB1.out.size))
  clear ho hb2
  go_wp2_with fail
  go_ret2
  exact ⟨v,rfl,own_mono HO.out HB1.out.size,HB2.out⟩
 ·have HWF:=Lib.hid (show wordsF lim l=[] by unfold wordsF;rw [if_neg (by omega)])
  have hne:(spE lim l == 0)=false:=by rw [beq_eq_false_iff_ne];omega
  have hne2:(spE lim l != 0)=true:=by simp;omega
  unfold RSplit at HS
  unfold WordsAns
  rw [HWF.out]
  clear HWF
  generalize spE lim l=er at HS hne hne2 he ⊢
  have HHE:=Lib.hid he
  clear he
  go_enter Tryz.func7,Tryz.ntmps7
  go_wp2_with fail
  refine HS.out.mono ?_
  rintro e w1 ⟨A1,n,c1,rfl,hn,hr1,hb1⟩
  have HB1:=Lib.hid hb1
  clear hr1 hb1 hn
  go_wp2_with fail
  go_ret2
  exact ⟨_,rfl,World.ownsRow_nil _ _ _ _,HB1.out⟩
instance:DecidableEq Wd:=fun a b=>decidable_of_iff (a.k=b.k∧a.f=b.f∧a.g=b.g∧a.a=b.a∧a.e=b.e) (by cases a;cases b;simp)
def sameW (a b:List Wd):Bool:=decide (a=b)
theorem wdFields:Tryz.prog.underlying 36=some (.struct (Tryz.prog.fieldsOf 36)):=by kernel_rfl
theorem wdHeld:Tryz.prog.stoodInHeld 36=false:=by kernel_rfl
theorem neq_wd (w:World) (a a':ByteArray) (f g s e f' g' s' e':Int):(binOp .neq 36 (.agg #[.string a,.int .i64 f,.int .i64 g,.int .i64 s,.int .i64 e]) (.agg #[.string a',.int .i64 f',.int .i64 g',.int .i64 s',.int .i64 e'])).run Tryz.prog w=.ok (.bool (!(decide (a=a') && f == f' && g == g' && s == s' && e == e'))) w:=by
 have u3:=Tryz.underlying3
 have a3:=Tryz.isAgg3
 have z3:=Tryz.sizeOf3
 have u9:=Tryz.underlying9
 have a9:=Tryz.isAgg9
 have z9:=Tryz.sizeOf9
 have hss:(a.toList == a'.toList)=decide (a=a'):=by
  by_cases h:a=a'
  ·subst h;simp
  ·have h2:¬a.toList=a'.toList:=by
    intro e;rw [ByteArray.toList_eq,ByteArray.toList_eq] at e;exact h (ByteArray.ext (Array.toList_inj.1 e))
   rw [beq_eq_false_iff_ne.2 h2,decide_eq_false h]
 rw [run_neq_struct,show (10000:Nat)=9999+1 from rfl,run_equalIn_agg w 9999 _ _ _ wdFields wdHeld]
 simp only [Program.fieldsOf,Tryz.underlying36]
 go_simp
 by_cases h1:a=a' <;> by_cases h2:f=f' <;> by_cases h3:g=g' <;> by_cases h4:s=s' <;> by_cases h5:e=e' <;> simp_all
theorem Rd_wd {w:World} {B:Nat} {l:List Wd} {b o:Nat} (h:Rd w B (some ⟨b,o,none⟩) (wds l)) {k:Nat} (hk:k < l.length) (j:Nat) (hj:j < 5):w.cell? ⟨b,o+k*5+j,none⟩=(rowW l[k])[j]?:=by
 obtain ⟨b',o',e,_,hc⟩:=h (fun e=>by have:=wds_len l;rw [e] at this;simp at this;omega)
 simp only [Option.some.injEq,Addr.mk.injEq,and_true] at e
 obtain ⟨rfl,rfl⟩:=e
 have hg:=wds_get l hk j hj
 have hs:(rowW l[k])[j]? = some ((rowW l[k])[j]'(by show j < 5;exact hj)):=List.getElem?_eq_getElem _
 rw [hs] at hg ⊢
 rw [Nat.add_assoc]
 exact hc _ _ hg
theorem take_succ_wd {a b:List Wd} {k:Nat} (ha:k < a.length) (hb:k < b.length) (h:a.take k=b.take k) (e:a[k]=b[k]):a.take (k+1)=b.take (k+1):=by
 rw [List.take_succ_eq_append_getElem ha,List.take_succ_eq_append_getElem hb,h,e]
set_option maxHeartbeats 4000000 in
set_option maxRecDepth 100000 in
theorem rsameW_any (A B:Option Addr) (a b:List Wd) (n m c d:Nat) (w:World) (ha:Rd w w.heap.size A (wds a)) (hb:Rd w w.heap.size B (wds b)) (hn:a.length=n) (hm:b.length=m) (hn1:n≤1099511627776) (hm1:m≤1099511627776) :
  Calls Tryz.prog 8 #[.slice A n c,.slice B m d] w fun e w'=>e=.returned (.bool (sameW a b))∧∃k,w'=w.drewN k:=by
 suffices H:Calls Tryz.prog 8 #[.slice A n c,.slice B m d] w (fun e w'=>Hid (e=.returned (.bool (sameW a b))∧∃k,w'=w.drewN k)) from H.mono fun e w' h=>h.out
 by_cases hnm:n=m
 ·subst hnm
  have HN:=Lib.hid hn;have HM:=Lib.hid hm
  clear hn hm
  go_enter Tryz.func8,Tryz.ntmps8
  go_wp2
  go_loopw [5] (fun i wr=>∃k j:Nat,k≤n∧i=.int .i64 k∧Hid (a.take k=b.take k)∧Hid (wr=w.drewN j)) (fun i _=>n - (intOf i).toNat)
  case atStart=>exact ⟨0,0,Nat.zero_le _,rfl,Lib.hid rfl,Lib.hid rfl⟩
  case round =>
   obtain ⟨k,j,hk,rfl,HT,HJ⟩:=hrel
   by_cases hlt:k < n
   ·have hka:k < a.length:=by rw [HN.out];exact hlt
    have hkb:k < b.length:=by rw [HM.out];exact hlt
    obtain ⟨ba,oa,rfl,_⟩:=ha.form (by rw [wds_len];omega)
    obtain ⟨bb,ob,rfl,_⟩:=hb.form (by rw [wds_len];omega)
    have hwr:∀p:Addr,wr.cell? p=w.cell? p:=fun p=>by rw [HJ.out];rfl
    have ca:=Rd_wd ha hka
    have cb:=Rd_wd hb hkb
    have a1:=ca 0 (by omega);have a2:=ca 1 (by omega);have a3:=ca 2 (by omega);have a4:=ca 3 (by omega);have a5:=ca 4 (by omega)
    have b1:=cb 0 (by omega);have b2:=cb 1 (by omega);have b3:=cb 2 (by omega);have b4:=cb 3 (by omega);have b5:=cb 4 (by omega)
    rw [←hwr] at a1 a2 a3 a4 a5 b1 b2 b3 b4 b5
    simp only [rowW,Nat.add_zero,List.getElem?_cons_zero,List.getElem?_cons_succ] at a1 a2 a3 a4 a5 b1 b2 b3 b4 b5
    have HTS:=Lib.hid (take_succ_wd hka hkb HT.out)
    have HNE:=Lib.hid (show a[k]≠b[k]→sameW a b=false from fun h=>by unfold sameW;rw [decide_eq_false];rintro rfl;exact h rfl)
    clear ca cb
    obtain ⟨x,hx⟩:∃x,x=a[k]:=⟨_,rfl⟩
    obtain ⟨y,hy⟩:∃y,y=b[k]:=⟨_,rfl⟩
    rw [←hx] at a1 a2 a3 a4 a5 HTS HNE
    rw [←hy] at b1 b2 b3 b4 b5 HTS HNE
    obtain ⟨X,hX⟩:∃X:ByteArray,X=⟨x.k.toArray⟩:=⟨_,rfl⟩
    obtain ⟨Y,hY⟩:∃Y:ByteArray,Y=⟨y.k.toArray⟩:=⟨_,rfl⟩
    rw [←hX] at a1
    rw [←hY] at b1
    clear hx hy hwr HT
    by_cases hxy:x=y
    ·subst hxy
     obtain rfl:X=Y:=hX.trans hY.symm
     have hq':∀u:World,(binOp .neq 36 (.agg #[.string X,.int .i64 x.f,.int .i64 x.g,.int .i64 x.a,.int .i64 x.e]) (.agg #[.string X,.int .i64 x.f,.int .i64 x.g,.int .i64 x.a,.int .i64 x.e])).run Tryz.prog u=.ok (.bool false) u:=fun u=>by rw [neq_wd u];simp
     clear hX hY
     go_wp2_with fail
     go_quiet (fail)
     go_wp2
     go_roundw
     case rel=>exact ⟨k+1,_,by omega,by go_num,Lib.hid (HTS.out trivial),Lib.hid (by rw [HJ.out,World.drewN_drewN])⟩
     case measure=>simp [intOf];omega
    ·have hq':∀u:World,(binOp .neq 36 (.agg #[.string X,.int .i64 x.f,.int .i64 x.g,.int .i64 x.a,.int .i64 x.e]) (.agg #[.string Y,.int .i64 y.f,.int .i64 y.g,.int .i64 y.a,.int .i64 y.e])).run Tryz.prog u=.ok (.bool true) u:=fun u=>by
      rw [neq_wd u]
      congr 2
      rw [Bool.not_eq_true',←Bool.not_eq_true]
      intro h
      simp only [Bool.and_eq_true,decide_eq_true_eq,beq_iff_eq] at h
      obtain ⟨⟨⟨⟨h1,h2⟩,h3⟩,h4⟩,h5⟩:=h
      rw [hX,hY] at h1
      injection h1 with h1
      have h6:=congrArg Array.toList h1
      simp only at h6
      have g2:x.f=y.f:=by omega
      have g3:x.g=y.g:=by omega
      exact hxy (by cases x;cases y;simp_all)
     have HF:=Lib.hid (HNE.out hxy)
     clear hxy hX hY
     go_wp2_with fail
     go_quiet (fail)
     go_wp2
     go_ret
     exact Lib.hid ⟨by rw [HF.out];rfl,_,by rw [HJ.out,World.drewN_drewN]⟩
   ·have hkn:k=n:=by omega
    have HF:=Lib.hid (show sameW a b=true by
     have:=HT.out
     rw [List.take_of_length_le (by have:=HN.out;omega),List.take_of_length_le (by have:=HM.out;omega)] at this
     unfold sameW;exact decide_eq_true this)
    clear hkn
    go_wp2
    go_ret
    exact Lib.hid ⟨by rw [HF.out];rfl,_,HJ.out⟩
 ·have hs:sameW a b=false:=by unfold sameW;rw [decide_eq_false];rintro rfl;exact hnm (hn.symm.trans hm)
  have HS:=Lib.hid hs
  have hne:((n:Int) == (m:Int))=false:=by simp;omega
  have hne2:((n:Int) != (m:Int))=true:=by simp;omega
  clear hs hn hm hnm
  go_enter Tryz.func8,Tryz.ntmps8
  go_wp2
  go_ret
  exact Lib.hid ⟨by rw [HS.out];rfl,0,rfl⟩
end Go.Proofs.YtdngaddggcmjgaaGreatDoor.Words
namespace Go.Proofs.YtdngaddggcmjgaaGreatDoor.Words
open Utf hiding infoU8
open Norm Seg
open Ucd hiding same grp
def ex1:List UInt8:=[73,116,39,115,32,51,46,53,32,195,137,116,195,169,115,44,32,101,46,103,46,32,95,120,49]
def ex2:List UInt8:=[39,97,39,32,49,46,32,46,53]
def ans1:List Wd:=[⟨[105,116,39,115],0,4,0,4⟩,⟨[51,46,53],5,8,5,8⟩,⟨[101,204,129,116,101,204,129,115],9,13,9,15⟩,⟨[101],15,16,17,18⟩,⟨[103],17,18,19,20⟩,⟨[95,120,49],20,23,22,25⟩]
def ans2:List Wd:=[⟨[97],1,2,1,2⟩,⟨[49],4,5,4,5⟩,⟨[53],8,9,8,9⟩]
theorem words_ex1:wordsF 64 ex1=ans1∧spE 64 ex1=0:=by decide +kernel
theorem words_ex2:wordsF 64 ex2=ans2∧spE 64 ex2=0:=by decide +kernel
theorem words_none:wordsF 0 []=[]∧spE 0 []=1:=by decide +kernel
def big:List UInt8:=[83,84,82,65,83,83,69]
def sharp:List UInt8:=[83,116,114,97,195,159,101]
def small:List UInt8:=[115,116,114,97,115,115,101]
theorem key_big:keyF big=small∧keyF sharp=small:=by decide +kernel
end Go.Proofs.YtdngaddggcmjgaaGreatDoor.Words
namespace Go.Proofs.YtdngaddggcmjgaaGreatDoor.Words
open Go.Shelf Go.RowKit Go.Sort
open Utf hiding infoI32 rd_new own_form own_below rdec_any below_drewN new_any write_any close_any infoU8
open Norm hiding new_any write_any close_any
open Seg
open Ucd hiding grow same Told grp
set_option maxRecDepth 100000
theorem text_room (l:List UInt8):(textF l).length≤12*l.length:=by
 have h1:=enc_le (normal (runesF l))
 have h2:=fulls_len (runesF l)
 have h4:=normal_len (runesF l)
 have h3:=runes_len l
 unfold textF
 omega
set_option maxHeartbeats 16000000 in
theorem key_any (A:Option Addr) (l:List UInt8) (m c:Nat) (w:World) (hL:Laid w) (hr:Rd w w.heap.size A (bys l)) (hm:l.length=m) (hc:m≤c) (hcm:c≤9223372036854775807) (hb:m≤2147483648) (hnb:(normal (runesF l)).length≤17179869184) :
  Calls Tryz.prog 11 #[.slice A m c] w (Ret w (.string ⟨(keyF l).toArray⟩)):=by
 obtain ⟨i0,hi,hz0,hz1,hz2⟩:=info_parts infoI32
 have HL:=Lib.hid hL
 have HC:=Lib.hid (text_any A l m c w hL hr hm hc hcm (by omega))
 obtain ⟨TS,hTS⟩:∃TS:ByteArray,TS=⟨(textF l).toArray⟩:=⟨_,rfl⟩
 rw [←hTS] at HC
 have hTL:TS.size≤34359738368:=by
  rw [hTS]
  show (textF l).toArray.size≤_
  rw [List.size_toArray]
  have h1:=text_room l
  omega
 have HR:=Lib.hid (fun (u:World)=>runes_any TS u (by omega))
 rw [show runesF TS.data.toList=normal (runesF l) by rw [hTS];exact runes_text l] at HR
 have hv:=normal_vld (runes_vld l)
 have HE:=Lib.hid (show keyF l=enc (normal (foldsF (normal (runesF l)))) from rfl)
 generalize normal (runesF l)=X at HR HE hnb hv
 have HV:=Lib.hid hv
 have HX:=Lib.hid hnb
 clear hL hr hm hc hcm hb hnb hv hTS hTL
 obtain ⟨n,hn⟩:∃n,n=X.length:=⟨_,rfl⟩
 have HXN:=Lib.hid hn
 have hnl:n≤17179869184:=by rw [hn];exact HX.out
 clear hn
 go_enter Tryz.func11,Tryz.ntmps11
 go_wp2_with fail
 refine HC.out.mono ?_
 rintro e w1 ⟨rfl,hb1⟩
 have HB1:=Lib.hid hb1
 clear hb1 HC
 go_wp2_with fail
 refine (HR.out w1).mono ?_
 rintro e w2 ⟨v,rfl,ho,hb2⟩
 obtain ⟨A2,c2,rfl,_,_,hr2⟩:=own_form ho
 rw [←HXN.out]
 have HR2:=Lib.hid hr2
 have HB2:=Lib.hid (HB1.out.trans (hb2.mono HB1.out.size))
 clear ho hr2 hb2 HR
 obtain ⟨B0,hB0⟩:∃B0,B0=w2.heap.size:=⟨_,rfl⟩
 have HB0:=Lib.hid hB0
 rw [←hB0] at HR2
 clear hB0
 go_wp2_with fail
 go_loopw [3,10] (fun vo i wr=>∃k:Nat,k≤n∧i=.int .i64 k∧Hid (wr.ownsRow B0 21 1 vo (foldsF (X.take k)).length (nums (foldsF (X.take k))))∧Hid (Below B0 w2 wr)) (fun _ i _=>n - (intOf i).toNat)
 case atStart=>exact ⟨0,Nat.zero_le _,rfl,Lib.hid (by simp only [List.take_zero,foldsF,List.flatMap_nil];exact World.ownsRow_nil _ _ _ _),Lib.hid (Below.refl _ _)⟩
 case round =>
  obtain ⟨k,hk,rfl,HO,HB⟩:=hrel
  have hbw:B0≤wr.heap.size:=by have:=HB.out.size;have:=HB0.out;omega
  have HBW:=Lib.hid (HB2.out.trans (HB.out.mono (by have:=HB2.out.size;have:=HB0.out;omega)))
  by_cases hlt:k < n
  ·have hkl:k < X.length:=by rw [←HXN.out];exact hlt
   obtain ⟨b,o,rfl,hbl⟩:=HR2.out.form (by rw [nums_len];omega)
   have hcell:wr.cell? ⟨b,o+k,none⟩=some (.int .i32 X[k]):=(HR2.out.below HB.out).num hkl
   have hvd:=HV.out X[k] (List.getElem_mem hkl)
   have hbd:=(vld_iff X[k]).1 hvd
   have HTK:=Lib.hid (show foldsF (X.take (k+1))=foldsF (X.take k)++foldF X[k] by rw [List.take_succ_eq_append_getElem hkl,folds_append];simp [foldsF])
   have h3:=(fold_len X[k]).2
   have HC:=Lib.hid (fold_any X[k] wr (HL.out.next HBW.out) (by omega) (by omega))
   have HDL:=Lib.hid (show (foldsF (X.take k)).length≤2*k by have:=folds_len (X.take k);rw [List.length_take] at this;omega)
   obtain ⟨D,hD⟩:∃D,D=foldsF (X.take k):=⟨_,rfl⟩
   rw [←hD] at HO HTK HDL
   generalize X[k]=r at hcell HTK h3 HC
   generalize foldF r=xs at HTK h3 HC
   obtain ⟨f,hf⟩:∃f,f=D.length:=⟨_,rfl⟩
   rw [←hf] at HO HDL
   have HFL:=Lib.hid hf
   have hfn:=HDL.out
   obtain ⟨q,hq⟩:∃q,q=xs.length:=⟨_,rfl⟩
   have HQ:=Lib.hid hq
   clear hkl hD hvd hbd hf
   go_wp2_with fail
   refine HC.out.mono ?_
   rintro e w3 ⟨Ad,cd,rfl,hd1,hd2,hrd,hb3⟩
   rw [←hq] at hd1 h3 ⊢
   have HRD:=Lib.hid hrd
   have HO1:=Lib.hid (own_below HO.out hb3)
   have HB3:=Lib.hid (HB.out.trans (hb3.mono hbw))
   have hb4:B0≤w3.heap.size:=by have:=hb3.size;omega
   clear hq hb3 hrd HC HO HB
   go_wp2_with (at_builtin;refine wpList_append_rd _ rfl (.tmp 14) (.tmp 16) _ rfl B0 21 i0 _ 1 4 Tryz.underlying49 hi hz0 hz1 hz2 rfl (by decide) u3 f (nums D) rfl HO1.out _ Ad q cd (nums xs) rfl (by rw [nums_len,HQ.out,Nat.mul_one]) HRD.out (nums_one xs) (by unfold maxLen;omega) (by omega) hb4 ?_;intro v6 w6 hown6 hgr6 hat6)
   have HO6:=Lib.hid (show w6.ownsRow B0 21 1 v6 (foldsF (X.take (k+1))).length (nums (foldsF (X.take (k+1)))) by
    rw [HTK.out,List.length_append,←HFL.out,←HQ.out,nums_append];exact hown6)
   have HB6:=Lib.hid (HB3.out.grown hgr6 hb4 (fun y hy=>(HO1.out.lt y hy).1))
   clear hown6 hgr6 hat6 HO1 HB3
   go_roundw
   case rel=>exact ⟨k+1,by omega,by go_num,HO6,HB6⟩
   case measure=>simp [intOf];omega
  ·have HXT:=Lib.hid (show X.take k=X by rw [List.take_of_length_le (by rw [←HXN.out];omega)])
   rw [HXT.out] at HO
   have hfl:=folds_len X
   obtain ⟨Y,hY⟩:∃Y,Y=foldsF X:=⟨_,rfl⟩
   rw [←hY] at HO hfl HE
   have HYL:=Lib.hid (show Y.length≤34359738368 by have:=HX.out;omega)
   have HNL:=Lib.hid (show (normal Y).length≤103079215104 by have:=nf_len (fulls Y);have:=fulls_len Y;have:=HYL.out;unfold normal;omega)
   obtain ⟨A4,c4,rfl,_,_,hr4⟩:=own_form HO.out
   have HR4:=Lib.hid hr4
   clear hY hfl hr4 HO HB
   go_wp2_with fail
   refine (normal_any A4 Y Y.length c4 wr (HL.out.next HBW.out) HR4.out rfl HYL.out).mono ?_
   rintro e w5 ⟨v,rfl,ho,hb5⟩
   obtain ⟨A5,c5,rfl,_,_,hr5⟩:=own_form ho
   have HR5:=Lib.hid hr5
   have HB5:=Lib.hid (HBW.out.trans (hb5.mono HBW.out.size))
   clear ho hr5 hb5
   go_wp2_with fail
   refine (encode_any A5 (normal Y) (normal Y).length c5 w5 HR5.out rfl (by have:=HNL.out;omega)).mono ?_
   rintro e w6 ⟨v,rfl,ho,hb6⟩
   obtain ⟨A6,c6,rfl,_,_,hr6⟩:=Utf.own_form ho
   have hcv:=conv_rd (c:=c6) hr6 rfl
   rw [←HE.out] at hcv ⊢
   have HB6:=Lib.hid (HB5.out.trans (hb6.mono HB5.out.size))
   clear ho hr6 hb6
   go_wp2_with fail
   go_ret
   exact ⟨rfl,HB6.out⟩
set_option maxHeartbeats 4000000 in
theorem wsame_any (a b:List UInt8) (A B:Option Addr) (m c n d:Nat) (w:World) (hL:Laid w) (ha:Rd w w.heap.size A (bys a)) (hb:Rd w w.heap.size B (bys b)) (hm:a.length=m) (hc:m≤c) (hcm:c≤9223372036854775807) (hn:b.length=n) (hd:n≤d) (hdm:d≤9223372036854775807)
  (hbm:m≤2147483648) (hbn:n≤2147483648) (hka:(normal (runesF a)).length≤17179869184) (hkb:(normal (runesF b)).length≤17179869184) :
  Calls Tryz.prog 12 #[.slice A m c,.slice B n d] w (Ret w (.bool (decide (keyF a=keyF b)))):=by
 have HK:=Lib.hid (key_any A a m c w hL ha hm hc hcm hbm hka)
 have HR:=Lib.hid (fun (u:World) (h:Below w.heap.size w u)=>key_any B b n d u (hL.next h) ((hb.below h).more h.size) hn hd hdm hbn hkb)
 obtain ⟨KS,hKS⟩:∃KS:ByteArray,KS=⟨(keyF a).toArray⟩:=⟨_,rfl⟩
 obtain ⟨KB,hKB⟩:∃KB:ByteArray,KB=⟨(keyF b).toArray⟩:=⟨_,rfl⟩
 have hsb:(KS.toList == KB.toList)=decide (keyF a=keyF b):=by
  rw [hKS,hKB,bytes_list,bytes_list,Bool.eq_iff_iff,beq_iff_eq,decide_eq_true_eq]
 rw [←hKS] at HK
 rw [←hKB] at HR
 generalize decide (keyF a=keyF b)=z at hsb ⊢
 clear hL ha hb hm hc hcm hn hd hdm hbm hbn hka hkb hKS hKB
 go_enter Tryz.func12,Tryz.ntmps12
 go_wp2_with fail
 refine HK.out.mono ?_
 rintro e w1 ⟨rfl,hb1⟩
 have HB1:=Lib.hid hb1
 clear hb1
 go_wp2_with fail
 refine (HR.out w1 HB1.out).mono ?_
 rintro e w2 ⟨rfl,hb2⟩
 have HB2:=Lib.hid (HB1.out.trans (hb2.mono HB1.out.size))
 clear hb2
 go_wp2_with fail
 go_ret
 exact ⟨rfl,HB2.out⟩
end Go.Proofs.YtdngaddggcmjgaaGreatDoor.Words
namespace Go.Proofs.YtdngaddggcmjgaaGreatDoor.Words
open Go.Shelf Go.RowKit Go.Sort
open Utf hiding infoI32 rd_new own_form own_below rdec_any below_drewN new_any write_any close_any infoU8
open Norm hiding new_any write_any close_any
open Seg
open Ucd hiding grow same Told grp
set_option maxRecDepth 100000
theorem first_four {l:List UInt8} (h:l≠[]):∃r rs rs',runesF l=r :: rs∧runesF (l.take 4)=r :: rs':=by
 have h4:l.take 4≠[]:=by cases l <;> simp_all
 have e:rune (l.take 4)=rune l:=by
  by_cases hl:l.length≤4
  ·rw [List.take_of_length_le hl]
  ·have hm:more (l.take 4)=false:=by
    cases hm:more (l.take 4) with
    | false=>rfl
    | true=>have:=(more_short hm).1;rw [List.length_take] at this;omega
   have:=rune_append (l.drop 4) h4 hm
   rw [List.take_append_drop] at this
   exact this.symm
 refine ⟨(rune l:Int),(dec false (0+wid l) (l.drop (wid l))).map fun q=>(q.r:Int),(dec false (0+wid (l.take 4)) ((l.take 4).drop (wid (l.take 4)))).map fun q=>(q.r:Int),?_,?_⟩
 ·rw [runesF,dec_step false 0 h rfl];rfl
 ·rw [runesF,dec_step false 0 h4 rfl,List.map_cons,e]
def pointF (r:Int):Int:=if r=95 then 3 else if cat r=1 then 1 else if cat r=3 then 2 else 0
set_option maxHeartbeats 4000000 in
theorem point_any (r:Int) (w:World) (hL:Laid w):Calls Tryz.prog 51 #[.int .i32 r] w (Ret w (.int .u8 (pointF r))):=by
 have HC:=Lib.hid (category_any r w hL)
 clear hL
 by_cases h95:r=95
 ·have q95:(r == 95)=true:=by simpa using h95
  rw [pointF,if_pos h95]
  clear h95
  go_enter Tryz.func51,Tryz.ntmps51
  go_wp2_with fail
  go_ret
  exact ⟨rfl,Below.refl _ _⟩
 have q95:(r == 95)=false:=by simpa using h95
 rw [pointF,if_neg h95]
 clear h95
 generalize cat r=cx at HC ⊢
 by_cases hc1:cx=1
 ·rw [if_pos hc1]
  subst hc1
  go_enter Tryz.func51,Tryz.ntmps51
  go_wp2_with fail
  refine HC.out.mono ?_
  rintro e w1 ⟨rfl,hb1⟩
  go_wp2_with fail
  go_ret
  exact ⟨rfl,hb1⟩
 rw [if_neg hc1]
 by_cases hc3:cx=3
 ·rw [if_pos hc3]
  subst hc3
  clear hc1
  go_enter Tryz.func51,Tryz.ntmps51
  go_wp2_with fail
  refine HC.out.mono ?_
  rintro e w1 ⟨rfl,hb1⟩
  go_wp2_with fail
  go_ret
  exact ⟨rfl,hb1⟩
 rw [if_neg hc3]
 have qc1:(cx == 1)=false:=by simpa using hc1
 have qc3:(cx == 3)=false:=by simpa using hc3
 clear hc1 hc3
 go_enter Tryz.func51,Tryz.ntmps51
 go_wp2_with fail
 refine HC.out.mono ?_
 rintro e w1 ⟨rfl,hb1⟩
 go_wp2_with fail
 go_ret
 exact ⟨rfl,hb1⟩
set_option maxHeartbeats 8000000 in
theorem kindOf_any (T:ByteArray) (l:List UInt8) (hT:T.data.toList=l) (w:World) (hL:Laid w) (hb:l.length≤34359738368) :
  Calls Tryz.prog 29 #[.string T] w (Ret w (.int .u8 (kindF l))):=by
 have HL:=Lib.hid hL
 have HQ:=Lib.hid (fun x:List UInt8=>(show (T.toList == x)=decide (l=x) by rw [bytes_list,hT,Bool.eq_iff_iff,beq_iff_eq,decide_eq_true_eq]))
 have HT:=Lib.hid hT
 have HB:=Lib.hid hb
 clear hL hT hb
 by_cases h0:l=[]
 ·have q0:(T.toList == [])=true:=(HQ.out _).trans (decide_eq_true h0)
  rw [show kindF l=0 by subst h0;exact kind_none rfl]
  clear h0
  go_enter Tryz.func29,Tryz.ntmps29
  go_wp2_with fail
  go_ret
  exact ⟨rfl,Below.refl _ _⟩
 have q0:(T.toList == [])=false:=(HQ.out _).trans (decide_eq_false h0)
 by_cases h1:l=[39]
 ·have q1:(T.toList == [39])=true:=(HQ.out _).trans (decide_eq_true h1)
  rw [show kindF l=4 by rw [kindF,if_pos (show joint l=true from decide_eq_true (.inl h1))]]
  clear h0 h1
  go_enter Tryz.func29,Tryz.ntmps29
  go_wp2_with fail
  go_ret
  exact ⟨rfl,Below.refl _ _⟩
 have q1:(T.toList == [39])=false:=(HQ.out _).trans (decide_eq_false h1)
 by_cases h2:l=[226,128,153]
 ·have q2:(T.toList == [226,128,153])=true:=(HQ.out _).trans (decide_eq_true h2)
  rw [show kindF l=4 by rw [kindF,if_pos (show joint l=true from decide_eq_true (.inr (.inl h2)))]]
  clear h0 h1 h2
  go_enter Tryz.func29,Tryz.ntmps29
  go_wp2_with fail
  go_ret
  exact ⟨rfl,Below.refl _ _⟩
 have q2:(T.toList == [226,128,153])=false:=(HQ.out _).trans (decide_eq_false h2)
 by_cases h3:l=[194,183]
 ·have q3:(T.toList == [194,183])=true:=(HQ.out _).trans (decide_eq_true h3)
  rw [show kindF l=4 by rw [kindF,if_pos (show joint l=true from decide_eq_true (.inr (.inr h3)))]]
  clear h0 h1 h2 h3
  go_enter Tryz.func29,Tryz.ntmps29
  go_wp2_with fail
  go_ret
  exact ⟨rfl,Below.refl _ _⟩
 have q3:(T.toList == [194,183])=false:=(HQ.out _).trans (decide_eq_false h3)
 have hj:joint l=false:=decide_eq_false (by rintro (h | h | h) <;> contradiction)
 obtain ⟨r,rs,rs',hr1,hr4⟩:=first_four h0
 have hk:=kind_rest hr1 hj
 clear h1 h2 h3 hj hr1
 by_cases h4:l=[46]
 ·have q4:(T.toList == [46])=true:=(HQ.out _).trans (decide_eq_true h4)
  rw [hk,restF,if_pos (.inl h4)]
  clear h0 h4 hk hr4
  go_enter Tryz.func29,Tryz.ntmps29
  go_wp2_with fail
  go_ret
  exact ⟨rfl,Below.refl _ _⟩
 have q4:(T.toList == [46])=false:=(HQ.out _).trans (decide_eq_false h4)
 by_cases h5:l=[44]
 ·have q5:(T.toList == [44])=true:=(HQ.out _).trans (decide_eq_true h5)
  rw [hk,restF,if_pos (.inr h5)]
  clear h0 h4 h5 hk hr4
  go_enter Tryz.func29,Tryz.ntmps29
  go_wp2_with fail
  go_ret
  exact ⟨rfl,Below.refl _ _⟩
 have q5:(T.toList == [44])=false:=(HQ.out _).trans (decide_eq_false h5)
 rw [restF,if_neg (by rintro (h | h) <;> contradiction)] at hk
 have HK:=Lib.hid (show kindF l=pointF r from hk)
 rw [HK.out]
 have HP:=Lib.hid (fun u hu=>point_any r u hu)
 generalize pointF r=kd at HP ⊢
 clear h0 h4 h5 hk HK
 obtain ⟨FT,hFT⟩:∃FT,FT=T.extract 0 (min (T.size:Int) 4).toNat:=⟨_,rfl⟩
 have HFT:=Lib.hid hFT
 have hfl:FT.data.toList=l.take 4:=by
  have hs:T.size=l.length:=by rw [←HT.out];exact Array.length_toList.symm
  rw [hFT,ByteArray.data_extract,Array.toList_extract,HT.out,hs,List.extract_eq_take_drop,List.drop_zero]
  by_cases h:l.length≤4
  ·rw [List.take_of_length_le h,List.take_of_length_le (by omega)]
  ·rw [show (min (l.length:Int) 4).toNat - 0=4 by omega]
 have hfs:FT.size≤4:=by
  have h1:FT.size=FT.data.toList.length:=Array.length_toList.symm
  rw [h1,hfl,List.length_take];omega
 have HR:=Lib.hid (runes_any FT w (by omega))
 rw [hfl,hr4] at HR
 obtain ⟨xl,hxl⟩:∃xl,xl=(r :: rs').length:=⟨_,rfl⟩
 have HXL:=Lib.hid hxl
 have hxp:0 < xl:=by rw [hxl];simp
 clear hFT hfl hfs hr4 hxl
 go_enter Tryz.func29,Tryz.ntmps29
 go_wp2_with fail
 rw [←HFT.out]
 refine HR.out.mono ?_
 rintro e w1 ⟨v,rfl,ho,hb1⟩
 obtain ⟨A1,c1,rfl,_,_,hr1⟩:=own_form ho
 obtain ⟨b1,o1,rfl,hbl1⟩:=hr1.form (by rw [nums_len];simp)
 have hcell:w1.cell? ⟨b1,o1,none⟩=some (.int .i32 r):=by have:=hr1.num (k:=0) (by simp);simpa using this
 have HB1:=Lib.hid hb1
 rw [←HXL.out]
 clear ho hr1 hb1 HR
 go_wp2_with fail
 refine (HP.out w1 (HL.out.next HB1.out)).mono ?_
 rintro e w2 ⟨rfl,hb2⟩
 have HB2:=Lib.hid (HB1.out.trans (hb2.mono HB1.out.size))
 clear hb2
 go_wp2_with fail
 go_ret
 exact ⟨rfl,HB2.out⟩
end Go.Proofs.YtdngaddggcmjgaaGreatDoor.Words
namespace Go.Proofs.YtdngaddggcmjgaaGreatDoor.Words
def opnR (k e:Nat):Option Nat:=if k < e then some k else none
theorem runs_start (k:Nat):opnR k k=none:=if_neg (Nat.lt_irrefl k)
theorem runs_on {m:List Bool} {k e:Nat} (hk:k≤e) (h:e < m.length) (hb:m[e]=true):runsB e (opnR k e) (m.drop e)=runsB (e+1) (opnR k (e+1)) (m.drop (e+1)):=by
 rw [List.drop_eq_getElem_cons h,hb]
 unfold opnR
 rw [if_pos (show k < e+1 by omega)]
 by_cases he:k < e
 ·rw [if_pos he];rfl
 ·rw [if_neg he,show k=e by omega];rfl
theorem runs_stop {m:List Bool} {k e:Nat} (hk:k < e) (hb:∀h:e < m.length,m[e]=false):runsB e (opnR k e) (m.drop e)=(k,e) :: runsB (e+1) none (m.drop (e+1)):=by
 unfold opnR
 rw [if_pos hk]
 by_cases h:e < m.length
 ·rw [List.drop_eq_getElem_cons h,hb h];rfl
 ·rw [List.drop_of_length_le (by omega),List.drop_of_length_le (by omega)];rfl
theorem runs_off {m:List Bool} {k:Nat} (h:k < m.length) (hb:m[k]=false):runsB k none (m.drop k)=runsB (k+1) none (m.drop (k+1)):=by
 rw [List.drop_eq_getElem_cons h,hb];rfl
theorem runs_end {m:List Bool} {k:Nat} (h:m.length≤k):runsB k none (m.drop k)=[]:=by
 rw [List.drop_of_length_le h];rfl
theorem runs_few (m:List Bool):(runsF m).length≤m.length:=by
 have h1:=out_len m m.length
 have h2:outF m m.length=runsF m:=st_end _
 rwa [h2] at h1
end Go.Proofs.YtdngaddggcmjgaaGreatDoor.Words
namespace Go.Proofs.YtdngaddggcmjgaaGreatDoor.Words
open Go.Shelf Go.RowKit Go.Sort
open Utf hiding infoI32 rd_new own_form own_below rdec_any below_drewN new_any write_any close_any infoU8
open Norm hiding new_any write_any close_any
open Seg hiding take_any
open Ucd hiding grow same Told grp
set_option maxRecDepth 100000
def k8 (l:List Int):List Value:=l.map (.int .u8)
theorem k8_len (l:List Int):(k8 l).length=l.length:=List.length_map _
theorem infoKind:(Tryz.prog.info? 61).map (fun i=>(i.zero,i.size,i.bytes))=some (some (.int .u8 0),1,1):=by kernel_rfl
theorem made_k8 (n:Nat):madeCells #[Value.int .u8 0] n=(k8 (List.replicate n 0)).toArray:=by
 rw [show (k8 (List.replicate n 0))=List.replicate n (Value.int .u8 0) from by simp [k8],←toList_madeCells_one]
def mixK (l:List Int) (k:Nat):List Int:=l.take k++List.replicate (l.length - k) 0
theorem mixK_len (l:List Int) (k:Nat) (h:k≤l.length):(mixK l k).length=l.length:=by
 unfold mixK;rw [List.length_append,List.length_take,List.length_replicate];omega
theorem mixK_next {l:List Int} {k:Nat} (h:k < l.length):(k8 (mixK l k)).set k (.int .u8 l[k])=k8 (mixK l (k+1)):=by
 unfold k8 mixK
 have hl:(l.take k).length=k:=by rw [List.length_take];omega
 rw [←List.map_set,List.set_append_right _ _ (by omega),hl,Nat.sub_self,show l.length - k=(l.length - (k+1))+1 by omega,List.replicate_succ,List.set_cons_zero,List.take_succ_eq_append_getElem h,List.append_assoc]
 rfl
theorem mixK_end (l:List Int):mixK l l.length=l:=by unfold mixK;rw [List.take_length,Nat.sub_self];simp
theorem Rd_k8 {w:World} {B:Nat} {l:List Int} {b o:Nat} (h:Rd w B (some ⟨b,o,none⟩) (k8 l)) {k:Nat} (hk:k < l.length):w.cell? ⟨b,o+k,none⟩=some (.int .u8 l[k]):=by
 obtain ⟨b',o',e,_,hc⟩:=h (fun e=>by have:=k8_len l;rw [e] at this;simp at this;omega)
 simp only [Option.some.injEq,Addr.mk.injEq,and_true] at e
 obtain ⟨rfl,rfl⟩:=e
 exact hc k _ (by simp [k8,List.getElem?_eq_getElem hk])
theorem blk_rd {w:World} {g:Nat} {t:TypeId} {xs:List Value} (h:Blk w g t xs):Rd w w.heap.size (some ⟨g,0,none⟩) xs:=fun _=>⟨g,0,rfl,h.lt,fun j x hx=>by rw [h.cell,Nat.zero_add];exact hx⟩
set_option maxHeartbeats 8000000 in
theorem kindsOf_any (A:Option Addr) (l:List Sx) (n c:Nat) (w:World) (hL:Laid w) (hr:Rd w w.heap.size A (sxs l)) (hn:l.length=n) (hsm:n≤4294967296) (ht:total l≤2147483648) :
  Calls Tryz.prog 15 #[.slice A n c] w fun e w'=>∃g,e=.returned (.slice (some ⟨g,0,none⟩) n n)∧Blk w' g 61 (k8 (kindsF l))∧Below w.heap.size w w':=by
 obtain ⟨ik,hk0,hk1,hk2,hk3⟩:=info_parts infoKind
 have hmk:(Instr.makeSlice 41 (.int .i64 (n:Int)) (.int .i64 (n:Int))).run Tryz.prog w=.ok (.slice (some ⟨w.heap.size,0,none⟩) n n) (w.alloc (.cells (k8 (List.replicate n 0)).toArray 61)):=by
  have h:=run_make (P:=Tryz.prog) w 41 61 ik (.int .u8 0) Tryz.underlying41 hk0 hk1 .i64 .i64 n n (by omega) (by omega) (by rw [hk3];omega) (by omega)
  rw [Int.toNat_natCast,hk2,Nat.mul_one] at h
  rw [h]
  show Result.ok _ (w.alloc (.cells (madeCells #[Value.int .u8 0] n) _))=_
  rw [made_k8]
 have HR:=Lib.hid hr
 have HL:=Lib.hid hL
 have HN:=Lib.hid hn
 have HT:=Lib.hid ht
 have HKN:=Lib.hid (show (kindsF l).length=n by rw [kinds_len];exact hn)
 have HB0:=Lib.hid (show Blk (w.alloc (.cells (k8 (List.replicate n 0)).toArray 61)) w.heap.size 61 (k8 (mixK (kindsF l) 0)) by
  unfold mixK;rw [List.take_zero,List.nil_append,Nat.sub_zero,HKN.out];exact Blk.new w _ _)
 have HW0:=Lib.hid (show Below w.heap.size w (w.alloc (.cells (k8 (List.replicate n 0)).toArray 61)) from (Below.refl _ _).alloc (Nat.le_refl _) _)
 clear hr hL hn ht
 go_enter Tryz.func15,Tryz.ntmps15
 go_wp2_with fail
 obtain ⟨g,hg⟩:∃g,g=w.heap.size:=⟨_,rfl⟩
 have HG:=Lib.hid hg
 rw [←hg] at HB0
 rw [←hg]
 clear hg hmk
 go_loopw [11] (fun v wr=>∃k:Nat,k≤n∧v=.int .i64 k∧Hid (Blk wr g 61 (k8 (mixK (kindsF l) k)))∧Hid (Below w.heap.size w wr)) (fun v _=>n - (intOf v).toNat)
 case atStart=>exact ⟨0,Nat.zero_le _,rfl,HB0,HW0⟩
 case round =>
  clear HB0 HW0
  obtain ⟨k,hk,rfl,HB,HW⟩:=hrel
  by_cases hlt:k < n
  ·have hkl:k < l.length:=by rw [HN.out];exact hlt
   have hks:k < (kindsF l).length:=by rw [HKN.out];exact hlt
   obtain ⟨b,o,rfl,hbl⟩:=HR.out.form (by rw [sxs_len];omega)
   obtain ⟨c1,c2,c3⟩:=Rd_sx (HR.out.below HW.out) hkl
   have HC:=Lib.hid (fun (v:World) (hv:Laid v)=>kindOf_any l[k].t (txt l[k]) rfl v hv (by have:=txt_len (List.getElem_mem hkl);have:=HT.out;omega))
   have HMX:=Lib.hid (mixK_next hks)
   rw [kinds_get hkl] at HMX
   generalize kindF (txt l[k])=kd at HC HMX
   generalize l[k].t=x at c1 HC
   generalize l[k].a=y1 at c2
   generalize l[k].e=y2 at c3
   have hbw:b < wr.heap.size:=by have:=HW.out.size;omega
   have hww:w.heap.size≤wr.heap.size:=HW.out.size
   clear hkl hks
   go_wp2_with fail
   obtain ⟨w1,hw1⟩:∃w1,w1=wr.alloc (.cells #[.string x,.int .i64 y1,.int .i64 y2] 48):=⟨_,rfl⟩
   have HB1:=Lib.hid (show Blk w1 g 61 (k8 (mixK (kindsF l) k)) by rw [hw1];exact HB.out.alloc _)
   have HW1:=Lib.hid (show Below w.heap.size w w1 by rw [hw1];exact HW.out.alloc hww _)
   rw [←hw1]
   clear hw1 HB HW c1 c2 c3
   refine (HC.out w1 (HL.out.next HW1.out)).mono ?_
   rintro e w2 ⟨rfl,hb2⟩
   have HB2:=Lib.hid (HB1.out.below hb2 HB1.out.lt)
   have HW2:=Lib.hid (HW1.out.trans (hb2.mono HW1.out.size))
   obtain ⟨z,hz⟩:∃z,w2.cell? ⟨g,k,none⟩=some z:=by
    rw [HB2.out.cell k,List.getElem?_eq_getElem (by rw [k8_len,mixK_len _ _ (by rw [HKN.out];omega),HKN.out];exact hlt)]
    exact ⟨_,rfl⟩
   have hf:=HB2.out.frozen k
   have hgw:w.heap.size≤g:=Nat.le_of_eq HG.out.symm
   clear hb2 HB1 HW1
   go_wp2_with fail
   have HB3:=Lib.hid (show Blk (w2.setCell ⟨g,k,none⟩ (.int .u8 kd)) g 61 (k8 (mixK (kindsF l) (k+1))) by rw [←HMX.out];exact HB2.out.set_ k _)
   have HW3:=Lib.hid (HW2.out.setCell (p:=⟨g,k,none⟩) hgw (.int .u8 kd))
   go_roundw
   case rel=>exact ⟨k+1,by omega,by go_num,HB3,HW3⟩
   case measure=>simp [intOf];omega
  ·have hkn:k=(kindsF l).length:=by rw [HKN.out];omega
   rw [hkn,mixK_end] at HB
   go_wp2_with fail
   go_ret
   exact ⟨g,rfl,HB.out,HW.out⟩
theorem get_D {ks:List Int} {i:Nat} (h:i < ks.length):ks.getD i 0=ks[i]:=by simp [List.getD_eq_getElem?_getD,List.getElem?_eq_getElem h]
set_option maxHeartbeats 8000000 in
theorem between_any (A:Option Addr) (ks:List Int) (n c i:Nat) (kd:Int) (w:World) (hr:Rd w w.heap.size A (k8 ks)) (hn:ks.length=n) (hi:i < n) (hsm:n≤4294967296) :
  Calls Tryz.prog 30 #[.slice A n c,.int .i64 i,.int .u8 kd] w (Ret w (.bool (decide (0 < i∧i+1 < n) && (ks.getD (i - 1) 0 == kd && ks.getD (i+1) 0 == kd)))):=by
 obtain ⟨b,o,rfl,hbl⟩:=hr.form (by rw [k8_len];omega)
 by_cases h0:0 < i
 ·by_cases h1:i+1 < n
  ·rw [decide_eq_true ⟨h0,h1⟩,Bool.true_and,get_D (by omega),get_D (by omega)]
   have c1:=Rd_k8 hr (k:=i - 1) (by omega)
   have c2:=Rd_k8 hr (k:=i+1) (by omega)
   have d1:decide ((0:Int) < (i:Int))=true:=decide_eq_true (by omega)
   have d2:decide (((i:Int)+1) < (n:Int))=true:=decide_eq_true (by omega)
   have ht:((i:Int) - 1).toNat=i - 1:=by omega
   have ht1:((i:Int)+1).toNat=i+1:=by omega
   generalize ks[i - 1]=x1 at c1 ⊢
   generalize ks[i+1]=x2 at c2 ⊢
   clear hr
   by_cases hx:x1=kd
   ·have e1:(x1 == kd)=true:=by simpa using hx
    rw [e1,Bool.true_and]
    clear hx
    go_enter Tryz.func30,Tryz.ntmps30
    go_wp2_with fail
    go_ret
    exact ⟨rfl,Below.refl _ _⟩
   ·have e1:(x1 == kd)=false:=by simpa using hx
    rw [e1,Bool.false_and]
    clear hx
    go_enter Tryz.func30,Tryz.ntmps30
    go_wp2_with fail
    go_ret
    exact ⟨rfl,Below.refl _ _⟩
  ·rw [decide_eq_false (show ¬(0 < i∧i+1 < n) by omega),Bool.false_and]
   have d1:decide ((0:Int) < (i:Int))=true:=decide_eq_true (by omega)
   have d2:decide (((i:Int)+1) < (n:Int))=false:=decide_eq_false (by omega)
   clear hr
   go_enter Tryz.func30,Tryz.ntmps30
   go_wp2_with fail
   go_ret
   exact ⟨rfl,Below.refl _ _⟩
 ·rw [decide_eq_false (show ¬(0 < i∧i+1 < n) by omega),Bool.false_and]
  have d1:decide ((0:Int) < (i:Int))=false:=decide_eq_false (by omega)
  clear hr
  go_enter Tryz.func30,Tryz.ntmps30
  go_wp2_with fail
  go_ret
  exact ⟨rfl,Below.refl _ _⟩
set_option maxHeartbeats 8000000 in
theorem belongs_any (A:Option Addr) (ks:List Int) (n c i:Nat) (w:World) (hr:Rd w w.heap.size A (k8 ks)) (hn:ks.length=n) (hi:i < n) (hsm:n≤4294967296) (hk:0≤ks.getD i 0∧ks.getD i 0≤5) :
  Calls Tryz.prog 16 #[.slice A n c,.int .i64 i] w (Ret w (.bool (inF ks i))):=by
 have HC:=Lib.hid (fun (kd:Int) (u:World) (hu:Rd u u.heap.size A (k8 ks))=>between_any A ks n c i kd u hu hn hi hsm)
 obtain ⟨b,o,rfl,hbl⟩:=hr.form (by rw [k8_len];omega)
 have HR:=Lib.hid hr
 have c1:=Rd_k8 hr (k:=i) (by omega)
 have HI:=Lib.hid (show inF ks i=if ks.getD i 0 > 3 then decide (0 < i∧i+1 < n) && (ks.getD (i - 1) 0 == ks.getD i 0 - 3 && ks.getD (i+1) 0 == ks.getD i 0 - 3) else decide (1≤ks.getD i 0) by rw [←hn];rfl)
 rw [←get_D (by omega)] at c1
 generalize ks.getD i 0=kv at c1 hk HI
 clear hr
 have h6:kv=0∨kv=1∨kv=2∨kv=3∨kv=4∨kv=5:=by omega
 clear hk
 rcases h6 with rfl | rfl | rfl | rfl | rfl | rfl
 ·rw [show inF ks i=false from HI.out.trans (by simp)]
  go_enter Tryz.func16,Tryz.ntmps16
  go_wp2_with fail
  go_ret
  exact ⟨rfl,Below.refl _ _⟩
 ·rw [show inF ks i=true from HI.out.trans (by simp)]
  go_enter Tryz.func16,Tryz.ntmps16
  go_wp2_with fail
  go_ret
  exact ⟨rfl,Below.refl _ _⟩
 ·rw [show inF ks i=true from HI.out.trans (by simp)]
  go_enter Tryz.func16,Tryz.ntmps16
  go_wp2_with fail
  go_ret
  exact ⟨rfl,Below.refl _ _⟩
 ·rw [show inF ks i=true from HI.out.trans (by simp)]
  go_enter Tryz.func16,Tryz.ntmps16
  go_wp2_with fail
  go_ret
  exact ⟨rfl,Below.refl _ _⟩
 ·have HC1:=Lib.hid (HC.out 1 w HR.out)
  rw [show inF ks i=(decide (0 < i∧i+1 < n) && (ks.getD (i - 1) 0 == 1 && ks.getD (i+1) 0 == 1)) from HI.out.trans (by simp)]
  generalize (decide (0 < i∧i+1 < n) && (ks.getD (i - 1) 0 == 1 && ks.getD (i+1) 0 == 1))=q at HC1 ⊢
  go_enter Tryz.func16,Tryz.ntmps16
  go_wp2_with fail
  refine HC1.out.mono ?_
  rintro e w1 ⟨rfl,hb1⟩
  go_wp2_with fail
  go_ret
  exact ⟨rfl,hb1⟩
 ·have HC1:=Lib.hid (HC.out 2 w HR.out)
  rw [show inF ks i=(decide (0 < i∧i+1 < n) && (ks.getD (i - 1) 0 == 2 && ks.getD (i+1) 0 == 2)) from HI.out.trans (by simp)]
  generalize (decide (0 < i∧i+1 < n) && (ks.getD (i - 1) 0 == 2 && ks.getD (i+1) 0 == 2))=q at HC1 ⊢
  go_enter Tryz.func16,Tryz.ntmps16
  go_wp2_with fail
  refine HC1.out.mono ?_
  rintro e w1 ⟨rfl,hb1⟩
  go_wp2_with fail
  go_ret
  exact ⟨rfl,hb1⟩
end Go.Proofs.YtdngaddggcmjgaaGreatDoor.Words
namespace Go.Proofs.YtdngaddggcmjgaaGreatDoor.Words
open Utf hiding infoU8
open Norm Seg
open Ucd hiding same grp
theorem join_len (l:List Sx):(joinF l).length=(runsF (marksF (kindsF l))).length:=List.length_map _
theorem join_le (l:List Sx):(joinF l).length≤l.length:=by
 rw [join_len]
 have h1:=out_len (marksF (kindsF l)) (marksF (kindsF l)).length
 have h2:outF (marksF (kindsF l)) (marksF (kindsF l)).length=runsF (marksF (kindsF l)):=st_end _
 rw [h2,marks_kinds_len] at h1
 exact h1
theorem words_len (lim:Int) (l:List UInt8):(wordsF lim l).length≤l.length:=by
 unfold wordsF
 split
 ·have h1:=join_le ((spS lim l).map up)
  have h2:=split_len lim l
  rw [List.length_map] at h1
  omega
 ·simp
end Go.Proofs.YtdngaddggcmjgaaGreatDoor.Words
