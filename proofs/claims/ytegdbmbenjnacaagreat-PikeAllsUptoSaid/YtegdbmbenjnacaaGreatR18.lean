/-
  Texts of stage 7, part 18.
-/
import Derived.Test.YtegdbmbenjnacaaGreatR17
namespace Go.Proofs.YtegdbmbenjnacaaGreat.Pike
open Go.RowKit Mem
open Sset (St Tx Has3 NmS Short txs ofS ofS_nm OwnS has3_none none_ none_nm mk_toList)
open Syn (Nd nd ndS ndR NV nvs nvs_len nvs_get nvs_snoc nv_one rd_nv nv_form Means ArgN rsign_any)
set_option maxRecDepth 100000
set_option maxHeartbeats 8000000 in
theorem atom_bracket {w0 w:World} {sb n c i k:Nat} {A:Option Addr} {T:List Tx} {d:Nat} {N:List Nd} (hT:Tz w0 A n T) (h:Ps w0 w sb A n c i) (hi:T.getD i []=[40]) (hin:i < n) (hd:d < 32) (hk:T.getD k []=[41]) (hkn:k < n)
  (hc:∀w,Ps w0 w sb A n c (i+1)→Calls Tryz.prog 35 #[.pointer (some ⟨sb,0,none⟩),.int .i64 ((d+1:Nat):Int)] w (Red w0 w sb A n c k N)) :
  Calls Tryz.prog 100 #[.pointer (some ⟨sb,0,none⟩),.int .i64 (d:Int)] w (Red w0 w sb A n c (k+1) N):=by
 have HH:=Lib.hid (fun (u:World) (q:Ps w0 u sb A n c i)=>here_any q hT)
 have HH2:=Lib.hid (fun (u:World) (q:Ps w0 u sb A n c k)=>here_any q hT)
 rw [hi] at HH
 rw [hk] at HH2
 have H:=Lib.hid h;have HC:=Lib.hid hc
 have c1:=h.c1
 have hsm:=hT.sm
 have ew:IntKind.i64.wrap ((i:Int)+1)=(i:Int)+1:=IntWalk.i64_in _ (by omega)
 have ew2:IntKind.i64.wrap ((k:Int)+1)=(k:Int)+1:=IntWalk.i64_in _ (by omega)
 have ew3:IntKind.i64.wrap ((d:Int)+1)=((d+1:Nat):Int):=IntWalk.i64_in _ (by omega)
 have hd3:((d:Int) == 32)=false:=by rw [beq_eq_false_iff_ne];omega
 clear h hT hi hk hc
 go_enter Tryz.func100,Tryz.ntmps100
 go_wp2_with fail
 go_quiet (first | (go_at_call 63;exact Calls.quiet_of (HH.out _ (H.out.next (below_drewN (Below.refl _ _) _)))))
 obtain ⟨p1,p2⟩:=(H.out.next (below_drewN (Below.refl _ _) nq)).go (i+1)
 have q1:=H.out.c1;have f1:=H.out.fr 1
 obtain ⟨u5,hu5⟩:∃u5,u5=(w.drewN nq).setCell ⟨sb,1,none⟩ (.int .i64 ((i+1:Nat):Int)):=⟨_,rfl⟩
 rw [←hu5] at p1 p2
 rw [show ((i+1:Nat):Int)=(i:Int)+1 from rfl] at hu5
 have HU5:=Lib.hid hu5
 have P1:=Lib.hid p1
 have C5:=Lib.hid (drewN_chg p2)
 clear p1 p2 hu5
 go_upto_region 3 with fail
 rw [←HU5.out]
 clear q1 f1 c1
 go_upto_region 10 with (first
  | (go_at_call 35;refine (HC.out _ P1.out).mono ?_;rintro e3 w3 ⟨v3,V3,rfl,m1,m2,m3⟩;have q1:=m2.c1;have f1:=m2.fr 1;have M1:=Lib.hid m1;have M2:=Lib.hid m2;have M3:=Lib.hid (C5.out.trans m3 fun i _ e=>e);clear m1 m2 m3)
  | (go_at_call 63;refine (HH2.out _ M2.out).mono ?_;rintro e4 w4 ⟨rfl,k4,rfl⟩))
 obtain ⟨p1,p2⟩:=(M2.out.next (below_drewN (Below.refl _ _) k4)).go (k+1)
 have N6:=Lib.hid (sts ((M1.out.base C5.out.size).next (below_drewN (Below.refl _ _) k4)) (M2.out.next (below_drewN (Below.refl _ _) k4)) p2)
 have P6:=Lib.hid p1
 have C6:=Lib.hid ((M3.out.and_below (below_drewN (Below.refl _ _) k4)).trans p2 fun i _ e=>e)
 clear p1 p2
 go_wp2_with fail
 go_ret
 exact ⟨_,_,rfl,N6.out,P6.out,C6.out⟩
def atOf (w:World) (sb:Nat):Nat:=match w.cell? ⟨sb,1,none⟩ with
 | some (.int _ n)=>n.toNat
 | _=>0
theorem Ps.at_ {w0 w:World} {sb n c j:Nat} {A:Option Addr} (h:Ps w0 w sb A n c j):atOf w sb=j:=by unfold atOf;rw [h.c1];exact Int.toNat_natCast _
theorem Ps.join {w0 w w':World} {sb n c j B:Nat} {A:Option Addr} {v:Value} {V:List NV} {N:List Nd} (h:Ps w0 w sb A n c j) (hv:Nr w B v V N) (hB:w0.heap.size≤B) (hc:Chg w w' (fun i=>v.ownBlock=some i)):Ps w0 w' sb A n c j :=
 ⟨blk_keep h.blk hc fun e=>own_ne hv.own h.blk (by decide) e,h.le,h.bel.trans (hc.below h.bel.size fun i hi e=>by have:=(hv.own.lt i e).1;omega)⟩
theorem getD_lt {T:List Tx} {i n:Nat} (hn:T.length=n) (h:T.getD i []≠[]):i < n:=by
 rcases Nat.lt_or_ge i n with hl | hl
 ·exact hl
 ·exact absurd (by simp [List.getD,List.getElem?_eq_none (show T.length≤i by omega)]) h
theorem read_acc (T:List Tx):∀(f:Nat) {d i k:Nat} {acc N:List Nd} {j:Nat},(read T f (.row d i (k+1) acc)=some (N,j)→acc.length≤N.length)∧(read T f (.more d i acc)=some (N,j)→acc.length≤N.length)
 | 0,d,i,k,acc,N,j=>by
  refine ⟨fun h=>?_,fun h=>?_⟩
  ·unfold read at h;cases h
  ·unfold read at h;cases h
 | f+1,d,i,k,acc,N,j=>by
  refine ⟨fun h=>?_,fun h=>?_⟩
  ·unfold read at h
   split at h
   ·injection h with h;injection h with h1 h2
    rw [if_neg (by omega)] at h1
    rw [h1];exact Nat.le_refl _
   ·split at h
    ·have:=(read_acc T f).1 h
     rw [List.length_append,List.length_append] at this
     omega
    ·cases h
  ·unfold read at h
   split at h
   ·split at h
    ·have:=(read_acc T f (k:=0)).2 h
     rw [List.length_append,List.length_append] at this
     omega
    ·cases h
   ·injection h with h;injection h with h1 h2
    rw [h1];exact Nat.le_refl _
structure Rw (w0 w wr:World) (sb:Nat) (A:Option Addr) (n c i:Nat) (v:Value) (V:List NV) (N:List Nd):Prop where
 row:Nr wr w.heap.size v V N
 ps:Ps w0 wr sb A n c i
 chg:Chg w wr (fun i=>i=sb)
section
variable {w0 w wr w1 w2:World} {sb n c i l:Nat} {A:Option Addr} {v v1 v2:Value} {V V1:List NV} {N N1:List Nd}
theorem Rw.next (h:Rw w0 w wr sb A n c i v V N) (hb:Below wr.heap.size wr w1):Rw w0 w w1 sb A n c i v V N:=⟨h.row.next hb,h.ps.next hb,h.chg.and_below hb⟩
theorem Rw.moved (h:Rw w0 w wr sb A n c i v V N) (p:Ps w0 w1 sb A n c l) (hc:Chg wr w1 (fun i=>i=sb)):Rw w0 w w1 sb A n c l v V N:=⟨sts h.row h.ps hc,p,h.chg.trans hc fun _ _ e=>e⟩
theorem Rw.apart (h:Rw w0 w wr sb A n c i v V N) (k:Nr w1 wr.heap.size v1 V1 N1):∀i,v1.ownBlock=some i→v.ownBlock≠some i:=fun i hi e=>by
 have:=(h.row.own.lt i e).2
 have:=(k.own.lt i hi).1
 omega
theorem Rw.join (h:Rw w0 w wr sb A n c i v V N) (hw:w0.heap.size≤w.heap.size) (k:Nr w1 w.heap.size v1 V1 N1) (hc:Chg wr w1 (fun i=>v.ownBlock=some i)):Rw w0 w w1 sb A n c i v1 V1 N1 :=
 ⟨k,h.ps.join h.row hw hc,h.chg.trans hc fun i hi e=>by have:=(h.row.own.lt i e).1;omega⟩
theorem Rw.app {wA w6:World} {v6:Value} {x:NV} {y:Nd} {m:Nat} (h:Rw w0 w wr sb A n c i v V N) (hw0:w0.heap.size≤w.heap.size) (hb:Below wr.heap.size wr wA) (hx:Hd wr x y) (hm:N.length=m) (ho:w6.ownsRow w.heap.size 100 6 v6 (m+1) (nvs V++x.row)) (hg:wA.grownBy w6 v.ownBlock):Rw w0 w w6 sb A n c i v6 (V++[x]) (N++[y]):=by
 obtain ⟨h1,h2,h3⟩:=red_app h.row h.ps h.chg hw0 hb hx hm ho hg
 exact ⟨h1,h2,h3⟩
end
theorem read_row {T:List Tx} {f d i k:Nat} {acc N:List Nd} {j:Nat} (h:read T (f+1) (.row d i k acc)=some (N,j)) :
  ((T.getD i []=[]∨T.getD i []=[124]∨T.getD i []=[41])∧N=(if k=0 then [nd 1] else acc)∧j=i) ∨
  (¬(T.getD i []=[]∨T.getD i []=[124]∨T.getD i []=[41])∧∃M l,read T f (.part d i)=some (M,l)∧read T f (.row d l (k+1) (acc++M++(if k=0 then [] else [nd 5])))=some (N,j)):=by
 unfold read at h
 split at h
 ·rename_i hs
  injection h with h;injection h with h1 h2
  exact .inl ⟨hs,h1.symm,h2.symm⟩
 ·rename_i hs
  split at h
  ·rename_i M l hl
   exact .inr ⟨hs,M,l,hl,h⟩
  ·cases h
theorem read_more {T:List Tx} {f d i:Nat} {acc N:List Nd} {j:Nat} (h:read T (f+1) (.more d i acc)=some (N,j)) :
  (T.getD i []≠[124]∧N=acc∧j=i)∨(T.getD i []=[124]∧∃M l,read T f (.row d (i+1) 0 [])=some (M,l)∧read T f (.more d l (acc++M++[nd 6]))=some (N,j)):=by
 unfold read at h
 split at h
 ·rename_i hs
  split at h
  ·rename_i M l hl
   exact .inr ⟨hs,M,l,hl,h⟩
  ·cases h
 ·rename_i hs
  injection h with h;injection h with h1 h2
  exact .inl ⟨hs,h1.symm,h2.symm⟩
set_option maxHeartbeats 16000000 in
theorem row_step {w0 w:World} {sb n c i j F:Nat} {A:Option Addr} {T:List Tx} {d:Nat} {N:List Nd} (hT:Tz w0 A n T) (h:Ps w0 w sb A n c i) (hr:read T F (.row d i 0 [])=some (N,j)) (hN:N.length≤1000000)
  (hp:∀f,f < F→∀i M l,read T f (.part d i)=some (M,l)→M.length≤1000000→i < n→∀w,Ps w0 w sb A n c i→Calls Tryz.prog 86 #[.pointer (some ⟨sb,0,none⟩),.int .i64 (d:Int)] w (Red w0 w sb A n c l M)) :
  Calls Tryz.prog 62 #[.pointer (some ⟨sb,0,none⟩),.int .i64 (d:Int)] w (Red w0 w sb A n c j N):=by
 obtain ⟨i0,hif,hz0,hz1,hz2⟩:=info_parts infoNode
 have HT:=Lib.hid hT;have HR:=Lib.hid hr;have HP:=Lib.hid hp
 have H0:=Lib.hid (show Rw w0 w w sb A n c i (.slice none 0 0) [] [] from ⟨Nr.nil _ _,h,Chg.refl _ _⟩)
 have hsm:=hT.sm
 have hwz:=Lib.hid (show w0.heap.size≤w.heap.size from h.bel.size)
 clear hT h hr hp
 go_enter Tryz.func62,Tryz.ntmps62
 go_wp2_with fail
 go_loopw [5,6] (fun lv kv wr=>∃(f i' k:Nat) (acc:List Nd) (V:List NV),f≤F∧k≤i'∧kv=.int .i64 (k:Int)∧(k=0→acc=[])∧Hid (read T f (.row d i' k acc)=some (N,j))∧Hid (Rw w0 w wr sb A n c i' lv V acc)) (fun _ _ wr=>n+1 - atOf wr sb)
 case atStart=>exact ⟨F,i,0,[],[],Nat.le_refl _,Nat.zero_le _,rfl,fun _=>rfl,HR,H0⟩
 case round =>
  obtain ⟨f,i',k,acc,V,hf,hki,rfl,hk0,J1,J2⟩:=hrel
  clear H0 HR
  cases f with
  | zero=>have h:=J1.out;unfold read at h;cases h
  | succ f =>
   have HH:=Lib.hid (fun (u:World) (q:Ps w0 u sb A n c i')=>here_any q HT.out)
   rcases read_row J1.out with ⟨hs,hNe,hje⟩ | ⟨hs,M,l,hl,hrest⟩
   ·subst hje
    have HNE:=Lib.hid hNe
    clear hNe
    by_cases hk:k=0
    ·subst hk
     have HNE2:=Lib.hid (show N=[nd 1] from HNE.out)
     rcases hs with hs | hs | hs
     all_goals
      rw [hs] at HH
      clear hs
      go_wp2_with (first
       | (go_at_call 63;refine (HH.out _ (J2.out.ps.next (by first | exact Below.refl _ _ | exact below_drewN (Below.refl _ _) _))).mono ?_;rintro e1 w1 ⟨rfl,k1,rfl⟩))
      go_ret
      rw [HNE2.out]
      exact ⟨_,_,rfl,(nr_one (hd_plain _ 1 0 0)).base (by have:=J2.out.chg.size;exact this),J2.out.ps.next ((below_drewN (Below.refl _ _) _).alloc (Nat.le_refl _) _),J2.out.chg.and_below ((below_drewN (Below.refl _ _) _).alloc (Nat.le_refl _) _)⟩
    ·have hk2:((k:Int) == 0)=false:=by rw [beq_eq_false_iff_ne];omega
     have HNE2:=Lib.hid (show N=acc from HNE.out.trans (if_neg hk))
     rcases hs with hs | hs | hs
     all_goals
      rw [hs] at HH
      clear hs
      go_wp2_with (first
       | (go_at_call 63;refine (HH.out _ (J2.out.ps.next (by first | exact Below.refl _ _ | exact below_drewN (Below.refl _ _) _))).mono ?_;rintro e1 w1 ⟨rfl,k1,rfl⟩))
      go_ret
      rw [HNE2.out]
      have J3:=fun q=>J2.out.next (below_drewN (Below.refl _ _) q)
      exact ⟨_,_,rfl,(J3 _).row,(J3 _).ps,(J3 _).chg⟩
   ·have hin:i' < n:=getD_lt HT.out.len fun e=>hs (.inl e)
    have hgo:=read_ge T f _ hl
    have hil:i' < l:=hgo
    have hacc:=(read_acc T f).1 hrest
    rw [List.length_append,List.length_append] at hacc
    have hML:M.length≤1000000:=by omega
    have HPT:=Lib.hid (fun u (q:Ps w0 u sb A n c i')=>HP.out f (by omega) i' M l hl hML hin u q)
    have HPL:=Lib.hid J2.out.ps.at_
    have HRS:=Lib.hid hrest
    have hne:T.getD i' []=[97]∨T.getD i' []=[98]∨T.getD i' []=[42]∨T.getD i' []=[40]:=by
     rcases HT.out.few i' with h | h | h | h | h | h | h
     ·exact absurd (.inl h) hs
     ·exact .inl h
     ·exact .inr (.inl h)
     ·exact absurd (.inr (.inl h)) hs
     ·exact .inr (.inr (.inl h))
     ·exact .inr (.inr (.inr h))
     ·exact absurd (.inr (.inr h)) hs
    clear hs hl hgo hrest
    obtain ⟨qa,hqa⟩:∃q,acc.length=q:=⟨_,rfl⟩
    obtain ⟨qb,hqb⟩:∃q,M.length=q:=⟨_,rfl⟩
    have hown:=J2.out.row.own
    rw [hqa] at hown hacc
    rw [hqb] at hacc hML
    obtain ⟨Aa,ca,rfl,_,_,_⟩:=own_form hown
    have HQA:=Lib.hid hqa;have HQB:=Lib.hid hqb
    have ew:IntKind.i64.wrap ((k:Int)+1)=((k+1:Nat):Int):=IntWalk.i64_in _ (by omega)
    have hqq:qa+qb≤1000000:=by omega
    clear hown hqa hqb
    by_cases hk:k=0
    ·subst hk
     have HRS2:=Lib.hid (show read T f (.row d l 1 (acc++M))=some (N,j) by have:=HRS.out;rw [if_pos rfl,List.append_nil] at this;exact this)
     clear HRS
     rcases hne with hs | hs | hs | hs
     all_goals
      rw [hs] at HH
      clear hs
      go_wp2_with (first
       | (go_at_call 63;refine (HH.out _ (J2.out.ps.next (by first | exact Below.refl _ _ | exact below_drewN (Below.refl _ _) _))).mono ?_;rintro e1 w1 ⟨rfl,k1,rfl⟩)
       | (go_at_call 86;refine (HPT.out _ (J2.out.ps.next (below_drewN (Below.refl _ _) _))).mono ?_;rintro e2 w2 ⟨v2,V2,rfl,m1,m2,m3⟩;have hm1:=m1.own;rw [HQB.out] at hm1;obtain ⟨Ab,cb,rfl,_,_,_⟩:=own_form hm1;have M0:=Lib.hid (J2.out.moved m2 (drewN_chg m3));have M1:=Lib.hid m1;have HJ:=Lib.hid (join2_any M0.out.row m1 (J2.out.apart m1) HQA.out HQB.out (by omega) M0.out.chg.size);clear hm1 m1 m2 m3)
       | (go_at_call 64;refine HJ.out.mono ?_;rintro e3 w3 ⟨v3,rfl,m1,m2,_⟩;have M3:=Lib.hid (M0.out.join hwz.out m1 m2);clear m1 m2))
      go_roundw
      case rel=>exact ⟨f,l,1,acc++M,_,by omega,by omega,by go_num,fun h=>by omega,HRS2,M3⟩
      case measure=>rw [HPL.out,M3.out.ps.at_];omega
    ·have HRS2:=Lib.hid (show read T f (.row d l (k+1) (acc++M++[nd 5]))=some (N,j) by have:=HRS.out;rw [if_neg hk] at this;exact this)
     have hk1:((1:Int)) < ((k+1:Nat):Int):=by omega
     have hk2:decide ((1:Int) < ((k+1:Nat):Int))=true:=decide_eq_true hk1
     have hk3:decide ((1:Int) < (k:Int)+1)=true:=decide_eq_true (by omega)
     clear HRS
     rcases hne with hs | hs | hs | hs
     all_goals
      rw [hs] at HH
      clear hs
      go_wp2_with (first
       | (go_at_call 63;refine (HH.out _ (J2.out.ps.next (by first | exact Below.refl _ _ | exact below_drewN (Below.refl _ _) _))).mono ?_;rintro e1 w1 ⟨rfl,k1,rfl⟩)
       | (go_at_call 86;refine (HPT.out _ (J2.out.ps.next (below_drewN (Below.refl _ _) _))).mono ?_;rintro e2 w2 ⟨v2,V2,rfl,m1,m2,m3⟩;have hm1:=m1.own;rw [HQB.out] at hm1;obtain ⟨Ab,cb,rfl,_,_,_⟩:=own_form hm1;have M0:=Lib.hid (J2.out.moved m2 (drewN_chg m3));have M1:=Lib.hid m1;have HJ:=Lib.hid (join2_any M0.out.row m1 (J2.out.apart m1) HQA.out HQB.out (by omega) M0.out.chg.size);clear hm1 m1 m2 m3)
       | (go_at_call 64;refine HJ.out.mono ?_;rintro e3 w3 ⟨v3,rfl,m1,m2,_⟩;have M3:=Lib.hid (M0.out.join hwz.out m1 m2);have hl3:(acc++M).length=qa+qb:=(by rw [List.length_append,HQA.out,HQB.out]);have ho3:=m1.own;rw [hl3] at ho3;generalize hq9:qa+qb=q9 at hl3 ho3 hqq;obtain ⟨A9,c9,rfl,_,_,_⟩:=own_form ho3;have HL3:=Lib.hid hl3;have HO3:=Lib.hid ho3;have HW3:=Lib.hid M3.out.chg.size;clear m1 m2 hl3 ho3 hq9)
       | (at_builtin;refine wpList_append_rd _ rfl (.tmp 29) (.tmp 31) _ rfl w.heap.size 100 i0 _ 6 96 Tryz.underlying43 hif hz0 hz1 hz2 rfl (by decide) (.slice A9 q9 c9) q9 _ rfl (own_below HO3.out ((Below.refl _ _).alloc (Nat.le_refl _) _)) _ (some ⟨w3.heap.size,0,none⟩) 1 1 (pv 5 0 0).row rfl rfl (rd_new w3 _ (pv 5 0 0).row _ rfl) (nv_one (pv 5 0 0)) (by unfold maxLen;omega) (by omega) (by have:=HW3.out;simp;omega) ?_;intro v6 w6 hown6 hgr6 hat6;have M6:=Lib.hid (M3.out.app hwz.out ((Below.refl _ _).alloc (Nat.le_refl _) _) (hd_plain w3 5 0 0) HL3.out hown6 hgr6);clear hown6 hgr6 hat6))
      go_roundw
      case rel=>exact ⟨f,l,k+1,acc++M++[nd 5],_,by omega,by omega,by go_num,fun h=>by omega,HRS2,M6⟩
      case measure=>rw [HPL.out,M6.out.ps.at_];omega
theorem read_choice {T:List Tx} {f d i:Nat} {N:List Nd} {j:Nat} (h:read T (f+1) (.choice d i)=some (N,j)):∃M l,read T f (.row d i 0 [])=some (M,l)∧read T f (.more d l M)=some (N,j):=by
 unfold read at h
 split at h
 ·rename_i M l hl;exact ⟨M,l,hl,h⟩
 ·cases h
theorem Rw.of {w0 w w1:World} {sb n c l:Nat} {A:Option Addr} {v:Value} {V:List NV} {M:List Nd} (h1:Nr w1 w.heap.size v V M) (h2:Ps w0 w1 sb A n c l) (h3:Chg w w1 (fun i=>i=sb)):Rw w0 w w1 sb A n c l v V M:=⟨h1,h2,h3⟩
set_option maxHeartbeats 16000000 in
theorem choice_step {w0 w:World} {sb n c i j F:Nat} {A:Option Addr} {T:List Tx} {d:Nat} {N:List Nd} (hT:Tz w0 A n T) (h:Ps w0 w sb A n c i) (hr:read T F (.choice d i)=some (N,j)) (hN:N.length≤1000000)
  (hp:∀f,f < F→∀i M l,read T f (.row d i 0 [])=some (M,l)→M.length≤1000000→∀w,Ps w0 w sb A n c i→Calls Tryz.prog 62 #[.pointer (some ⟨sb,0,none⟩),.int .i64 (d:Int)] w (Red w0 w sb A n c l M)) :
  Calls Tryz.prog 35 #[.pointer (some ⟨sb,0,none⟩),.int .i64 (d:Int)] w (Red w0 w sb A n c j N):=by
 obtain ⟨i0,hif,hz0,hz1,hz2⟩:=info_parts infoNode
 have HT:=Lib.hid hT;have HP:=Lib.hid hp;have H:=Lib.hid h
 have hsm:=hT.sm
 have hwz:=Lib.hid (show w0.heap.size≤w.heap.size from h.bel.size)
 cases F with
 | zero=>unfold read at hr;cases hr
 | succ F =>
  obtain ⟨M0,l0,hr1,hr2⟩:=read_choice hr
  have HR2:=Lib.hid hr2
  have HROW:=Lib.hid (hp F (Nat.lt_succ_self F) i M0 l0 hr1 (Nat.le_trans ((read_acc T F (k:=0)).2 hr2) hN) w h)
  clear hT hp h hr hr1 hr2
  go_enter Tryz.func35,Tryz.ntmps35
  go_wp2_with (go_at_call 62;refine HROW.out.mono ?_;rintro e1 w1 ⟨v1,V1,rfl,m1,m2,m3⟩;have K1:=Lib.hid (Rw.of m1 m2 m3);clear m1 m2 m3)
  go_loopw [5] (fun lv wr=>∃(f i':Nat) (acc:List Nd) (V:List NV),f≤F∧Hid (read T f (.more d i' acc)=some (N,j))∧Hid (Rw w0 w wr sb A n c i' lv V acc)) (fun _ wr=>n+1 - atOf wr sb)
  case atStart=>exact ⟨F,l0,M0,V1,Nat.le_refl _,HR2,K1⟩
  case round =>
   obtain ⟨f,i',acc,V,hf,J1,J2⟩:=hrel
   clear K1 HR2 HROW
   cases f with
   | zero=>have h:=J1.out;unfold read at h;cases h
   | succ f =>
    have HH:=Lib.hid (here_any J2.out.ps HT.out)
    rcases read_more J1.out with ⟨hs,hNe,hje⟩ | ⟨hs,M,l,hl,hrest⟩
    ·subst hje
     have HNE:=Lib.hid hNe
     have hne:T.getD j []=[]∨T.getD j []=[97]∨T.getD j []=[98]∨T.getD j []=[42]∨T.getD j []=[40]∨T.getD j []=[41]:=by
      rcases HT.out.few j with h | h | h | h | h | h | h
      ·exact .inl h
      ·exact .inr (.inl h)
      ·exact .inr (.inr (.inl h))
      ·exact absurd h hs
      ·exact .inr (.inr (.inr (.inl h)))
      ·exact .inr (.inr (.inr (.inr (.inl h))))
      ·exact .inr (.inr (.inr (.inr (.inr h))))
     clear hNe hs
     rcases hne with hs | hs | hs | hs | hs | hs
     all_goals
      rw [hs] at HH
      clear hs
      go_wp2_with (first
       | (go_at_call 63;refine HH.out.mono ?_;rintro e1 w1 ⟨rfl,k1,rfl⟩))
      go_ret
      rw [HNE.out]
      have J3:=fun q=>J2.out.next (below_drewN (Below.refl _ _) q)
      exact ⟨_,_,rfl,(J3 _).row,(J3 _).ps,(J3 _).chg⟩
    ·have hin:i' < n:=getD_lt HT.out.len fun e=>by rw [hs] at e;cases e
     have hgo:=read_ge T f _ hl
     have hil:i'+1≤l:=hgo
     have hacc:=(read_acc T f (k:=0)).2 hrest
     rw [List.length_append,List.length_append] at hacc
     have hML:M.length≤1000000:=by omega
     have HPT:=Lib.hid (fun u (q:Ps w0 u sb A n c (i'+1))=>HP.out f (by omega) (i'+1) M l hl hML u q)
     have HPL:=Lib.hid J2.out.ps.at_
     have HRS2:=Lib.hid hrest
     rw [hs] at HH
     obtain ⟨qa,hqa⟩:∃q,acc.length=q:=⟨_,rfl⟩
     obtain ⟨qb,hqb⟩:∃q,M.length=q:=⟨_,rfl⟩
     have hown:=J2.out.row.own
     rw [hqa] at hown hacc
     rw [hqb] at hacc hML
     obtain ⟨Aa,ca,rfl,_,_,_⟩:=own_form hown
     have HQA:=Lib.hid hqa;have HQB:=Lib.hid hqb
     have ew:IntKind.i64.wrap ((i':Int)+1)=(i':Int)+1:=IntWalk.i64_in _ (by omega)
     have hqq:qa+qb≤1000000:=by omega
     have q1:=J2.out.ps.c1;have f1:=J2.out.ps.fr 1
     clear hs hl hgo hrest hown hqa hqb
     go_upto_region 4 with (go_at_call 63;refine HH.out.mono ?_;rintro e1 w1 ⟨rfl,k1,rfl⟩)
     have J3:=J2.out.next (below_drewN (Below.refl _ _) k1)
     obtain ⟨p1,p2⟩:=J3.ps.go (i'+1)
     obtain ⟨u5,hu5⟩:∃u5,u5=(wr.drewN k1).setCell ⟨sb,1,none⟩ (.int .i64 ((i'+1:Nat):Int)):=⟨_,rfl⟩
     rw [←hu5] at p1 p2
     rw [show ((i'+1:Nat):Int)=(i':Int)+1 from rfl] at hu5
     rw [←hu5]
     have J5:=Lib.hid (J3.moved p1 p2)
     clear p1 p2 hu5 J3 q1 f1 ew
     go_wp2_with (first
      | (go_at_call 62;refine (HPT.out _ J5.out.ps).mono ?_;rintro e2 w2 ⟨v2,V2,rfl,m1,m2,m3⟩;have hm1:=m1.own;rw [HQB.out] at hm1;obtain ⟨Ab,cb,rfl,_,_,_⟩:=own_form hm1;have M0:=Lib.hid (J5.out.moved m2 m3);have M1:=Lib.hid m1;have HJ:=Lib.hid (join2_any M0.out.row m1 (J5.out.apart m1) HQA.out HQB.out (by omega) M0.out.chg.size);clear hm1 m1 m2 m3)
      | (go_at_call 64;refine HJ.out.mono ?_;rintro e3 w3 ⟨v3,rfl,m1,m2,_⟩;have M3:=Lib.hid (M0.out.join hwz.out m1 m2);have hl3:(acc++M).length=qa+qb:=(by rw [List.length_append,HQA.out,HQB.out]);have ho3:=m1.own;rw [hl3] at ho3;generalize hq9:qa+qb=q9 at hl3 ho3 hqq;obtain ⟨A9,c9,rfl,_,_,_⟩:=own_form ho3;have HL3:=Lib.hid hl3;have HO3:=Lib.hid ho3;have HW3:=Lib.hid M3.out.chg.size;clear m1 m2 hl3 ho3 hq9)
      | (at_builtin;refine wpList_append_rd _ rfl (.tmp 24) (.tmp 26) _ rfl w.heap.size 100 i0 _ 6 96 Tryz.underlying43 hif hz0 hz1 hz2 rfl (by decide) (.slice A9 q9 c9) q9 _ rfl (own_below HO3.out ((Below.refl _ _).alloc (Nat.le_refl _) _)) _ (some ⟨w3.heap.size,0,none⟩) 1 1 (pv 6 0 0).row rfl rfl (rd_new w3 _ (pv 6 0 0).row _ rfl) (nv_one (pv 6 0 0)) (by unfold maxLen;omega) (by omega) (by have:=HW3.out;simp;omega) ?_;intro v6 w6 hown6 hgr6 hat6;have M6:=Lib.hid (M3.out.app hwz.out ((Below.refl _ _).alloc (Nat.le_refl _) _) (hd_plain w3 6 0 0) HL3.out hown6 hgr6);clear hown6 hgr6 hat6))
     go_roundw
     case rel=>exact ⟨f,l,acc++M++[nd 6],_,by omega,HRS2,M6⟩
     case measure=>rw [HPL.out,M6.out.ps.at_];omega
def Does (w0:World) (sb:Nat) (A:Option Addr) (n c:Nat) (N:List Nd) (j:Nat):Job→Prop
 | .choice d i=>d≤32→∀w,Ps w0 w sb A n c i→Calls Tryz.prog 35 #[.pointer (some ⟨sb,0,none⟩),.int .i64 (d:Int)] w (Red w0 w sb A n c j N)
 | .row d i 0 []=>d≤32→∀w,Ps w0 w sb A n c i→Calls Tryz.prog 62 #[.pointer (some ⟨sb,0,none⟩),.int .i64 (d:Int)] w (Red w0 w sb A n c j N)
 | .part d i=>d≤32→i < n→∀w,Ps w0 w sb A n c i→Calls Tryz.prog 86 #[.pointer (some ⟨sb,0,none⟩),.int .i64 (d:Int)] w (Red w0 w sb A n c j N)
 | .atom d i=>d≤32→i < n→∀w,Ps w0 w sb A n c i→Calls Tryz.prog 100 #[.pointer (some ⟨sb,0,none⟩),.int .i64 (d:Int)] w (Red w0 w sb A n c j N)
 | _=>True
theorem read_part {T:List Tx} {f d i:Nat} {N:List Nd} {j:Nat} (h:read T (f+1) (.part d i)=some (N,j)):∃M l,read T f (.atom d i)=some (M,l)∧N=(if T.getD l []=[42] then M++[ndR 0 (-1)] else M)∧j=(if T.getD l []=[42] then l+1 else l):=by
 unfold read at h
 split at h
 ·rename_i M l hl
  refine ⟨M,l,hl,?_⟩
  split at h
  ·rename_i hs
   injection h with h;injection h with h1 h2
   rw [if_pos hs,if_pos hs];exact ⟨h1.symm,h2.symm⟩
  ·rename_i hs
   injection h with h;injection h with h1 h2
   rw [if_neg hs,if_neg hs];exact ⟨h1.symm,h2.symm⟩
 ·cases h
theorem read_atom {T:List Tx} {f d i:Nat} {N:List Nd} {j:Nat} (h:read T (f+1) (.atom d i)=some (N,j)) :
  (T.getD i []=[40]∧d≠32∧∃k,read T f (.choice (d+1) (i+1))=some (N,k)∧T.getD k []=[41]∧j=k+1)∨((T.getD i []=[97]∨T.getD i []=[98])∧N=[ndS (ofS (T.getD i []))]∧j=i+1):=by
 unfold read at h
 split at h
 ·rename_i hs
  split at h
  ·cases h
  ·rename_i hd
   split at h
   ·rename_i M k hk
    split at h
    ·rename_i hk2
     injection h with h;injection h with h1 h2
     subst h1
     exact .inl ⟨hs,hd,k,hk,hk2,h2.symm⟩
    ·cases h
   ·cases h
 ·split at h
  ·rename_i hs
   injection h with h;injection h with h1 h2
   exact .inr ⟨hs,h1.symm,h2.symm⟩
  ·cases h
theorem read_in {T:List Tx} {n:Nat} (hn:T.length=n):∀(f:Nat) {d i:Nat} {N:List Nd} {j:Nat},read T f (.atom d i)=some (N,j)→j≤n∧(T.getD i []=[97]∨T.getD i []=[98]∨T.getD i []=[40])
 | 0,d,i,N,j,h=>by unfold read at h;cases h
 | f+1,d,i,N,j,h=>by
  rcases read_atom h with ⟨h1,_,k,_,h2,rfl⟩ | ⟨h1,_,rfl⟩
  ·exact ⟨getD_lt hn (by rw [h2];simp),.inr (.inr h1)⟩
  ·refine ⟨getD_lt hn (by rcases h1 with h1 | h1 <;> rw [h1] <;> simp),?_⟩
   rcases h1 with h1 | h1
   ·exact .inl h1
   ·exact .inr (.inl h1)
theorem does_all {w0:World} {sb n c:Nat} {A:Option Addr} {T:List Tx} (hT:Tz w0 A n T) (F:Nat):∀(J:Job) {N:List Nd} {j:Nat},read T F J=some (N,j)→N.length≤1000000→Does w0 sb A n c N j J:=by
 induction F using Nat.strongRecOn with
 | _ F ih =>
  intro J N j hr hN
  cases J with
  | choice d i =>
   intro hd w h
   exact choice_step hT h hr hN fun f hf i M l hl hM w k=>ih f hf (.row d i 0 []) hl hM hd w k
  | more d i acc=>exact trivial
  | row d i k acc =>
   cases k with
   | zero =>
    cases acc with
    | cons x l=>exact trivial
    | nil =>
     intro hd w h
     cases F with
     | zero=>unfold read at hr;cases hr
     | succ F=>exact row_step hT h hr hN fun f hf i M l hl hM hin w k=>ih f hf (.part d i) hl hM hd hin w k
   | succ k=>exact trivial
  | part d i =>
   intro hd hin w h
   cases F with
   | zero=>unfold read at hr;cases hr
   | succ F =>
    obtain ⟨M,l,hl,rfl,rfl⟩:=read_part hr
    obtain ⟨h1,h2⟩:=read_in hT.len F hl
    have hM:M.length≤1000000:=by
     revert hN
     split
     ·rw [List.length_append];intro h;omega
     ·exact id
    exact part_step hT h h2 hM h1 fun w k=>ih F (Nat.lt_succ_self F) (.atom d i) hl hM hd hin w k
  | atom d i =>
   intro hd hin w h
   cases F with
   | zero=>unfold read at hr;cases hr
   | succ F =>
    rcases read_atom hr with ⟨h1,h2,k,h3,h4,rfl⟩ | ⟨h1,rfl,rfl⟩
    ·exact atom_bracket hT h h1 hin (by omega) h4 (getD_lt hT.len (by rw [h4];simp)) fun w q=>ih F (Nat.lt_succ_self F) (.choice (d+1) (i+1)) h3 hN (by omega) w q
    ·exact atom_letter hT h h1 hin
end Go.Proofs.YtegdbmbenjnacaaGreat.Pike
