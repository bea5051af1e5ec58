/-
  Texts of stage 7, part 35.
-/
import Derived.Test.YtkgeiokckfpjlaaGreatDoorM3
import Derived.Test.YtkgeiokckfpjlaaGreatDoorM14
import Derived.Test.YtkgeiokckfpjlaaGreatDoorM16
import Derived.Test.YtkgeiokckfpjlaaGreatDoorM33
import Derived.Test.YtkgeiokckfpjlaaGreatDoorM34
import Derived.Test.YtkgeiokckfpjlaaGreatDoorM36
namespace Go.Proofs.YtkgeiokckfpjlaaGreatDoor.Syn
open Go.RowKit
open Utf (Rd Blk)
open Rset (Ret)
open Sset (St Tx mk_toList)
set_option maxRecDepth 100000
def leftOf (n g:Nat) (w:World):Nat:=match w.cell? ⟨g,1,none⟩ with
 | some (.int _ p)=>n - p.toNat
 | _=>0
theorem left_rs {w:World} {B g d:Nat} {s:Src} {r:List Tx} {st:Stp} (h:RS w B g s r d st):leftOf s.n g w=r.length:=by
 unfold leftOf
 rw [h.c1]
 have:=h.rl
 simp only []
 omega
theorem RS.asc {w:World} {B g d:Nat} {s:Src} {r:List Tx} {st:Stp} (h:RS w B g s r d st):∀c,nth r 0=[c]→c.toNat < 128:=by
 intro c hc
 have hl:0 < r.length:=by
  rcases Nat.eq_zero_or_pos r.length with e | e
  ·rw [List.eq_nil_of_length_eq_zero e] at hc;cases hc
  ·exact e
 obtain ⟨_,_,_,_,ho⟩:=h.text hl
 rw [nth_lt hl] at hc
 exact ho.asc c (by rw [mk_toList];exact hc)
def capOf (l:List Nat):Nat:=l.foldl (fun n d=>min (n*10+d) 65) 0
theorem capOf_snoc (l:List Nat) (d:Nat):capOf (l++[d])=min (capOf l*10+d) 65:=by unfold capOf;rw [List.foldl_append];rfl
theorem cap_from:∀(l:List Nat) (n:Nat),l.foldl (fun n d=>min (n*10+d) 65) (min n 65)=min (l.foldl (fun n d=>n*10+d) n) 65
 | [],_=>rfl
 | d :: l,n=>by
  rw [List.foldl_cons,List.foldl_cons,←cap_from l (n*10+d)]
  congr 1
  omega
theorem cap_eq (l:List Nat):capOf l=min (valOf l) 65:=cap_from l 0
theorem dig_le {t:Tx} {d:Nat} (h:dig t=some d):d≤9:=by
 unfold dig at h
 split at h
 ·rename_i c
  split at h
  ·rename_i hc
   injection h with h
   have:=UInt8.le_iff_toNat_le.1 hc.2
   have e:(57:UInt8).toNat=57:=rfl
   omega
  ·cases h
 ·cases h
theorem digs_none {q:List Tx} (h:dig (nth q 0)=none):digs q=([],q):=by
 cases q with
 | nil=>rfl
 | cons c q =>
  have h:dig c=none:=h
  unfold digs
  rw [h]
theorem digs_some {q:List Tx} {d:Nat} (h:dig (nth q 0)=some d):q≠[]∧digs q=(d :: (digs q.tail).1,(digs q.tail).2):=by
 cases q with
 | nil=>cases h
 | cons c q =>
  have h:dig c=some d:=h
  refine ⟨by simp,?_⟩
  rw [digs,h]
  rfl
theorem dig_zero {c:Tx} {d:Nat} (h:dig c=some d):(c == [48])=decide (d=0):=by
 unfold dig at h
 split at h
 ·rename_i c
  split at h
  ·rename_i hc
   injection h with h
   have:=UInt8.le_iff_toNat_le.1 hc.1
   have e:(48:UInt8).toNat=48:=rfl
   by_cases hd:d=0
   ·have:c=48:=UInt8.toNat_inj.1 (by omega)
    rw [this,decide_eq_true hd];rfl
   ·rw [decide_eq_false hd]
    have:c≠48:=by rintro rfl;exact hd (by rw [←h];rfl)
    simpa using this
  ·cases h
 ·cases h
theorem digs_head {r q:List Tx} {ds:List Nat} (h:digs r=(ds,q)) (hd:ds≠[]):0 < r.length∧(nth r 0 == [48])=decide (ds.head? = some 0):=by
 cases r with
 | nil=>injection h with h1 _;exact absurd h1.symm hd
 | cons c r =>
  refine ⟨by simp,?_⟩
  unfold digs at h
  split at h
  ·rename_i x hx
   injection h with h1 _
   rw [←h1]
   show (c == [48])=_
   rw [dig_zero hx]
   simp
  ·injection h with h1 _;exact absurd h1.symm hd
theorem number_of {r q:List Tx} {ds:List Nat} {m:Nat} (hd:digs r=(ds,q)) (_:m≤64) :
  number m r=if ds=[]∨(ds.head? = some 0∧1 < ds.length)∨capOf ds < m∨64 < capOf ds then bad r else .ok (capOf ds,q):=by
 unfold number
 rw [hd]
 have hc:=cap_eq ds
 by_cases h:ds=[]∨(ds.head? = some 0∧1 < ds.length)∨valOf ds < m∨64 < valOf ds
 ·rw [if_pos h,if_pos]
  rcases h with h | h | h | h
  ·exact .inl h
  ·exact .inr (.inl h)
  ·exact .inr (.inr (.inl (by omega)))
  ·exact .inr (.inr (.inr (by omega)))
 ·rw [if_neg h,if_neg]
  ·simp only [not_or] at h
   have:valOf ds=capOf ds:=by omega
   rw [this]
  ·simp only [not_or] at h ⊢
   exact ⟨h.1,h.2.1,by omega,by omega⟩
structure NumI (w wr:World) (B g:Nat) (s:Src) (r:List Tx) (d:Nat) (st:Stp) (q:List Tx) (ds:List Nat):Prop where
 rs:RS wr B g s q d st
 kpt:Kpt g w wr
 eq:digs r=(ds++(digs q).1,(digs q).2)
 len:r.length=q.length+ds.length
theorem NumI.next {w wr w':World} {B g d:Nat} {s:Src} {r q:List Tx} {st:Stp} {ds:List Nat} (h:NumI w wr B g s r d st q ds) (hb:Below wr.heap.size wr w'):NumI w w' B g s r d st q ds :=
 ⟨h.rs.next hb,h.kpt.next hb,h.eq,h.len⟩
theorem NumI.step {w wr:World} {B g d:Nat} {s:Src} {r q:List Tx} {st:Stp} {ds:List Nat} (h:NumI w wr B g s r d st q ds) {x:Nat} (hx:dig (nth q 0)=some x) {p:Int} (hp:p=((s.n - q.length:Nat):Int)+1) :
  NumI w (wr.setCell ⟨g,1,none⟩ (.int .i64 p)) B g s r d st q.tail (ds++[x]):=by
 obtain ⟨hne,hd⟩:=digs_some hx
 refine ⟨h.rs.adv hne hp,h.kpt.trans (Kpt.put _ _ _ _),?_,?_⟩
 ·rw [h.eq,hd,List.append_assoc];rfl
 ·have:=h.len
  have h2:0 < q.length:=List.length_pos_iff.2 hne
  rw [List.length_append,List.length_tail,List.length_singleton];omega
set_option maxHeartbeats 16000000 in
theorem number_any {B g:Nat} {s:Src} {r:List Tx} {d:Nat} {st:Stp} {w:World} (h:RS w B g s r d st) (m:Nat) (hm:m≤64) :
  Calls Tryz.prog 260 #[.pointer (some ⟨g,0,none⟩),.int .i64 m] w (Says w B g s d st (number m r) QN no):=by
 obtain ⟨N,hN⟩:∃N,N=s.n:=⟨_,rfl⟩
 have H:=Lib.hid h
 have HNN:=Lib.hid hN
 have HR:=Lib.hid h.rl
 obtain ⟨p,hp,hp4,c1,_⟩:=h.c1p
 have HP:=Lib.hid hp
 have HI0:=Lib.hid (show NumI w w B g s r d st r [] from ⟨h,Kpt.refl g w,rfl,rfl⟩)
 clear h hp hN
 go_enter Tryz.func260,Tryz.ntmps260
 go_wp2_with fail
 go_loopw [6] (fun vn wr=>∃k:Nat,k≤65∧vn=.int .i64 k∧Hid (∃q ds,NumI w wr B g s r d st q ds∧k=capOf ds)) (fun _ wr=>leftOf N g wr)
 case atStart=>exact ⟨0,by omega,rfl,Lib.hid ⟨r,[],HI0.out,rfl⟩⟩
 case round =>
  obtain ⟨k,hk,rfl,HI⟩:=hrel
  obtain ⟨q,ds,hI,hkd⟩:=HI.out
  have HQ:=Lib.hid hI
  have HK:=Lib.hid hkd
  have HL:=Lib.hid (show leftOf N g wr=q.length by rw [HNN.out];exact left_rs hI.rs)
  clear HI hI hkd HI0
  go_wp2_with fail
  refine (next_any HQ.out.rs).mono ?_
  rintro e w1 ⟨rfl,hb1⟩
  have H1:=Lib.hid (HQ.out.next hb1)
  clear hb1
  go_wp2_with fail
  refine (digit10_any H1.out.rs.asc w1).mono ?_
  rintro e w2 ⟨rfl,hb2⟩
  have H2:=Lib.hid (H1.out.next hb2)
  clear hb2 H1
  cases hd:dig (nth q 0) with
  | none =>
   have HE:=Lib.hid (show digs r=(ds,q) by rw [HQ.out.eq,digs_none hd,List.append_nil])
   have hz:optI none=-1:=rfl
   rw [hz]
   clear hz
   obtain ⟨p1,hp1,hp5,c1,f1⟩:=H2.out.rs.c1p
   obtain ⟨L,hL⟩:∃L,L=ds.length:=⟨_,rfl⟩
   have hsub:(p1:Int) - (p:Int)=(L:Int):=by
    have:=HQ.out.len;have:=HR.out;have:=HP.out
    omega
   have HNO:=Lib.hid (number_of HE.out hm)
   rw [←HK.out,←hL] at HNO
   have HL2:=Lib.hid hL
   have HLT:=Lib.hid H.out.lt
   have HRB:=Lib.hid (refuse_any (.pointer (some ⟨g,0,none⟩)) g p s r.length w2 HP.out)
   have HBAD:=Lib.hid (show (ds=[]∨ds.head? = some 0∧1 < L∨k < m∨64 < k)→∀w3,Below g w2 w3→Says w B g s d st (number m r) QN no (.panicked [{ v:=refu ((s.n - r.length:Nat):Int) (2:Nat),recovered:=false }]) w3 from fun hb w3 h3 =>
    Says.err (by rw [HNO.out,if_pos hb];rfl) rfl rfl ((H2.out.kpt.below (Nat.le_of_lt HLT.out)).trans h3))
   have HGOOD:=Lib.hid (show ¬(ds=[]∨ds.head? = some 0∧1 < L∨k < m∨64 < k)→Says w B g s d st (number m r) QN no (.returned (.int .i64 k)) w2 from fun hb =>
    Says.ok (by rw [HNO.out,if_neg hb]) rfl H2.out.rs.addno H2.out.kpt)
   clear hd hp1 hL HNO
   rcases Nat.eq_zero_or_pos L with h0 | h0
   ·subst h0
    have HDS:=Lib.hid (List.eq_nil_of_length_eq_zero HL2.out.symm)
    simp only [Int.natCast_zero] at hsub
    go_wp2_with fail
    refine HRB.out.mono ?_
    rintro e w3 ⟨rfl,hb3⟩
    go_wp2_with fail
    exact ⟨rfl,HBAD.out (.inl HDS.out) _ hb3⟩
   ·have HDS:=Lib.hid (show ds≠[] by intro e;have:=HL2.out;rw [e] at this;simp at this;omega)
    by_cases hL1:L=1
    ·subst hL1
     simp only [Int.natCast_one] at hsub
     clear h0
     by_cases hkm:k < m
     ·have hkm1:(k:Int) < (m:Int):=by omega
      have hkm2:decide ((k:Int) < (m:Int))=true:=decide_eq_true hkm1
      go_wp2_with fail
      refine HRB.out.mono ?_
      rintro e w3 ⟨rfl,hb3⟩
      go_wp2_with fail
      exact ⟨rfl,HBAD.out (.inr (.inr (.inl hkm))) _ hb3⟩
     ·have hkm1:¬(k:Int) < (m:Int):=by omega
      have hkm2:decide ((k:Int) < (m:Int))=false:=decide_eq_false hkm1
      by_cases hk6:64 < k
      ·have hk61:(k:Int) > 64:=by omega
       have hk62:decide ((k:Int) > 64)=true:=decide_eq_true hk61
       go_wp2_with fail
       refine HRB.out.mono ?_
       rintro e w3 ⟨rfl,hb3⟩
       go_wp2_with fail
       exact ⟨rfl,HBAD.out (.inr (.inr (.inr hk6))) _ hb3⟩
      ·have hk61:¬(k:Int) > 64:=by omega
       have hk62:decide ((k:Int) > 64)=false:=decide_eq_false hk61
       go_wp2_with fail
       go_ret
       exact HGOOD.out (by rintro (h | h | h | h);exact HDS.out h;exact absurd h.2 (by omega);exact hkm h;exact hk6 h)
    ·have hL2:(L:Int) > 1:=by omega
     have hL3:decide ((L:Int) > 1)=true:=decide_eq_true hL2
     have hL4:((L:Int) == 0)=false:=by simp;omega
     have hL5:1 < L:=by omega
     obtain ⟨hr0,hy⟩:=digs_head HE.out HDS.out
     obtain ⟨b,o,hA,ht,_⟩:=H2.out.rs.text_of H.out.suf hr0
     have c0:=H2.out.rs.c0
     rw [hA,←HNN.out] at c0
     rw [Nat.add_zero,←HP.out] at ht
     rw [nth_lt hr0] at hy
     have hpN:(p:Int) < (N:Int):=by have:=HNN.out;have:=HP.out;have:=HR.out;omega
     obtain ⟨y,hyy⟩:∃y,y=r[0]:=⟨_,rfl⟩
     rw [←hyy] at ht hy
     have hY:=mk_toList y
     generalize (⟨y.toArray⟩:ByteArray)=Y at ht hY
     obtain ⟨b2,hb2⟩:∃b2,b2=decide (ds.head? = some 0):=⟨_,rfl⟩
     rw [←hb2] at hy
     have HB2:=Lib.hid hb2
     clear hb2 hyy hA h0 hL1
     cases b2 with
     | true =>
      go_wp2_with fail
      refine HRB.out.mono ?_
      rintro e w3 ⟨rfl,hb3⟩
      go_wp2_with fail
      exact ⟨rfl,HBAD.out (.inr (.inl ⟨of_decide_eq_true HB2.out.symm,hL5⟩)) _ hb3⟩
     | false =>
      by_cases hkm:k < m
      ·have hkm1:(k:Int) < (m:Int):=by omega
       have hkm2:decide ((k:Int) < (m:Int))=true:=decide_eq_true hkm1
       go_wp2_with fail
       refine HRB.out.mono ?_
       rintro e w3 ⟨rfl,hb3⟩
       go_wp2_with fail
       exact ⟨rfl,HBAD.out (.inr (.inr (.inl hkm))) _ hb3⟩
      ·have hkm1:¬(k:Int) < (m:Int):=by omega
       have hkm2:decide ((k:Int) < (m:Int))=false:=decide_eq_false hkm1
       by_cases hk6:64 < k
       ·have hk61:(k:Int) > 64:=by omega
        have hk62:decide ((k:Int) > 64)=true:=decide_eq_true hk61
        go_wp2_with fail
        refine HRB.out.mono ?_
        rintro e w3 ⟨rfl,hb3⟩
        go_wp2_with fail
        exact ⟨rfl,HBAD.out (.inr (.inr (.inr hk6))) _ hb3⟩
       ·have hk61:¬(k:Int) > 64:=by omega
        have hk62:decide ((k:Int) > 64)=false:=decide_eq_false hk61
        go_wp2_with fail
        go_ret
        exact HGOOD.out (by rintro (h | h | h | h);exact HDS.out h;exact of_decide_eq_false HB2.out.symm h.1;exact hkm h;exact hk6 h)
  | some x =>
   have hx9:=dig_le hd
   have HD:=Lib.hid hd
   have hz:optI (some x)=(x:Int):=rfl
   rw [hz]
   clear hd hz
   have hx0:(x:Int)≥0:=by omega
   have hx1:decide ((x:Int)≥0)=true:=decide_eq_true hx0
   go_wp2_with fail
   refine (next_any H2.out.rs).mono ?_
   rintro e w3 ⟨rfl,hb3⟩
   have H3:=Lib.hid (H2.out.next hb3)
   clear hb3
   go_wp2_with fail
   refine (digit10_any H3.out.rs.asc w3).mono ?_
   rintro e w4 ⟨rfl,hb4⟩
   have H4:=Lib.hid (H3.out.next hb4)
   clear hb4 H3 H2
   rw [show optI (dig (nth q 0))=(x:Int) by rw [HD.out];rfl]
   obtain ⟨p1,hp1,hp5,c1,f1⟩:=H4.out.rs.c1p
   have HP1:=Lib.hid hp1
   clear hp1
   obtain ⟨k2,hk2⟩:∃k2,k2=min (k*10+x) 65:=⟨_,rfl⟩
   have hk3:k2≤65:=by omega
   have hmn:min ((k:Int)*10+(x:Int)) 65=(k2:Int):=by omega
   have HK2:=Lib.hid (show k2=capOf (ds++[x]) by rw [capOf_snoc,←HK.out];exact hk2)
   clear hk2
   have HZ:=Lib.hid (H4.out.step HD.out (p:=(p1:Int)+1) (by rw [HP1.out]))
   have HM:=Lib.hid (show leftOf N g (w4.setCell ⟨g,1,none⟩ (.int .i64 ((p1:Int)+1))) < leftOf N g wr by
    rw [HL.out,HNN.out,left_rs HZ.out.rs]
    have:=List.length_pos_iff.2 (digs_some HD.out).1
    rw [List.length_tail];omega)
   go_wp2_with fail
   go_roundw
   case rel=>exact ⟨k2,hk3,rfl,Lib.hid ⟨q.tail,ds++[x],HZ.out,HK2.out⟩⟩
   case measure=>exact HM.out
end Go.Proofs.YtkgeiokckfpjlaaGreatDoor.Syn
namespace Go.Proofs.YtkgeiokckfpjlaaGreatDoor.Syn
open Go.RowKit
open Utf (Rd Blk vld valid_any)
open Rset (Ret)
open Sset (St Tx mk_toList)
set_option maxRecDepth 100000
def cpF (r:List Tx):R Nat:=if (hexs 6 r).1=[]∨vld ((hexOf (hexs 6 r).1:Nat):Int)=false then bad r else .ok (hexOf (hexs 6 r).1,(hexs 6 r).2)
theorem hexd_le {t:Tx} {d:Nat} (h:hexd t=some d):d≤15:=by
 unfold hexd at h
 split at h
 ·rename_i c
  have l1:(57:UInt8).toNat=57:=rfl
  have l2:(102:UInt8).toNat=102:=rfl
  have l3:(70:UInt8).toNat=70:=rfl
  split at h
  ·rename_i hc
   injection h with h
   have:=UInt8.le_iff_toNat_le.1 hc.2
   omega
  ·split at h
   ·rename_i hc
    injection h with h
    have:=UInt8.le_iff_toNat_le.1 hc.2
    omega
   ·split at h
    ·rename_i hc
     injection h with h
     have:=UInt8.le_iff_toNat_le.1 hc.2
     omega
    ·cases h
 ·cases h
theorem hexs_none {q:List Tx} (f:Nat) (h:hexd (nth q 0)=none):hexs f q=([],q):=by
 cases f with
 | zero=>rfl
 | succ f =>
  cases q with
  | nil=>rfl
  | cons c q =>
   have h:hexd c=none:=h
   unfold hexs
   rw [h]
theorem hexs_some {q:List Tx} (f:Nat) {d:Nat} (h:hexd (nth q 0)=some d):q≠[]∧hexs (f+1) q=(d :: (hexs f q.tail).1,(hexs f q.tail).2):=by
 cases q with
 | nil=>cases h
 | cons c q =>
  have h:hexd c=some d:=h
  refine ⟨by simp,?_⟩
  rw [hexs,h]
  rfl
theorem hexOf_snoc (l:List Nat) (d:Nat):hexOf (l++[d])=hexOf l*16+d:=by unfold hexOf;rw [List.foldl_append];rfl
theorem hex_from:∀(l:List Nat) (n b:Nat),n < b→(∀d∈l,d≤15)→l.foldl (fun n d=>n*16+d) n < b*16 ^ l.length
 | [],n,b,h,_=>by simpa using h
 | d :: l,n,b,h,hd=>by
  have:=hex_from l (n*16+d) (b*16) (by have:=hd d (by simp);omega) fun x hx=>hd x (by simp [hx])
  rw [List.foldl_cons,List.length_cons,Nat.pow_succ,Nat.mul_comm (16 ^ l.length) 16,←Nat.mul_assoc]
  exact this
theorem hex_lt {l:List Nat} (h:∀d∈l,d≤15):hexOf l < 16 ^ l.length:=by
 have:=hex_from l 0 1 (by omega) h
 rwa [Nat.one_mul] at this
structure CpI (w wr:World) (B g:Nat) (s:Src) (r:List Tx) (d:Nat) (st:Stp) (q:List Tx) (ds:List Nat):Prop where
 rs:RS wr B g s q d st
 kpt:Kpt g w wr
 six:ds.length≤6
 eq:hexs 6 r=(ds++(hexs (6 - ds.length) q).1,(hexs (6 - ds.length) q).2)
 len:r.length=q.length+ds.length
 low:∀x∈ds,x≤15
theorem CpI.next {w wr w':World} {B g d:Nat} {s:Src} {r q:List Tx} {st:Stp} {ds:List Nat} (h:CpI w wr B g s r d st q ds) (hb:Below wr.heap.size wr w'):CpI w w' B g s r d st q ds :=
 ⟨h.rs.next hb,h.kpt.next hb,h.six,h.eq,h.len,h.low⟩
theorem CpI.step {w wr:World} {B g d:Nat} {s:Src} {r q:List Tx} {st:Stp} {ds:List Nat} (h:CpI w wr B g s r d st q ds) (h5:ds.length < 6) {x:Nat} (hx:hexd (nth q 0)=some x) {p:Int} (hp:p=((s.n - q.length:Nat):Int)+1) :
  CpI w (wr.setCell ⟨g,1,none⟩ (.int .i64 p)) B g s r d st q.tail (ds++[x]):=by
 obtain ⟨f,hf⟩:∃f,6 - ds.length=f+1:=⟨5 - ds.length,by omega⟩
 obtain ⟨hne,hd⟩:=hexs_some f hx
 have hl:(ds++[x]).length=ds.length+1:=by simp
 have hf2:6 - (ds++[x]).length=f:=by omega
 refine ⟨h.rs.adv hne hp,h.kpt.trans (Kpt.put _ _ _ _),by omega,?_,?_,fun y hy=>?_⟩
 ·rw [h.eq,hf,hd,hf2,List.append_assoc];rfl
 ·have:=h.len
  have h2:0 < q.length:=List.length_pos_iff.2 hne
  rw [hl,List.length_tail];omega
 ·rcases List.mem_append.1 hy with hy | hy
  ·exact h.low y hy
  ·rw [List.mem_singleton.1 hy];exact hexd_le hx
theorem CpI.n6 {w wr:World} {B g d:Nat} {s:Src} {r q:List Tx} {st:Stp} {ds:List Nat} (h:CpI w wr B g s r d st q ds):hexOf ds≤16777215∧(ds.length < 6→hexOf ds≤1048575):=by
 have h1:=hex_lt h.low
 have e6:(16:Nat) ^ 6=16777216:=rfl
 have e5:(16:Nat) ^ 5=1048576:=rfl
 refine ⟨?_,fun h5=>?_⟩
 ·have:=Nat.pow_le_pow_right (show 0 < 16 by omega) h.six;omega
 ·have:=Nat.pow_le_pow_right (show 0 < 16 by omega) (show ds.length≤5 by omega);omega
theorem CpI.all {w wr:World} {B g d:Nat} {s:Src} {r q:List Tx} {st:Stp} {ds:List Nat} (h:CpI w wr B g s r d st q ds) (hx:ds.length=6∨hexd (nth q 0)=none):hexs 6 r=(ds,q):=by
 rw [h.eq]
 rcases hx with hx | hx
 ·rw [show 6 - ds.length=0 by omega];show (ds++[],q)=_;rw [List.append_nil]
 ·rw [hexs_none _ hx,List.append_nil]
def Q32 (n:Nat) (v:Value) (_:World):Prop:=v=.int .i32 (n:Int)
set_option maxHeartbeats 16000000 in
theorem codePoint_any {B g:Nat} {s:Src} {r:List Tx} {d:Nat} {st:Stp} {w:World} (h:RS w B g s r d st) :
  Calls Tryz.prog 288 #[.pointer (some ⟨g,0,none⟩)] w (Says w B g s d st (cpF r) Q32 no):=by
 obtain ⟨N,hN⟩:∃N,N=s.n:=⟨_,rfl⟩
 have H:=Lib.hid h
 have HNN:=Lib.hid hN
 have HR:=Lib.hid h.rl
 have HLT:=Lib.hid h.lt
 obtain ⟨p,hp,hp4,c1,_⟩:=h.c1p
 have HP:=Lib.hid hp
 have HI0:=Lib.hid (show CpI w w B g s r d st r [] from ⟨h,Kpt.refl g w,by simp,rfl,rfl,fun x hx=>by simp at hx⟩)
 clear h hp hN
 go_enter Tryz.func288,Tryz.ntmps288
 go_wp2_with fail
 go_loopw [4] (fun vn wr=>∃k:Nat,k≤16777215∧vn=.int .i64 k∧Hid (∃q ds,CpI w wr B g s r d st q ds∧k=hexOf ds)) (fun _ wr=>leftOf N g wr)
 case atStart=>exact ⟨0,by omega,rfl,Lib.hid ⟨r,[],HI0.out,rfl⟩⟩
 case round =>
  obtain ⟨k,hk,rfl,HI⟩:=hrel
  obtain ⟨q,ds,hI,hkd⟩:=HI.out
  have HQ:=Lib.hid hI
  have HK:=Lib.hid hkd
  have HL:=Lib.hid (show leftOf N g wr=q.length by rw [HNN.out];exact left_rs hI.rs)
  obtain ⟨p1,hp1,hp5,c1,f1⟩:=hI.rs.c1p
  obtain ⟨L,hLL⟩:∃L,L=ds.length:=⟨_,rfl⟩
  have HL2:=Lib.hid hLL
  have hpp:(p1:Int)=(p:Int)+(L:Int):=by
   have:=hI.len;have:=HR.out;have:=HP.out;have:=hI.rs.rl
   omega
  have HPP:=Lib.hid hpp
  have hL6:L≤6:=by rw [hLL];exact hI.six
  -- what stands behind the digits
  have HEND:=Lib.hid (show (L=6∨hexd (nth q 0)=none)→hexs 6 r=(ds,q) from fun hx=>hI.all (by rw [←hLL];exact hx))
  clear HI hI hkd HI0 hp1 hLL hpp
  have HDS0:=Lib.hid (show 0 < L→ds≠[] by intro h0 e;have:=HL2.out;rw [e] at this;simp at this;omega)
  by_cases h6:L=6
  ·have HDS:=Lib.hid (HDS0.out (by omega))
   have hlt:¬(p1:Int) < (p:Int)+6:=by have:=HPP.out;omega
   have hlt2:decide ((p1:Int) < (p:Int)+6)=false:=decide_eq_false hlt
   have hne:¬(p1:Int)=(p:Int):=by have:=HPP.out;omega
   have hne2:((p1:Int) == (p:Int))=false:=by simpa using hne
   go_wp2_with fail
   have HEX:=Lib.hid (HEND.out (.inl h6))
   have HCP:=Lib.hid (show cpF r=if ds=[]∨vld (k:Int)=false then bad r else .ok (k,q) by unfold cpF;rw [HEX.out,HK.out])
   have HRB:=Lib.hid (refuse_any (.pointer (some ⟨g,0,none⟩)) g p s r.length wr HP.out)
   refine (valid_any _ _).mono ?_
   rintro e w9 ⟨rfl,rfl⟩
   cases hv:vld (k:Int) with
   | true =>
    have HCP2:=Lib.hid (show cpF r=.ok (k,q) by rw [HCP.out,if_neg (by rw [hv];simp;exact HDS.out)])
    clear hv
    go_wp2_with fail
    go_ret
    exact Says.ok HCP2.out rfl HQ.out.rs.addno HQ.out.kpt
   | false =>
    have HCP2:=Lib.hid (show cpF r=.error (r.length,2) by rw [HCP.out,if_pos (.inr hv)];rfl)
    clear hv
    go_wp2_with fail
    refine HRB.out.mono ?_
    rintro e w10 ⟨rfl,hb10⟩
    go_wp2_with fail
    exact ⟨rfl,Says.err HCP2.out rfl rfl ((HQ.out.kpt.below (Nat.le_of_lt HLT.out)).trans hb10)⟩
  ·have hlt:(p1:Int) < (p:Int)+6:=by have:=HPP.out;omega
   have hlt2:decide ((p1:Int) < (p:Int)+6)=true:=decide_eq_true hlt
   go_wp2_with fail
   refine (next_any HQ.out.rs).mono ?_
   rintro e w1 ⟨rfl,hb1⟩
   have H1:=Lib.hid (HQ.out.next hb1)
   clear hb1
   go_wp2_with fail
   refine (digit16_any H1.out.rs.asc w1).mono ?_
   rintro e w2 ⟨rfl,hb2⟩
   have H2:=Lib.hid (H1.out.next hb2)
   clear hb2 H1 c1 f1
   cases hd:hexd (nth q 0) with
   | none =>
    have HD:=Lib.hid hd
    have hz:optI none=-1:=rfl
    rw [hz]
    clear hz hd hlt hlt2
    obtain ⟨p2,hp2,_,c1,f1⟩:=H2.out.rs.c1p
    obtain ⟨p2',hp2',_,c1',_⟩:=HQ.out.rs.c1p
    have hpe:(p2:Int)=(p:Int)+(L:Int):=by
     have:=H2.out.len;have:=HR.out;have:=HP.out;have:=H2.out.rs.rl;have:=HL2.out
     omega
    have HPE:=Lib.hid hpe
    clear hp2 hpe hp2' c1'
    by_cases h0:L=0
    ·have he:(p2:Int)=(p:Int):=by have:=HPE.out;omega
     have he2:((p2:Int) == (p:Int))=true:=by simpa using he
     have HCP2:=Lib.hid (show cpF r=.error (r.length,2) by unfold cpF;rw [HEND.out (.inr HD.out),if_pos (.inl (List.eq_nil_of_length_eq_zero (by rw [←HL2.out];exact h0)))];rfl)
     have HRB:=Lib.hid (refuse_any (.pointer (some ⟨g,0,none⟩)) g p s r.length w2 HP.out)
     obtain rfl:p2=p:=by omega
     clear he he2
     go_wp2_with fail
     refine HRB.out.mono ?_
     rintro e w10 ⟨rfl,hb10⟩
     go_wp2_with fail
     exact ⟨rfl,Says.err HCP2.out rfl rfl ((H2.out.kpt.below (Nat.le_of_lt HLT.out)).trans hb10)⟩
    ·have hne:¬(p2:Int)=(p:Int):=by have:=HPE.out;omega
     have hne2:((p2:Int) == (p:Int))=false:=by simpa using hne
     have HDS:=Lib.hid (HDS0.out (by omega))
     go_wp2_with fail
     have HEX:=Lib.hid (HEND.out (.inr HD.out))
     have HCP:=Lib.hid (show cpF r=if ds=[]∨vld (k:Int)=false then bad r else .ok (k,q) by unfold cpF;rw [HEX.out,HK.out])
     have HRB:=Lib.hid (refuse_any (.pointer (some ⟨g,0,none⟩)) g p s r.length w2 HP.out)
     refine (valid_any _ _).mono ?_
     rintro e w9 ⟨rfl,rfl⟩
     cases hv:vld (k:Int) with
     | true =>
      have HCP2:=Lib.hid (show cpF r=.ok (k,q) by rw [HCP.out,if_neg (by rw [hv];simp;exact HDS.out)])
      clear hv
      go_wp2_with fail
      go_ret
      exact Says.ok HCP2.out rfl H2.out.rs.addno H2.out.kpt
     | false =>
      have HCP2:=Lib.hid (show cpF r=.error (r.length,2) by rw [HCP.out,if_pos (.inr hv)];rfl)
      clear hv
      go_wp2_with fail
      refine HRB.out.mono ?_
      rintro e w10 ⟨rfl,hb10⟩
      go_wp2_with fail
      exact ⟨rfl,Says.err HCP2.out rfl rfl ((H2.out.kpt.below (Nat.le_of_lt HLT.out)).trans hb10)⟩
   | some x =>
    have hx9:=hexd_le hd
    have HD:=Lib.hid hd
    have hz:optI (some x)=(x:Int):=rfl
    rw [hz]
    clear hd hz
    have hx0:(x:Int)≥0:=by omega
    have hx1:decide ((x:Int)≥0)=true:=decide_eq_true hx0
    have HL5:=Lib.hid (show ds.length < 6 by rw [←HL2.out];omega)
    have hk5:k≤1048575:=by rw [HK.out];exact H2.out.n6.2 HL5.out
    go_wp2_with fail
    refine (next_any H2.out.rs).mono ?_
    rintro e w3 ⟨rfl,hb3⟩
    have H3:=Lib.hid (H2.out.next hb3)
    clear hb3
    go_wp2_with fail
    refine (digit16_any H3.out.rs.asc w3).mono ?_
    rintro e w4 ⟨rfl,hb4⟩
    have H4:=Lib.hid (H3.out.next hb4)
    clear hb4 H3 H2
    rw [show optI (hexd (nth q 0))=(x:Int) by rw [HD.out];rfl]
    obtain ⟨p2,hp2,hp6,c1,f1⟩:=H4.out.rs.c1p
    have HP1:=Lib.hid hp2
    clear hp2 hlt hlt2
    obtain ⟨k2,hk2⟩:∃k2,k2=k*16+x:=⟨_,rfl⟩
    have hk3:k2≤16777215:=by omega
    have hmn:(k:Int)*16+(x:Int)=(k2:Int):=by omega
    have HK2:=Lib.hid (show k2=hexOf (ds++[x]) by rw [hexOf_snoc,←HK.out];exact hk2)
    clear hk2
    have HZ:=Lib.hid (H4.out.step HL5.out HD.out (p:=(p2:Int)+1) (by rw [HP1.out]))
    have HM:=Lib.hid (show leftOf N g (w4.setCell ⟨g,1,none⟩ (.int .i64 ((p2:Int)+1))) < leftOf N g wr by
     rw [HL.out,HNN.out,left_rs HZ.out.rs]
     have:=List.length_pos_iff.2 (hexs_some 0 HD.out).1
     rw [List.length_tail];omega)
    go_wp2_with fail
    go_roundw
    case rel=>exact ⟨k2,hk3,rfl,Lib.hid ⟨q.tail,ds++[x],HZ.out,HK2.out⟩⟩
    case measure=>exact HM.out
end Go.Proofs.YtkgeiokckfpjlaaGreatDoor.Syn
namespace Go.Proofs.YtkgeiokckfpjlaaGreatDoor.Syn
open Go.RowKit
open Utf (Rd Blk vld enc nums encode_any)
open Rset (Ret rd_new)
open Sset (St Tx mk_toList)
open Norm (textF)
set_option maxRecDepth 100000
theorem chr_eq (r:List Tx):chrP theE r=thn (want [123] r) fun _ s=>thn (cpF s) fun n q=>thn (want [125] q) fun _ q=>.ok (textF (enc [(n:Int)]),q):=by
 unfold chrP
 cases want [123] r with
 | error p=>rfl
 | ok p =>
  obtain ⟨_,s⟩:=p
  show (match (if (hexs 6 s).1=[] then none else theE.chr (hexOf (hexs 6 s).1)) with
   | none=>bad s
   | some t=>thn (want [125] (hexs 6 s).2) fun _ q=>.ok (t,q))=thn (cpF s) _
  unfold cpF
  by_cases h:(hexs 6 s).1=[]
  ·rw [if_pos h,if_pos (.inl h)];rfl
  ·rw [if_neg h]
   unfold theE
   dsimp only
   cases hv:vld ((hexOf (hexs 6 s).1:Nat):Int) with
   | true=>rw [if_pos rfl,if_neg (by simp [h])];rfl
   | false=>rw [if_neg (by simp),if_pos (.inr rfl)];rfl
set_option maxHeartbeats 4000000 in
theorem numbered_any {B g:Nat} {s:Src} {r:List Tx} {d:Nat} {st:Stp} {w:World} (h:RS w B g s r d st) (hu:isHd r [117]=true) :
  Calls Tryz.prog 259 #[.pointer (some ⟨g,0,none⟩)] w (Says w B g s d st (chrP theE r.tail) QT no):=by
 have HG:=Lib.hid (Nat.le_of_lt h.lt)
 have HW:=Lib.hid (want_any h [117] (by decide))
 have HWX:=Lib.hid (show want [117] r=.ok ((),r.tail) by unfold want;rw [if_pos hu])
 obtain ⟨x,hx⟩:∃x,x=chrP theE r.tail:=⟨_,rfl⟩
 have HX:=Lib.hid (hx.trans (chr_eq r.tail))
 rw [←hx]
 clear h hx
 go_enter Tryz.func259,Tryz.ntmps259
 go_wp2_with fail
 refine HW.out.mono ?_
 rintro e w1 h1
 rw [HWX.out] at h1
 obtain ⟨_,rfl,rfl,hr,hk⟩:=h1
 have H1:=Lib.hid hr.app0;have HK1:=Lib.hid hk
 clear hr hk HW
 go_wp2_with fail
 refine (want_any H1.out [123] (by decide)).mono ?_
 rintro e w2 h2
 rcases h2.split with ⟨_,q,v,hx,rfl,rfl,hr,hk⟩ | ⟨n,k,hx,rfl,hb⟩
 ·have H2:=Lib.hid hr.app0;have HK2:=Lib.hid (HK1.out.trans hk)
  have HX2:=Lib.hid (show x=thn (cpF q) fun n q=>thn (want [125] q) fun _ q=>.ok (textF (enc [(n:Int)]),q) by rw [HX.out,hx];rfl)
  clear h2 hx hr hk HX
  go_wp2_with fail
  refine (codePoint_any H2.out).mono ?_
  rintro e w3 h3
  rcases h3.split with ⟨n,q3,v,hx,rfl,rfl,hr,hk⟩ | ⟨n,k,hx,rfl,hb⟩
  ·have H3:=Lib.hid hr.app0;have HK3:=Lib.hid (HK2.out.trans hk)
   have HX3:=Lib.hid (show x=thn (want [125] q3) fun _ q=>.ok (textF (enc [(n:Int)]),q) by rw [HX2.out,hx];rfl)
   clear h3 hx hr hk HX2
   go_wp2_with fail
   refine (want_any H3.out [125] (by decide)).mono ?_
   rintro e w4 h4
   rcases h4.split with ⟨_,q4,v,hx,rfl,rfl,hr,hk⟩ | ⟨n,k,hx,rfl,hb⟩
   ·have H4:=Lib.hid hr.app0;have HK4:=Lib.hid (HK3.out.trans hk)
    have HX4:=Lib.hid (show x=.ok (textF (enc [(n:Int)]),q4) by rw [HX3.out,hx];rfl)
    clear h4 hx hr hk HX3
    go_wp2_with fail
    obtain ⟨W,hW⟩:∃W,W=w4.alloc (.cells #[.int .i32 (n:Int)] 21):=⟨_,rfl⟩
    have HBW:=Lib.hid (show Below w4.heap.size w4 W by rw [hW];exact (Below.refl _ _).alloc (Nat.le_refl _) _)
    have HRD:=Lib.hid (show Rd W W.heap.size (some ⟨w4.heap.size,0,none⟩) (nums [(n:Int)]) by rw [hW];exact (rd_new w4 21 [.int .i32 (n:Int)] _ rfl).more (by simp))
    rw [←hW]
    refine (encode_any _ [(n:Int)] 1 1 W HRD.out rfl (by omega)).mono ?_
    rintro e w5 ⟨v,rfl,ho,hb5⟩
    obtain ⟨A5,c5,rfl,hc5,hcm5,hr5⟩:=Utf.own_form ho
    have HR5:=Lib.hid hr5
    have HB5:=Lib.hid (HBW.out.trans (hb5.mono HBW.out.size))
    have hl5:(enc [(n:Int)]).length≤4:=by have:=Utf.enc_le [(n:Int)];simpa using this
    have HL5:=Lib.hid (H4.out.next HB5.out).laid
    have HTX:=Lib.hid (Norm.text_any A5 (enc [(n:Int)]) (enc [(n:Int)]).length c5 w5 HL5.out HR5.out rfl hc5 hcm5 (by omega))
    generalize (enc [(n:Int)]).length=m5 at HTX hl5 ⊢
    clear ho hb5 hr5 hW HR5
    go_wp2_with fail
    refine HTX.out.mono ?_
    rintro e w6 ⟨rfl,hb6⟩
    have HB6:=Lib.hid (HB5.out.trans (hb6.mono HB5.out.size))
    clear hb6 HTX
    go_wp2_with fail
    go_ret
    exact Says.ok HX4.out rfl (H4.out.next HB6.out).addno (HK4.out.next HB6.out)
   ·have HX4:=Lib.hid (show x=.error (n,k) by rw [HX3.out,hx];rfl)
    have HB4:=Lib.hid ((HK3.out.below HG.out).trans hb)
    clear h4 hx hb
    go_wp2_with fail
    exact ⟨rfl,Says.err HX4.out rfl rfl HB4.out⟩
  ·have HX3:=Lib.hid (show x=.error (n,k) by rw [HX2.out,hx];rfl)
   have HB3:=Lib.hid ((HK2.out.below HG.out).trans hb)
   clear h3 hx hb
   go_wp2_with fail
   exact ⟨rfl,Says.err HX3.out rfl rfl HB3.out⟩
 ·have HX2:=Lib.hid (show x=.error (n,k) by rw [HX.out,hx];rfl)
  have HB2:=Lib.hid ((HK1.out.below HG.out).trans hb)
  clear h2 hx hb
  go_wp2_with fail
  exact ⟨rfl,Says.err HX2.out rfl rfl HB2.out⟩
theorem letter_eq (r:List Tx):letter theE r=if (nth r 0 == [117])=true then chrP theE r.tail else if (sgn (nth r 0) || (nth r 0 == [45]))=true then .ok (nth r 0,r.tail) else bad r:=by
 cases r with
 | nil=>rfl
 | cons c r =>
  show (if c=[117] then chrP theE r else if (sgn c || decide (c=[45]))=true then Except.ok (c,r) else bad (c :: r))=if (c == [117])=true then chrP theE r else if (sgn c || (c == [45]))=true then .ok (c,r) else bad (c :: r)
  have e1:(c == [117])=true↔c=[117]:=by simp
  have e2:(c == [45])=decide (c=[45]):=by rw [Bool.eq_iff_iff];simp
  rw [e2]
  simp only [e1]
set_option maxHeartbeats 4000000 in
theorem letter_any {B g:Nat} {s:Src} {r:List Tx} {d:Nat} {st:Stp} {w:World} (h:RS w B g s r d st) :
  Calls Tryz.prog 218 #[.pointer (some ⟨g,0,none⟩)] w (Says w B g s d st (letter theE r) QT no):=by
 have HG:=Lib.hid (Nat.le_of_lt h.lt)
 have HN:=Lib.hid (next_any h)
 have H:=Lib.hid h
 obtain ⟨x,hx⟩:∃x,x=letter theE r:=⟨_,rfl⟩
 have HX:=Lib.hid (hx.trans (letter_eq r))
 rw [←hx]
 have HU:=Lib.hid (show (nth r 0 == [117])=isHd r [117] from hd_eq (by decide))
 have HSG:=Lib.hid (fun u=>sign_any (nth r 0) u)
 have HNIL:=Lib.hid (show r=[]→(sgn (nth r 0) || (nth r 0 == [45]))=false by rintro rfl;rfl)
 obtain ⟨y,hy⟩:∃y,y=nth r 0:=⟨_,rfl⟩
 have HY:=Lib.hid hy
 rw [←hy] at HN HX HU HSG HNIL
 have hY:=mk_toList y
 obtain ⟨b1,h1⟩:∃b1,(y == [117])=b1:=⟨_,rfl⟩
 obtain ⟨b2,h2⟩:∃b2,(y == [45])=b2:=⟨_,rfl⟩
 rw [h1] at HX HU
 rw [h2] at HX HNIL
 have HYX:=Lib.hid (show (⟨y.toArray⟩:ByteArray)=⟨y.toArray⟩ from rfl)
 have HQ:=Lib.hid (show QT y (.string ⟨y.toArray⟩) w from rfl)
 generalize hYY:(⟨y.toArray⟩:ByteArray)=Y at hY HN HSG HQ
 have HYY:=Lib.hid hYY
 clear h hx hy hYY HYX
 go_enter Tryz.func218,Tryz.ntmps218
 go_wp2_with fail
 refine HN.out.mono ?_
 rintro e w1 ⟨rfl,hb⟩
 have H1:=Lib.hid (H.out.next hb);have HB1:=Lib.hid hb
 clear hb HN
 cases b1 with
 | true =>
  go_wp2_with fail
  refine (numbered_any H1.out HU.out.symm).mono ?_
  rintro e w2 h2
  rcases h2.split with ⟨t,q,v,hx,rfl,rfl,hr,hk⟩ | ⟨n,k,hx,rfl,hb⟩
  ·have H2:=Lib.hid hr.app0;have HK2:=Lib.hid ((Kpt.of_below HB1.out).trans hk)
   have HX2:=Lib.hid (show x=.ok (t,q) by rw [HX.out,if_pos trivial,hx])
   clear h2 hx hr hk
   go_wp2_with fail
   go_ret
   exact Says.ok HX2.out rfl H2.out.addno HK2.out
  ·have HX2:=Lib.hid (show x=.error (n,k) by rw [HX.out,if_pos trivial,hx])
   have HB2:=Lib.hid ((HB1.out.mono HG.out).trans hb)
   clear h2 hx hb
   go_wp2_with fail
   exact ⟨rfl,Says.err HX2.out rfl rfl HB2.out⟩
 | false =>
  obtain ⟨p,hp,hp4,c1,f1⟩:=H1.out.c1p
  have HP:=Lib.hid hp
  clear hp
  cases b2 with
  | true =>
   have HX2:=Lib.hid (show x=.ok (y,r.tail) by rw [HX.out,if_neg (by simp),Bool.or_true,if_pos rfl])
   have HNE:=Lib.hid (show r≠[] from fun e=>by have:=HNIL.out e;simp at this)
   have HZ:=Lib.hid (H1.out.adv HNE.out (p:=(p:Int)+1) (by rw [HP.out]))
   go_wp2_with fail
   go_ret
   exact Says.ok HX2.out (by rw [←HYY.out];rfl) HZ.out.addno ((Kpt.of_below HB1.out).trans (Kpt.put _ _ _ _))
  | false =>
   go_wp2_with fail
   refine (HSG.out w1).mono ?_
   rintro e w2 ⟨rfl,rfl⟩
   cases hs:sgn y with
   | true =>
    have HX2:=Lib.hid (show x=.ok (y,r.tail) by rw [HX.out,if_neg (by simp),hs,Bool.true_or,if_pos rfl])
    have HNE:=Lib.hid (show r≠[] from fun e=>by have:=HNIL.out e;rw [hs] at this;simp at this)
    have HZ:=Lib.hid (H1.out.adv HNE.out (p:=(p:Int)+1) (by rw [HP.out]))
    clear hs
    go_wp2_with fail
    go_ret
    exact Says.ok HX2.out (by rw [←HYY.out];rfl) HZ.out.addno ((Kpt.of_below HB1.out).trans (Kpt.put _ _ _ _))
   | false =>
    have HX2:=Lib.hid (show x=.error (r.length,2) by rw [HX.out,if_neg (by simp),hs,if_neg (by simp)];rfl)
    have HRB:=Lib.hid (refuse_any (.pointer (some ⟨g,0,none⟩)) g p s r.length w2 HP.out)
    clear hs
    go_wp2_with fail
    refine HRB.out.mono ?_
    rintro e w3 ⟨rfl,hb3⟩
    go_wp2_with fail
    exact ⟨rfl,Says.err HX2.out rfl rfl ((HB1.out.mono HG.out).trans hb3)⟩
end Go.Proofs.YtkgeiokckfpjlaaGreatDoor.Syn
namespace Go.Proofs.YtkgeiokckfpjlaaGreatDoor.Syn
open Go.RowKit
open Utf (Rd Blk)
open Rset (Ret Rg Nm compl rgs not_any nl_nm)
open Sset (St Tx mk_toList ArgR)
open Ucd (nmF rangesF ranges_any named_any)
set_option maxRecDepth 100000
def QR (x:List Rg) (v:Value) (w:World):Prop:=∃A n c,v=.slice A n c∧ArgR w A n x
theorem cat_eq (b:Bool) (r:List Tx):catP theE b r=thn (want [123] r) fun _ s=>match theE.cat b (nth s 0) with
  | none=>bad s
  | some x=>thn (want [125] s.tail) fun _ q=>.ok (x,q):=by
 unfold catP
 cases want [123] r with
 | error p=>rfl
 | ok p =>
  obtain ⟨_,s⟩:=p
  cases s with
  | nil=>rfl
  | cons c t=>rfl
set_option maxHeartbeats 8000000 in
theorem category_any {B g:Nat} {s:Src} {r:List Tx} {d:Nat} {st:Stp} {w:World} (h:RS w B g s r d st) (hc:isCat r=true) :
  Calls Tryz.prog 216 #[.pointer (some ⟨g,0,none⟩)] w (Says w B g s d st (catP theE (isHd r.tail [80]) r.tail.tail) QR no):=by
 have HG:=Lib.hid (Nat.le_of_lt h.lt)
 have hc2:isHd r [92]=true∧r.tail≠[]:=by
  unfold isCat at hc
  rw [Bool.and_eq_true,Bool.or_eq_true] at hc
  refine ⟨hc.1,?_⟩
  rcases hc.2 with h | h <;> exact isHd_ne h
 have HW:=Lib.hid (want_any h [92] (by decide))
 have HWX:=Lib.hid (show want [92] r=.ok ((),r.tail) by unfold want;rw [if_pos hc2.1])
 have HT:=Lib.hid hc2.2
 obtain ⟨b,hb⟩:∃b,b=isHd r.tail [80]:=⟨_,rfl⟩
 have HBB:=Lib.hid hb
 rw [←hb]
 obtain ⟨x,hx⟩:∃x,x=catP theE b r.tail.tail:=⟨_,rfl⟩
 have HX:=Lib.hid (hx.trans (cat_eq b r.tail.tail))
 rw [←hx]
 clear h hx hc hc2 hb
 go_enter Tryz.func216,Tryz.ntmps216
 go_wp2_with fail
 refine HW.out.mono ?_
 rintro e w1 h1
 rw [HWX.out] at h1
 obtain ⟨_,rfl,rfl,hr,hk⟩:=h1
 have H1:=Lib.hid hr.app0;have HK1:=Lib.hid hk
 clear hr hk HW
 go_wp2_with fail
 refine (next_any H1.out).mono ?_
 rintro e w2 ⟨rfl,hb2⟩
 have H2:=Lib.hid (H1.out.next hb2);have HK2:=Lib.hid (HK1.out.next hb2)
 clear hb2
 have hY:=mk_toList (nth r.tail 0)
 have hy:(nth r.tail 0 == [80])=b:=by rw [HBB.out];exact hd_eq (by decide)
 generalize (⟨(nth r.tail 0).toArray⟩:ByteArray)=Y at hY ⊢
 generalize nth r.tail 0=y at hY hy
 obtain ⟨p,hp,hp4,c1,f1⟩:=H2.out.c1p
 have HZ:=Lib.hid (H2.out.adv HT.out (p:=(p:Int)+1) (by rw [hp]))
 have HKZ:=Lib.hid (HK2.out.trans (Kpt.put w2 g 1 (.int .i64 ((p:Int)+1))))
 clear hp
 go_wp2_with fail
 generalize w2.setCell ⟨g,1,none⟩ (.int .i64 ((p:Int)+1))=w3 at HZ HKZ ⊢
 refine (want_any HZ.out [123] (by decide)).mono ?_
 rintro e w4 h4
 rcases h4.split with ⟨_,q,v,hx,rfl,rfl,hr,hk⟩ | ⟨n,k,hx,rfl,hb⟩
 ·have H4:=Lib.hid hr.app0;have HK4:=Lib.hid (HKZ.out.trans hk)
  have HX4:=Lib.hid (show x=match theE.cat b (nth q 0) with
   | none=>bad q
   | some x=>thn (want [125] q.tail) fun _ q=>.ok (x,q) by rw [HX.out,hx];rfl)
  clear h4 hx hr hk HX
  go_wp2_with fail
  refine (next_any H4.out).mono ?_
  rintro e w5 ⟨rfl,hb5⟩
  have H5:=Lib.hid (H4.out.next hb5);have HK5:=Lib.hid (HK4.out.next hb5)
  clear hb5
  have HNM:=Lib.hid (fun u=>named_any ⟨(nth q 0).toArray⟩ u)
  rw [mk_toList] at HNM
  go_wp2_with fail
  refine (HNM.out w5).mono ?_
  rintro e w6 ⟨rfl,rfl⟩
  obtain ⟨c,hcc⟩:∃c,c=(nmF (nth q 0)).1:=⟨_,rfl⟩
  rw [←hcc]
  obtain ⟨p5,hp5,hp54,c15,f15⟩:=H5.out.c1p
  cases hok:(nmF (nth q 0)).2 with
  | false =>
   have HX5:=Lib.hid (show x=.error (q.length,2) by rw [HX4.out,show theE.cat b (nth q 0)=none by unfold theE;dsimp only;rw [if_neg (by rw [hok];simp)]];rfl)
   have HRB:=Lib.hid (refuse_any (.pointer (some ⟨g,0,none⟩)) g p5 s q.length w5 hp5)
   clear hok hcc hp5
   go_wp2_with fail
   refine HRB.out.mono ?_
   rintro e w7 ⟨rfl,hb7⟩
   go_wp2_with fail
   exact ⟨rfl,Says.err HX5.out rfl rfl ((HK5.out.below HG.out).trans hb7)⟩
  | true =>
   obtain ⟨hnm,hlen⟩:=ranges_ok _ hok
   rw [←hcc] at hnm hlen
   have HNMR:=Lib.hid hnm;have HLN:=Lib.hid hlen
   have HX5:=Lib.hid (show x=thn (want [125] q.tail) fun _ q=>.ok ((if b then compl (rangesF c) else rangesF c),q) by rw [HX4.out,show theE.cat b (nth q 0)=some (if b then compl (rangesF c) else rangesF c) by unfold theE;dsimp only;rw [if_pos hok,hcc]])
   have HNE:=Lib.hid (show q≠[] by rintro rfl;cases hok)
   have HZ5:=Lib.hid (H5.out.adv HNE.out (p:=(p5:Int)+1) (by rw [hp5]))
   have HKZ5:=Lib.hid (HK5.out.trans (Kpt.put w5 g 1 (.int .i64 ((p5:Int)+1))))
   clear hok hcc hp5 hnm hlen HX4
   go_wp2_with fail
   generalize w5.setCell ⟨g,1,none⟩ (.int .i64 ((p5:Int)+1))=w7 at HZ5 HKZ5 ⊢
   refine (want_any HZ5.out [125] (by decide)).mono ?_
   rintro e w8 h8
   rcases h8.split with ⟨_,q8,v,hx,rfl,rfl,hr,hk⟩ | ⟨n,k,hx,rfl,hb⟩
   ·have H8:=Lib.hid hr.app0;have HK8:=Lib.hid (HKZ5.out.trans hk)
    have HX8:=Lib.hid (show x=.ok ((if b then compl (rangesF c) else rangesF c),q8) by rw [HX5.out,hx];rfl)
    clear h8 hx hr hk
    cases b with
    | true =>
     go_wp2_with fail
     refine (ranges_any c w8 H8.out.laid).mono ?_
     rintro e w9 ⟨v,rfl,ho,hb9⟩
     rw [cR_rgs] at ho
     obtain ⟨A9,c9,rfl,_,_,hr9⟩:=Rset.own_form ho
     have H9:=Lib.hid (H8.out.next hb9);have HK9:=Lib.hid (HK8.out.next hb9)
     have HN9:=Lib.hid (not_any A9 (rangesF c) (rangesF c).length c9 w9 hr9 rfl HNMR.out.fit (by have:=HLN.out;omega))
     generalize (rangesF c).length=m9 at HN9 ⊢
     clear ho hb9 hr9
     go_wp2_with fail
     refine HN9.out.mono ?_
     rintro e w10 h10
     obtain ⟨v,rfl,ho,hb10⟩:=h10
     obtain ⟨A,cc,rfl,ha⟩:=Sset.argR_own ho rfl (nl_nm _)
     have HA:=Lib.hid ha
     have H10:=Lib.hid (H9.out.next hb10);have HK10:=Lib.hid (HK9.out.next hb10)
     clear ho hb10 ha
     go_wp2_with fail
     go_ret
     exact Says.ok (a:=compl (rangesF c)) HX8.out ⟨A,_,cc,rfl,HA.out⟩ H10.out.addno HK10.out
    | false =>
     go_wp2_with fail
     refine (ranges_any c w8 H8.out.laid).mono ?_
     rintro e w9 ⟨v,rfl,ho,hb9⟩
     rw [cR_rgs] at ho
     obtain ⟨A9,c9,rfl,ha⟩:=Sset.argR_own ho rfl HNMR.out
     have HA:=Lib.hid ha
     have H9:=Lib.hid (H8.out.next hb9);have HK9:=Lib.hid (HK8.out.next hb9)
     clear ho hb9 ha
     go_wp2_with fail
     go_ret
     exact Says.ok (a:=rangesF c) HX8.out ⟨A9,_,c9,rfl,HA.out⟩ H9.out.addno HK9.out
   ·have HX8:=Lib.hid (show x=.error (n,k) by rw [HX5.out,hx];rfl)
    have HB8:=Lib.hid ((HKZ5.out.below HG.out).trans hb)
    clear h8 hx hb
    go_wp2_with fail
    exact ⟨rfl,Says.err HX8.out rfl rfl HB8.out⟩
 ·have HX4:=Lib.hid (show x=.error (n,k) by rw [HX.out,hx];rfl)
  have HB4:=Lib.hid ((HKZ.out.below HG.out).trans hb)
  clear h4 hx hb
  go_wp2_with fail
  exact ⟨rfl,Says.err HX4.out rfl rfl HB4.out⟩
end Go.Proofs.YtkgeiokckfpjlaaGreatDoor.Syn
namespace Go.Proofs.YtkgeiokckfpjlaaGreatDoor.Syn
open Go.RowKit
open Utf (Rd Blk nums)
open Rset (Ret Rg)
open Sset (St Tx mk_toList)
open Norm (runes_any runesF)
set_option maxRecDepth 100000
theorem one_eq (r:List Tx) (h:r≠[]→nth r 0≠[]):one theE r=if isHd r [92]=true then letter theE r.tail else if ((nth r 0 == []) || (nth r 0 == [91]) || (nth r 0 == [93]) || (nth r 0 == [45]))=true then bad r else .ok (nth r 0,r.tail):=by
 cases r with
 | nil=>rfl
 | cons c r =>
  have h:c≠[]:=h (by simp)
  have h0:(c == [])=false:=by simpa using h
  have hh:isHd (c :: r) [92]=true↔c=[92]:=by unfold isHd;simp
  show (if c=[91]∨c=[93]∨c=[45] then bad (c :: r) else if c=[92] then letter theE r else .ok (c,r))=if isHd (c :: r) [92]=true then letter theE r else if ((c == []) || (c == [91]) || (c == [93]) || (c == [45]))=true then bad (c :: r) else .ok (c,r)
  rw [h0]
  by_cases h92:c=[92]
  ·subst h92;rfl
  ·rw [if_neg h92,if_neg (fun e=>h92 (hh.1 e))]
   have e1:((false || c == [91] || c == [93] || c == [45])=true)↔(c=[91]∨c=[93]∨c=[45]):=by simp [or_assoc]
   simp only [e1]
set_option maxHeartbeats 8000000 in
theorem one_any {B g:Nat} {s:Src} {r:List Tx} {d:Nat} {st:Stp} {w:World} (h:RS w B g s r d st) :
  Calls Tryz.prog 281 #[.pointer (some ⟨g,0,none⟩)] w (Says w B g s d st (one theE r) QT no):=by
 have HG:=Lib.hid (Nat.le_of_lt h.lt)
 have H:=Lib.hid h
 obtain ⟨x,hx⟩:∃x,x=one theE r:=⟨_,rfl⟩
 have HX:=Lib.hid (hx.trans (one_eq r h.hd_some))
 rw [←hx]
 clear h hx
 go_enter Tryz.func281,Tryz.ntmps281
 by_cases h92:isHd r [92]=true
 ·have HX1:=Lib.hid (show x=letter theE r.tail by rw [HX.out,if_pos h92])
  go_wp2_with fail
  refine (skip_yes H.out [92] h92).mono ?_
  rintro e w1 ⟨rfl,hr,hk⟩
  have H1:=Lib.hid hr;have HK1:=Lib.hid hk
  clear hr hk
  go_wp2_with fail
  refine (letter_any H1.out).mono ?_
  rintro e w2 h2
  rcases h2.split with ⟨t,q,v,hx,rfl,rfl,hr,hk⟩ | ⟨n,k,hx,rfl,hb⟩
  ·have H2:=Lib.hid hr.app0;have HK2:=Lib.hid (HK1.out.trans hk)
   have HX2:=Lib.hid (show x=.ok (t,q) by rw [HX1.out,hx])
   clear h2 hx hr hk
   go_wp2_with fail
   go_ret
   exact Says.ok HX2.out rfl H2.out.addno HK2.out
  ·have HX2:=Lib.hid (show x=.error (n,k) by rw [HX1.out,hx])
   have HB2:=Lib.hid ((HK1.out.below HG.out).trans hb)
   clear h2 hx hb
   go_wp2_with fail
   exact ⟨rfl,Says.err HX2.out rfl rfl HB2.out⟩
 ·rw [Bool.not_eq_true] at h92
  go_wp2_with fail
  refine (skip_no H.out [92] h92 (by decide)).mono ?_
  rintro e w1 ⟨rfl,hr,hb⟩
  have H1:=Lib.hid hr;have HB1:=Lib.hid hb
  clear hr hb
  go_wp2_with fail
  refine (next_any H1.out).mono ?_
  rintro e w2 ⟨rfl,hb2⟩
  have H2:=Lib.hid (H1.out.next hb2);have HB2:=Lib.hid (HB1.out.trans (hb2.mono HB1.out.size))
  clear hb2
  have HX2:=Lib.hid (show x=if ((nth r 0 == []) || (nth r 0 == [91]) || (nth r 0 == [93]) || (nth r 0 == [45]))=true then bad r else .ok (nth r 0,r.tail) by rw [HX.out,if_neg (by rw [h92];simp)])
  have HNE:=Lib.hid (show (nth r 0 == [])=false→r≠[] by rintro h rfl;cases h)
  obtain ⟨y,hy⟩:∃y,y=nth r 0:=⟨_,rfl⟩
  rw [←hy] at HX2 HNE ⊢
  have hY:=mk_toList y
  obtain ⟨b1,h1⟩:∃b1,(y == [])=b1:=⟨_,rfl⟩
  obtain ⟨b2,h2⟩:∃b2,(y == [91])=b2:=⟨_,rfl⟩
  obtain ⟨b3,h3⟩:∃b3,(y == [93])=b3:=⟨_,rfl⟩
  obtain ⟨b4,h4⟩:∃b4,(y == [45])=b4:=⟨_,rfl⟩
  rw [h1,h2,h3,h4] at HX2
  rw [h1] at HNE
  obtain ⟨p,hp,hp4,c1,f1⟩:=H2.out.c1p
  have HP:=Lib.hid hp
  have HRB:=Lib.hid (refuse_any (.pointer (some ⟨g,0,none⟩)) g p s r.length w2 hp)
  have HBAD:=Lib.hid (show (b1 || b2 || b3 || b4)=true→x=.error (r.length,2) from fun e=>by rw [HX2.out,if_pos e];rfl)
  have HGOOD:=Lib.hid (show (b1 || b2 || b3 || b4)=false→x=.ok (y,r.tail) from fun e=>by rw [HX2.out,if_neg (by rw [e];simp)])
  generalize hYY:(⟨y.toArray⟩:ByteArray)=Y at hY ⊢
  have HYY:=Lib.hid hYY
  clear hy h92 hp HX HX2 hYY
  cases b1 with
  | true =>
   go_wp2_with fail
   refine HRB.out.mono ?_
   rintro e w3 ⟨rfl,hb3⟩
   go_wp2_with fail
   exact ⟨rfl,Says.err (HBAD.out rfl) rfl rfl ((HB2.out.mono HG.out).trans hb3)⟩
  | false =>
   cases b2 with
   | true =>
    go_wp2_with fail
    refine HRB.out.mono ?_
    rintro e w3 ⟨rfl,hb3⟩
    go_wp2_with fail
    exact ⟨rfl,Says.err (HBAD.out rfl) rfl rfl ((HB2.out.mono HG.out).trans hb3)⟩
   | false =>
    cases b3 with
    | true =>
     go_wp2_with fail
     refine HRB.out.mono ?_
     rintro e w3 ⟨rfl,hb3⟩
     go_wp2_with fail
     exact ⟨rfl,Says.err (HBAD.out rfl) rfl rfl ((HB2.out.mono HG.out).trans hb3)⟩
    | false =>
     cases b4 with
     | true =>
      go_wp2_with fail
      refine HRB.out.mono ?_
      rintro e w3 ⟨rfl,hb3⟩
      go_wp2_with fail
      exact ⟨rfl,Says.err (HBAD.out rfl) rfl rfl ((HB2.out.mono HG.out).trans hb3)⟩
     | false =>
      have HZ:=Lib.hid (H2.out.adv (HNE.out rfl) (p:=(p:Int)+1) (by rw [HP.out]))
      go_wp2_with fail
      go_ret
      exact Says.ok (HGOOD.out rfl) (by rw [←HYY.out];rfl) HZ.out.addno ((Kpt.of_below HB2.out).trans (Kpt.put _ _ _ _))
theorem blk2_ret {w:World} {g:Nat} {v1 v2:Value} {fn:Func} {p:Tmp} {R:Ending→World→Prop} {a:Act} (h:Blk w g 48 [v1,v2]) (hr:fn.results=#[.cell p 48]) (hp:a.tmps.getD p undef=.pointer (some ⟨g,0,none⟩)) (hd:a.defers=[]) (hR:R (.returned (.agg #[v1,v2])) w):bodyPost Tryz.prog fn R .ret a w :=
 bodyPost_ret (results_cell_row hr a.tmps w g 48 [v1,v2].toArray (0,0) _ hp h Tryz.underlying48 rfl (by kernel_rfl)) hd hR
def Btw (w:World) (g m:Nat) (s:Src) (x:Option Rg) (e:Ending) (w':World):Prop:=match x with
 | some x=>e=.returned (.agg #[.int .i32 x.1,.int .i32 x.2])∧Below w.heap.size w w'
 | none=>Gives w g (s.n - m) 2 e w'
theorem single_one {t:Tx} {x:Int} (h:runesF t=[x]):single t=some x:=by unfold single;rw [show Sset.rns t=[x] from h]
theorem single_no {t:Tx} (h:(runesF t).length≠1):single t=none:=by
 unfold single
 rw [show Sset.rns t=runesF t from rfl]
 split
 ·rename_i x hx;rw [hx] at h;exact absurd rfl h
 ·rfl
set_option maxHeartbeats 8000000 in
theorem between_any (v:Value) (a b:Tx) (g p m:Nat) (s:Src) (w:World) (hp:p=s.n - m) (hg:g≤w.heap.size) (ha:a.length≤1073741824) (hb:b.length≤1073741824) :
  Calls Tryz.prog 282 #[v,.string ⟨a.toArray⟩,.string ⟨b.toArray⟩,.int .i64 p] w (Btw w g m s (rangeS a b)):=by
 have HA:=Lib.hid (fun u=>runes_any ⟨a.toArray⟩ u (by show a.toArray.size≤_;simp;omega))
 have HB:=Lib.hid (fun u=>runes_any ⟨b.toArray⟩ u (by show b.toArray.size≤_;simp;omega))
 obtain ⟨W,hW⟩:∃W,W=w.alloc (.cells #[.int .i32 0,.int .i32 0] 48):=⟨_,rfl⟩
 obtain ⟨gr,hgr⟩:∃gr,gr=w.heap.size:=⟨_,rfl⟩
 have HBK:=Lib.hid (show Blk W gr 48 [.int .i32 0,.int .i32 0] by rw [hW,hgr];exact Blk.new w _ [.int .i32 0,.int .i32 0])
 have HBW:=Lib.hid (show Below w.heap.size w W by rw [hW];exact (Below.refl _ _).alloc (Nat.le_refl _) _)
 have HW:=Lib.hid hW;have HGR:=Lib.hid hgr;have HG:=Lib.hid hg
 have HRB:=Lib.hid (fun u=>refuse_any v g p s m u hp)
 obtain ⟨A,hA⟩:∃A,A=runesF a:=⟨_,rfl⟩
 obtain ⟨C,hC⟩:∃C,C=runesF b:=⟨_,rfl⟩
 have HRA:=Lib.hid hA;have HRC:=Lib.hid hC
 rw [show (⟨a.toArray⟩:ByteArray).data.toList=a from by simp,←hA] at HA
 rw [show (⟨b.toArray⟩:ByteArray).data.toList=b from by simp,←hC] at HB
 generalize (⟨a.toArray⟩:ByteArray)=X at *
 generalize (⟨b.toArray⟩:ByteArray)=Y at *
 clear hW hgr hg hA hC hp ha hb
 go_enter Tryz.func282,Tryz.ntmps282
 go_wp2_with fail
 rw [←HW.out,←HGR.out]
 refine (HA.out W).mono ?_
 rintro e w1 ⟨v1,rfl,ho1,hb1⟩
 obtain ⟨A1,c1,rfl,_,_,hr1⟩:=Utf.own_form ho1
 have HR1:=Lib.hid hr1;have HB1:=Lib.hid hb1
 clear ho1 hr1 hb1
 obtain ⟨n1,hn1⟩:∃n1,n1=A.length:=⟨_,rfl⟩
 rw [←hn1]
 have HN1:=Lib.hid hn1
 clear hn1
 go_wp2_with fail
 refine (HB.out w1).mono ?_
 rintro e w2 ⟨v2,rfl,ho2,hb2⟩
 obtain ⟨A2,c2,rfl,_,_,hr2⟩:=Utf.own_form ho2
 have HR2:=Lib.hid hr2;have HR12:=Lib.hid (HR1.out.below hb2);have HB2:=Lib.hid (HB1.out.trans (hb2.mono HB1.out.size))
 clear ho2 hr2 hb2 HR1
 obtain ⟨n2,hn2⟩:∃n2,n2=C.length:=⟨_,rfl⟩
 rw [←hn2]
 have HBB2:=Lib.hid (HBW.out.trans (HB2.out.mono HBW.out.size))
 have HBK2:=Lib.hid (HBK.out.below HB2.out HBK.out.lt)
 by_cases h1:n1=1
 ·obtain ⟨x,hx⟩:=List.length_eq_one_iff.1 (HN1.out.symm.trans h1)
  subst h1
  by_cases h2:n2=1
  ·obtain ⟨y,hy⟩:=List.length_eq_one_iff.1 (hn2.symm.trans h2)
   subst h2
   rw [hx] at HR12
   rw [hy] at HR2
   obtain ⟨b1,o1,rfl,hl1⟩:=HR12.out.form (by simp [nums])
   obtain ⟨b2,o2,rfl,hl2⟩:=HR2.out.form (by simp [nums])
   have d1:w2.cell? ⟨b1,o1,none⟩=some (.int .i32 x):=HR12.out.num (l:=[x]) (k:=0) (by simp)
   have d2:w2.cell? ⟨b2,o2,none⟩=some (.int .i32 y):=HR2.out.num (l:=[y]) (k:=0) (by simp)
   have e0:w2.cell? ⟨gr,0,none⟩=some (.int .i32 0):=HBK2.out.cell 0
   have e1:w2.cell? ⟨gr,1,none⟩=some (.int .i32 0):=HBK2.out.cell 1
   have f0:=HBK2.out.frozen 0
   have f1:=HBK2.out.frozen 1
   by_cases hxy:x≤y
   ·have HRS:=Lib.hid (show rangeS a b=some (x,y) by unfold rangeS;rw [single_one (HRA.out.symm.trans hx),single_one (HRC.out.symm.trans hy)];show (if x≤y then _ else _)=_;rw [if_pos hxy])
    have hg1:¬x > y:=by omega
    have hg2:decide (x > y)=false:=decide_eq_false hg1
    clear hxy hx hy hn2
    go_wp2_with fail
    go_region
    all_goals (go_wp2_with fail)
    go_region
    all_goals (go_wp2_with fail)
    refine blk2_ret (v1:=.int .i32 x) (v2:=.int .i32 y) (g:=gr) ((HBK2.out.set_ 0 _).set_ 1 _) rfl rfl rfl ?_
    rw [HRS.out]
    exact ⟨rfl,(((HBB2.out.setCell (p:=⟨gr,0,none⟩) (by rw [HGR.out];exact Nat.le_refl _) _).setCell (p:=⟨gr,1,none⟩) (by rw [HGR.out];exact Nat.le_refl _) _).drew).drew⟩
   ·have HRS:=Lib.hid (show rangeS a b=none by unfold rangeS;rw [single_one (HRA.out.symm.trans hx),single_one (HRC.out.symm.trans hy)];show (if x≤y then _ else _)=_;rw [if_neg hxy])
    have hg1:x > y:=by omega
    have hg2:decide (x > y)=true:=decide_eq_true hg1
    clear hxy hx hy hn2
    go_wp2_with fail
    go_region
    all_goals (go_wp2_with fail)
    refine (HRB.out _).mono ?_
    rintro e w5 ⟨rfl,hb5⟩
    go_wp2_with fail
    refine ⟨rfl,?_⟩
    rw [HRS.out]
    exact ⟨rfl,(HBB2.out.mono HG.out).drew.trans hb5⟩
  ·have HRS:=Lib.hid (show rangeS a b=none by unfold rangeS;rw [single_one (HRA.out.symm.trans hx),single_no (by rw [←HRC.out,←hn2];exact h2)])
   have h3:¬(n2:Int)=1:=by omega
   have h4:((n2:Int) == 1)=false:=by simpa using h3
   have h5:((n2:Int) != 1)=true:=by simpa using h3
   clear hx hn2 h2
   go_wp2_with fail
   go_region
   all_goals (go_wp2_with fail)
   refine (HRB.out _).mono ?_
   rintro e w5 ⟨rfl,hb5⟩
   go_wp2_with fail
   refine ⟨rfl,?_⟩
   rw [HRS.out]
   exact ⟨rfl,(HBB2.out.mono HG.out).drew.trans hb5⟩
 ·have HRS:=Lib.hid (show rangeS a b=none by unfold rangeS;rw [single_no (by rw [←HRA.out,←HN1.out];exact h1)])
  have h3:¬(n1:Int)=1:=by omega
  have h4:((n1:Int) == 1)=false:=by simpa using h3
  have h5:((n1:Int) != 1)=true:=by simpa using h3
  clear hn2 h1
  go_wp2_with fail
  go_region
  all_goals (go_wp2_with fail)
  refine (HRB.out _).mono ?_
  rintro e w5 ⟨rfl,hb5⟩
  go_wp2_with fail
  refine ⟨rfl,?_⟩
  rw [HRS.out]
  exact ⟨rfl,(HBB2.out.mono HG.out).drew.trans hb5⟩
end Go.Proofs.YtkgeiokckfpjlaaGreatDoor.Syn
namespace Go.Proofs.YtkgeiokckfpjlaaGreatDoor.Syn
open Go.RowKit
open Utf (Rd Blk)
open Norm (Chg)
open Rset (Ret Rg rgs rd_new)
open Sset (St Tx mk_toList BlkS r_first r_of r_ones firstS onesS ofS firstS_nm onesS_nm ofS_nm ArgR)
set_option maxRecDepth 100000
section
variable {w w':World} {B g d N:Nat} {s:Src} {r:List Tx} {st:Stp}
theorem RS.shorts (h:RS w B g s r d st):Shorts r:=fun t ht=>by
 obtain ⟨i,hi,rfl⟩:=List.getElem_of_mem ht
 obtain ⟨_,_,_,_,ho⟩:=h.text hi
 have:=ho.short
 rwa [mk_toList] at this
theorem bls_kpt {b:Nat} {x y z:Value} (h:BlkS w b x y z) (hk:Kpt g w w') (hb:b≠g):BlkS w' b x y z:=blk_kpt h hk hb (by decide)
theorem chg_put3 (w:World) {gr:Nat} (hN:N≤gr) (a b c:Value):Chg w (((w.setCell ⟨gr,0,none⟩ a).setCell ⟨gr,1,none⟩ b).setCell ⟨gr,2,none⟩ c) fun k=>N≤k :=
 (((Chg.refl w _).setCell (p:=⟨gr,0,none⟩) a hN).setCell (p:=⟨gr,1,none⟩) b hN).setCell (p:=⟨gr,2,none⟩) c hN
end
theorem says_set {x:R St} {a:St} {q:List Tx} {w w4 w5:World} {B g d gr:Nat} {s:Src} {st:Stp} {A1:Option Addr} {n1 c1:Nat} {A2:Option Addr} {n2 c2:Nat} {A3:Option Addr} {n3 c3:Nat} {u1 u2 u3:Value} (hx:x=.ok (a,q)) (h:RS w4 B g s q d st) (old:Old st w.heap.size) (hg:g < w.heap.size) (hk:Kpt g w w4) (hb:Below w4.heap.size w4 w5)
  (hm:Held w5 w.heap.size ⟨2,A1,n1,c1,A2,n2,c2,A3,n3,c3,0,0⟩ (ndS a)) (hz:BlkS w5 gr u1 u2 u3) (hgr:gr=w.heap.size) :
  Says w B g s d st x (QH w.heap.size) no (.returned (.agg #[.slice A1 n1 c1,.slice A2 n2 c2,.slice A3 n3 c3])) (((w5.setCell ⟨gr,0,none⟩ (.slice A1 n1 c1)).setCell ⟨gr,1,none⟩ (.slice A2 n2 c2)).setCell ⟨gr,2,none⟩ (.slice A3 n3 c3)):=by
 have hc:=chg_put3 (N:=w.heap.size) w5 (Nat.le_of_eq hgr.symm) (.slice A1 n1 c1) (.slice A2 n2 c2) (.slice A3 n3 c3)
 exact Says.ok hx ⟨A1,n1,c1,A2,n2,c2,A3,n3,c3,rfl,hm.put3 hz _ _ _⟩ ((h.next hb).chg old hg hc).addno ((hk.next hb).new (Nat.le_refl _) hc)
theorem single_fit {t:Tx} {x:Int} (h:single t=some x):0≤x∧x≤1114111:=by
 unfold single at h
 split at h
 ·rename_i y hy
  injection h with h
  subst h
  have hv:=Seg.runes_vld t y (by rw [show Norm.runesF t=[y] from hy];simp)
  have:=(Utf.vld_iff y).1 hv
  omega
 ·cases h
theorem range_fit {a b:Tx} {x y:Int} (h:rangeS a b=some (x,y)):-2147483648≤x∧x≤2147483647∧-2147483648≤y∧y≤2147483647:=by
 unfold rangeS at h
 split at h
 ·rename_i u v hu hv
  split at h
  ·injection h with h
   injection h with h1 h2
   subst h1 h2
   have:=single_fit hu;have:=single_fit hv
   omega
  ·cases h
 ·cases h
set_option maxHeartbeats 16000000 in
theorem item_any {B g:Nat} {s:Src} {r:List Tx} {d:Nat} {st:Stp} {w:World} (h:RS w B g s r d st) :
  Calls Tryz.prog 250 #[.pointer (some ⟨g,0,none⟩)] w (Says w B g s d st (item theE r) (QH w.heap.size) no):=by
 have HG:=Lib.hid h.lt
 have HOLD:=Lib.hid h.old
 have HSH:=Lib.hid h.shorts
 obtain ⟨x,hx⟩:∃x,x=item theE r:=⟨_,rfl⟩
 have HX:=Lib.hid (hx.trans (show item theE r=if isCat r then thn (catP theE (isHd r.tail [80]) r.tail.tail) fun x s=>.ok (firstS x,s)
  else thn (one theE r) fun a s=>if isHd s [45] then thn (one theE s.tail) fun b q=>match rangeS a b with
     | some x=>.ok (onesS [x],q)
     | none=>bad s.tail
   else .ok (ofS a,s) from rfl))
 rw [←hx]
 obtain ⟨W,hW⟩:∃W,W=w.alloc (.cells #[.slice none 0 0,.slice none 0 0,.slice none 0 0] 39):=⟨_,rfl⟩
 obtain ⟨gr,hgr⟩:∃gr,gr=w.heap.size:=⟨_,rfl⟩
 have hbW:Below w.heap.size w W:=by rw [hW];exact (Below.refl _ _).alloc (Nat.le_refl _) _
 have HB0:=Lib.hid (show BlkS W gr (.slice none 0 0) (.slice none 0 0) (.slice none 0 0) by rw [hW,hgr];exact BlkS.new w _ _ _)
 have H0:=Lib.hid (h.next hbW);have HK0:=Lib.hid (Kpt.of_below (g:=g) hbW)
 have HW:=Lib.hid hW;have HGR:=Lib.hid hgr
 have HNE:=Lib.hid (show gr≠g by have:=h.lt;omega)
 clear h hx hW hgr hbW
 go_enter Tryz.func250,Tryz.ntmps250
 go_wp2_with fail
 rw [←HW.out,←HGR.out]
 refine (namesCategory_any H0.out).mono ?_
 rintro e w1 ⟨rfl,hb1⟩
 have H1:=Lib.hid (H0.out.next hb1);have HK1:=Lib.hid (HK0.out.next hb1);have HB1:=Lib.hid (HB0.out.next hb1)
 clear hb1
 cases hc:isCat r with
 | true =>
  have HX1:=Lib.hid (show x=thn (catP theE (isHd r.tail [80]) r.tail.tail) fun x s=>.ok (firstS x,s) by rw [HX.out,if_pos hc])
  have HC:=Lib.hid (category_any H1.out hc)
  clear hc
  go_wp2_with fail
  refine HC.out.mono ?_
  rintro e w2 h2
  rcases h2.split with ⟨l,q,v,hx,rfl,⟨A,n,c,rfl,ha⟩,hr,hk⟩ | ⟨n,k,hx,rfl,hb⟩
  ·have H2:=Lib.hid hr.app0;have HK2:=Lib.hid (HK1.out.trans hk);have HB2:=Lib.hid (bls_kpt HB1.out hk HNE.out);have HA:=Lib.hid ha
   have HX2:=Lib.hid (show x=.ok (firstS l,q) by rw [HX1.out,hx];rfl)
   clear h2 hx hr hk ha HC
   go_wp2_with fail
   refine (r_first A l n c w2 HA.out).mono ?_
   rintro e w3 ⟨P1,p1,q1,P2,p2,q2,P3,p3,q3,rfl,M⟩
   have HM:=Lib.hid M;have HB3:=Lib.hid (HB2.out.next M.bel)
   clear M
   have d0:=HB3.out.c0;have d1:=HB3.out.c1;have d2:=HB3.out.c2;have f0:=HB3.out.fr 0;have f1:=HB3.out.fr 1;have f2:=HB3.out.fr 2
   go_wp2_with fail
   refine (HB3.out.put _ _ _).ret rfl rfl rfl ?_
   exact says_set HX2.out H2.out HOLD.out HG.out HK2.out HM.out.bel (held_set HM.out (firstS_nm l) HK2.out.size) HB3.out HGR.out
  ·have HX2:=Lib.hid (show x=.error (n,k) by rw [HX1.out,hx];rfl)
   have HB2:=Lib.hid ((HK1.out.below (Nat.le_of_lt HG.out)).trans hb)
   clear h2 hx hb
   go_wp2_with fail
   exact ⟨rfl,Says.err HX2.out rfl rfl HB2.out⟩
 | false =>
  have HX1:=Lib.hid (show x=thn (one theE r) fun a s=>if isHd s [45] then thn (one theE s.tail) fun b q=>match rangeS a b with
     | some x=>.ok (onesS [x],q)
     | none=>bad s.tail
   else .ok (ofS a,s) by rw [HX.out,if_neg (by rw [hc];simp)])
  clear hc HX
  go_wp2_with fail
  refine (one_any H1.out).mono ?_
  rintro e w2 h2
  rcases h2.split with ⟨t,q,v,hx,rfl,rfl,hr,hk⟩ | ⟨n,k,hx,rfl,hb⟩
  ·have H2:=Lib.hid hr.app0;have HK2:=Lib.hid (HK1.out.trans hk);have HB2:=Lib.hid (bls_kpt HB1.out hk HNE.out)
   have HTL:=Lib.hid (one_short goodE HSH.out hx)
   have HSH2:=Lib.hid (HSH.out.suf (good_suf (good_one theE r) hx))
   have HX2:=Lib.hid (show x=if isHd q [45] then thn (one theE q.tail) fun b q2=>match rangeS t b with
     | some x=>.ok (onesS [x],q2)
     | none=>bad q.tail
    else .ok (ofS t,q) by rw [HX1.out,hx];rfl)
   clear h2 hx hr hk HX1
   by_cases h45:isHd q [45]=true
   ·have HX3:=Lib.hid (show x=thn (one theE q.tail) fun b q2=>match rangeS t b with
     | some x=>.ok (onesS [x],q2)
     | none=>bad q.tail by rw [HX2.out,if_pos h45])
    go_wp2_with fail
    refine (skip_yes H2.out [45] h45).mono ?_
    rintro e w3 ⟨rfl,hr,hk⟩
    have H3:=Lib.hid hr;have HK3:=Lib.hid (HK2.out.trans hk);have HB3:=Lib.hid (bls_kpt HB2.out hk HNE.out)
    obtain ⟨p,hp,hp4,c1,_⟩:=hr.c1p
    have HP:=Lib.hid hp
    clear hr hk hp h45
    go_wp2_with fail
    refine (one_any H3.out).mono ?_
    rintro e w4 h4
    rcases h4.split with ⟨t2,q2,v,hx,rfl,rfl,hr,hk⟩ | ⟨n,k,hx,rfl,hb⟩
    ·have H4:=Lib.hid hr.app0;have HK4:=Lib.hid (HK3.out.trans hk);have HB4:=Lib.hid (bls_kpt HB3.out hk HNE.out)
     have HTL2:=Lib.hid (one_short goodE (HSH2.out.suf (tail_suf q)) hx)
     have HX4:=Lib.hid (show x=match rangeS t t2 with
      | some x=>.ok (onesS [x],q2)
      | none=>bad q.tail by rw [HX3.out,hx];rfl)
     clear h4 hx hr hk HX3 c1
     have HBT:=Lib.hid (between_any (.pointer (some ⟨g,0,none⟩)) t t2 g p q.tail.length s w4 HP.out (Nat.le_of_lt H4.out.lt) HTL.out HTL2.out)
     go_wp2_with fail
     refine HBT.out.mono ?_
     rintro e w5 h5
     cases hrg:rangeS t t2 with
     | some y =>
      rw [hrg] at h5
      obtain ⟨rfl,hb5⟩:=h5
      have HX5:=Lib.hid (show x=.ok (onesS [y],q2) by rw [HX4.out,hrg])
      obtain ⟨y1,y2⟩:=y
      have HY:=Lib.hid (show -2147483648≤y1∧y1≤2147483647∧-2147483648≤y2∧y2≤2147483647 from range_fit hrg)
      have H5:=Lib.hid (H4.out.next hb5);have HK5:=Lib.hid (HK4.out.next hb5);have HB5:=Lib.hid (HB4.out.next hb5)
      clear hrg hb5 HX4 HBT
      dsimp only at HX5 ⊢
      go_wp2_with fail
      obtain ⟨U,hU⟩:∃U,U=w5.alloc (.cells #[.int .i32 y1,.int .i32 y2] 48):=⟨_,rfl⟩
      have HBU:=Lib.hid (show Below w5.heap.size w5 U by rw [hU];exact (Below.refl _ _).alloc (Nat.le_refl _) _)
      have HAR:=Lib.hid (show ArgR U (some ⟨w5.heap.size,0,none⟩) 1 [(y1,y2)] from ⟨by rw [hU];exact (rd_new w5 48 [.int .i32 y1,.int .i32 y2] _ rfl).more (by simp),rfl,fun r hr=>by rw [List.mem_singleton.1 hr];have:=HY.out;exact ⟨⟨this.1,this.2.1⟩,this.2.2⟩,by omega⟩)
      rw [←hU]
      clear hU
      refine (r_ones _ [(y1,y2)] 1 1 U HAR.out).mono ?_
      rintro e w6 ⟨P1,p1,q1,P2,p2,q2',P3,p3,q3,rfl,M⟩
      have HM:=Lib.hid M
      have HBB:=Lib.hid (HBU.out.trans (M.bel.mono HBU.out.size))
      have HB6:=Lib.hid (HB5.out.next HBB.out)
      clear M
      have d0:=HB6.out.c0;have d1:=HB6.out.c1;have d2:=HB6.out.c2;have f0:=HB6.out.fr 0;have f1:=HB6.out.fr 1;have f2:=HB6.out.fr 2
      go_wp2_with fail
      refine (HB6.out.put _ _ _).ret rfl rfl rfl ?_
      exact says_set HX5.out H5.out HOLD.out HG.out HK5.out HBB.out (held_set HM.out (onesS_nm _) (Nat.le_trans HK5.out.size HBU.out.size)) HB6.out HGR.out
     | none =>
      rw [hrg] at h5
      obtain ⟨rfl,hb5⟩:=h5
      have HX5:=Lib.hid (show x=.error (q.tail.length,2) by rw [HX4.out,hrg];rfl)
      have HB5:=Lib.hid ((HK4.out.below (Nat.le_of_lt HG.out)).trans hb5)
      clear hrg hb5
      go_wp2_with fail
      exact ⟨rfl,Says.err HX5.out (by rw [List.length_tail]) rfl HB5.out⟩
    ·have HX4:=Lib.hid (show x=.error (n,k) by rw [HX3.out,hx];rfl)
     have HB4:=Lib.hid ((HK3.out.below (Nat.le_of_lt HG.out)).trans hb)
     clear h4 hx hb
     go_wp2_with fail
     exact ⟨rfl,Says.err HX4.out rfl rfl HB4.out⟩
   ·rw [Bool.not_eq_true] at h45
    have HX3:=Lib.hid (show x=.ok (ofS t,q) by rw [HX2.out,if_neg (by rw [h45];simp)])
    go_wp2_with fail
    refine (skip_no H2.out [45] h45 (by decide)).mono ?_
    rintro e w3 ⟨rfl,hr,hb⟩
    have H3:=Lib.hid hr;have HK3:=Lib.hid (HK2.out.next hb);have HB3:=Lib.hid (HB2.out.next hb)
    clear hr hb h45
    have HOF:=Lib.hid (r_of ⟨t.toArray⟩ t (mk_toList t) HTL.out w3)
    go_wp2_with fail
    refine HOF.out.mono ?_
    rintro e w4 ⟨P1,p1,q1,P2,p2,q2,P3,p3,q3,rfl,M⟩
    have HM:=Lib.hid M;have HB4:=Lib.hid (HB3.out.next M.bel)
    clear M
    have d0:=HB4.out.c0;have d1:=HB4.out.c1;have d2:=HB4.out.c2;have f0:=HB4.out.fr 0;have f1:=HB4.out.fr 1;have f2:=HB4.out.fr 2
    go_wp2_with fail
    refine (HB4.out.put _ _ _).ret rfl rfl rfl ?_
    exact says_set HX3.out H3.out HOLD.out HG.out HK3.out HM.out.bel (held_set HM.out (ofS_nm t) HK3.out.size) HB4.out HGR.out
  ·have HX2:=Lib.hid (show x=.error (n,k) by rw [HX1.out,hx];rfl)
   have HB2:=Lib.hid ((HK1.out.below (Nat.le_of_lt HG.out)).trans hb)
   clear h2 hx hb
   go_wp2_with fail
   exact ⟨rfl,Says.err HX2.out rfl rfl HB2.out⟩
end Go.Proofs.YtkgeiokckfpjlaaGreatDoor.Syn
namespace Go.Proofs.YtkgeiokckfpjlaaGreatDoor.Syn
open Go.RowKit
open Utf (Rd Blk)
open Norm (Chg)
open Rset (Ret Rg rgs)
open Sset (St Tx none_ mk_toList BlkS NmS not2 not2_nm uni2_nm r_not2)
set_option maxRecDepth 100000
theorem items_fuel (E:Env):∀(n:Nat) (r:List Tx),r.length≤n→∀(f:Nat),r.length < f→∀all,items E f all r=items E (r.length+1) all r
 | _,r,_,0,hf,_=>by omega
 | 0,r,hn,f+1,_,all=>by
  have:r=[]:=List.eq_nil_of_length_eq_zero (by omega)
  subst this
  unfold items
  rfl
 | n+1,r,hn,f+1,hf,all=>by
  unfold items
  by_cases h:isHd r [93]=true
  ·rw [if_pos h,if_pos h]
  ·rw [if_neg h,if_neg h]
   cases hx:item E r with
   | error p=>rfl
   | ok p =>
    obtain ⟨x,s⟩:=p
    have hl:=good_ok (good_item E r) hx
    show items E f (addG all x) s=items E r.length (addG all x) s
    rw [items_fuel E n s (by omega) f (by omega),items_fuel E n s (by omega) r.length (by omega)]
theorem Old.mono {st:Stp} {N M:Nat} (h:Old st N) (hm:N≤M):Old st M :=
 ⟨fun k hk=>Nat.lt_of_lt_of_le (h.v k hk) hm,fun i hi k hk=>Nat.lt_of_lt_of_le (h.h1 i hi k hk) hm,fun i hi k hk=>Nat.lt_of_lt_of_le (h.h2 i hi k hk) hm,fun i hi k hk=>Nat.lt_of_lt_of_le (h.h3 i hi k hk) hm⟩
theorem Held.mono {w:World} {B B':Nat} {v:NV} {n:Nd} (h:Held w B v n) (hb:B'≤B):Held w B' v n :=
 ⟨h.k,h.mn,h.mx,h.nm,h.short,h.sm,h.l1,h.l2,h.l3,Norm.own_mono h.o1 hb,Norm.own_mono h.o2 hb,Norm.own_mono h.o3 hb⟩
structure ClsI (w wr:World) (B g gr gg:Nat) (s:Src) (r:List Tx) (d:Nat) (st:Stp) (q:List Tx) (all:St):Prop where
 rs:RS wr B g s q d st
 kpt:Kpt g w wr
 box:BlkS wr gr (.slice none 0 0) (.slice none 0 0) (.slice none 0 0)
 gth:∃v1 v2 v3,Gth wr gg gg v1 v2 v3 all
 gat:Gat all q.length
 eq:cls1 theE r=items theE (q.length+1) all q
structure ClsC (w:World) (g gr gg:Nat) (st:Stp):Prop where
 lt:g < w.heap.size
 at_:gr=w.heap.size
 up:gr < gg
 old:Old st w.heap.size
theorem ClsI.more {w w1 w2:World} {B g gr gg d:Nat} {s:Src} {r q2:List Tx} {st:Stp} {all x:St} (C:ClsC w g gr gg st) (hr:RS w1 B g s q2 d st) (hk:Kpt g w w1) (hb:BlkS w1 gr (.slice none 0 0) (.slice none 0 0) (.slice none 0 0))
  (hc:Chg w1 w2 fun k=>gg≤k) (hg:∃v1 v2 v3,Gth w2 gg gg v1 v2 v3 (addG all x)) (ga:Gat (addG all x) q2.length) (he:cls1 theE r=items theE (q2.length+1) (addG all x) q2):ClsI w w2 B g gr gg s r d st q2 (addG all x):=by
 have h1:=C.lt;have h2:=C.at_;have h3:=C.up
 exact ⟨hr.chg (C.old.mono (by omega)) (by omega) hc,hk.new (by omega) hc,Norm.blk_keep hb hc (by omega),hg,ga,he⟩
theorem skip_any {B g:Nat} {s:Src} {r:List Tx} {d:Nat} {st:Stp} {w:World} (h:RS w B g s r d st) (t:Tx) (h0:t≠[]) :
  Calls Tryz.prog 116 #[.pointer (some ⟨g,0,none⟩),.string ⟨t.toArray⟩] w fun e w'=>e=.returned (.bool (isHd r t))∧RS w' B g s (if isHd r t then r.tail else r) d st∧Kpt g w w':=by
 cases ht:isHd r t with
 | true=>exact skip_yes h t ht
 | false=>exact (skip_no h t ht h0).mono fun e w' ⟨h1,h2,h3⟩=>⟨h1,h2,Kpt.of_below h3⟩
set_option maxHeartbeats 16000000 in
theorem class_any {B g:Nat} {s:Src} {r:List Tx} {d:Nat} {st:Stp} {w:World} (h:RS w B g s r d st) :
  Calls Tryz.prog 213 #[.pointer (some ⟨g,0,none⟩)] w (Says w B g s d st (cls theE r) (QH w.heap.size) no):=by
 have HG:=Lib.hid h.lt
 have HOLD:=Lib.hid h.old
 have HSH:=Lib.hid h.shorts
 have HSN:=Lib.hid h.src.sm
 obtain ⟨N,hN⟩:∃N,N=s.n:=⟨_,rfl⟩
 have HNN:=Lib.hid hN
 obtain ⟨x,hx⟩:∃x,x=cls theE r:=⟨_,rfl⟩
 rw [←hx]
 obtain ⟨W,hW⟩:∃W,W=w.alloc (.cells #[.slice none 0 0,.slice none 0 0,.slice none 0 0] 39):=⟨_,rfl⟩
 obtain ⟨gr,hgr⟩:∃gr,gr=w.heap.size:=⟨_,rfl⟩
 have hbW:Below w.heap.size w W:=by rw [hW];exact (Below.refl _ _).alloc (Nat.le_refl _) _
 have HB0:=Lib.hid (show BlkS W gr (.slice none 0 0) (.slice none 0 0) (.slice none 0 0) by rw [hW,hgr];exact BlkS.new w _ _ _)
 have H0:=Lib.hid (h.next hbW);have HK0:=Lib.hid (Kpt.of_below (g:=g) hbW)
 have HW:=Lib.hid hW;have HGR:=Lib.hid hgr
 have HNE:=Lib.hid (show gr≠g by have:=h.lt;omega)
 have HX:=Lib.hid (hx.trans (show cls theE r=if isHd r [94] then thn (cls1 theE r.tail) fun x s=>.ok (not2 (finG x),s) else thn (cls1 theE r) fun x s=>.ok (finG x,s) from rfl))
 clear h hx hN hW hgr hbW
 go_enter Tryz.func213,Tryz.ntmps213
 go_wp2_with fail
 rw [←HW.out,←HGR.out]
 refine (skip_any H0.out [94] (by decide)).mono ?_
 rintro e w1 ⟨rfl,hr,hk⟩
 obtain ⟨b,hb⟩:∃b,b=isHd r [94]:=⟨_,rfl⟩
 obtain ⟨r1,hr1⟩:∃r1,r1=if isHd r [94]=true then r.tail else r:=⟨_,rfl⟩
 rw [←hr1] at hr
 rw [←hb]
 have HX1:=Lib.hid (show x=thn (cls1 theE r1) fun x s=>.ok ((if b then not2 (finG x) else finG x),s) by
  rw [HX.out,hr1,hb]
  cases isHd r [94] <;> rfl)
 have HSH1:=Lib.hid (show Shorts r1 by rw [hr1];split;exact HSH.out.suf (tail_suf r);exact HSH.out)
 have H1:=Lib.hid hr;have HK1:=Lib.hid (HK0.out.trans hk);have HB1:=Lib.hid (bls_kpt HB0.out hk HNE.out)
 clear hr hk hb hr1 HX
 go_wp2_with fail
 obtain ⟨W2,hW2⟩:∃W2,W2=w1.alloc (.cells #[.slice none 0 0,.slice none 0 0,.slice none 0 0,.slice none 0 0,.slice none 0 0,.slice none 0 0] 261):=⟨_,rfl⟩
 obtain ⟨gg,hgg⟩:∃gg,gg=w1.heap.size:=⟨_,rfl⟩
 have hbW2:Below w1.heap.size w1 W2:=by rw [hW2];exact (Below.refl _ _).alloc (Nat.le_refl _) _
 have HC:=Lib.hid (show ClsC w g gr gg st from ⟨HG.out,HGR.out,by rw [hgg];exact HB1.out.lt,HOLD.out⟩)
 have HG2:=Lib.hid (show Gth W2 gg gg (.slice none 0 0) (.slice none 0 0) (.slice none 0 0) none_ from ⟨Nat.le_refl _,by rw [hW2,hgg];exact Blk.new w1 _ [.slice none 0 0,.slice none 0 0,.slice none 0 0,.slice none 0 0,.slice none 0 0,.slice none 0 0],World.ownsRow_nil _ _ _ _,World.ownsRow_nil _ _ _ _,World.ownsRow_nil _ _ _ _,fun k hk=>by cases hk⟩)
 have H2:=Lib.hid (H1.out.next hbW2);have HK2:=Lib.hid (HK1.out.next hbW2);have HB2:=Lib.hid (HB1.out.next hbW2)
 rw [←hW2,←hgg]
 clear hW2 hgg hbW2 H1 HK1 HB1 H0 HK0 HB0
 refine (item_any H2.out).mono ?_
 rintro e w3 h3
 rcases h3.split with ⟨y,q,v,hx,rfl,⟨A1,n1,c1,A2,n2,c2,A3,n3,c3,rfl,hm⟩,hr,hk⟩ | ⟨n,k,hx,rfl,hb⟩
 ·have H3:=Lib.hid hr.app0;have HK3:=Lib.hid (HK2.out.trans hk);have HB3:=Lib.hid (bls_kpt HB2.out hk HNE.out);have HM:=Lib.hid hm
  have HG3:=Lib.hid (HG2.out.kpt hk H2.out.blk)
  have HFW:=Lib.hid (few_item goodE HSH1.out hx)
  have hlen:=good_ok (good_item theE r1) hx
  have HGT:=Lib.hid (show Gat (addG none_ y) q.length from (gat_none (rest:=r1.length) (by have:=H2.out.rl;have:=HSN.out;omega)).add HFW.out hlen)
  have HE:=Lib.hid (show cls1 theE r1=items theE (q.length+1) (addG none_ y) q by unfold cls1;rw [hx];rfl)
  have HSH2:=Lib.hid (HSH1.out.suf (good_suf (good_item theE r1) hx))
  have HFW1:=Lib.hid HFW.out.s;have HFW2:=Lib.hid HFW.out.m;have HFW3:=Lib.hid HFW.out.o
  have HAD:=Lib.hid (add_any HG3.out (Nat.le_of_lt HG3.out.blk.lt) HM.out HG2.out.blk.lt (fun k hk=>by cases hk) (fun k hk=>by cases hk) (fun k hk=>by cases hk) (by simp [none_];have:=HFW1.out;omega) (by simp [none_];have:=HFW2.out;omega) (by simp [none_];have:=HFW3.out;omega))
  clear h3 hx hr hk hm hlen
  go_wp2_with fail
  refine HAD.out.mono ?_
  rintro e w4 ⟨rfl,hg4,hc4⟩
  have HI:=Lib.hid (ClsI.more HC.out H3.out HK3.out HB3.out hc4 hg4 HGT.out HE.out)
  have HQ4:=Lib.hid HSH2.out
  clear hg4 hc4 H2 HK2 HB2 HG2 H3 HK3 HB3 HM HG3 HFW HGT HE HFW1 HFW2 HFW3 HAD
  go_wp2_with fail
  go_loopw [] (fun wr=>Hid (∃q all,ClsI w wr B g gr gg s r1 d st q all∧Shorts q)) (fun wr=>leftOf N g wr)
  case atStart=>exact Lib.hid ⟨_,_,HI.out,HQ4.out⟩
  case round =>
   obtain ⟨q,all,hI,hsh⟩:=hrel.out
   have HI:=Lib.hid hI;have HSQ:=Lib.hid hsh
   have HL:=Lib.hid (show leftOf N g wr=q.length by rw [HNN.out];exact left_rs hI.rs)
   clear hrel hI hsh
   by_cases h93:isHd q [93]=true
   ·have HX5:=Lib.hid (show x=.ok ((if b then not2 (finG all) else finG all),q.tail) by rw [HX1.out,HI.out.eq];unfold items;rw [if_pos h93];rfl)
    obtain ⟨v1,v2,v3,hg⟩:=HI.out.gth
    have HGA:=Lib.hid hg
    go_wp2_with fail
    refine (skip_yes HI.out.rs [93] h93).mono ?_
    rintro e w5 ⟨rfl,hr,hk⟩
    have H5:=Lib.hid hr;have HK5:=Lib.hid (HI.out.kpt.trans hk);have HB5:=Lib.hid (bls_kpt HI.out.box hk HNE.out);have HG5:=Lib.hid (hg.kpt hk HI.out.rs.blk)
    have HSA:=Lib.hid (set_any HG5.out HI.out.gat)
    clear hr hk hg h93 HGA
    cases b with
    | true =>
     go_wp2_with fail
     refine HSA.out.mono ?_
     rintro e w6 ⟨v,rfl,⟨D1,m1,k1,D2,m2,k2,D3,m3,k3,rfl,hm⟩,hb6⟩
     have HM:=Lib.hid hm;have H6:=Lib.hid (H5.out.next hb6);have HK6:=Lib.hid (HK5.out.next hb6);have HB6:=Lib.hid (HB5.out.next hb6)
     clear hm hb6
     go_wp2_with fail
     refine (r_not2 k1 k2 k3 HM.out.has).mono ?_
     rintro e w7 ⟨P1,p1,q1,P2,p2,q2,P3,p3,q3,rfl,M⟩
     have HM7:=Lib.hid M;have HB7:=Lib.hid (HB6.out.next M.bel)
     clear M
     have d0:=HB7.out.c0;have d1:=HB7.out.c1;have d2:=HB7.out.c2;have f0:=HB7.out.fr 0;have f1:=HB7.out.fr 1;have f2:=HB7.out.fr 2
     go_wp2_with fail
     refine (HB7.out.put _ _ _).ret rfl rfl rfl ?_
     exact says_set (a:=not2 (finG all)) HX5.out H6.out HOLD.out HG.out HK6.out HM7.out.bel (held_set HM7.out (not2_nm _) HK6.out.size) HB7.out HGR.out
    | false =>
     go_wp2_with fail
     refine HSA.out.mono ?_
     rintro e w6 ⟨v,rfl,⟨D1,m1,k1,D2,m2,k2,D3,m3,k3,rfl,hm⟩,hb6⟩
     have HM:=Lib.hid (hm.mono (B':=w.heap.size) HK5.out.size);have HBL:=Lib.hid hb6;have HB6:=Lib.hid (HB5.out.next hb6)
     clear hm hb6
     have d0:=HB6.out.c0;have d1:=HB6.out.c1;have d2:=HB6.out.c2;have f0:=HB6.out.fr 0;have f1:=HB6.out.fr 1;have f2:=HB6.out.fr 2
     go_wp2_with fail
     refine (HB6.out.put _ _ _).ret rfl rfl rfl ?_
     exact says_set (a:=finG all) HX5.out H5.out HOLD.out HG.out HK5.out HBL.out HM.out HB6.out HGR.out
   ·rw [Bool.not_eq_true] at h93
    have HE5:=Lib.hid (show cls1 theE r1=thn (item theE q) fun x s=>items theE q.length (addG all x) s by rw [HI.out.eq];conv=>lhs;unfold items;rw [if_neg (by rw [h93];simp)])
    go_wp2_with fail
    refine (skip_no HI.out.rs [93] h93 (by decide)).mono ?_
    rintro e w5 ⟨rfl,hr,hb⟩
    obtain ⟨v1,v2,v3,hg⟩:=HI.out.gth
    have H5:=Lib.hid hr;have HK5:=Lib.hid (HI.out.kpt.next hb);have HB5:=Lib.hid (HI.out.box.next hb);have HG5:=Lib.hid (hg.next hb)
    clear hr hb hg h93
    go_wp2_with fail
    refine (item_any H5.out).mono ?_
    rintro e w6 h6
    rcases h6.split with ⟨y2,q2,v,hx,rfl,⟨D1,m1,k1,D2,m2,k2,D3,m3,k3,rfl,hm⟩,hr,hk⟩ | ⟨n,k,hx,rfl,hb⟩
    ·have H6:=Lib.hid hr.app0;have HK6:=Lib.hid (HK5.out.trans hk);have HB6:=Lib.hid (bls_kpt HB5.out hk HNE.out);have HM:=Lib.hid hm
     have HG6:=Lib.hid (HG5.out.kpt hk H5.out.blk)
     have HFW:=Lib.hid (few_item goodE HSQ.out hx)
     have hlen:=good_ok (good_item theE q) hx
     have HLN:=Lib.hid hlen
     have HGT:=Lib.hid (HI.out.gat.add HFW.out hlen)
     have HE6:=Lib.hid (show cls1 theE r1=items theE (q2.length+1) (addG all y2) q2 by rw [HE5.out,hx];show items theE q.length (addG all y2) q2=_;exact items_fuel theE q2.length q2 (Nat.le_refl _) _ (by omega) _)
     have HSQ2:=Lib.hid (HSQ.out.suf (good_suf (good_item theE q) hx))
     have hq:q.length≤4096:=by have:=HI.out.rs.rl;have:=HSN.out;omega
     have HAD:=Lib.hid (add_any HG6.out (Nat.le_of_lt HG6.out.blk.lt) HM.out HG5.out.blk.lt (fun k hk=>(HG5.out.o1.lt k hk).2) (fun k hk=>(HG5.out.o2.lt k hk).2) (fun k hk=>(HG5.out.o3.lt k hk).2) (by have:=HFW.out.s;have:=HI.out.gat.s;omega) (by have:=HFW.out.m;have:=HI.out.gat.m;omega) (by have:=HFW.out.o;have:=HI.out.gat.o;omega))
     clear h6 hx hr hk hm hlen hq
     go_wp2_with fail
     refine HAD.out.mono ?_
     rintro e w7 ⟨rfl,hg7,hc7⟩
     have HI7:=Lib.hid (ClsI.more HC.out H6.out HK6.out HB6.out hc7 hg7 HGT.out HE6.out)
     have HMS:=Lib.hid (show leftOf N g w7 < leftOf N g wr by rw [HL.out,HNN.out,left_rs HI7.out.rs];have:=HLN.out;omega)
     clear hg7 hc7
     go_wp2_with fail
     go_roundw
     case rel=>exact Lib.hid ⟨_,_,HI7.out,HSQ2.out⟩
     case measure=>exact HMS.out
    ·have HX6:=Lib.hid (show x=.error (n,k) by rw [HX1.out,HE5.out,hx];rfl)
     have HB6:=Lib.hid ((HK5.out.below (Nat.le_of_lt HG.out)).trans hb)
     clear h6 hx hb
     go_wp2_with fail
     exact ⟨rfl,Says.err HX6.out rfl rfl HB6.out⟩
 ·have HX2:=Lib.hid (show x=.error (n,k) by rw [HX1.out];unfold cls1;rw [hx];rfl)
  have HB2:=Lib.hid ((HK2.out.below (Nat.le_of_lt HG.out)).trans hb)
  clear h3 hx hb
  go_wp2_with fail
  exact ⟨rfl,Says.err HX2.out rfl rfl HB2.out⟩
end Go.Proofs.YtkgeiokckfpjlaaGreatDoor.Syn
