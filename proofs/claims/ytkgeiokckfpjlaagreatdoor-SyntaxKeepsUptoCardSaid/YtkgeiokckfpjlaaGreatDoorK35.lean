/-
  Texts of stage 7, part 35.
-/
import Derived.Test.YtkgeiokckfpjlaaGreatDoorK33
import Derived.Test.YtkgeiokckfpjlaaGreatDoorK34
namespace Go.Proofs.YtkgeiokckfpjlaaGreatDoor.Syn
open Go.RowKit
open Utf (Rd Blk)
open Rset (Ret)
open Sset (St Tx mk_toList)
set_option maxRecDepth 100000
def countsF (r:List Tx):R (Int × Int):=thn (number 0 r) fun m s =>
 if isHd s [44] then (if isHd s.tail [125] then .ok (((m:Int),-1),s.tail) else thn (number m s.tail) fun n q=>.ok (((m:Int),(n:Int)),q)) else .ok (((m:Int),(m:Int)),s)
theorem counted_eq (r:List Tx):counted r=thn (countsF r) fun p s=>thn (want [125] s) fun _ q=>.ok (ndR p.1 p.2,q):=by
 unfold counted countsF
 cases number 0 r with
 | error p=>rfl
 | ok p =>
  obtain ⟨m,s⟩:=p
  show (if isHd s [44] then _ else _)=thn (if isHd s [44] then _ else _) _
  split
  ·by_cases h:isHd s.tail [125]=true
   ·rw [if_pos h,if_pos h]
    show _=thn (want [125] s.tail) _
    unfold want
    rw [if_pos h];rfl
   ·rw [if_neg h,if_neg h]
    cases number m s.tail with
    | error p=>rfl
    | ok p=>rfl
  ·rfl
theorem number_le {m n:Nat} {r q:List Tx} (h:number m r=.ok (n,q)):n≤64:=by
 unfold number at h
 split at h
 ·cases h
 ·rename_i hn
  injection h with h
  injection h with h1 _
  simp only [not_or] at hn
  omega
def QP (p:Int × Int) (v:Value) (_:World):Prop:=v=.tuple #[.int .i64 p.1,.int .i64 p.2]
theorem counts_any {B g:Nat} {s:Src} {r:List Tx} {d:Nat} {st:Stp} {w:World} (h:RS w B g s r d st) :
  Calls Tryz.prog 220 #[.pointer (some ⟨g,0,none⟩)] w (Says w B g s d st (countsF r) QP no):=by
 have HG:=Lib.hid (Nat.le_of_lt h.lt)
 have HN:=Lib.hid (number_any h 0 (by omega))
 obtain ⟨x,hx⟩:∃x,x=countsF r:=⟨_,rfl⟩
 have HX:=Lib.hid hx
 rw [←hx]
 clear h hx
 go_enter Tryz.func220,Tryz.ntmps220
 go_wp2_with fail
 refine HN.out.mono ?_
 rintro e w1 h1
 rcases h1.split with ⟨m,q,v,hx,rfl,rfl,hr,hk⟩ | ⟨n,k,hx,rfl,hb⟩
 ·have HM:=Lib.hid (number_le hx)
  have H1:=Lib.hid hr.app0;have HK:=Lib.hid hk
  have HX1:=Lib.hid (show x=if isHd q [44] then (if isHd q.tail [125] then .ok (((m:Int),-1),q.tail) else thn (number m q.tail) fun n q=>.ok (((m:Int),(n:Int)),q)) else .ok (((m:Int),(m:Int)),q) by rw [HX.out];unfold countsF;rw [hx];rfl)
  clear h1 hx hr hk HX HN
  by_cases h44:isHd q [44]=true
  ·go_wp2_with fail
   refine (skip_yes H1.out [44] h44).mono ?_
   rintro e w2 ⟨rfl,hr2,hk2⟩
   have H2:=Lib.hid hr2;have HK2:=Lib.hid (HK.out.trans hk2)
   clear hr2 hk2
   go_wp2_with fail
   refine (next_any H2.out).mono ?_
   rintro e w3 ⟨rfl,hb3⟩
   have H3:=Lib.hid (H2.out.next hb3);have HK3:=Lib.hid (HK2.out.next hb3)
   clear hb3
   have hY:=mk_toList (nth q.tail 0)
   have hy:(nth q.tail 0 == [125])=isHd q.tail [125]:=hd_eq (by decide)
   generalize (⟨(nth q.tail 0).toArray⟩:ByteArray)=Y at hY ⊢
   generalize nth q.tail 0=y at hY hy
   by_cases h125:isHd q.tail [125]=true
   ·rw [h125] at hy
    go_wp2_with fail
    go_ret2
    exact Says.ok (a:=((m:Int),-1)) (by rw [HX1.out,if_pos h44,if_pos h125]) rfl H3.out.addno HK3.out
   ·rw [Bool.not_eq_true] at h125
    rw [h125] at hy
    go_wp2_with fail
    refine (number_any H3.out m HM.out).mono ?_
    rintro e w4 h4
    rcases h4.split with ⟨n,q2,v,hx,rfl,rfl,hr,hk⟩ | ⟨n,k,hx,rfl,hb⟩
    ·have H4:=Lib.hid hr.app0;have HK4:=Lib.hid (HK3.out.trans hk);have HX4:=Lib.hid hx
     clear h4 hx hr hk
     go_wp2_with fail
     go_ret2
     exact Says.ok (a:=((m:Int),(n:Int))) (by rw [HX1.out,if_pos h44,if_neg (by rw [h125];simp),HX4.out];rfl) rfl H4.out.addno HK4.out
    ·have HX4:=Lib.hid hx;have HB4:=Lib.hid hb
     clear h4 hx hb
     go_wp2_with fail
     exact ⟨rfl,Says.err (by rw [HX1.out,if_pos h44,if_neg (by rw [h125];simp),HX4.out];rfl) rfl rfl ((HK3.out.below HG.out).trans HB4.out)⟩
  ·rw [Bool.not_eq_true] at h44
   go_wp2_with fail
   refine (skip_no H1.out [44] h44 (by decide)).mono ?_
   rintro e w2 ⟨rfl,hr2,hb2⟩
   have H2:=Lib.hid hr2;have HK2:=Lib.hid (HK.out.next hb2)
   clear hr2 hb2
   go_wp2_with fail
   go_ret2
   exact Says.ok (a:=((m:Int),(m:Int))) (by rw [HX1.out,if_neg (by rw [h44];simp)]) rfl H2.out.addno HK2.out
 ·have HX1:=Lib.hid (show x=.error (n,k) by rw [HX.out];unfold countsF;rw [hx];rfl)
  have HB:=Lib.hid hb
  clear h1 hx hb HN
  go_wp2_with fail
  exact ⟨rfl,Says.err HX1.out rfl rfl HB.out⟩
set_option maxHeartbeats 8000000 in
theorem times_any {B g:Nat} {s:Src} {r:List Tx} {d:Nat} {st:Stp} {w:World} (h:RS w B g s r d st) (hsm:st.l.length+2*r.length≤1000000) :
  Calls Tryz.prog 185 #[.pointer (some ⟨g,0,none⟩)] w (Says w B g s d st (times r) QU fun l=>l):=by
 have HG:=Lib.hid (Nat.le_of_lt h.lt)
 have hs1:st.l.length≤1073741824:=by omega
 have H0:=Lib.hid h;have HK0:=Lib.hid (Kpt.refl g w)
 obtain ⟨x,hx⟩:∃x,x=times r:=⟨_,rfl⟩
 have HX:=Lib.hid (hx.trans (show times r=if isHd r [42] then .ok ([ndR 0 (-1)],r.tail) else if isHd r [43] then .ok ([ndR 1 (-1)],r.tail) else if isHd r [63] then .ok ([ndR 0 1],r.tail)
  else if isHd r [123] then thn (counted r.tail) fun x s=>.ok ([x],s) else .ok ([],r) from rfl))
 rw [←hx]
 clear h hx
 go_enter Tryz.func185,Tryz.ntmps185
 by_cases h42:isHd r [42]=true
 ·go_wp2_with fail
  refine (skip_yes H0.out [42] h42).mono ?_
  rintro e w1 ⟨rfl,hr,hk⟩
  have H1:=Lib.hid hr;have HK1:=Lib.hid (HK0.out.trans hk)
  clear hr hk
  go_wp2_with fail
  refine (layRepeat_any H1.out hs1 (0) (-1)).mono ?_
  rintro e w2 ⟨rfl,hr,hk⟩
  have H2:=Lib.hid (rsa_of hr);have HK2:=Lib.hid (HK1.out.trans hk)
  clear hr hk
  go_wp2_with fail
  go_end0
  exact Says.ok (a:=[ndR (0) (-1)]) (by rw [HX.out,if_pos h42]) rfl H2.out HK2.out
 ·rw [Bool.not_eq_true] at h42
  go_wp2_with fail
  refine (skip_no H0.out [42] h42 (by decide)).mono ?_
  rintro e v0 ⟨rfl,hr,hb⟩
  have H10:=Lib.hid hr;have HK10:=Lib.hid (HK0.out.next hb)
  clear hr hb
  by_cases h43:isHd r [43]=true
  ·go_wp2_with fail
   refine (skip_yes H10.out [43] h43).mono ?_
   rintro e w1 ⟨rfl,hr,hk⟩
   have H1:=Lib.hid hr;have HK1:=Lib.hid (HK10.out.trans hk)
   clear hr hk
   go_wp2_with fail
   refine (layRepeat_any H1.out hs1 (1) (-1)).mono ?_
   rintro e w2 ⟨rfl,hr,hk⟩
   have H2:=Lib.hid (rsa_of hr);have HK2:=Lib.hid (HK1.out.trans hk)
   clear hr hk
   go_wp2_with fail
   go_end0
   exact Says.ok (a:=[ndR (1) (-1)]) (by rw [HX.out,if_neg (by rw [h42];simp),if_pos h43]) rfl H2.out HK2.out
  ·rw [Bool.not_eq_true] at h43
   go_wp2_with fail
   refine (skip_no H10.out [43] h43 (by decide)).mono ?_
   rintro e v10 ⟨rfl,hr,hb⟩
   have H20:=Lib.hid hr;have HK20:=Lib.hid (HK10.out.next hb)
   clear hr hb
   by_cases h63:isHd r [63]=true
   ·go_wp2_with fail
    refine (skip_yes H20.out [63] h63).mono ?_
    rintro e w1 ⟨rfl,hr,hk⟩
    have H1:=Lib.hid hr;have HK1:=Lib.hid (HK20.out.trans hk)
    clear hr hk
    go_wp2_with fail
    refine (layRepeat_any H1.out hs1 (0) (1)).mono ?_
    rintro e w2 ⟨rfl,hr,hk⟩
    have H2:=Lib.hid (rsa_of hr);have HK2:=Lib.hid (HK1.out.trans hk)
    clear hr hk
    go_wp2_with fail
    go_end0
    exact Says.ok (a:=[ndR (0) (1)]) (by rw [HX.out,if_neg (by rw [h42];simp),if_neg (by rw [h43];simp),if_pos h63]) rfl H2.out HK2.out
   ·rw [Bool.not_eq_true] at h63
    go_wp2_with fail
    refine (skip_no H20.out [63] h63 (by decide)).mono ?_
    rintro e v20 ⟨rfl,hr,hb⟩
    have H30:=Lib.hid hr;have HK30:=Lib.hid (HK20.out.next hb)
    clear hr hb
    by_cases h123:isHd r [123]=true
    ·go_wp2_with fail
     refine (skip_yes H30.out [123] h123).mono ?_
     rintro e w1 ⟨rfl,hr,hk⟩
     have H1:=Lib.hid hr;have HK1:=Lib.hid (HK30.out.trans hk)
     have HX1:=Lib.hid (show x=thn (thn (countsF r.tail) fun p s=>thn (want [125] s) fun _ q=>.ok (ndR p.1 p.2,q)) fun x s=>.ok ([x],s) by rw [HX.out,if_neg (by rw [h42];simp),if_neg (by rw [h43];simp),if_neg (by rw [h63];simp),if_pos h123,counted_eq])
     clear hr hk HX
     go_wp2_with fail
     refine (counts_any H1.out).mono ?_
     rintro e w2 h2
     rcases h2.split with ⟨p,q,v,hx,rfl,rfl,hr,hk⟩ | ⟨n,k,hx,rfl,hb⟩
     ·have H2:=Lib.hid hr.app0;have HK2:=Lib.hid (HK1.out.trans hk)
      have HX2:=Lib.hid (show x=thn (thn (want [125] q) fun _ q=>.ok (ndR p.1 p.2,q)) fun x s=>.ok ([x],s) by rw [HX1.out,hx];rfl)
      clear h2 hx hr hk HX1
      obtain ⟨p1,p2⟩:=p
      dsimp only at HX2
      go_wp2_with fail
      refine (layRepeat_any H2.out hs1 p1 p2).mono ?_
      rintro e w3 ⟨rfl,⟨st3,hs3,hr⟩,hk⟩
      have HS3:=Lib.hid hs3
      have H3:=Lib.hid hr;have HK3:=Lib.hid (HK2.out.trans hk)
      clear hr hk hs3
      go_wp2_with fail
      refine (want_any H3.out [125] (by decide)).mono ?_
      rintro e w4 h4
      rcases h4.split with ⟨_,q2,v,hx,rfl,rfl,hr,hk⟩ | ⟨n,k,hx,rfl,hb⟩
      ·have H4:=Lib.hid hr.app0;have HK4:=Lib.hid (HK3.out.trans hk)
       have HX4:=Lib.hid (show x=.ok ([ndR p1 p2],q2) by rw [HX2.out,hx];rfl)
       clear h4 hx hr hk
       go_wp2_with fail
       go_end0
       exact Says.ok HX4.out rfl (H4.out.addl HS3.out (by simp)) HK4.out
      ·have HX4:=Lib.hid (show x=.error (n,k) by rw [HX2.out,hx];rfl)
       have HB4:=Lib.hid ((HK3.out.below HG.out).trans hb)
       clear h4 hx hb
       go_wp2_with fail
       exact ⟨rfl,Says.err HX4.out rfl rfl HB4.out⟩
     ·have HX2:=Lib.hid (show x=.error (n,k) by rw [HX1.out,hx];rfl)
      have HB2:=Lib.hid ((HK1.out.below HG.out).trans hb)
      clear h2 hx hb
      go_wp2_with fail
      exact ⟨rfl,Says.err HX2.out rfl rfl HB2.out⟩
    ·rw [Bool.not_eq_true] at h123
     go_wp2_with fail
     refine (skip_no H30.out [123] h123 (by decide)).mono ?_
     rintro e v31 ⟨rfl,hr,hb⟩
     have H40:=Lib.hid hr;have HK40:=Lib.hid (HK30.out.next hb)
     clear hr hb
     go_wp2_with fail
     go_end0
     exact Says.ok (a:=[]) (by rw [HX.out,if_neg (by rw [h42];simp),if_neg (by rw [h43];simp),if_neg (by rw [h63];simp),if_neg (by rw [h123];simp)]) rfl H40.out.add0 HK40.out
end Go.Proofs.YtkgeiokckfpjlaaGreatDoor.Syn
namespace Go.Proofs.YtkgeiokckfpjlaaGreatDoor.Syn
open Go.RowKit
open Utf (Rd Blk)
open Rset (Ret)
open Sset (St Tx mk_toList allS allS_nm firstS firstS_nm ofS ofS_nm r_all r_first r_of)
set_option maxRecDepth 100000
theorem RSA.trans {w':World} {B g d:Nat} {s:Src} {q:List Tx} {st st1:Stp} {l m:List Nd} (h:st1.l=st.l++l) (h0:l=[]→st1=st) (k:RSA w' B g s q d st1 m):RSA w' B g s q d st (l++m):=by
 obtain ⟨st2,k1,k2,k3⟩:=k
 refine ⟨st2,by rw [k1,h,List.append_assoc],fun e=>?_,k3⟩
 obtain ⟨e1,e2⟩:=List.append_eq_nil_iff.1 e
 rw [k2 e2,h0 e1]
structure SubOk (B g:Nat) (s:Src) (d:Nat) (sub:Sub):Prop where
 good:GoodSub sub
 le:LeSub sub
 call:(d=32∧sub=none)∨(d < 32∧∃f,sub=some f∧∀(w:World) (r:List Tx) (st:Stp),RS w B g s r (d+1) st→st.l.length+2*r.length≤1000000 →
  Calls Tryz.prog 84 #[.pointer (some ⟨g,0,none⟩)] w (Says w B g s (d+1) st (f r) QU fun l=>l))
def groupF (sub:Sub) (r:List Tx):R (List Nd):=match sub with
 | none=>.error (r.length,4)
 | some f=>thn (f r.tail) fun l s=>thn (want [41] s) fun _ q=>.ok (l,q)
set_option maxHeartbeats 8000000 in
theorem group_any {B g:Nat} {s:Src} {r:List Tx} {d:Nat} {st:Stp} {w:World} {sub:Sub} (h:RS w B g s r d st) (hs:SubOk B g s d sub) (hr:r≠[]) (hsm:st.l.length+2*r.length≤1000000) :
  Calls Tryz.prog 210 #[.pointer (some ⟨g,0,none⟩)] w (Says w B g s d st (groupF sub r) QU fun l=>l):=by
 have HG:=Lib.hid (Nat.le_of_lt h.lt)
 obtain ⟨p,hp,hp4,c1,f1⟩:=h.c1p
 have c2:=h.c2
 have f2:=h.fr 2
 have hd:=h.deep
 rcases hs.call with ⟨rfl,rfl⟩ | ⟨hlt,f,rfl,hf⟩
 ·have HX:=Lib.hid (show groupF none r=.error (r.length,4) from rfl)
  have HP:=Lib.hid hp
  clear h hs hsm hp
  go_enter Tryz.func210,Tryz.ntmps210
  go_wp2_with fail
  exact ⟨rfl,Says.err HX.out (by rw [HP.out]) rfl (Below.refl _ _)⟩
 ·have hne:¬(d:Int)=32:=by omega
  have hne2:((d:Int) == 32)=false:=by simpa using hne
  have HDD:=Lib.hid hlt
  have HZ:=Lib.hid (h.adv hr (p:=(p:Int)+1) (by rw [hp]))
  have HZ2:=Lib.hid (HZ.out.dep (e:=d+1) (by omega) (p:=(d:Int)+1) (by omega))
  have HKZ:=Lib.hid ((Kpt.put w g 1 (.int .i64 ((p:Int)+1))).trans (Kpt.put _ g 2 (.int .i64 ((d:Int)+1))))
  have e2:(w.setCell ⟨g,1,none⟩ (.int .i64 ((p:Int)+1))).cell? ⟨g,2,none⟩=some (.int .i64 d):=HZ.out.c2
  have g2:(w.setCell ⟨g,1,none⟩ (.int .i64 ((p:Int)+1))).frozen? ⟨g,2,none⟩=false:=HZ.out.fr 2
  have hl:=List.length_pos_iff.2 hr
  have HC:=Lib.hid (hf _ _ _ HZ2.out (by rw [List.length_tail];omega))
  obtain ⟨x,hx⟩:∃x,x=groupF (some f) r:=⟨_,rfl⟩
  have HX:=Lib.hid (hx.trans (show groupF (some f) r=thn (f r.tail) fun l s=>thn (want [41] s) fun _ q=>.ok (l,q) from rfl))
  rw [←hx]
  clear h hs hsm hp hx hf hr hl
  go_enter Tryz.func210,Tryz.ntmps210
  go_wp2_with fail
  refine HC.out.mono ?_
  rintro e w1 h1
  rcases h1.split with ⟨l,q,v,hx,rfl,rfl,⟨st1,hl1,h01,hr⟩,hk⟩ | ⟨n,k,hx,rfl,hb⟩
  ·have H1:=Lib.hid hr;have HK1:=Lib.hid (HKZ.out.trans hk);have HL1:=Lib.hid hl1;have H01:=Lib.hid h01
   have HX1:=Lib.hid (show x=thn (want [41] q) fun _ q=>.ok (l,q) by rw [HX.out,hx];rfl)
   clear h1 hx hr hk hl1 h01 HX HC
   go_wp2_with fail
   refine (want_any H1.out [41] (by decide)).mono ?_
   rintro e w2 h2
   rcases h2.split with ⟨_,q2,v,hx,rfl,rfl,hr,hk⟩ | ⟨n,k,hx,rfl,hb⟩
   ·have H2:=Lib.hid hr.app0;have HK2:=Lib.hid (HK1.out.trans hk)
    have HX2:=Lib.hid (show x=.ok (l,q2) by rw [HX1.out,hx];rfl)
    clear h2 hx hr hk HX1
    have k2:w2.cell? ⟨g,2,none⟩=some (.int .i64 ((d:Int)+1)):=H2.out.c2
    have kf:=H2.out.fr 2
    have hw:((d:Int)+1) - 1=(d:Int):=by omega
    go_wp2_with fail
    go_end0
    exact Says.ok HX2.out rfl ⟨st1,HL1.out,H01.out,H2.out.dep (by have:=HDD.out;omega) rfl⟩ (HK2.out.trans (Kpt.put _ _ _ _))
   ·have HX2:=Lib.hid (show x=.error (n,k) by rw [HX1.out,hx];rfl)
    have HB2:=Lib.hid ((HK1.out.below HG.out).trans hb)
    clear h2 hx hb
    go_wp2_with fail
    exact ⟨rfl,Says.err HX2.out rfl rfl HB2.out⟩
  ·have HX1:=Lib.hid (show x=.error (n,k) by rw [HX.out,hx];rfl)
   have HB1:=Lib.hid ((HKZ.out.below HG.out).trans hb)
   clear h1 hx hb
   go_wp2_with fail
   exact ⟨rfl,Says.err HX1.out rfl rfl HB1.out⟩
theorem atom_eq {sub:Sub} {r:List Tx} (hr:r≠[]):atom theE sub r=if isHd r [40]=true then groupF sub r else if isHd r [46]=true then .ok ([ndS allS],r.tail) else if isHd r [91]=true then thn (cls theE r.tail) fun x s=>.ok ([ndS x],s)
  else if isCat r=true then thn (catP theE (isHd r.tail [80]) r.tail.tail) fun x s=>.ok ([ndS (firstS x)],s) else if isHd r [92]=true then thn (letter theE r.tail) fun t s=>.ok ([ndS (ofS t)],s)
  else if sgn (nth r 0)=true then bad r else .ok ([ndS (ofS (nth r 0))],r.tail):=by
 cases r with
 | nil=>exact absurd rfl hr
 | cons c r =>
  have hh:∀t,(isHd (c :: r) t=true)↔c=t:=fun t=>by unfold isHd;simp
  simp only [atom,hh]
  by_cases h1:c=[40]
  ·rw [if_pos h1,if_pos h1];cases sub <;> rfl
  ·rw [if_neg h1,if_neg h1]
   by_cases h2:c=[46]
   ·rw [if_pos h2,if_pos h2];rfl
   ·rw [if_neg h2,if_neg h2]
    by_cases h3:c=[91]
    ·rw [if_pos h3,if_pos h3];rfl
    ·rw [if_neg h3,if_neg h3]
     by_cases h4:c=[92]
     ·rw [if_pos h4,if_pos h4]
      subst h4
      have e:isCat ([92] :: r)=(isHd r [112] || isHd r [80]):=rfl
      rw [e]
      rfl
     ·have e:isCat (c :: r)=false:=by unfold isCat;rw [show isHd (c :: r) [92]=false by rw [Bool.eq_false_iff];exact fun h=>h4 ((hh _).1 h)];rfl
      rw [if_neg h4,if_neg h4,e,if_neg Bool.false_ne_true]
      rfl
set_option maxHeartbeats 16000000 in
theorem atom_any {B g:Nat} {s:Src} {r:List Tx} {d:Nat} {st:Stp} {w:World} {sub:Sub} (h:RS w B g s r d st) (hs:SubOk B g s d sub) (hr:r≠[]) (hsm:st.l.length+2*r.length≤1000000) :
  Calls Tryz.prog 184 #[.pointer (some ⟨g,0,none⟩)] w (Says w B g s d st (atom theE sub r) QU fun l=>l):=by
 have HG:=Lib.hid (Nat.le_of_lt h.lt)
 have HBG:=Lib.hid h.le
 have HSH:=Lib.hid h.shorts
 have HRN:=Lib.hid hr
 have hs1:st.l.length≤1073741824:=by omega
 have H0:=Lib.hid h
 obtain ⟨x,hx⟩:∃x,x=atom theE sub r:=⟨_,rfl⟩
 have HX:=Lib.hid (hx.trans (atom_eq hr))
 rw [←hx]
 have HGR:=Lib.hid (fun (u:World) (hu:RS u B g s r d st)=>group_any hu hs hr hsm)
 clear h hs hr hsm hx
 go_enter Tryz.func184,Tryz.ntmps184
 go_wp2_with fail
 refine (next_any H0.out).mono ?_
 rintro e w1 ⟨rfl,hb⟩
 have H1:=Lib.hid (H0.out.next hb);have HK1:=Lib.hid (Kpt.of_below (g:=g) hb)
 clear hb
 have hY:=mk_toList (nth r 0)
 have hy:(nth r 0 == [40])=isHd r [40]:=hd_eq (by decide)
 generalize (⟨(nth r 0).toArray⟩:ByteArray)=Y at hY ⊢
 obtain ⟨y,hyy⟩:∃y,y=nth r 0:=⟨_,rfl⟩
 rw [←hyy] at hY hy
 clear hyy
 cases h40:isHd r [40] with
 | true =>
  have HX1:=Lib.hid (show x=groupF sub r by rw [HX.out,if_pos h40])
  rw [h40] at hy
  clear h40
  go_wp2_with fail
  refine (HGR.out w1 H1.out).mono ?_
  rintro e w2 h2
  rcases h2.split with ⟨l,q,v,hx,rfl,rfl,hr,hk⟩ | ⟨n,k,hx,rfl,hb⟩
  ·have H2:=Lib.hid hr;have HK2:=Lib.hid (HK1.out.trans hk)
   have HX2:=Lib.hid (show x=.ok (l,q) by rw [HX1.out,hx])
   clear h2 hx hr hk
   go_wp2_with fail
   go_end0
   exact Says.ok HX2.out rfl H2.out HK2.out
  ·clear h2
   have HXE:=Lib.hid (show x=.error (n,k) by rw [HX1.out,hx])
   have HBE:=Lib.hid ((HK1.out.below HG.out).trans hb)
   clear hx hb
   go_wp2_with fail
   exact ⟨rfl,Says.err HXE.out rfl rfl HBE.out⟩
 | false =>
  have H40X:=Lib.hid h40
  rw [h40] at hy
  clear h40
  by_cases h46:isHd r [46]=true
  ·have HX1:=Lib.hid (show x=.ok ([ndS allS],r.tail) by rw [HX.out,if_neg (by rw [H40X.out];simp),if_pos h46])
   go_wp2_with fail
   refine (skip_yes H1.out [46] h46).mono ?_
   rintro e w5 ⟨rfl,hr,hk⟩
   have H5:=Lib.hid hr;have HK5:=Lib.hid (HK1.out.trans hk)
   clear hr hk
   go_wp2_with fail
   refine (r_all w5).mono ?_
   rintro e w8 ⟨P1,p1,q1,P2,p2,q2,P3,p3,q3,rfl,M⟩
   have HM:=Lib.hid M
   clear M
   have H8:=Lib.hid (H5.out.next HM.out.bel);have HK8:=Lib.hid (HK5.out.next HM.out.bel)
   have HH8:=Lib.hid (held_set (B:=B) HM.out (allS_nm) (Nat.le_trans HBG.out (Nat.le_of_lt H5.out.lt)))
   go_wp2_with fail
   refine (laySet_any H8.out hs1 HH8.out).mono ?_
   rintro e w9 ⟨rfl,hr,hk⟩
   have H9:=Lib.hid (rsa_of hr);have HK9:=Lib.hid (HK8.out.trans hk)
   clear hr hk
   go_wp2_with fail
   go_end0
   exact Says.ok (a:=[ndS (allS)]) HX1.out rfl H9.out HK9.out
  ·rw [Bool.not_eq_true] at h46
   go_wp2_with fail
   refine (skip_no H1.out [46] h46 (by decide)).mono ?_
   rintro e v2 ⟨rfl,hr,hb⟩
   have H2:=Lib.hid hr;have HK2:=Lib.hid (HK1.out.next hb)
   clear hr hb
   by_cases h91:isHd r [91]=true
   ·have HX1:=Lib.hid (show x=thn (cls theE r.tail) fun x s=>.ok ([ndS x],s) by rw [HX.out,if_neg (by rw [H40X.out];simp),if_neg (by rw [h46];simp),if_pos h91])
    go_wp2_with fail
    refine (skip_yes H2.out [91] h91).mono ?_
    rintro e w5 ⟨rfl,hr,hk⟩
    have H5:=Lib.hid hr;have HK5:=Lib.hid (HK2.out.trans hk)
    clear hr hk
    go_wp2_with fail
    refine (class_any H5.out).mono ?_
    rintro e w6 h6
    rcases h6.split with ⟨t,q,v,hx,rfl,⟨P1,p1,q1,P2,p2,q2,P3,p3,q3,rfl,hm⟩,hr,hk⟩ | ⟨n,k,hx,rfl,hb⟩
    ·have H6:=Lib.hid hr.app0;have HK6:=Lib.hid (HK5.out.trans hk)
     have HX6:=Lib.hid (show x=.ok ([ndS t],q) by rw [HX1.out,hx];rfl)
     have HH6:=Lib.hid (hm.mono (Nat.le_trans HBG.out (Nat.le_of_lt H5.out.lt)))
     clear h6 hx hr hk hm
     go_wp2_with fail
     refine (laySet_any H6.out hs1 HH6.out).mono ?_
     rintro e w9 ⟨rfl,hr,hk⟩
     have H9:=Lib.hid (rsa_of hr);have HK9:=Lib.hid (HK6.out.trans hk)
     clear hr hk
     go_wp2_with fail
     go_end0
     exact Says.ok (a:=[ndS t]) HX6.out rfl H9.out HK9.out
    ·clear h6
     have HXE:=Lib.hid (show x=.error (n,k) by rw [HX1.out,hx];rfl)
     have HBE:=Lib.hid ((HK5.out.below HG.out).trans hb)
     clear hx hb
     go_wp2_with fail
     exact ⟨rfl,Says.err HXE.out rfl rfl HBE.out⟩
   ·rw [Bool.not_eq_true] at h91
    go_wp2_with fail
    refine (skip_no H2.out [91] h91 (by decide)).mono ?_
    rintro e v3 ⟨rfl,hr,hb⟩
    have H3:=Lib.hid hr;have HK3:=Lib.hid (HK2.out.next hb)
    clear hr hb
    go_wp2_with fail
    refine (namesCategory_any H3.out).mono ?_
    rintro e v4 ⟨rfl,hb⟩
    have H4:=Lib.hid (H3.out.next hb);have HK4:=Lib.hid (HK3.out.next hb)
    clear hb
    cases hca:isCat r with
    | true =>
     have HX1:=Lib.hid (show x=thn (catP theE (isHd r.tail [80]) r.tail.tail) fun x s=>.ok ([ndS (firstS x)],s) by rw [HX.out,if_neg (by rw [H40X.out];simp),if_neg (by rw [h46];simp),if_neg (by rw [h91];simp),if_pos hca])
     have HCC:=Lib.hid (category_any H4.out hca)
     clear hca
     go_wp2_with fail
     refine HCC.out.mono ?_
     rintro e w6 h6
     rcases h6.split with ⟨l,q,v,hx,rfl,⟨A,n,c,rfl,ha⟩,hr,hk⟩ | ⟨n,k,hx,rfl,hb⟩
     ·have H6:=Lib.hid hr.app0;have HK6:=Lib.hid (HK4.out.trans hk);have HA:=Lib.hid ha
      have HX6:=Lib.hid (show x=.ok ([ndS (firstS l)],q) by rw [HX1.out,hx];rfl)
      clear h6 hx hr hk ha
      go_wp2_with fail
      refine (r_first A l n c w6 HA.out).mono ?_
      rintro e w8 ⟨P1,p1,q1,P2,p2,q2,P3,p3,q3,rfl,M⟩
      have HM:=Lib.hid M
      clear M
      have H8:=Lib.hid (H6.out.next HM.out.bel);have HK8:=Lib.hid (HK6.out.next HM.out.bel)
      have HH8:=Lib.hid (held_set (B:=B) HM.out (firstS_nm l) (Nat.le_trans HBG.out (Nat.le_of_lt H6.out.lt)))
      go_wp2_with fail
      refine (laySet_any H8.out hs1 HH8.out).mono ?_
      rintro e w9 ⟨rfl,hr,hk⟩
      have H9:=Lib.hid (rsa_of hr);have HK9:=Lib.hid (HK8.out.trans hk)
      clear hr hk
      go_wp2_with fail
      go_end0
      exact Says.ok (a:=[ndS (firstS l)]) HX6.out rfl H9.out HK9.out
     ·clear h6
      have HXE:=Lib.hid (show x=.error (n,k) by rw [HX1.out,hx];rfl)
      have HBE:=Lib.hid ((HK4.out.below HG.out).trans hb)
      clear hx hb
      go_wp2_with fail
      exact ⟨rfl,Says.err HXE.out rfl rfl HBE.out⟩
    | false =>
     by_cases h92:isHd r [92]=true
     ·have HX1:=Lib.hid (show x=thn (letter theE r.tail) fun t s=>.ok ([ndS (ofS t)],s) by rw [HX.out,if_neg (by rw [H40X.out];simp),if_neg (by rw [h46];simp),if_neg (by rw [h91];simp),if_neg (by rw [hca];simp),if_pos h92])
      go_wp2_with fail
      refine (skip_yes H4.out [92] h92).mono ?_
      rintro e w5 ⟨rfl,hr,hk⟩
      have H5:=Lib.hid hr;have HK5:=Lib.hid (HK4.out.trans hk)
      clear hr hk
      go_wp2_with fail
      refine (letter_any H5.out).mono ?_
      rintro e w6 h6
      rcases h6.split with ⟨t,q,v,hx,rfl,rfl,hr,hk⟩ | ⟨n,k,hx,rfl,hb⟩
      ·have H6:=Lib.hid hr.app0;have HK6:=Lib.hid (HK5.out.trans hk)
       have HX6:=Lib.hid (show x=.ok ([ndS (ofS t)],q) by rw [HX1.out,hx];rfl)
       have HTL:=Lib.hid (letter_short goodE (HSH.out.suf (tail_suf r)) hx)
       clear h6 hx hr hk
       go_wp2_with fail
       refine (r_of _ t (mk_toList t) HTL.out w6).mono ?_
       rintro e w8 ⟨P1,p1,q1,P2,p2,q2,P3,p3,q3,rfl,M⟩
       have HM:=Lib.hid M
       clear M
       have H8:=Lib.hid (H6.out.next HM.out.bel);have HK8:=Lib.hid (HK6.out.next HM.out.bel)
       have HH8:=Lib.hid (held_set (B:=B) HM.out (ofS_nm t) (Nat.le_trans HBG.out (Nat.le_of_lt H6.out.lt)))
       go_wp2_with fail
       refine (laySet_any H8.out hs1 HH8.out).mono ?_
       rintro e w9 ⟨rfl,hr,hk⟩
       have H9:=Lib.hid (rsa_of hr);have HK9:=Lib.hid (HK8.out.trans hk)
       clear hr hk
       go_wp2_with fail
       go_end0
       exact Says.ok (a:=[ndS (ofS t)]) HX6.out rfl H9.out HK9.out
      ·clear h6
       have HXE:=Lib.hid (show x=.error (n,k) by rw [HX1.out,hx];rfl)
       have HBE:=Lib.hid ((HK5.out.below HG.out).trans hb)
       clear hx hb
       go_wp2_with fail
       exact ⟨rfl,Says.err HXE.out rfl rfl HBE.out⟩
     ·rw [Bool.not_eq_true] at h92
      go_wp2_with fail
      refine (skip_no H4.out [92] h92 (by decide)).mono ?_
      rintro e v5 ⟨rfl,hr,hb⟩
      have H5:=Lib.hid hr;have HK5:=Lib.hid (HK4.out.next hb)
      clear hr hb
      go_wp2_with fail
      refine (next_any H5.out).mono ?_
      rintro e v6 ⟨rfl,hb⟩
      have H6:=Lib.hid (H5.out.next hb);have HK6:=Lib.hid (HK5.out.next hb)
      clear hb
      go_wp2_with fail
      refine (sign_any (nth r 0) v6).mono ?_
      rintro e w' ⟨rfl,rfl⟩
      cases hsg:sgn (nth r 0) with
      | true =>
       have HXB:=Lib.hid (show x=.error (r.length,2) by rw [HX.out,if_neg (by rw [H40X.out];simp),if_neg (by rw [h46];simp),if_neg (by rw [h91];simp),if_neg (by rw [hca];simp),if_neg (by rw [h92];simp),if_pos hsg];rfl)
       obtain ⟨p,hp,hp4,c1,_⟩:=H6.out.c1p
       have HRB:=Lib.hid (refuse_any (.pointer (some ⟨g,0,none⟩)) g p s r.length w' hp)
       clear hsg hp
       go_wp2_with fail
       refine HRB.out.mono ?_
       rintro e w9 ⟨rfl,hb9⟩
       go_wp2_with fail
       exact ⟨rfl,Says.err HXB.out rfl rfl ((HK6.out.below HG.out).trans hb9)⟩
      | false =>
       have HXG:=Lib.hid (show x=.ok ([ndS (ofS (nth r 0))],r.tail) by rw [HX.out,if_neg (by rw [H40X.out];simp),if_neg (by rw [h46];simp),if_neg (by rw [h91];simp),if_neg (by rw [hca];simp),if_neg (by rw [h92];simp),if_neg (by rw [hsg];simp)])
       have HTL:=Lib.hid (show (nth r 0).length≤1073741824 from HSH.out _ (by rw [nth_lt (List.length_pos_iff.2 HRN.out)];exact List.getElem_mem _))
       clear hsg
       go_wp2_with fail
       refine (next_any H6.out).mono ?_
       rintro e w7 ⟨rfl,hb⟩
       have H7:=Lib.hid (H6.out.next hb);have HK7:=Lib.hid (HK6.out.next hb)
       clear hb
       go_wp2_with fail
       refine (r_of _ (nth r 0) (mk_toList _) HTL.out w7).mono ?_
       rintro e w8 ⟨P1,p1,q1,P2,p2,q2,P3,p3,q3,rfl,M⟩
       have HM:=Lib.hid M
       clear M
       have H8:=Lib.hid (H7.out.next HM.out.bel);have HK8:=Lib.hid (HK7.out.next HM.out.bel)
       have HH8:=Lib.hid (held_set (B:=B) HM.out (ofS_nm _) (Nat.le_trans HBG.out (Nat.le_of_lt H7.out.lt)))
       go_wp2_with fail
       refine (laySet_any H8.out hs1 HH8.out).mono ?_
       rintro e w9 ⟨rfl,⟨st9,hl9,hr⟩,hk⟩
       obtain ⟨p,hp,hp4,c1,f1⟩:=hr.c1p
       have H9:=Lib.hid (hr.adv HRN.out (p:=(p:Int)+1) (by rw [hp]));have HK9:=Lib.hid ((HK8.out.trans hk).trans (Kpt.put w9 g 1 (.int .i64 ((p:Int)+1))));have HL9:=Lib.hid hl9
       clear hr hk hl9 hp
       go_wp2_with fail
       go_end0
       exact Says.ok HXG.out rfl (H9.out.addl HL9.out (by simp)) HK9.out
end Go.Proofs.YtkgeiokckfpjlaaGreatDoor.Syn
namespace Go.Proofs.YtkgeiokckfpjlaaGreatDoor.Syn
open Go.RowKit
open Utf (Rd Blk)
open Rset (Ret)
open Sset (St Tx mk_toList)
set_option maxRecDepth 100000
set_option maxHeartbeats 8000000 in
theorem part_any {B g:Nat} {s:Src} {r:List Tx} {d:Nat} {st:Stp} {w:World} {sub:Sub} (h:RS w B g s r d st) (hs:SubOk B g s d sub) (hr:r≠[]) (hsm:st.l.length+2*r.length≤1000000) :
  Calls Tryz.prog 153 #[.pointer (some ⟨g,0,none⟩)] w (Says w B g s d st (part theE sub r) QU fun l=>l):=by
 have HG:=Lib.hid (Nat.le_of_lt h.lt)
 have HRN:=Lib.hid hr
 have hs1:st.l.length≤1073741824:=by omega
 have H0:=Lib.hid h
 obtain ⟨x,hx⟩:∃x,x=part theE sub r:=⟨_,rfl⟩
 have HX:=Lib.hid (hx.trans (show part theE sub r=if isHd r [94] then .ok ([nd 3],r.tail) else if isHd r [36] then .ok ([nd 4],r.tail) else thn (atom theE sub r) fun l s=>thn (times s) fun m q=>.ok (l++m,q) from rfl))
 rw [←hx]
 have HAT:=Lib.hid (fun (u:World) (hu:RS u B g s r d st)=>atom_any hu hs hr hsm)
 have HLE:=Lib.hid (le_atom theE hs.le r)
 have HSM:=Lib.hid hsm
 have HLR:=Lib.hid (List.length_pos_iff.2 hr)
 clear h hs hr hsm hx
 go_enter Tryz.func153,Tryz.ntmps153
 by_cases h94:isHd r [94]=true
 ·have HX1:=Lib.hid (show x=.ok ([nd 3],r.tail) by rw [HX.out,if_pos h94])
  go_wp2_with fail
  refine (skip_yes H0.out [94] h94).mono ?_
  rintro e w1 ⟨rfl,hr,hk⟩
  have H1:=Lib.hid hr;have HK1:=Lib.hid hk
  clear hr hk
  go_wp2_with fail
  refine (lay_any H1.out hs1 3).mono ?_
  rintro e w2 ⟨rfl,hr,hk⟩
  have H2:=Lib.hid (rsa_of hr);have HK2:=Lib.hid (HK1.out.trans hk)
  clear hr hk
  go_wp2_with fail
  go_end0
  exact Says.ok (a:=[nd 3]) HX1.out rfl H2.out HK2.out
 ·rw [Bool.not_eq_true] at h94
  go_wp2_with fail
  refine (skip_no H0.out [94] h94 (by decide)).mono ?_
  rintro e v1 ⟨rfl,hr,hb⟩
  have H1:=Lib.hid hr;have HK1:=Lib.hid (Kpt.of_below (g:=g) hb)
  clear hr hb
  by_cases h36:isHd r [36]=true
  ·have HX1:=Lib.hid (show x=.ok ([nd 4],r.tail) by rw [HX.out,if_neg (by rw [h94];simp),if_pos h36])
   go_wp2_with fail
   refine (skip_yes H1.out [36] h36).mono ?_
   rintro e w1 ⟨rfl,hr,hk⟩
   have H2:=Lib.hid hr;have HK2:=Lib.hid (HK1.out.trans hk)
   clear hr hk
   go_wp2_with fail
   refine (lay_any H2.out hs1 4).mono ?_
   rintro e w2 ⟨rfl,hr,hk⟩
   have H3:=Lib.hid (rsa_of hr);have HK3:=Lib.hid (HK2.out.trans hk)
   clear hr hk
   go_wp2_with fail
   go_end0
   exact Says.ok (a:=[nd 4]) HX1.out rfl H3.out HK3.out
  ·rw [Bool.not_eq_true] at h36
   have HX1:=Lib.hid (show x=thn (atom theE sub r) fun l s=>thn (times s) fun m q=>.ok (l++m,q) by rw [HX.out,if_neg (by rw [h94];simp),if_neg (by rw [h36];simp)])
   go_wp2_with fail
   refine (skip_no H1.out [36] h36 (by decide)).mono ?_
   rintro e v2 ⟨rfl,hr,hb⟩
   have H2:=Lib.hid hr;have HK2:=Lib.hid (HK1.out.next hb)
   clear hr hb h36 h94
   go_wp2_with fail
   refine (HAT.out v2 H2.out).mono ?_
   rintro e w3 h3
   rcases h3.split with ⟨l,q,v,hx,rfl,rfl,⟨st1,hl1,h01,hr⟩,hk⟩ | ⟨n,k,hx,rfl,hb⟩
   ·have H3:=Lib.hid hr;have HK3:=Lib.hid (HK2.out.trans hk);have HL1:=Lib.hid hl1;have H01:=Lib.hid h01
    have HX3:=Lib.hid (show x=thn (times q) fun m q=>.ok (l++m,q) by rw [HX1.out,hx];rfl)
    have HTI:=Lib.hid (times_any H3.out (by have:=HLE.out l q hx;have:=HSM.out;rw [HL1.out,List.length_append];omega))
    clear h3 hx hr hk hl1 h01
    go_wp2_with fail
    refine HTI.out.mono ?_
    rintro e w4 h4
    rcases h4.split with ⟨m,q2,v,hx,rfl,rfl,hr,hk⟩ | ⟨n,k,hx,rfl,hb⟩
    ·have H4:=Lib.hid (RSA.trans HL1.out H01.out hr);have HK4:=Lib.hid (HK3.out.trans hk)
     have HX4:=Lib.hid (show x=.ok (l++m,q2) by rw [HX3.out,hx];rfl)
     clear h4 hx hr hk
     go_wp2_with fail
     go_end0
     exact Says.ok HX4.out rfl H4.out HK4.out
    ·have HX4:=Lib.hid (show x=.error (n,k) by rw [HX3.out,hx];rfl)
     have HB4:=Lib.hid ((HK3.out.below HG.out).trans hb)
     clear h4 hx hb
     go_wp2_with fail
     exact ⟨rfl,Says.err HX4.out rfl rfl HB4.out⟩
   ·have HX3:=Lib.hid (show x=.error (n,k) by rw [HX1.out,hx];rfl)
    have HB3:=Lib.hid ((HK2.out.below HG.out).trans hb)
    clear h3 hx hb
    go_wp2_with fail
    exact ⟨rfl,Says.err HX3.out rfl rfl HB3.out⟩
theorem parts_fuel (E:Env) {sub:Sub} (hs:GoodSub sub):∀(n:Nat) (r:List Tx),r.length≤n→∀(f:Nat),r.length < f→∀l,parts E sub f l r=parts E sub (r.length+1) l r
 | _,r,_,0,hf,_=>by omega
 | 0,r,hn,f+1,_,l=>by
  have:r=[]:=List.eq_nil_of_length_eq_zero (by omega)
  subst this
  unfold parts
  rfl
 | n+1,r,hn,f+1,hf,l=>by
  unfold parts
  by_cases h:stops r=true
  ·rw [if_pos h,if_pos h]
  ·rw [if_neg h,if_neg h]
   cases hx:part E sub r with
   | error p=>rfl
   | ok p =>
    obtain ⟨m,s⟩:=p
    have hl:=good_ok (good_part E hs r) hx
    show parts E sub f (l++m++[nd 5]) s=parts E sub r.length (l++m++[nd 5]) s
    rw [parts_fuel E hs n s (by omega) f (by omega),parts_fuel E hs n s (by omega) r.length (by omega)]
theorem stops_ne {r:List Tx} (h:stops r=false):r≠[]:=by rintro rfl;cases h
structure RowI (w wr:World) (B g:Nat) (s:Src) (r:List Tx) (d:Nat) (st:Stp) (sub:Sub) (q:List Tx) (l:List Nd):Prop where
 rs:RSA wr B g s q d st l
 kpt:Kpt g w wr
 eq:row theE sub r=parts theE sub (q.length+1) l q
 sm:st.l.length+l.length+2*q.length≤1000000
set_option maxHeartbeats 8000000 in
theorem row_any {B g:Nat} {s:Src} {r:List Tx} {d:Nat} {st:Stp} {w:World} {sub:Sub} (h:RS w B g s r d st) (hs:SubOk B g s d sub) (hsm:st.l.length+2*r.length≤1000000) :
  Calls Tryz.prog 115 #[.pointer (some ⟨g,0,none⟩)] w (Says w B g s d st (row theE sub r) QU fun l=>l):=by
 have HG:=Lib.hid (Nat.le_of_lt h.lt)
 have hs1:st.l.length≤1073741824:=by omega
 have H0:=Lib.hid h
 have HSB:=Lib.hid hs
 obtain ⟨N,hN⟩:∃N,N=s.n:=⟨_,rfl⟩
 have HNN:=Lib.hid hN
 obtain ⟨x,hx⟩:∃x,x=row theE sub r:=⟨_,rfl⟩
 have HX0:=Lib.hid hx
 have HX:=Lib.hid (hx.trans (show row theE sub r=if stops r then .ok ([nd 1],r) else thn (part theE sub r) fun l s=>parts theE sub (s.length+1) l s from rfl))
 rw [←hx]
 have HSM:=Lib.hid hsm
 clear h hs hsm hx hN
 go_enter Tryz.func115,Tryz.ntmps115
 go_wp2_with fail
 refine (rowEnds_any H0.out).mono ?_
 rintro e w1 ⟨rfl,hb⟩
 have H1:=Lib.hid (H0.out.next hb);have HK1:=Lib.hid (Kpt.of_below (g:=g) hb)
 clear hb
 cases hst:stops r with
 | true =>
  have HX1:=Lib.hid (show x=.ok ([nd 1],r) by rw [HX.out,if_pos hst])
  clear hst
  go_wp2_with fail
  refine (lay_any H1.out hs1 1).mono ?_
  rintro e w2 ⟨rfl,hr,hk⟩
  have H2:=Lib.hid (rsa_of hr);have HK2:=Lib.hid (HK1.out.trans hk)
  clear hr hk
  go_wp2_with fail
  go_end0
  exact Says.ok (a:=[nd 1]) HX1.out rfl H2.out HK2.out
 | false =>
  have HX1:=Lib.hid (show x=thn (part theE sub r) fun l s=>parts theE sub (s.length+1) l s by rw [HX.out,if_neg (by rw [hst];simp)])
  have HNE:=Lib.hid (stops_ne hst)
  clear hst
  go_wp2_with fail
  refine (part_any H1.out HSB.out HNE.out HSM.out).mono ?_
  rintro e w2 h2
  rcases h2.split with ⟨l,q,v,hx,rfl,rfl,hr,hk⟩ | ⟨n,k,hx,rfl,hb⟩
  ·have HI:=Lib.hid (show RowI w w2 B g s r d st sub q l from ⟨hr,HK1.out.trans hk,by rw [←HX0.out,HX1.out,hx];rfl,by have:=le_part theE HSB.out.le r l q hx;have:=HSM.out;have:=List.length_pos_iff.2 HNE.out;omega⟩)
   clear h2 hx hr hk
   go_wp2_with fail
   go_loopw [] (fun wr=>Hid (∃q l,RowI w wr B g s r d st sub q l)) (fun wr=>leftOf N g wr)
   case atStart=>exact Lib.hid ⟨_,_,HI.out⟩
   case round =>
    obtain ⟨q,l,hI⟩:=hrel.out
    obtain ⟨st1,hl1,h01,hr⟩:=hI.rs
    have HI:=Lib.hid hI;have H3:=Lib.hid hr;have HL1:=Lib.hid hl1;have H01:=Lib.hid h01
    have HL:=Lib.hid (show leftOf N g wr=q.length by rw [HNN.out];exact left_rs hr)
    have HSQ:=Lib.hid (show st1.l.length+2*q.length≤1000000 by rw [hl1,List.length_append];exact hI.sm)
    clear hrel hI hr hl1 h01
    go_wp2_with fail
    refine (rowEnds_any H3.out).mono ?_
    rintro e w4 ⟨rfl,hb⟩
    have H4:=Lib.hid (H3.out.next hb);have HK4:=Lib.hid (HI.out.kpt.next hb)
    clear hb
    cases hst:stops q with
    | true =>
     have HX4:=Lib.hid (show x=.ok (l,q) by rw [HX0.out,HI.out.eq];unfold parts;rw [if_pos hst])
     clear hst
     go_wp2_with fail
     go_end0
     exact Says.ok HX4.out rfl ⟨st1,HL1.out,H01.out,H4.out⟩ HK4.out
    | false =>
     have HE4:=Lib.hid (show row theE sub r=thn (part theE sub q) fun m s=>parts theE sub q.length (l++m++[nd 5]) s by rw [HI.out.eq];conv=>lhs;unfold parts;rw [if_neg (by rw [hst];simp)])
     have HNQ:=Lib.hid (stops_ne hst)
     clear hst
     go_wp2_with fail
     refine (part_any H4.out HSB.out HNQ.out HSQ.out).mono ?_
     rintro e w5 h5
     rcases h5.split with ⟨m,q2,v,hx,rfl,rfl,⟨st2,hl2,h02,hr⟩,hk⟩ | ⟨n,k,hx,rfl,hb⟩
     ·have hlen:=good_ok (good_part theE HSB.out.good q) hx
      have hle:=le_part theE HSB.out.le q m q2 hx
      have hq:=List.length_pos_iff.2 HNQ.out
      have H5:=Lib.hid hr;have HK5:=Lib.hid (HK4.out.trans hk);have HL2:=Lib.hid hl2;have H02:=Lib.hid h02;have HLN:=Lib.hid hlen
      have hs2:st2.l.length≤1073741824:=by have:=HSQ.out;rw [HL2.out,List.length_append];omega
      have HS5:=Lib.hid (show st.l.length+(l++m++[nd 5]).length+2*q2.length≤1000000 by have:=HI.out.sm;simp only [List.length_append,List.length_singleton];omega)
      have HE5:=Lib.hid (show row theE sub r=parts theE sub (q2.length+1) (l++m++[nd 5]) q2 by rw [HE4.out,hx];show parts theE sub q.length (l++m++[nd 5]) q2=_;exact parts_fuel theE HSB.out.good q2.length q2 (Nat.le_refl _) _ (by omega) _)
      clear h5 hx hr hk hl2 h02 hlen hle hq
      go_wp2_with fail
      refine (lay_any H5.out hs2 5).mono ?_
      rintro e w6 ⟨rfl,⟨st3,hl3,hr⟩,hk⟩
      have HL6:=Lib.hid (show leftOf N g w6 < leftOf N g wr by rw [HL.out,HNN.out,left_rs hr];have:=HLN.out;omega)
      have HI6:=Lib.hid (show RowI w w6 B g s r d st sub q2 (l++m++[nd 5]) from ⟨⟨st3,by rw [hl3,HL2.out,HL1.out];simp,fun e=>by simp at e,hr⟩,HK5.out.trans hk,HE5.out,HS5.out⟩)
      clear hl3 hr hk
      go_wp2_with fail
      go_roundw
      case rel=>exact Lib.hid ⟨_,_,HI6.out⟩
      case measure=>exact HL6.out
     ·have HX5:=Lib.hid (show x=.error (n,k) by rw [HX0.out,HE4.out,hx];rfl)
      have HB5:=Lib.hid ((HK4.out.below HG.out).trans hb)
      clear h5 hx hb
      go_wp2_with fail
      exact ⟨rfl,Says.err HX5.out rfl rfl HB5.out⟩
  ·have HX2:=Lib.hid (show x=.error (n,k) by rw [HX1.out,hx];rfl)
   have HB2:=Lib.hid ((HK1.out.below HG.out).trans hb)
   clear h2 hx hb
   go_wp2_with fail
   exact ⟨rfl,Says.err HX2.out rfl rfl HB2.out⟩
theorem rows_fuel (E:Env) {sub:Sub} (hs:GoodSub sub):∀(n:Nat) (r:List Tx),r.length≤n→∀(f:Nat),r.length < f→∀l,rows E sub f l r=rows E sub (r.length+1) l r
 | _,r,_,0,hf,_=>by omega
 | 0,r,hn,f+1,_,l=>by
  have:r=[]:=List.eq_nil_of_length_eq_zero (by omega)
  subst this
  unfold rows
  rfl
 | n+1,r,hn,f+1,hf,l=>by
  unfold rows
  by_cases h:isHd r [124]=true
  ·rw [if_pos h,if_pos h]
   have h0:=isHd_len h
   cases hx:row E sub r.tail with
   | error p=>rfl
   | ok p =>
    obtain ⟨m,s⟩:=p
    have hl:=good_ok (good_row E hs r.tail) hx
    show rows E sub f (l++m++[nd 6]) s=rows E sub r.length (l++m++[nd 6]) s
    rw [rows_fuel E hs n s (by omega) f (by omega),rows_fuel E hs n s (by omega) r.length (by omega)]
  ·rw [if_neg h,if_neg h]
structure ChI (w wr:World) (B g:Nat) (s:Src) (r:List Tx) (d:Nat) (st:Stp) (sub:Sub) (q:List Tx) (l:List Nd):Prop where
 rs:RSA wr B g s q d st l
 kpt:Kpt g w wr
 eq:choiceF theE sub r=rows theE sub (q.length+1) l q
 sm:st.l.length+l.length+2*q.length≤1000001
set_option maxHeartbeats 8000000 in
theorem choice_one {B g:Nat} {s:Src} {r:List Tx} {d:Nat} {st:Stp} {w:World} {sub:Sub} (h:RS w B g s r d st) (hs:SubOk B g s d sub) (hsm:st.l.length+2*r.length≤1000000) :
  Calls Tryz.prog 84 #[.pointer (some ⟨g,0,none⟩)] w (Says w B g s d st (choiceF theE sub r) QU fun l=>l):=by
 have HG:=Lib.hid (Nat.le_of_lt h.lt)
 have H0:=Lib.hid h
 have HSB:=Lib.hid hs
 obtain ⟨N,hN⟩:∃N,N=s.n:=⟨_,rfl⟩
 have HNN:=Lib.hid hN
 obtain ⟨x,hx⟩:∃x,x=choiceF theE sub r:=⟨_,rfl⟩
 have HX0:=Lib.hid hx
 have HX:=Lib.hid (hx.trans (show choiceF theE sub r=thn (row theE sub r) fun l s=>rows theE sub (s.length+1) l s from rfl))
 rw [←hx]
 have HSM:=Lib.hid hsm
 clear h hs hsm hx hN
 go_enter Tryz.func84,Tryz.ntmps84
 go_wp2_with fail
 refine (row_any H0.out HSB.out HSM.out).mono ?_
 rintro e w2 h2
 rcases h2.split with ⟨l,q,v,hx,rfl,rfl,hr,hk⟩ | ⟨n,k,hx,rfl,hb⟩
 ·have HI:=Lib.hid (show ChI w w2 B g s r d st sub q l from ⟨hr,hk,by rw [←HX0.out,HX.out,hx];rfl,by have:=le_row theE HSB.out.le HSB.out.good r l q hx;have:=HSM.out;omega⟩)
  clear h2 hx hr hk
  go_wp2_with fail
  go_loopw [] (fun wr=>Hid (∃q l,ChI w wr B g s r d st sub q l)) (fun wr=>leftOf N g wr)
  case atStart=>exact Lib.hid ⟨_,_,HI.out⟩
  case round =>
   obtain ⟨q,l,hI⟩:=hrel.out
   obtain ⟨st1,hl1,h01,hr⟩:=hI.rs
   have HI:=Lib.hid hI;have H3:=Lib.hid hr;have HL1:=Lib.hid hl1;have H01:=Lib.hid h01
   have HL:=Lib.hid (show leftOf N g wr=q.length by rw [HNN.out];exact left_rs hr)
   have HSQ:=Lib.hid (show st1.l.length+2*q.length≤1000001 by rw [hl1,List.length_append];exact hI.sm)
   clear hrel hI hr hl1 h01
   by_cases h124:isHd q [124]=true
   ·have HE4:=Lib.hid (show choiceF theE sub r=thn (row theE sub q.tail) fun m s=>rows theE sub q.length (l++m++[nd 6]) s by rw [HI.out.eq];conv=>lhs;unfold rows;rw [if_pos h124])
    have HQL:=Lib.hid (isHd_len h124)
    go_wp2_with fail
    refine (skip_yes H3.out [124] h124).mono ?_
    rintro e w4 ⟨rfl,hr,hk⟩
    have H4:=Lib.hid hr;have HK4:=Lib.hid (HI.out.kpt.trans hk)
    clear hr hk h124
    have HS4:=Lib.hid (show st1.l.length+2*q.tail.length≤1000000 by have:=HSQ.out;have:=HQL.out;omega)
    go_wp2_with fail
    refine (row_any H4.out HSB.out HS4.out).mono ?_
    rintro e w5 h5
    rcases h5.split with ⟨m,q2,v,hx,rfl,rfl,⟨st2,hl2,h02,hr⟩,hk⟩ | ⟨n,k,hx,rfl,hb⟩
    ·have hlen:=good_ok (good_row theE HSB.out.good q.tail) hx
     have hle:=le_row theE HSB.out.le HSB.out.good q.tail m q2 hx
     have H5:=Lib.hid hr;have HK5:=Lib.hid (HK4.out.trans hk);have HL2:=Lib.hid hl2;have H02:=Lib.hid h02;have HLN:=Lib.hid hlen
     have hs2:st2.l.length≤1073741824:=by have:=HS4.out;rw [HL2.out,List.length_append];omega
     have HS5:=Lib.hid (show st.l.length+(l++m++[nd 6]).length+2*q2.length≤1000001 by have:=HI.out.sm;have:=HQL.out;simp only [List.length_append,List.length_singleton];omega)
     have HE5:=Lib.hid (show choiceF theE sub r=rows theE sub (q2.length+1) (l++m++[nd 6]) q2 by rw [HE4.out,hx];show rows theE sub q.length (l++m++[nd 6]) q2=_;exact rows_fuel theE HSB.out.good q2.length q2 (Nat.le_refl _) _ (by have:=HQL.out;omega) _)
     clear h5 hx hr hk hl2 h02 hlen hle
     go_wp2_with fail
     refine (lay_any H5.out hs2 6).mono ?_
     rintro e w6 ⟨rfl,⟨st3,hl3,hr⟩,hk⟩
     have HL6:=Lib.hid (show leftOf N g w6 < leftOf N g wr by rw [HL.out,HNN.out,left_rs hr];have:=HLN.out;have:=HQL.out;omega)
     have HI6:=Lib.hid (show ChI w w6 B g s r d st sub q2 (l++m++[nd 6]) from ⟨⟨st3,by rw [hl3,HL2.out,HL1.out];simp,fun e=>by simp at e,hr⟩,HK5.out.trans hk,HE5.out,HS5.out⟩)
     clear hl3 hr hk
     go_wp2_with fail
     go_roundw
     case rel=>exact Lib.hid ⟨_,_,HI6.out⟩
     case measure=>exact HL6.out
    ·have HX5:=Lib.hid (show x=.error (n,k) by rw [HX0.out,HE4.out,hx];rfl)
     have HB5:=Lib.hid ((HK4.out.below HG.out).trans hb)
     clear h5 hx hb
     go_wp2_with fail
     exact ⟨rfl,Says.err HX5.out rfl rfl HB5.out⟩
   ·rw [Bool.not_eq_true] at h124
    have HX4:=Lib.hid (show x=.ok (l,q) by rw [HX0.out,HI.out.eq];unfold rows;rw [if_neg (by rw [h124];simp)])
    go_wp2_with fail
    refine (skip_no H3.out [124] h124 (by decide)).mono ?_
    rintro e w4 ⟨rfl,hr,hb⟩
    have H4:=Lib.hid hr;have HK4:=Lib.hid (HI.out.kpt.next hb)
    clear hr hb h124
    go_wp2_with fail
    go_end0
    exact Says.ok HX4.out rfl ⟨st1,HL1.out,H01.out,H4.out⟩ HK4.out
 ·have HX2:=Lib.hid (show x=.error (n,k) by rw [HX.out,hx];rfl)
  have HB2:=Lib.hid hb
  clear h2 hx hb
  go_wp2_with fail
  exact ⟨rfl,Says.err HX2.out rfl rfl HB2.out⟩
theorem choice_any {B g:Nat} {s:Src}:∀(k:Nat) (d:Nat),d+k=32→∀(w:World) (r:List Tx) (st:Stp),RS w B g s r d st→st.l.length+2*r.length≤1000000 →
  Calls Tryz.prog 84 #[.pointer (some ⟨g,0,none⟩)] w (Says w B g s d st (choice theE k r) QU fun l=>l)
 | 0,d,hd,_,_,_,h,hsm=>choice_one h (sub:=none) ⟨fun f hf=>(by cases hf),fun f hf=>(by cases hf),.inl ⟨by omega,rfl⟩⟩ hsm
 | k+1,d,hd,_,_,_,h,hsm=>choice_one h (sub:=some (choice theE k)) ⟨fun f hf=>(by cases hf;exact good_choice theE k),fun f hf=>(by cases hf;exact le_choice theE k),.inr ⟨by omega,choice theE k,rfl,fun w r st h hsm=>choice_any k (d+1) (by omega) w r st h hsm⟩⟩ hsm
end Go.Proofs.YtkgeiokckfpjlaaGreatDoor.Syn
namespace Go.Proofs.YtkgeiokckfpjlaaGreatDoor.Syn
open Go.RowKit
open Utf (Rd Blk)
open Norm (Chg)
open Seg (sgs)
open Ucd (Laid)
open Sset (St Tx)
set_option maxRecDepth 100000
def AnsOk (w:World) (l:List Nd) (v:Value) (w':World):Prop:=∃V,w'.ownsRow w.heap.size 41 6 v l.length (nvs V)∧V.length=l.length∧∀(i:Nat) (h1:i < V.length) (h2:i < l.length),Held w' w.heap.size V[i] l[i]
def Ans (w:World) (x:Except (Nat × Nat) (List Nd)) (e:Ending) (w':World):Prop:=match x with
 | .ok l=>(∃v,e=.returned (.tuple #[v,.int .i64 0,.int .i64 0])∧AnsOk w l v w')∧Below w.heap.size w w'
 | .error (n,c)=>e=.returned (.tuple #[.slice none 0 0,.int .i64 (n:Int),.int .i64 (c:Int)])∧Below w.heap.size w w'
theorem assert_refu (W:World) (v:Value):(Instr.typeAssert (.iface 123 v) 20 123 false).run Tryz.prog W=.ok v W:=by kernel_rfl
theorem catch_refu (g2 g3 g4:Nat) (place err:Int) (v2 v3 v4:Value) (older:List PanicEntry) (w:World)
  (k2:w.heap[g2]? = some (.cells #[v2] 22 (0,0))) (k3:w.heap[g3]? = some (.cells #[v3] 3 (0,0))) (k4:w.heap[g4]? = some (.cells #[v4] 27 (0,0)))
  (h23:g2≠g3) (h24:g2≠g4) (h34:g3≠g4) :
  CallsD Tryz.prog 83 #[.pointer (some ⟨g2,0,none⟩),.pointer (some ⟨g3,0,none⟩),.pointer (some ⟨g4,0,none⟩)] (.panicking ({ v:=refu place err,recovered:=false } :: older)) w fun e u' w' =>
   e=.returned (.tuple #[])∧u'=.panicking ({ v:=refu place err,recovered:=true } :: older) ∧
   ∃u,Below w.heap.size w u∧w'=((u.setCell ⟨g2,0,none⟩ (.slice none 0 0)).setCell ⟨g3,0,none⟩ (.int .i64 place)).setCell ⟨g4,0,none⟩ (.int .i64 err):=by
 refine callsD_of_wpS Tryz.func83 rfl fun c₀ cs hu=>?_
 apply wpS_seq
 apply wpS_region
 simp [wpOpsS,go_sem,recoverD,hu,Tryz.ntmps83,Exit.thenS]
 refine wpS_of_wp ?_
 simp only [refu]
 have hta:=assert_refu
 simp only [Array.replicate_succ,Array.replicate_zero,List.push_toArray,List.append_toArray,List.nil_append,List.cons_append,List.setIfInBounds_toArray,List.set_cons_zero,List.set_cons_succ]
 go_wp2_with fail
 have hl2:g2 < w.heap.size:=(Array.getElem?_eq_some_iff.1 k2).1
 have hl3:g3 < w.heap.size:=(Array.getElem?_eq_some_iff.1 k3).1
 have hl4:g4 < w.heap.size:=(Array.getElem?_eq_some_iff.1 k4).1
 obtain ⟨u,hu0⟩:∃u,u=w.alloc (.cells #[.int .i64 place,.int .i64 err] 123):=⟨_,rfl⟩
 obtain ⟨gf,hgf⟩:∃gf,gf=w.heap.size:=⟨_,rfl⟩
 have hb:Below w.heap.size w u:=by rw [hu0];exact (Below.refl _ _).alloc (Nat.le_refl _) _
 have m2:=(hb.block g2 hl2).trans k2
 have m3:=(hb.block g3 hl3).trans k3
 have m4:=(hb.block g4 hl4).trans k4
 have mf:u.heap[gf]? = some (.cells #[.int .i64 place,.int .i64 err] 123 (0,0)):=by rw [hu0,hgf];show (w.heap.push _)[w.heap.size]? = _;simp
 have e2:u.cell? ⟨g2,0,none⟩=some v2:=by rw [cell_of_row u g2 0 _ _ _ m2];rfl
 have e3:u.cell? ⟨g3,0,none⟩=some v3:=by rw [cell_of_row u g3 0 _ _ _ m3];rfl
 have e4:u.cell? ⟨g4,0,none⟩=some v4:=by rw [cell_of_row u g4 0 _ _ _ m4];rfl
 have ef0:u.cell? ⟨gf,0,none⟩=some (.int .i64 place):=by rw [cell_of_row u gf 0 _ _ _ mf];rfl
 have ef1:u.cell? ⟨gf,1,none⟩=some (.int .i64 err):=by rw [cell_of_row u gf 1 _ _ _ mf];rfl
 have z2:u.frozen? ⟨g2,0,none⟩=false:=by simp [World.frozen?,m2]
 have z3:u.frozen? ⟨g3,0,none⟩=false:=by simp [World.frozen?,m3]
 have z4:u.frozen? ⟨g4,0,none⟩=false:=by simp [World.frozen?,m4]
 have n2:gf≠g2:=by omega
 have n3:gf≠g3:=by omega
 have n4:gf≠g4:=by omega
 rw [←hu0,←hgf]
 have HB:=Lib.hid hb
 have HU:=Lib.hid hu
 clear hb m2 m3 m4 mf k2 k3 k4 hl2 hl3 hl4 hu0 hgf hu
 go_region
 simp (zetaDelta:=true) [bodyPostS,results,Tryz.results83]
 exact ⟨u.drew,HB.out.drew,rfl⟩
theorem catch_none (a2 a3 a4:Value) (w:World) :
  CallsD Tryz.prog 83 #[a2,a3,a4] .returning w fun e u' w'=>e=.returned (.tuple #[])∧u'=.returning∧w'=w:=by
 refine callsD_of_wpS Tryz.func83 rfl fun c₀ cs hu=>?_
 apply wpS_seq
 apply wpS_region
 simp [wpOpsS,go_sem,recoverD,hu,Tryz.ntmps83,Exit.thenS]
 have HU:=Lib.hid hu
 clear hu
 refine wpS_of_wp ?_
 simp only [Array.replicate_succ,Array.replicate_zero,List.push_toArray,List.append_toArray,List.nil_append,List.cons_append,List.setIfInBounds_toArray,List.set_cons_zero,List.set_cons_succ]
 go_wp2_with fail
 simp (zetaDelta:=true) [bodyPostS,results,Tryz.results83]
 have h:=HU.out
 clear HU
 cases c₀
 dsimp only at h
 subst h
 rfl
theorem heap_last (w:World) (o:Obj) (g:Nat) (hg:w.heap.size=g):(w.alloc o).heap[g]? = some o:=by subst hg;show (w.heap.push o)[w.heap.size]? = _;simp
theorem heap_more {w:World} {g:Nat} {x:Obj} (o:Obj) (h:w.heap[g]? = some x):(w.alloc o).heap[g]? = some x:=by rw [Below.heap_alloc w o g (Array.getElem?_eq_some_iff.1 h).1];exact h
theorem Ans.ok {w w':World} {x:Except (Nat × Nat) (List Nd)} {l:List Nd} {v:Value} (hx:x=.ok l) (h:AnsOk w l v w') (hb:Below w.heap.size w w'):Ans w x (.returned (.tuple #[v,.int .i64 0,.int .i64 0])) w':=by rw [hx];exact ⟨⟨v,rfl,h⟩,hb⟩
theorem Ans.bad {w w':World} {x:Except (Nat × Nat) (List Nd)} {n c:Nat} {pl er:Int} (hx:x=.error (n,c)) (hp:pl=(n:Int)) (he:er=(c:Int)) (hb:Below w.heap.size w w'):Ans w x (.returned (.tuple #[.slice none 0 0,.int .i64 pl,.int .i64 er])) w':=by rw [hx,hp,he];exact ⟨rfl,hb⟩
theorem own_three {w:World} {B b1 b2 b3:Nat} {x y z a b c:Value} (h1:Blk w b1 22 [x]) (h2:Blk w b2 3 [y]) (h3:Blk w b3 27 [z]) {e:TypeId} {sz m:Nat} {u:Value} {xs:List Value}
  (he1:e≠22) (he2:e≠3) (he3:e≠27) (h:w.ownsRow B e sz u m xs):(((w.setCell ⟨b1,0,none⟩ a).setCell ⟨b2,0,none⟩ b).setCell ⟨b3,0,none⟩ c).ownsRow B e sz u m xs:=by
 have hc:Chg w (((w.setCell ⟨b1,0,none⟩ a).setCell ⟨b2,0,none⟩ b).setCell ⟨b3,0,none⟩ c) fun k=>k=b1∨k=b2∨k=b3 :=
  (((Chg.refl w _).setCell (p:=⟨b1,0,none⟩) a (.inl rfl)).setCell (p:=⟨b2,0,none⟩) b (.inr (.inl rfl))).setCell (p:=⟨b3,0,none⟩) c (.inr (.inr rfl))
 refine Norm.own_keep h hc fun k hk hs=>?_
 rcases hs with rfl | rfl | rfl
 ·exact Utf.own_ne h h1 he1 hk
 ·exact Utf.own_ne h h2 he2 hk
 ·exact Utf.own_ne h h3 he3 hk
set_option maxHeartbeats 16000000 in
theorem read_any (s:Src) (w:World) (hL:Laid w) (hs:s.Ok) (hr:Rd w w.heap.size s.A (sgs s.S)) :
  Calls Tryz.prog 46 #[.slice s.A s.n s.c] w (Ans w (pattern theE s.txs)):=by
 have hmf:∀(fn:Fn) (first cap:Array Value) (w:World),(Instr.makeFunc fn first cap).run Tryz.prog w=.ok (.func fn first cap) w:=fun _ _ _ _=>rfl
 obtain ⟨x,hx⟩:∃x,x=pattern theE s.txs:=⟨_,rfl⟩
 rw [←hx]
 have HX:=Lib.hid (hx.trans (show pattern theE s.txs=match choice theE 32 s.txs with
  | .error (n,e)=>.error (s.txs.length - n,e)
  | .ok (l,q)=>if q=[] then .ok l else .error (s.txs.length - q.length,2) from rfl))
 have HTL:=Lib.hid (show s.txs.length=s.n by rw [Src.txs,List.length_map];exact hs.len)
 obtain ⟨b,hb⟩:∃b,b=w.heap.size:=⟨_,rfl⟩
 obtain ⟨g,hg⟩:∃g,g=b+1+1+1:=⟨_,rfl⟩
 obtain ⟨W,hW⟩:∃W,W=(((w.alloc (.cells #[.slice none 0 0] 22)).alloc (.cells #[.int .i64 0] 3)).alloc (.cells #[.int .i64 0] 27)).alloc (.cells #[.slice s.A s.n s.c,.int .i64 0,.int .i64 0,.slice none 0 0] 126):=⟨_,rfl⟩
 have hsz:W.heap.size=g+1:=by rw [hW,hg,hb];simp
 have k2:W.heap[b]? = some (.cells #[.slice none 0 0] 22 (0,0)):=by rw [hW,hb];exact heap_more _ (heap_more _ (heap_more _ (heap_last _ _ _ rfl)))
 have k3:W.heap[b+1]? = some (.cells #[.int .i64 0] 3 (0,0)):=by rw [hW,hb];exact heap_more _ (heap_more _ (heap_last _ _ _ (by simp)))
 have k4:W.heap[b+1+1]? = some (.cells #[.int .i64 0] 27 (0,0)):=by rw [hW,hb];exact heap_more _ (heap_last _ _ _ (by simp))
 have kr:Blk W g 126 [.slice s.A s.n s.c,.int .i64 0,.int .i64 0,.slice none 0 0]:=by unfold Blk;rw [hW,hg,hb];exact heap_last _ _ _ (by simp)
 have hbw:Below w.heap.size w W:=by rw [hW];exact (((((Below.refl _ _).alloc (Nat.le_refl _) _).alloc (by simp) _).alloc (by simp;omega) _).alloc (by simp;omega) _)
 have HR:=Lib.hid (show RS W b g s s.txs 0 ⟨.slice none 0 0,[],[]⟩ from ⟨hL.next hbw,by rw [hb];exact hL.size,by omega,(hr.below hbw).more (by omega),hs,List.suffix_refl _,by omega,by
   rw [HTL.out,Nat.sub_self];exact kr,World.ownsRow_nil _ _ _ _,rfl,fun i h1=>by simp at h1⟩)
 have HCH:=Lib.hid (choice_any 32 0 rfl W s.txs _ HR.out (by rw [HTL.out];have:=hs.sm;simp;omega))
 have HW:=Lib.hid hW;have HB:=Lib.hid hb;have HGG:=Lib.hid hg;have HBW:=Lib.hid hbw;have HSZ:=Lib.hid hsz
 have HK2:=Lib.hid k2;have HK3:=Lib.hid k3;have HK4:=Lib.hid k4
 clear hL hs hr hx hb hg hW hsz k2 k3 k4 kr hbw
 go_enter_defers Tryz.func46,Tryz.ntmps46
 go_wp2_with fail
 rw [←HW.out,←HB.out,←HGG.out]
 refine HCH.out.mono ?_
 rintro e w1 h1
 rcases h1.split with ⟨l,q,v,hx,rfl,rfl,⟨st1,hl1,_,hr⟩,hk⟩ | ⟨n,k,hx,rfl,hb⟩
 ·have H1:=Lib.hid hr;have HL1:=Lib.hid hl1
  have HB1:=Lib.hid (hk.below (by rw [HSZ.out];omega))
  have HX1:=Lib.hid (show x=if q=[] then .ok l else .error (s.n - q.length,2) by rw [HX.out,hx,HTL.out])
  have HRL:=Lib.hid hr.rl
  obtain ⟨p,hp,hp4,c1,f1⟩:=hr.c1p
  have HP:=Lib.hid hp
  have hn:=hr.src.sm
  obtain ⟨N,hN⟩:∃N,N=s.n:=⟨_,rfl⟩
  have HNN:=Lib.hid hN
  rw [←hN] at hn ⊢
  clear h1 hx hr hk hl1 hp hN HCH
  by_cases hq:q=[]
  ·have HX2:=Lib.hid (show x=.ok l by rw [HX1.out,if_pos hq])
   have hlt:¬(p:Int) < (N:Int):=by rw [HNN.out,HP.out,hq];simp
   have hlt2:decide ((p:Int) < (N:Int))=false:=decide_eq_false hlt
   obtain ⟨A4,c4,hv,_⟩:=Rset.own_form H1.out.own
   have c3:w1.cell? ⟨g,3,none⟩=some (.slice A4 st1.l.length c4):=by rw [←hv];exact H1.out.blk.cell 3
   have HV:=Lib.hid hv
   have hgg:=HGG.out
   have hsz:=HSZ.out
   have m2:=(HB1.out.block _ (by omega)).trans HK2.out
   have m3:=(HB1.out.block _ (by omega)).trans HK3.out
   have m4:=(HB1.out.block _ (by omega)).trans HK4.out
   have e2:w1.cell? ⟨b,0,none⟩=some (.slice none 0 0):=by rw [cell_of_row w1 b 0 _ _ _ m2];rfl
   have e3:w1.cell? ⟨b+1,0,none⟩=some (.int .i64 0):=by rw [cell_of_row w1 (b+1) 0 _ _ _ m3];rfl
   have e4:w1.cell? ⟨b+1+1,0,none⟩=some (.int .i64 0):=by rw [cell_of_row w1 (b+1+1) 0 _ _ _ m4];rfl
   have z2:w1.frozen? ⟨b,0,none⟩=false:=by simp [World.frozen?,m2]
   have z3:w1.frozen? ⟨b+1,0,none⟩=false:=by simp [World.frozen?,m3]
   have z4:w1.frozen? ⟨b+1+1,0,none⟩=false:=by simp [World.frozen?,m4]
   have HM2:=Lib.hid e2;have HM3:=Lib.hid e3;have HM4:=Lib.hid e4
   have HN2:=Lib.hid (show Blk w1 b 22 [.slice none 0 0] from m2);have HN3:=Lib.hid (show Blk w1 (b+1) 3 [.int .i64 0] from m3);have HN4:=Lib.hid (show Blk w1 (b+1+1) 27 [.int .i64 0] from m4)
   clear hq m2 m3 m4 hv hgg hsz
   go_wp2_with fail
   have hgg:=HGG.out
   have hsz:=HSZ.out
   refine leaves_cons (f:=83) (args:=#[.pointer (some ⟨b,0,none⟩),.pointer (some ⟨b+1,0,none⟩),.pointer (some ⟨b+1+1,0,none⟩)]) (by simp) (by simp [go_sem]) ?_
   refine (catch_none _ _ _ _).mono ?_
   rintro e u' w9 ⟨rfl,rfl,rfl⟩
   obtain ⟨w8,hw8⟩:∃w8,w8=((w1.setCell ⟨b,0,none⟩ (.slice A4 st1.l.length c4)).setCell ⟨b+1,0,none⟩ (.int .i64 0)).setCell ⟨b+1+1,0,none⟩ (.int .i64 0):=⟨_,rfl⟩
   have q2:w8.cell? ⟨b,0,none⟩=some (.slice A4 st1.l.length c4):=by
    rw [hw8,World.cell?_setCell_far _ _ _ _ (show b+1+1≠b by omega),World.cell?_setCell_far _ _ _ _ (show b+1≠b by omega)]
    exact World.cell?_setCell_same _ _ _ HM2.out
   have q3:w8.cell? ⟨b+1,0,none⟩=some (.int .i64 0):=by
    rw [hw8,World.cell?_setCell_far _ _ _ _ (show b+1+1≠b+1 by omega)]
    exact World.cell?_setCell_same _ _ _ (by rw [World.cell?_setCell_far _ _ _ _ (show b≠b+1 by omega)];exact HM3.out)
   have q4:w8.cell? ⟨b+1+1,0,none⟩=some (.int .i64 0):=by
    rw [hw8]
    exact World.cell?_setCell_same _ _ _ (by rw [World.cell?_setCell_far _ _ _ _ (show b+1≠b+1+1 by omega),World.cell?_setCell_far _ _ _ _ (show b≠b+1+1 by omega)];exact HM4.out)
   have hb8:Below w.heap.size w w8:=by
    rw [hw8,←HB.out]
    have hbW:=HBW.out
    rw [←HB.out] at hbW
    have h0:=hbW.trans (HB1.out.mono (by omega))
    exact ((h0.setCell (p:=⟨b,0,none⟩) (Nat.le_refl _) _).setCell (p:=⟨b+1,0,none⟩) (by show b≤b+1;omega) _).setCell (p:=⟨b+1+1,0,none⟩) (by show b≤b+1+1;omega) _
   have hll:st1.l=l:=HL1.out
   have hok:AnsOk w l (.slice A4 st1.l.length c4) w8:=by
    refine ⟨st1.V,?_,by rw [H1.out.vl,hll],fun i h1 h2=>?_⟩
    ·rw [←hll,←HV.out,hw8]
     exact Norm.own_mono (own_three HN2.out HN3.out HN4.out (by decide) (by decide) (by decide) H1.out.own) (by rw [←HB.out];omega)
    ·have hh:=H1.out.held i h1 (by rw [hll];exact h2)
     rw [hw8,←HB.out]
     have hl:st1.l[i]'(by rw [hll];exact h2)=l[i]:=by simp only [hll]
     rw [←hl]
     exact ⟨hh.k,hh.mn,hh.mx,hh.nm,hh.short,hh.sm,hh.l1,hh.l2,hh.l3,own_three HN2.out HN3.out HN4.out (by decide) (by decide) (by decide) hh.o1,own_three HN2.out HN3.out HN4.out (by decide) (by decide) (by decide) hh.o2,own_three HN2.out HN3.out HN4.out (by decide) (by decide) (by decide) hh.o3⟩
   rw [←hw8]
   simp [Leaves,settle,results,Tryz.results46,go_sem,q2,q3,q4]
   exact Ans.ok HX2.out hok hb8
  ·have HX2:=Lib.hid (show x=.error (s.n - q.length,2) by rw [HX1.out,if_neg hq])
   have HRB:=Lib.hid (refuse_any (.pointer (some ⟨g,0,none⟩)) g p s q.length w1 HP.out)
   have hlt:(p:Int) < (N:Int):=by have:=List.length_pos_iff.2 hq;have:=HNN.out;have:=HP.out;have:=HRL.out;omega
   have hlt2:decide ((p:Int) < (N:Int))=true:=decide_eq_true hlt
   clear hq
   go_wp2_with fail
   refine HRB.out.mono ?_
   rintro e w2 ⟨rfl,hb2⟩
   have HB2:=Lib.hid (HB1.out.trans hb2)
   clear hb2
   go_wp2_with fail
   have hgg:=HGG.out
   have hsz:=HSZ.out
   refine leaves_cons (f:=83) (args:=#[.pointer (some ⟨b,0,none⟩),.pointer (some ⟨b+1,0,none⟩),.pointer (some ⟨b+1+1,0,none⟩)]) (by simp) (by simp [go_sem]) ?_
   refine (catch_refu b (b+1) (b+1+1) _ _ _ _ _ [] w2 ((HB2.out.block _ (by omega)).trans HK2.out) ((HB2.out.block _ (by omega)).trans HK3.out) ((HB2.out.block _ (by omega)).trans HK4.out) (by omega) (by omega) (by omega)).mono ?_
   rintro e u' w9 ⟨rfl,rfl,u,hu,rfl⟩
   obtain ⟨w8,hw8⟩:∃w8,w8=((u.setCell ⟨b,0,none⟩ (.slice none 0 0)).setCell ⟨b+1,0,none⟩ (.int .i64 ((s.n - q.length:Nat):Int))).setCell ⟨b+1+1,0,none⟩ (.int .i64 2):=⟨_,rfl⟩
   have hsb:=HB2.out.size
   have p2:u.cell? ⟨b,0,none⟩=some (.slice none 0 0):=by rw [cell_of_row u _ 0 _ _ _ ((hu.block _ (by omega)).trans ((HB2.out.block _ (by omega)).trans HK2.out))];rfl
   have p3:u.cell? ⟨b+1,0,none⟩=some (.int .i64 0):=by rw [cell_of_row u _ 0 _ _ _ ((hu.block _ (by omega)).trans ((HB2.out.block _ (by omega)).trans HK3.out))];rfl
   have p4:u.cell? ⟨b+1+1,0,none⟩=some (.int .i64 0):=by rw [cell_of_row u _ 0 _ _ _ ((hu.block _ (by omega)).trans ((HB2.out.block _ (by omega)).trans HK4.out))];rfl
   have q2:w8.cell? ⟨b,0,none⟩=some (.slice none 0 0):=by
    rw [hw8,World.cell?_setCell_far _ _ _ _ (show b+1+1≠b by omega),World.cell?_setCell_far _ _ _ _ (show b+1≠b by omega)]
    exact World.cell?_setCell_same _ _ _ p2
   have q3:w8.cell? ⟨b+1,0,none⟩=some (.int .i64 ((s.n - q.length:Nat):Int)):=by
    rw [hw8,World.cell?_setCell_far _ _ _ _ (show b+1+1≠b+1 by omega)]
    exact World.cell?_setCell_same _ _ _ (by rw [World.cell?_setCell_far _ _ _ _ (show b≠b+1 by omega)];exact p3)
   have q4:w8.cell? ⟨b+1+1,0,none⟩=some (.int .i64 2):=by
    rw [hw8]
    exact World.cell?_setCell_same _ _ _ (by rw [World.cell?_setCell_far _ _ _ _ (show b+1≠b+1+1 by omega),World.cell?_setCell_far _ _ _ _ (show b≠b+1+1 by omega)];exact p4)
   have hb8:Below w.heap.size w w8:=by
    rw [hw8,←HB.out]
    have hbW:=HBW.out
    rw [←HB.out] at hbW
    have h0:=(hbW.trans (HB2.out.mono (by omega))).trans (hu.mono (by omega))
    exact ((h0.setCell (p:=⟨b,0,none⟩) (Nat.le_refl _) _).setCell (p:=⟨b+1,0,none⟩) (by show b≤b+1;omega) _).setCell (p:=⟨b+1+1,0,none⟩) (by show b≤b+1+1;omega) _
   rw [←hw8]
   simp [Leaves,settle,results,Tryz.results46,go_sem,q2,q3,q4]
   exact Ans.bad HX2.out rfl rfl hb8
 ·have HX1:=Lib.hid (show x=.error (s.n - n,k) by rw [HX.out,hx,HTL.out])
  have HB1:=Lib.hid hb
  clear h1 hx hb HCH
  go_wp2_with fail
  have hgg:=HGG.out
  have hsz:=HSZ.out
  refine leaves_cons (f:=83) (args:=#[.pointer (some ⟨b,0,none⟩),.pointer (some ⟨b+1,0,none⟩),.pointer (some ⟨b+1+1,0,none⟩)]) (by simp) (by simp [go_sem]) ?_
  refine (catch_refu b (b+1) (b+1+1) _ _ _ _ _ [] w1 ((HB1.out.block _ (by omega)).trans HK2.out) ((HB1.out.block _ (by omega)).trans HK3.out) ((HB1.out.block _ (by omega)).trans HK4.out) (by omega) (by omega) (by omega)).mono ?_
  rintro e u' w9 ⟨rfl,rfl,u,hu,rfl⟩
  obtain ⟨w8,hw8⟩:∃w8,w8=((u.setCell ⟨b,0,none⟩ (.slice none 0 0)).setCell ⟨b+1,0,none⟩ (.int .i64 ((s.n - n:Nat):Int))).setCell ⟨b+1+1,0,none⟩ (.int .i64 (k:Int)):=⟨_,rfl⟩
  have hsb:=HB1.out.size
  have p2:u.cell? ⟨b,0,none⟩=some (.slice none 0 0):=by rw [cell_of_row u _ 0 _ _ _ ((hu.block _ (by omega)).trans ((HB1.out.block _ (by omega)).trans HK2.out))];rfl
  have p3:u.cell? ⟨b+1,0,none⟩=some (.int .i64 0):=by rw [cell_of_row u _ 0 _ _ _ ((hu.block _ (by omega)).trans ((HB1.out.block _ (by omega)).trans HK3.out))];rfl
  have p4:u.cell? ⟨b+1+1,0,none⟩=some (.int .i64 0):=by rw [cell_of_row u _ 0 _ _ _ ((hu.block _ (by omega)).trans ((HB1.out.block _ (by omega)).trans HK4.out))];rfl
  have q2:w8.cell? ⟨b,0,none⟩=some (.slice none 0 0):=by
   rw [hw8,World.cell?_setCell_far _ _ _ _ (show b+1+1≠b by omega),World.cell?_setCell_far _ _ _ _ (show b+1≠b by omega)]
   exact World.cell?_setCell_same _ _ _ p2
  have q3:w8.cell? ⟨b+1,0,none⟩=some (.int .i64 ((s.n - n:Nat):Int)):=by
   rw [hw8,World.cell?_setCell_far _ _ _ _ (show b+1+1≠b+1 by omega)]
   exact World.cell?_setCell_same _ _ _ (by rw [World.cell?_setCell_far _ _ _ _ (show b≠b+1 by omega)];exact p3)
  have q4:w8.cell? ⟨b+1+1,0,none⟩=some (.int .i64 (k:Int)):=by
   rw [hw8]
   exact World.cell?_setCell_same _ _ _ (by rw [World.cell?_setCell_far _ _ _ _ (show b+1≠b+1+1 by omega),World.cell?_setCell_far _ _ _ _ (show b≠b+1+1 by omega)];exact p4)
  have hb8:Below w.heap.size w w8:=by
   rw [hw8,←HB.out]
   have hbW:=HBW.out
   rw [←HB.out] at hbW
   have h0:=(hbW.trans (HB1.out.mono (by omega))).trans (hu.mono (by omega))
   exact ((h0.setCell (p:=⟨b,0,none⟩) (Nat.le_refl _) _).setCell (p:=⟨b+1,0,none⟩) (by show b≤b+1;omega) _).setCell (p:=⟨b+1+1,0,none⟩) (by show b≤b+1+1;omega) _
  rw [←hw8]
  simp [Leaves,settle,results,Tryz.results46,go_sem,q2,q3,q4]
  exact Ans.bad HX1.out rfl rfl hb8
end Go.Proofs.YtkgeiokckfpjlaaGreatDoor.Syn
namespace Go.Proofs.YtkgeiokckfpjlaaGreatDoor.Syn
open Go.RowKit
open Utf (Rd Blk bys Pt enc encN fix dec)
open Norm (normal)
open Seg (Sg sgs sgOf says beg fin grp flen okS badS okG badG spS spE split_any runs)
open Ucd (Laid)
open Sset (St Tx)
set_option maxRecDepth 100000
theorem enc_one {l:List Int} {c:UInt8} (h:enc l=[c]):c.toNat < 128:=by
 cases l with
 | nil=>cases h
 | cons x l =>
  have h:encN (fix x)++enc l=[c]:=h
  have h1:1≤(encN (fix x)).length:=by
   unfold encN;repeat' split
   all_goals simp
  have h2:(encN (fix x)).length+(enc l).length=1:=by rw [←List.length_append,h];rfl
  have h3:enc l=[]:=List.eq_nil_of_length_eq_zero (by omega)
  rw [h3,List.append_nil] at h
  unfold encN at h
  split at h
  ·rename_i hq
   injection h with h _
   rw [←h]
   have:(UInt8.ofNat (fix x)).toNat=fix x % 256:=UInt8.toNat_ofNat'
   omega
  ·repeat' split at h
   all_goals simp at h
theorem grp_text (g:List Pt):(sgOf g).t.toList=enc (normal (runs g)):=by
 show (says g).toList=_
 rw [ByteArray.toList_eq];rfl
theorem okSg_of {g:List Pt} (h0:g≠[]) (h:flen g≤64):OkSg (sgOf g):=by
 have hl:(normal (runs g)).length=flen g:=Seg.normal_len _
 have hp:0 < flen g:=by
  cases g with
  | nil=>exact absurd rfl h0
  | cons p g=>exact Seg.flen_pos (by simp)
 refine ⟨?_,fun c hc=>?_,?_⟩
 ·rw [grp_text]
  intro e
  have h1:=Seg.runes_enc_len (normal (runs g))
  rw [e] at h1
  have:(Norm.runesF ([]:List UInt8)).length=0:=rfl
  omega
 ·rw [grp_text] at hc;exact enc_one hc
 ·rw [grp_text];have:=Utf.enc_le (normal (runs g));omega
theorem good_split {l:List UInt8} (h:badS 64 l=false):okS 64 l=grp (dec false 0 l)∧(((okS 64 l).map sgOf).map fun x=>x.t.toList)=tx l∧(∀x∈(okS 64 l).map sgOf,OkSg x):=by
 have hall:∀g∈grp (dec false 0 l),flen g≤64:=fun g hg=>by
  have:=List.any_eq_false.1 (show (grp (dec false 0 l)).any (fun g=>decide (64 < flen g))=false from h) g hg
  simpa using this
 have hok:okS 64 l=grp (dec false 0 l):=(Seg.okG_all flen 64 hall).1
 refine ⟨hok,?_,fun x hx=>?_⟩
 ·rw [hok,List.map_map,tx_grp]
  refine List.map_congr_left fun g _=>?_
  show (says g).toList=(says g).data.toList
  rw [ByteArray.toList_eq]
 ·obtain ⟨g,hg,rfl⟩:=List.mem_map.1 hx
  rw [hok] at hg
  exact okSg_of (by obtain ⟨q,t,e⟩:=Seg.cuts_group _ (show g∈Seg.cuts Seg.opP (dec false 0 l) from hg);rw [e];simp) (hall g hg)
theorem Ans.lower {w w1 w':World} {x:Except (Nat × Nat) (List Nd)} {e:Ending} (hb:Below w.heap.size w w1) (h:Ans w1 x e w'):Ans w x e w':=by
 cases x with
 | error p=>exact ⟨h.1,hb.trans (h.2.mono hb.size)⟩
 | ok l =>
  obtain ⟨⟨v,he,V,h1,h2,h3⟩,h4⟩:=h
  exact ⟨⟨v,he,V,Norm.own_mono h1 hb.size,h2,fun i p q=>(h3 i p q).mono hb.size⟩,hb.trans (h4.mono hb.size)⟩
theorem bad_split {l:List UInt8} (h:badS 64 l=true):parseF theE l=.error ((okS 64 l).length,6):=by
 unfold parseF parseT
 rw [←bad_tx 64 l,show badG flen 64 (grp (dec false 0 l))=true from h,if_pos rfl,←ok_tx 64 l,List.length_map]
 rfl
set_option maxHeartbeats 8000000 in
theorem parse_any (l:List UInt8) (A:Option Addr) (m c:Nat) (w:World) (hL:Laid w) (hr:Rd w w.heap.size A (bys l)) (hm:l.length=m) (hc:m≤c) (hcm:c≤9223372036854775807) (hsm:m≤134217728) :
  Calls Tryz.prog 18 #[.slice A m c] w (Ans w (parseF theE l)):=by
 have HS:=Lib.hid (split_any 64 l A m c w hL hr hm hc hcm hsm)
 have HL:=Lib.hid hL
 have hsp:spS 64 l=(okS 64 l).map sgOf:=by unfold spS;rw [if_pos (by omega)];rfl
 have hse:spE 64 l=if badS 64 l then 6 else 0:=by unfold spE;rw [if_pos (by omega)];rfl
 have HSP:=Lib.hid hsp;have HSE:=Lib.hid hse
 clear hL hr hm hc hcm hsm hsp hse
 go_enter Tryz.func18,Tryz.ntmps18
 go_wp2_with fail
 refine HS.out.mono ?_
 rintro e w1 ⟨v,rfl,ho,hb1⟩
 rw [HSE.out]
 rw [HSP.out] at ho
 cases hbd:badS 64 l with
 | true =>
  have HP:=Lib.hid (bad_split hbd)
  obtain ⟨A1,c1,rfl,_⟩:=Rset.own_form ho
  have HB:=Lib.hid hb1
  have HLN:=Lib.hid (show ((okS 64 l).map sgOf).length=(okS 64 l).length from List.length_map _)
  obtain ⟨n,hn⟩:∃n,n=((okS 64 l).map sgOf).length:=⟨_,rfl⟩
  rw [←hn]
  have HN:=Lib.hid hn
  clear ho hb1 hbd hn HS
  go_wp2_with fail
  go_ret3
  exact Ans.bad HP.out (by rw [HN.out,HLN.out]) rfl HB.out
 | false =>
  obtain ⟨g1,g2,g3⟩:=good_split hbd
  have HP:=Lib.hid (show parseF theE l=if 4096 < (tx l).length then .error (0,3) else pattern theE (tx l) by
   unfold parseF parseT
   rw [←bad_tx 64 l,show badG flen 64 (grp (dec false 0 l))=false from hbd,if_neg (by simp)])
  obtain ⟨S,hS⟩:∃S,S=(okS 64 l).map sgOf:=⟨_,rfl⟩
  rw [←hS] at ho g2 g3
  obtain ⟨A1,c1,rfl,_,_,hr1⟩:=Rset.own_form ho
  have HR:=Lib.hid hr1;have HB:=Lib.hid hb1;have HTX:=Lib.hid g2;have HOK:=Lib.hid g3
  have HLX:=Lib.hid (show (tx l).length=S.length by rw [←g2,List.length_map])
  obtain ⟨n,hn⟩:∃n,n=S.length:=⟨_,rfl⟩
  rw [←hn]
  have HN:=Lib.hid hn
  clear ho hb1 hbd hn hS g1 g2 g3 hr1 HS
  by_cases hlen:n≤4096
  ·have HP2:=Lib.hid (show parseF theE l=pattern theE (tx l) by rw [HP.out,if_neg (by rw [HLX.out,←HN.out];omega)])
   have h1:¬(n:Int) > 4096:=by omega
   have h2:decide ((n:Int) > 4096)=false:=decide_eq_false h1
   have HRD:=Lib.hid (read_any ⟨A1,n,c1,S⟩ w1 (HL.out.next HB.out) ⟨HN.out.symm,hlen,HOK.out⟩ HR.out)
   go_wp2_with fail
   refine HRD.out.mono ?_
   rintro e w2 h2
   have HA:=Lib.hid (show Ans w (parseF theE l) e w2 by rw [HP2.out,←HTX.out];exact h2.lower HB.out)
   clear h2 HP HP2 HRD HTX HLX
   obtain ⟨x,hx⟩:∃x,x=parseF theE l:=⟨_,rfl⟩
   rw [←hx] at HA
   have HX:=Lib.hid hx.symm
   clear hx
   cases x with
   | error p =>
    obtain ⟨a,b⟩:=p
    obtain ⟨rfl,hb⟩:=HA.out
    have HB2:=Lib.hid hb
    clear hb HA
    go_wp2_with fail
    go_ret3
    exact Ans.bad HX.out rfl rfl HB2.out
   | ok k =>
    obtain ⟨⟨v,rfl,ha⟩,hb⟩:=HA.out
    have HB2:=Lib.hid hb;have HAA:=Lib.hid ha
    clear hb ha HA
    go_wp2_with fail
    go_ret3
    exact Ans.ok HX.out HAA.out HB2.out
  ·have HP2:=Lib.hid (show parseF theE l=.error (0,3) by rw [HP.out,if_pos (by rw [HLX.out,←HN.out];omega)])
   have h1:(n:Int) > 4096:=by omega
   have h2:decide ((n:Int) > 4096)=true:=decide_eq_true h1
   clear hlen
   go_wp2_with fail
   go_ret3
   exact Ans.bad HP2.out rfl rfl HB.out
end Go.Proofs.YtkgeiokckfpjlaaGreatDoor.Syn
