/-
  Texts of stage 7, part 37.
-/
import Derived.Deep.RegionHeld3
import Derived.Deep.RegionLaw
import Derived.Deep.DeepCutAuto
import Derived.BigQuiet
import Derived.Test.YtkgeiokckfpjlaaGreatDoorK9
import Derived.Test.YtkgeiokckfpjlaaGreatDoorK11
import Derived.Test.YtkgeiokckfpjlaaGreatDoorK13
import Derived.Test.YtkgeiokckfpjlaaGreatDoorK15
import Derived.Test.YtkgeiokckfpjlaaGreatDoorK17
namespace Go.Proofs.YtkgeiokckfpjlaaGreatDoor.Syn
open Go.RowKit
open Utf (Rd Blk)
open Rset (Ret Rg own_form ret_bool)
open Sset (St Tx normS none_ Has3 ArgT ArgR r_rsame has3_none mk_toList)
set_option maxRecDepth 100000
noncomputable def mayStep (h:Int) (n:Nd):Option Int :=
 if n.kind=7 then (if n.set=none_∧1≤h∧0≤n.mn∧n.mn≤64∧n.mx≤64∧(n.mn≤n.mx∨n.mx=-1) then some h else none)
 else if n.mn≠0∨n.mx≠0 then none
 else if n.kind=2 then (if normS n.set=n.set then some (h+1) else none)
 else if n.set≠none_ then none
 else if n.kind=1∨n.kind=3∨n.kind=4 then some (h+1)
 else if n.kind=5∨n.kind=6 then (if 2≤h then some (h - 1) else none)
 else none
noncomputable def mayL:Option Int→List Nd→Option Int
 | h,[]=>h
 | none,_=>none
 | some h,n :: l=>mayL (mayStep h n) l
noncomputable def mayF (l:List Nd):Bool:=decide (mayL (some 0) l=some 1)
theorem mayL_none:∀l:List Nd,mayL none l=none
 | []=>rfl
 | _ :: _=>rfl
theorem mayL_append:∀(l:List Nd) (h:Option Int) (n:Nd),mayL h (l++[n])=match mayL h l with
  | some x=>mayStep x n
  | none=>none
 | [],some h,n=>by show mayL (mayStep h n) []=mayStep h n;cases mayStep h n <;> rfl
 | [],none,n=>rfl
 | m :: l,none,n=>by show mayL none (m :: (l++[n]))=_;rw [mayL_none,mayL_none]
 | m :: l,some h,n=>by show mayL (mayStep h m) (l++[n])=_;rw [mayL_append l (mayStep h m) n];rfl
theorem mayL_split (l m:List Nd):∀h,mayL h l=none→mayL h (l++m)=none:=by
 induction l with
 | nil=>intro h e;rw [show h=none from e];exact mayL_none _
 | cons x l ih =>
  intro h e
  cases h with
  | none=>exact mayL_none _
  | some h=>exact ih _ e
theorem mayL_take {l:List Nd} {k:Nat} (hk:k < l.length) {h:Int} (e:mayL (some 0) (l.take k)=some h):mayL (some 0) (l.take (k+1))=mayStep h l[k]:=by
 rw [List.take_succ_eq_append_getElem hk,mayL_append,e]
theorem may_stop {l:List Nd} {k:Nat} (hk:k < l.length) {h:Int} (e:mayL (some 0) (l.take k)=some h) (hs:mayStep h l[k]=none):mayF l=false:=by
 have h1:=mayL_take hk e
 rw [hs] at h1
 have:=mayL_split (l.take (k+1)) (l.drop (k+1)) _ h1
 rw [List.take_append_drop] at this
 unfold mayF
 rw [this];rfl
end Go.Proofs.YtkgeiokckfpjlaaGreatDoor.Syn
namespace Go.Proofs.YtkgeiokckfpjlaaGreatDoor.Syn
open Go.RowKit
open Utf (Rd Blk)
open Rset (Ret)
open Sset (St Tx normS none_ Has3 BlkS r_may)
set_option maxRecDepth 100000
theorem none_iff (a:St):a=none_↔a.s=[]∧a.m=[]∧a.o=[]:=by
 constructor
 ·rintro rfl;exact ⟨rfl,rfl,rfl⟩
 ·rintro ⟨h1,h2,h3⟩
  cases a
  simp only at h1 h2 h3
  subst h1 h2 h3
  rfl
set_option maxHeartbeats 4000000 in
theorem bare_any {A1 A2 A3:Option Addr} {n1 c1 n2 c2 n3 c3:Nat} {a:St} {w:World} (h:Has3 w A1 n1 A2 n2 A3 n3 a) :
  Calls Tryz.prog 73 #[.agg #[.slice A1 n1 c1,.slice A2 n2 c2,.slice A3 n3 c3]] w (Ret w (.bool (decide (a=none_)))):=by
 obtain ⟨b1,h1⟩:∃b,b=((n1:Int) == 0):=⟨_,rfl⟩
 obtain ⟨b2,h2⟩:∃b,b=((n2:Int) == 0):=⟨_,rfl⟩
 obtain ⟨b3,h3⟩:∃b,b=((n3:Int) == 0):=⟨_,rfl⟩
 have hv:decide (a=none_)=(b1 && b2 && b3):=by
  rw [h1,h2,h3,Bool.eq_iff_iff,decide_eq_true_eq,none_iff,Bool.and_eq_true,Bool.and_eq_true]
  have l1:=h.s.len;have l2:=h.m.len;have l3:=h.o.len
  constructor
  ·rintro ⟨e1,e2,e3⟩
   rw [e1] at l1;rw [e2] at l2;rw [e3] at l3
   simp at l1 l2 l3
   subst l1 l2 l3
   exact ⟨⟨rfl,rfl⟩,rfl⟩
  ·rintro ⟨⟨e1,e2⟩,e3⟩
   simp at e1 e2 e3
   exact ⟨List.eq_nil_of_length_eq_zero (by omega),List.eq_nil_of_length_eq_zero (by omega),List.eq_nil_of_length_eq_zero (by omega)⟩
 rw [hv]
 clear h hv
 obtain ⟨W,hW⟩:∃W,W=w.alloc (.cells #[.slice A1 n1 c1,.slice A2 n2 c2,.slice A3 n3 c3] 39):=⟨_,rfl⟩
 obtain ⟨g,hg⟩:∃g,g=w.heap.size:=⟨_,rfl⟩
 have kb:BlkS W g (.slice A1 n1 c1) (.slice A2 n2 c2) (.slice A3 n3 c3):=by rw [hW,hg];exact BlkS.new w _ _ _
 have x0:=kb.c0;have x1:=kb.c1;have x2:=kb.c2
 have HB:=Lib.hid (show Below w.heap.size w W by rw [hW];exact (Below.refl _ _).alloc (Nat.le_refl _) _)
 have HW:=Lib.hid hW;have HG:=Lib.hid hg
 have k1:=h1.symm;have k2:=h2.symm;have k3:=h3.symm
 clear h1 h2 h3 hW hg kb
 cases b1 with
 | false =>
  clear k2 k3
  rw [show (false && b2 && b3)=false from rfl]
  go_enter Tryz.func73,Tryz.ntmps73
  go_wp2_with fail
  rw [←HW.out,←HG.out]
  go_wp2_with fail
  go_ret
  exact ⟨rfl,HB.out⟩
 | true =>
  cases b2 with
  | false =>
   clear k3
   rw [show (true && false && b3)=false from rfl]
   go_enter Tryz.func73,Tryz.ntmps73
   go_wp2_with fail
   rw [←HW.out,←HG.out]
   go_wp2_with fail
   go_ret
   exact ⟨rfl,HB.out⟩
  | true =>
   rw [show (true && true && b3)=b3 from rfl]
   go_enter Tryz.func73,Tryz.ntmps73
   go_wp2_with fail
   rw [←HW.out,←HG.out]
   go_wp2_with fail
   go_ret
   exact ⟨rfl,HB.out⟩
def oftF (a b:Int):Bool:=decide (0≤a∧a≤64∧(b=-1∨(a≤b∧b≤64)))
set_option maxHeartbeats 4000000 in
theorem often_any (a b:Int) (w:World):Calls Tryz.prog 74 #[.int .i64 a,.int .i64 b] w (Ret w (.bool (oftF a b))):=by
 have HF:∀z,(0≤a∧a≤64∧(b=-1∨(a≤b∧b≤64))↔z=true)→oftF a b=z:=fun z h=>by
  unfold oftF
  cases z with
  | false=>exact decide_eq_false (fun e=>Bool.noConfusion (h.1 e))
  | true=>exact decide_eq_true (h.2 rfl)
 generalize oftF a b=r at HF
 by_cases c1:a < 0
 ·obtain rfl:=HF false ⟨fun e=>by omega,fun e=>Bool.noConfusion e⟩
  clear HF
  go_enter Tryz.func74,Tryz.ntmps74
  go_wp2_with fail
  go_ret
  exact ⟨rfl,Below.refl _ _⟩
 ·by_cases c2:a≤64
  ·by_cases c3:b=-1
   ·obtain rfl:=HF true ⟨fun _=>rfl,fun _=>⟨by omega,c2,.inl c3⟩⟩
    subst c3
    clear HF
    go_enter Tryz.func74,Tryz.ntmps74
    go_wp2_with fail
    go_ret
    exact ⟨rfl,Below.refl _ _⟩
   ·have d3:(b == -1)=false:=by rw [beq_eq_false_iff_ne];exact c3
    by_cases c4:a≤b
    ·by_cases c5:b≤64
     ·obtain rfl:=HF true ⟨fun _=>rfl,fun _=>⟨by omega,c2,.inr ⟨c4,c5⟩⟩⟩
      clear HF
      go_enter Tryz.func74,Tryz.ntmps74
      go_wp2_with fail
      go_ret
      exact ⟨rfl,Below.refl _ _⟩
     ·obtain rfl:=HF false ⟨fun e=>by omega,fun e=>Bool.noConfusion e⟩
      clear HF
      go_enter Tryz.func74,Tryz.ntmps74
      go_wp2_with fail
      go_ret
      exact ⟨rfl,Below.refl _ _⟩
    ·obtain rfl:=HF false ⟨fun e=>by omega,fun e=>Bool.noConfusion e⟩
     clear HF
     go_enter Tryz.func74,Tryz.ntmps74
     go_wp2_with fail
     go_ret
     exact ⟨rfl,Below.refl _ _⟩
  ·obtain rfl:=HF false ⟨fun e=>by omega,fun e=>Bool.noConfusion e⟩
   clear HF
   go_enter Tryz.func74,Tryz.ntmps74
   go_wp2_with fail
   go_ret
   exact ⟨rfl,Below.refl _ _⟩
def tkF (k:Int):Int:=if k=5∨k=6 then 2 else if k=7 then 1 else 0
set_option maxHeartbeats 4000000 in
theorem operands_any (k:Int) (w:World):Calls Tryz.prog 39 #[.int .i64 k] w (Ret w (.int .i64 (tkF k))):=by
 by_cases k5:k=5
 ·subst k5
  rw [show tkF 5=2 from rfl]
  go_enter Tryz.func39,Tryz.ntmps39
  go_wp2_with fail
  go_ret
  exact ⟨rfl,Below.refl _ _⟩
 ·by_cases k6:k=6
  ·subst k6
   rw [show tkF 6=2 from rfl]
   go_enter Tryz.func39,Tryz.ntmps39
   go_wp2_with fail
   go_ret
   exact ⟨rfl,Below.refl _ _⟩
  ·by_cases k7:k=7
   ·subst k7
    rw [show tkF 7=1 from rfl]
    go_enter Tryz.func39,Tryz.ntmps39
    go_wp2_with fail
    go_ret
    exact ⟨rfl,Below.refl _ _⟩
   ·have d5:(k == 5)=false:=by rw [beq_eq_false_iff_ne];exact k5
    have d6:(k == 6)=false:=by rw [beq_eq_false_iff_ne];exact k6
    have d7:(k == 7)=false:=by rw [beq_eq_false_iff_ne];exact k7
    rw [show tkF k=0 from by unfold tkF;rw [if_neg (fun e=>e.elim k5 k6),if_neg k7]]
    go_enter Tryz.func39,Tryz.ntmps39
    go_wp2_with fail
    go_ret
    exact ⟨rfl,Below.refl _ _⟩
def fitF (n:Nd):Prop :=
 if n.kind=2 then normS n.set=n.set∧n.mn=0∧n.mx=0
 else if n.kind=7 then n.set=none_∧oftF n.mn n.mx=true
 else if n.kind=1∨n.kind=3∨n.kind=4∨n.kind=5∨n.kind=6 then n.set=none_∧n.mn=0∧n.mx=0
 else False
noncomputable def fitB (n:Nd):Bool:=@decide (fitF n) (Classical.propDecidable _)
theorem fitB_of {n:Nd} {z:Bool} (h:fitF n↔z=true):fitB n=z:=by
 unfold fitB
 cases z with
 | false=>exact @decide_eq_false _ (Classical.propDecidable _) (fun e=>Bool.noConfusion (h.1 e))
 | true=>exact @decide_eq_true _ (Classical.propDecidable _) (h.2 rfl)
theorem fit_2 (s:St) (a b:Int):fitF ⟨2,s,a,b⟩↔normS s=s∧a=0∧b=0:=Iff.rfl
theorem fit_7 (s:St) (a b:Int):fitF ⟨7,s,a,b⟩↔s=none_∧oftF a b=true:=Iff.rfl
theorem fit_x {k:Int} (s:St) (a b:Int) (h:k=1∨k=3∨k=4∨k=5∨k=6):fitF ⟨k,s,a,b⟩↔s=none_∧a=0∧b=0:=by
 unfold fitF
 rw [if_neg (by dsimp only;omega),if_neg (by dsimp only;omega),if_pos h]
theorem fit_no {k:Int} (s:St) (a b:Int) (h:¬(k=1∨k=3∨k=4∨k=5∨k=6)) (h2:k≠2) (h7:k≠7):¬fitF ⟨k,s,a,b⟩:=by
 unfold fitF
 rw [if_neg h2,if_neg h7,if_neg h]
 exact id
set_option maxHeartbeats 16000000 in
theorem fits_any {X1 X2 X3:Option Addr} {x1 y1 x2 y2 x3 y3:Nat} {vk vm vx:Int} {s:St} {w:World} (h:Has3 w X1 x1 X2 x2 X3 x3 s) :
  Calls Tryz.prog 40 #[.agg #[.int .i64 vk,.slice X1 x1 y1,.slice X2 x2 y2,.slice X3 x3 y3,.int .i64 vm,.int .i64 vx]] w (Ret w (.bool (fitB ⟨vk,s,vm,vx⟩))):=by
 obtain ⟨g,hg⟩:∃g,g=w.heap.size:=⟨_,rfl⟩
 obtain ⟨U,hU⟩:∃U,U=w.alloc (.cells #[.int .i64 vk,.slice X1 x1 y1,.slice X2 x2 y2,.slice X3 x3 y3,.int .i64 vm,.int .i64 vx] 41):=⟨_,rfl⟩
 have HBX:=Lib.hid (show Blk U g 41 [.int .i64 vk,.slice X1 x1 y1,.slice X2 x2 y2,.slice X3 x3 y3,.int .i64 vm,.int .i64 vx] from by rw [hU,hg];exact Blk.new w _ _)
 have HS:=Lib.hid (show Has3 U X1 x1 X2 x2 X3 x3 s from by rw [hU];exact h.next ((Below.refl _ _).alloc (Nat.le_refl _) _))
 have HB:=Lib.hid (show Below w.heap.size w U by rw [hU];exact (Below.refl _ _).alloc (Nat.le_refl _) _)
 have HU:=Lib.hid hU;have HG:=Lib.hid hg
 clear hU hg h
 have HR:=Lib.hid (show ∀z:Bool,(fitF ⟨vk,s,vm,vx⟩↔z=true)→fitB ⟨vk,s,vm,vx⟩=z from fun z h=>fitB_of h)
 generalize fitB ⟨vk,s,vm,vx⟩=r at HR
 have q0:=HBX.out.cell 0;have q1:=HBX.out.cell 1;have q2:=HBX.out.cell 2;have q3:=HBX.out.cell 3;have q4:=HBX.out.cell 4;have q5:=HBX.out.cell 5
 by_cases k2:vk=2
 ·subst k2
  go_enter Tryz.func40,Tryz.ntmps40
  go_wp2_with fail
  rw [←HU.out,←HG.out]
  go_wp2_with fail
  refine (r_may _ _ _ HS.out rfl).mono ?_
  rintro e u ⟨rfl,hb⟩
  clear q0 q1 q2 q3 q4 q5
  replace HBX:=Lib.hid (HBX.out.below hb HBX.out.lt)
  replace HS:=Lib.hid (HS.out.next hb)
  replace HB:=Lib.hid (HB.out.trans (hb.mono HB.out.size))
  clear hb HU HG
  by_cases c:normS s=s
  ·rw [decide_eq_true c]
   by_cases c4:vm=0
   ·subst c4
    by_cases c5:vx=0
    ·subst c5
     obtain rfl:=HR.out true ((fit_2 _ _ _).trans ⟨fun _=>rfl,fun _=>⟨c,rfl,rfl⟩⟩)
     have q4:=HBX.out.cell 4;have q5:=HBX.out.cell 5
     clear HR c
     go_wp2_with fail
     go_ret
     exact ⟨rfl,HB.out⟩
    ·have d5:(vx == 0)=false:=by rw [beq_eq_false_iff_ne];exact c5
     obtain rfl:=HR.out false ((fit_2 _ _ _).trans ⟨fun e=>absurd e.2.2 c5,fun e=>Bool.noConfusion e⟩)
     have q4:=HBX.out.cell 4;have q5:=HBX.out.cell 5
     clear HR c
     go_wp2_with fail
     go_ret
     exact ⟨rfl,HB.out⟩
   ·have d4:(vm == 0)=false:=by rw [beq_eq_false_iff_ne];exact c4
    obtain rfl:=HR.out false ((fit_2 _ _ _).trans ⟨fun e=>absurd e.2.1 c4,fun e=>Bool.noConfusion e⟩)
    have q4:=HBX.out.cell 4;have q5:=HBX.out.cell 5
    clear HR c
    go_wp2_with fail
    go_ret
    exact ⟨rfl,HB.out⟩
  ·rw [decide_eq_false c]
   obtain rfl:=HR.out false ((fit_2 _ _ _).trans ⟨fun e=>absurd e.1 c,fun e=>Bool.noConfusion e⟩)
   clear HR c
   go_wp2_with fail
   go_ret
   exact ⟨rfl,HB.out⟩
 ·by_cases k7:vk=7
  ·subst k7
   go_enter Tryz.func40,Tryz.ntmps40
   go_wp2_with fail
   rw [←HU.out,←HG.out]
   go_wp2_with fail
   refine (bare_any HS.out).mono ?_
   rintro e u ⟨rfl,hb⟩
   clear q0 q1 q2 q3 q4 q5
   replace HBX:=Lib.hid (HBX.out.below hb HBX.out.lt)
   replace HS:=Lib.hid (HS.out.next hb)
   replace HB:=Lib.hid (HB.out.trans (hb.mono HB.out.size))
   clear hb HU HG
   by_cases c:s=none_
   ·rw [decide_eq_true c]
    obtain rfl:=HR.out (oftF vm vx) ((fit_7 _ _ _).trans ⟨fun e=>e.2,fun e=>⟨c,e⟩⟩)
    have q4:=HBX.out.cell 4;have q5:=HBX.out.cell 5
    clear HR c
    go_wp2_with fail
    refine (often_any _ _ _).mono ?_
    rintro e u2 ⟨rfl,hb⟩
    replace HB:=Lib.hid (HB.out.trans (hb.mono HB.out.size))
    clear hb
    go_wp2_with fail
    go_ret
    exact ⟨rfl,HB.out⟩
   ·rw [decide_eq_false c]
    obtain rfl:=HR.out false ((fit_7 _ _ _).trans ⟨fun e=>absurd e.1 c,fun e=>Bool.noConfusion e⟩)
    clear HR c
    go_wp2_with fail
    go_ret
    exact ⟨rfl,HB.out⟩
  ·by_cases k1:vk=1
   ·subst k1
    go_enter Tryz.func40,Tryz.ntmps40
    go_wp2_with fail
    rw [←HU.out,←HG.out]
    go_wp2_with fail
    refine (bare_any HS.out).mono ?_
    rintro e u ⟨rfl,hb⟩
    clear q0 q1 q2 q3 q4 q5
    replace HBX:=Lib.hid (HBX.out.below hb HBX.out.lt)
    replace HS:=Lib.hid (HS.out.next hb)
    replace HB:=Lib.hid (HB.out.trans (hb.mono HB.out.size))
    clear hb HU HG
    by_cases c:s=none_
    ·rw [decide_eq_true c]
     by_cases c4:vm=0
     ·subst c4
      by_cases c5:vx=0
      ·subst c5
       obtain rfl:=HR.out true ((fit_x _ _ _ (by omega)).trans ⟨fun _=>rfl,fun _=>⟨c,rfl,rfl⟩⟩)
       have q4:=HBX.out.cell 4;have q5:=HBX.out.cell 5
       clear HR c
       go_wp2_with fail
       go_ret
       exact ⟨rfl,HB.out⟩
      ·have d5:(vx == 0)=false:=by rw [beq_eq_false_iff_ne];exact c5
       obtain rfl:=HR.out false ((fit_x _ _ _ (by omega)).trans ⟨fun e=>absurd e.2.2 c5,fun e=>Bool.noConfusion e⟩)
       have q4:=HBX.out.cell 4;have q5:=HBX.out.cell 5
       clear HR c
       go_wp2_with fail
       go_ret
       exact ⟨rfl,HB.out⟩
     ·have d4:(vm == 0)=false:=by rw [beq_eq_false_iff_ne];exact c4
      obtain rfl:=HR.out false ((fit_x _ _ _ (by omega)).trans ⟨fun e=>absurd e.2.1 c4,fun e=>Bool.noConfusion e⟩)
      have q4:=HBX.out.cell 4;have q5:=HBX.out.cell 5
      clear HR c
      go_wp2_with fail
      go_ret
      exact ⟨rfl,HB.out⟩
    ·rw [decide_eq_false c]
     obtain rfl:=HR.out false ((fit_x _ _ _ (by omega)).trans ⟨fun e=>absurd e.1 c,fun e=>Bool.noConfusion e⟩)
     clear HR c
     go_wp2_with fail
     go_ret
     exact ⟨rfl,HB.out⟩
   ·by_cases k3:vk=3
    ·subst k3
     go_enter Tryz.func40,Tryz.ntmps40
     go_wp2_with fail
     rw [←HU.out,←HG.out]
     go_wp2_with fail
     refine (bare_any HS.out).mono ?_
     rintro e u ⟨rfl,hb⟩
     clear q0 q1 q2 q3 q4 q5
     replace HBX:=Lib.hid (HBX.out.below hb HBX.out.lt)
     replace HS:=Lib.hid (HS.out.next hb)
     replace HB:=Lib.hid (HB.out.trans (hb.mono HB.out.size))
     clear hb HU HG
     by_cases c:s=none_
     ·rw [decide_eq_true c]
      by_cases c4:vm=0
      ·subst c4
       by_cases c5:vx=0
       ·subst c5
        obtain rfl:=HR.out true ((fit_x _ _ _ (by omega)).trans ⟨fun _=>rfl,fun _=>⟨c,rfl,rfl⟩⟩)
        have q4:=HBX.out.cell 4;have q5:=HBX.out.cell 5
        clear HR c
        go_wp2_with fail
        go_ret
        exact ⟨rfl,HB.out⟩
       ·have d5:(vx == 0)=false:=by rw [beq_eq_false_iff_ne];exact c5
        obtain rfl:=HR.out false ((fit_x _ _ _ (by omega)).trans ⟨fun e=>absurd e.2.2 c5,fun e=>Bool.noConfusion e⟩)
        have q4:=HBX.out.cell 4;have q5:=HBX.out.cell 5
        clear HR c
        go_wp2_with fail
        go_ret
        exact ⟨rfl,HB.out⟩
      ·have d4:(vm == 0)=false:=by rw [beq_eq_false_iff_ne];exact c4
       obtain rfl:=HR.out false ((fit_x _ _ _ (by omega)).trans ⟨fun e=>absurd e.2.1 c4,fun e=>Bool.noConfusion e⟩)
       have q4:=HBX.out.cell 4;have q5:=HBX.out.cell 5
       clear HR c
       go_wp2_with fail
       go_ret
       exact ⟨rfl,HB.out⟩
     ·rw [decide_eq_false c]
      obtain rfl:=HR.out false ((fit_x _ _ _ (by omega)).trans ⟨fun e=>absurd e.1 c,fun e=>Bool.noConfusion e⟩)
      clear HR c
      go_wp2_with fail
      go_ret
      exact ⟨rfl,HB.out⟩
    ·by_cases k4:vk=4
     ·subst k4
      go_enter Tryz.func40,Tryz.ntmps40
      go_wp2_with fail
      rw [←HU.out,←HG.out]
      go_wp2_with fail
      refine (bare_any HS.out).mono ?_
      rintro e u ⟨rfl,hb⟩
      clear q0 q1 q2 q3 q4 q5
      replace HBX:=Lib.hid (HBX.out.below hb HBX.out.lt)
      replace HS:=Lib.hid (HS.out.next hb)
      replace HB:=Lib.hid (HB.out.trans (hb.mono HB.out.size))
      clear hb HU HG
      by_cases c:s=none_
      ·rw [decide_eq_true c]
       by_cases c4:vm=0
       ·subst c4
        by_cases c5:vx=0
        ·subst c5
         obtain rfl:=HR.out true ((fit_x _ _ _ (by omega)).trans ⟨fun _=>rfl,fun _=>⟨c,rfl,rfl⟩⟩)
         have q4:=HBX.out.cell 4;have q5:=HBX.out.cell 5
         clear HR c
         go_wp2_with fail
         go_ret
         exact ⟨rfl,HB.out⟩
        ·have d5:(vx == 0)=false:=by rw [beq_eq_false_iff_ne];exact c5
         obtain rfl:=HR.out false ((fit_x _ _ _ (by omega)).trans ⟨fun e=>absurd e.2.2 c5,fun e=>Bool.noConfusion e⟩)
         have q4:=HBX.out.cell 4;have q5:=HBX.out.cell 5
         clear HR c
         go_wp2_with fail
         go_ret
         exact ⟨rfl,HB.out⟩
       ·have d4:(vm == 0)=false:=by rw [beq_eq_false_iff_ne];exact c4
        obtain rfl:=HR.out false ((fit_x _ _ _ (by omega)).trans ⟨fun e=>absurd e.2.1 c4,fun e=>Bool.noConfusion e⟩)
        have q4:=HBX.out.cell 4;have q5:=HBX.out.cell 5
        clear HR c
        go_wp2_with fail
        go_ret
        exact ⟨rfl,HB.out⟩
      ·rw [decide_eq_false c]
       obtain rfl:=HR.out false ((fit_x _ _ _ (by omega)).trans ⟨fun e=>absurd e.1 c,fun e=>Bool.noConfusion e⟩)
       clear HR c
       go_wp2_with fail
       go_ret
       exact ⟨rfl,HB.out⟩
     ·by_cases k5:vk=5
      ·subst k5
       go_enter Tryz.func40,Tryz.ntmps40
       go_wp2_with fail
       rw [←HU.out,←HG.out]
       go_wp2_with fail
       refine (bare_any HS.out).mono ?_
       rintro e u ⟨rfl,hb⟩
       clear q0 q1 q2 q3 q4 q5
       replace HBX:=Lib.hid (HBX.out.below hb HBX.out.lt)
       replace HS:=Lib.hid (HS.out.next hb)
       replace HB:=Lib.hid (HB.out.trans (hb.mono HB.out.size))
       clear hb HU HG
       by_cases c:s=none_
       ·rw [decide_eq_true c]
        by_cases c4:vm=0
        ·subst c4
         by_cases c5:vx=0
         ·subst c5
          obtain rfl:=HR.out true ((fit_x _ _ _ (by omega)).trans ⟨fun _=>rfl,fun _=>⟨c,rfl,rfl⟩⟩)
          have q4:=HBX.out.cell 4;have q5:=HBX.out.cell 5
          clear HR c
          go_wp2_with fail
          go_ret
          exact ⟨rfl,HB.out⟩
         ·have d5:(vx == 0)=false:=by rw [beq_eq_false_iff_ne];exact c5
          obtain rfl:=HR.out false ((fit_x _ _ _ (by omega)).trans ⟨fun e=>absurd e.2.2 c5,fun e=>Bool.noConfusion e⟩)
          have q4:=HBX.out.cell 4;have q5:=HBX.out.cell 5
          clear HR c
          go_wp2_with fail
          go_ret
          exact ⟨rfl,HB.out⟩
        ·have d4:(vm == 0)=false:=by rw [beq_eq_false_iff_ne];exact c4
         obtain rfl:=HR.out false ((fit_x _ _ _ (by omega)).trans ⟨fun e=>absurd e.2.1 c4,fun e=>Bool.noConfusion e⟩)
         have q4:=HBX.out.cell 4;have q5:=HBX.out.cell 5
         clear HR c
         go_wp2_with fail
         go_ret
         exact ⟨rfl,HB.out⟩
       ·rw [decide_eq_false c]
        obtain rfl:=HR.out false ((fit_x _ _ _ (by omega)).trans ⟨fun e=>absurd e.1 c,fun e=>Bool.noConfusion e⟩)
        clear HR c
        go_wp2_with fail
        go_ret
        exact ⟨rfl,HB.out⟩
      ·by_cases k6:vk=6
       ·subst k6
        go_enter Tryz.func40,Tryz.ntmps40
        go_wp2_with fail
        rw [←HU.out,←HG.out]
        go_wp2_with fail
        refine (bare_any HS.out).mono ?_
        rintro e u ⟨rfl,hb⟩
        clear q0 q1 q2 q3 q4 q5
        replace HBX:=Lib.hid (HBX.out.below hb HBX.out.lt)
        replace HS:=Lib.hid (HS.out.next hb)
        replace HB:=Lib.hid (HB.out.trans (hb.mono HB.out.size))
        clear hb HU HG
        by_cases c:s=none_
        ·rw [decide_eq_true c]
         by_cases c4:vm=0
         ·subst c4
          by_cases c5:vx=0
          ·subst c5
           obtain rfl:=HR.out true ((fit_x _ _ _ (by omega)).trans ⟨fun _=>rfl,fun _=>⟨c,rfl,rfl⟩⟩)
           have q4:=HBX.out.cell 4;have q5:=HBX.out.cell 5
           clear HR c
           go_wp2_with fail
           go_ret
           exact ⟨rfl,HB.out⟩
          ·have d5:(vx == 0)=false:=by rw [beq_eq_false_iff_ne];exact c5
           obtain rfl:=HR.out false ((fit_x _ _ _ (by omega)).trans ⟨fun e=>absurd e.2.2 c5,fun e=>Bool.noConfusion e⟩)
           have q4:=HBX.out.cell 4;have q5:=HBX.out.cell 5
           clear HR c
           go_wp2_with fail
           go_ret
           exact ⟨rfl,HB.out⟩
         ·have d4:(vm == 0)=false:=by rw [beq_eq_false_iff_ne];exact c4
          obtain rfl:=HR.out false ((fit_x _ _ _ (by omega)).trans ⟨fun e=>absurd e.2.1 c4,fun e=>Bool.noConfusion e⟩)
          have q4:=HBX.out.cell 4;have q5:=HBX.out.cell 5
          clear HR c
          go_wp2_with fail
          go_ret
          exact ⟨rfl,HB.out⟩
        ·rw [decide_eq_false c]
         obtain rfl:=HR.out false ((fit_x _ _ _ (by omega)).trans ⟨fun e=>absurd e.1 c,fun e=>Bool.noConfusion e⟩)
         clear HR c
         go_wp2_with fail
         go_ret
         exact ⟨rfl,HB.out⟩
       ·have dd:(vk == 2)=false∧(vk == 7)=false∧(vk == 1)=false∧(vk == 3)=false∧(vk == 4)=false∧(vk == 5)=false∧(vk == 6)=false:=by simp only [beq_eq_false_iff_ne];exact ⟨k2,k7,k1,k3,k4,k5,k6⟩
        obtain ⟨e2,e7,e1,e3,e4,e5,e6⟩:=dd
        obtain rfl:=HR.out false ⟨fun e=>absurd e (fit_no _ _ _ (by omega) k2 k7),fun e=>Bool.noConfusion e⟩
        clear HR
        go_enter Tryz.func40,Tryz.ntmps40
        go_wp2_with fail
        rw [←HU.out,←HG.out]
        go_wp2_with fail
        go_ret
        exact ⟨rfl,HB.out⟩
theorem tk_pos (k:Int):0≤tkF k∧tkF k≤2:=by
 unfold tkF;repeat' split
 all_goals omega
theorem step_fit {h:Int} (hh:0≤h) (n:Nd):mayStep h n=if tkF n.kind≤h then (if fitB n=true then some (h+(1 - tkF n.kind)) else none) else none:=by
 obtain ⟨k,s,a,b⟩:=n
 have hf:fitB ⟨k,s,a,b⟩=true↔fitF ⟨k,s,a,b⟩:=by unfold fitB;exact iff_of_eq (@decide_eq_true_eq _ (Classical.propDecidable _))
 unfold mayStep
 dsimp only
 by_cases k7:k=7
 ·subst k7
  rw [if_pos rfl,show tkF 7=1 from rfl]
  by_cases c:s=none_∧1≤h∧0≤a∧a≤64∧b≤64∧(a≤b∨b=-1)
  ·rw [if_pos c,if_pos c.2.1,if_pos (hf.2 ((fit_7 _ _ _).2 ⟨c.1,by unfold oftF;rw [decide_eq_true_eq];omega⟩))]
   congr 1;omega
  ·rw [if_neg c]
   by_cases c1:1≤h
   ·rw [if_pos c1,if_neg]
    intro e
    have:=(fit_7 _ _ _).1 (hf.1 e)
    unfold oftF at this
    rw [decide_eq_true_eq] at this
    obtain ⟨e1,e2⟩:=this
    exact c ⟨e1,by omega⟩
   ·rw [if_neg c1]
 ·rw [if_neg k7]
  by_cases k2:k=2
  ·subst k2
   rw [show tkF 2=0 from rfl,if_pos hh,if_pos rfl]
   by_cases c:a≠0∨b≠0
   ·rw [if_pos c,if_neg]
    intro e
    have:=(fit_2 _ _ _).1 (hf.1 e)
    omega
   ·rw [if_neg c]
    by_cases c1:normS s=s
    ·rw [if_pos c1,if_pos (hf.2 ((fit_2 _ _ _).2 ⟨c1,by omega⟩))];congr 1
    ·rw [if_neg c1,if_neg]
     intro e
     exact c1 ((fit_2 _ _ _).1 (hf.1 e)).1
  ·by_cases kx:k=1∨k=3∨k=4∨k=5∨k=6
   ·have hx:=hf.trans (fit_x s a b kx)
    by_cases c:a≠0∨b≠0
    ·rw [if_pos c,if_neg (show ¬fitB ⟨k,s,a,b⟩=true by intro e;have:=hx.1 e;omega)]
     split <;> rfl
    ·rw [if_neg c,if_neg k2]
     by_cases cs:s=none_
     ·rw [if_neg (by intro e;exact e cs),if_pos (hx.2 ⟨cs,by omega⟩)]
      rcases kx with rfl | rfl | rfl | rfl | rfl
      ·rw [if_pos (.inl rfl),show tkF 1=0 from rfl,if_pos hh];congr 1
      ·rw [if_pos (.inr (.inl rfl)),show tkF 3=0 from rfl,if_pos hh];congr 1
      ·rw [if_pos (.inr (.inr rfl)),show tkF 4=0 from rfl,if_pos hh];congr 1
      ·rw [if_neg (by decide),if_pos (.inl rfl),show tkF 5=2 from rfl]
       have:h - 1=h+(1 - 2):=by omega
       rw [this]
      ·rw [if_neg (by decide),if_pos (.inr rfl),show tkF 6=2 from rfl]
       have:h - 1=h+(1 - 2):=by omega
       rw [this]
     ·rw [if_pos cs,if_neg (show ¬fitB ⟨k,s,a,b⟩=true from fun e=>cs (hx.1 e).1)]
      split <;> rfl
   ·have hn:¬fitB ⟨k,s,a,b⟩=true:=fun e=>fit_no s a b kx k2 k7 (hf.1 e)
    rw [if_neg hn,if_neg k2,if_neg (show ¬(k=1∨k=3∨k=4) by omega),if_neg (show ¬(k=5∨k=6) by omega)]
    repeat' split
    all_goals rfl
set_option maxHeartbeats 16000000 in
theorem may_any (A:Option Addr) (V:List NV) (l:List Nd) (n c:Nat) (w:World) (h:ArgN w A n V l) :
  Calls Tryz.prog 15 #[.slice A n c] w (Ret w (.bool (mayF l))):=by
 have H:=Lib.hid h
 have hn:=h.sm
 clear h
 go_enter Tryz.func15,Tryz.ntmps15
 go_wp2_with fail
 go_loopw [3,9] (fun hv i wr=>∃(k:Nat) (x:Int),k≤n∧hv=.int .i64 x∧i=.int .i64 k∧0≤x∧x≤k∧Hid (mayL (some 0) (l.take k)=some x)∧Hid (Below w.heap.size w wr)) (fun _ i _=>n - (intOf i).toNat)
 case atStart=>exact ⟨0,0,Nat.zero_le _,rfl,rfl,Int.le_refl _,Int.le_refl _,Lib.hid rfl,Lib.hid (Below.refl _ _)⟩
 case round =>
  obtain ⟨k,x,hk,rfl,rfl,hx0,hxk,HT,HB⟩:=hrel
  by_cases hlt:k < n
  ·have ha:k < l.length:=by rw [H.out.len2];exact hlt
   have hv:k < V.length:=by rw [H.out.len];exact hlt
   have H1:=H.out.next HB.out
   obtain ⟨p,o,rfl,_⟩:=nv_form H1.rd (by omega)
   have HM:=Lib.hid (H1.means k hv ha)
   have HD:=rd_nv H1.rd hv
   have HTK:=Lib.hid (show mayL (some 0) (l.take (k+1))=mayStep x l[k] from mayL_take ha HT.out)
   have HNO:=Lib.hid (show mayStep x l[k]=none→mayF l=false from may_stop ha HT.out)
   rw [step_fit hx0] at HTK HNO
   generalize V[k]=v at HM HD
   generalize l[k]=s at HM HTK HNO
   clear ha hv H1
   have e1:=HM.out.k;have e3:=HM.out.mn;have e5:=HM.out.mx
   obtain ⟨vk,X1,x1,y1,X2,x2,y2,X3,x3,y3,vm,vx⟩:=v
   dsimp only at e1 e3 e5 HD
   obtain ⟨sk,ss,sm,sx⟩:=s
   dsimp only at e1 e3 e5 HTK HNO
   subst e1 e3 e5
   obtain ⟨d0,d1,d2,d3,d4,d5⟩:=HD
   obtain ⟨gb,hgb⟩:∃gb,gb=wr.heap.size:=⟨_,rfl⟩
   obtain ⟨U,hU⟩:∃U,U=wr.alloc (.cells #[.int .i64 vk,.slice X1 x1 y1,.slice X2 x2 y2,.slice X3 x3 y3,.int .i64 vm,.int .i64 vx] 41):=⟨_,rfl⟩
   have HBX:=Lib.hid (show Blk U gb 41 [.int .i64 vk,.slice X1 x1 y1,.slice X2 x2 y2,.slice X3 x3 y3,.int .i64 vm,.int .i64 vx] from by rw [hU,hgb];exact Blk.new wr _ _)
   have HS:=Lib.hid (show Has3 U X1 x1 X2 x2 X3 x3 ss from by rw [hU];exact HM.out.set.next ((Below.refl _ _).alloc (Nat.le_refl _) _))
   have HB2:=Lib.hid (show Below w.heap.size w U from by rw [hU];exact HB.out.alloc HB.out.size _)
   have HU:=Lib.hid hU;have HG:=Lib.hid hgb
   clear hU hgb HM
   go_wp2_with fail
   rw [←HU.out,←HG.out]
   clear HU HG d0 d1 d2 d3 d4 d5
   have q0:=HBX.out.cell 0
   go_wp2_with fail
   refine (operands_any _ _).mono ?_
   rintro e u ⟨rfl,hb⟩
   clear q0
   replace HBX:=Lib.hid (HBX.out.below hb HBX.out.lt)
   replace HS:=Lib.hid (HS.out.next hb)
   replace HB2:=Lib.hid (HB2.out.trans (hb.mono HB2.out.size))
   clear hb HB
   have ht:=tk_pos vk
   obtain ⟨t,htk⟩:∃t,tkF vk=t:=⟨_,rfl⟩
   rw [htk] at ht HTK HNO ⊢
   obtain ⟨t0,t2⟩:=ht
   by_cases hc:t≤x
   ·rw [if_pos hc] at HTK HNO
    have q0:=HBX.out.cell 0;have q1:=HBX.out.cell 1;have q2:=HBX.out.cell 2;have q3:=HBX.out.cell 3;have q4:=HBX.out.cell 4;have q5:=HBX.out.cell 5
    go_wp2_with fail
    refine (fits_any HS.out).mono ?_
    rintro e u2 ⟨rfl,hb⟩
    clear q0 q1 q2 q3 q4 q5
    replace HB2:=Lib.hid (HB2.out.trans (hb.mono HB2.out.size))
    clear hb
    generalize fitB ⟨vk,ss,vm,vx⟩=z at HTK HNO ⊢
    cases z with
    | false =>
     have HF:=Lib.hid (HNO.out rfl)
     go_wp2_with fail
     go_ret
     rw [HF.out]
     exact ⟨rfl,HB2.out⟩
    | true =>
     have HN:=Lib.hid (show mayL (some 0) (l.take (k+1))=some (x+(1 - t)) from HTK.out)
     go_wp2_with fail
     go_roundw
     case rel=>exact ⟨k+1,x+(1 - t),by omega,by go_num,by go_num,by omega,by omega,HN,HB2⟩
     case measure=>simp [intOf];omega
   ·rw [if_neg hc] at HTK HNO
    have HF:=Lib.hid (HNO.out rfl)
    go_wp2_with fail
    go_ret
    rw [HF.out]
    exact ⟨rfl,HB2.out⟩
  ·obtain rfl:k=n:=by omega
   have HF:=Lib.hid (show mayF l=decide (x=1) from by
    have h:=HT.out
    rw [List.take_of_length_le (by rw [H.out.len2];exact Nat.le_refl _)] at h
    unfold mayF
    rw [h,decide_eq_decide]
    exact ⟨fun e=>Option.some.inj e,fun e=>by rw [e]⟩)
   by_cases h1:x=1
   ·subst h1
    go_wp2_with fail
    go_ret
    rw [HF.out]
    exact ⟨rfl,HB.out⟩
   ·have hd:decide (x=1)=false:=decide_eq_false h1
    have hd2:(x == 1)=false:=by rw [beq_eq_false_iff_ne];exact h1
    go_wp2_with fail
    go_ret
    rw [HF.out,hd]
    exact ⟨rfl,HB.out⟩
end Go.Proofs.YtkgeiokckfpjlaaGreatDoor.Syn
