/-
  Texts of stage 7, part 13.
-/
import Derived.BigGuardPart
import Derived.Deep.DeepCutAuto
import Derived.Test.YtdngaddggcmjgaaDoorW11
namespace Go.Proofs.YtdngaddggcmjgaaDoor.Ucd
open Go.RowKit Utf
def inB (r lo hi:Int):Bool:=decide (lo≤r∧r≤hi)
theorem inB_yes {r lo hi:Int} (h:inB r lo hi=true):lo≤r∧r≤hi:=of_decide_eq_true h
theorem inB_no {r lo hi:Int} (h:inB r lo hi=false):¬(lo≤r∧r≤hi):=of_decide_eq_false h
set_option maxHeartbeats 1000000 in
theorem in_any (r lo hi:Int) (w:World):Calls Tryd.prog 40 #[.int .i32 r,.int .i32 lo,.int .i32 hi] w fun e w'=>e=.returned (.bool (inB r lo hi))∧w=w':=by
 by_cases h1:lo≤r
 ·have d1:decide (lo≤r)=true:=decide_eq_true h1
  go_enter Tryd.func40,Tryd.ntmps40
  go_wp2
  go_ret
  exact ⟨ret_bool (by unfold inB;simp [h1]),rfl⟩
 ·have d1:decide (lo≤r)=false:=decide_eq_false h1
  go_enter Tryd.func40,Tryd.ntmps40
  go_wp2
  go_ret
  exact ⟨ret_bool (by unfold inB;rw [decide_eq_false];omega),rfl⟩
set_option maxHeartbeats 1000000 in
theorem trailing_any (r:Int) (w:World):Calls Tryd.prog 96 #[.int .i32 r] w fun e w'=>e=.returned (.bool (trl r))∧w=w':=by
 go_enter Tryd.func96,Tryd.ntmps96
 go_wp2
 all_goals go_ret
 all_goals exact ⟨ret_bool (by unfold trl;first | (exfalso;omega) | (rw [decide_eq_true];omega) | (rw [decide_eq_false];omega) | (refine decide_eq_decide.2 ?_;omega)),rfl⟩
set_option maxHeartbeats 1000000 in
theorem rtrailing_any (r:Int) (w:World):Calls Tryd.prog 30 #[.int .i32 r] w fun e w'=>e=.returned (.bool (trl r))∧w=w':=by
 go_enter Tryd.func30,Tryd.ntmps30
 go_wp2_with (go_at_call 40;refine (in_any _ _ _ _).mono ?_;rintro e w' ⟨rfl,rfl⟩)
 ·go_ret
  have h:=inB_yes (show inB r 4449 4469=true by assumption)
  exact ⟨ret_bool (by unfold trl;rw [decide_eq_true];omega),rfl⟩
 ·go_ret
  have h:=inB_no (show inB r 4449 4469=false by assumption)
  exact ⟨ret_bool (by unfold trl inB;refine decide_eq_decide.2 ?_;omega),rfl⟩
end Go.Proofs.YtdngaddggcmjgaaDoor.Ucd
namespace Go.Proofs.YtdngaddggcmjgaaDoor.Ucd
open Go.RowKit Utf
def anyB (r:Int) (l:List (Int × Int)):Bool:=l.any fun x=>inB r x.1 x.2
def grp (v:Int) (l:List (Int × Int)):List (Int × Int × Int):=l.map fun x=>(x.1,x.2,v)
theorem pick_grp (d v r:Int) (l:List (Int × Int)) (t:List (Int × Int × Int)):pick d (grp v l++t) r=if anyB r l=true then v else pick d t r:=by
 induction l with
 | nil=>simp [grp,anyB]
 | cons x l ih =>
  have e:grp v (x :: l)++t=(x.1,x.2,v) :: (grp v l++t):=rfl
  rw [e]
  simp only [pick,ih]
  by_cases h:x.1≤r∧r≤x.2
  ·have:anyB r (x :: l)=true:=by simp [anyB,inB,h]
   rw [if_pos h,if_pos this]
  ·have:anyB r (x :: l)=anyB r l:=by simp only [anyB,List.any_cons,inB,decide_eq_false h,Bool.false_or]
   rw [if_neg h,this]
end Go.Proofs.YtdngaddggcmjgaaDoor.Ucd
namespace Go.Proofs.YtdngaddggcmjgaaDoor.Ucd
open Go.RowKit Utf
def gCls0:List (Int × Int):=[(768,788),(829,836),(838,838),(842,844),(848,850),(855,855),(8400,8401)]
def gCls1:List (Int × Int):=[(789,789),(794,794)]
def gCls2:List (Int × Int):=[(790,793),(796,800),(803,806),(809,819),(825,828),(839,841),(845,846),(851,854)]
def gCls3:List (Int × Int):=[(795,795)]
def gCls4:List (Int × Int):=[(801,802),(807,808)]
def gCls5:List (Int × Int):=[(820,824)]
def gCls6:List (Int × Int):=[(837,837)]
def gCls7:List (Int × Int):=[(12441,12442)]
theorem cls_groups (r:Int):cls r=if anyB r gCls0=true then 230 else if anyB r gCls1=true then 232 else if anyB r gCls2=true then 220 else if anyB r gCls3=true then 216 else if anyB r gCls4=true then 202 else if anyB r gCls5=true then 1 else if anyB r gCls6=true then 240 else if anyB r gCls7=true then 8 else 0:=by
 rw [←cls_ref]
 show pick 0 (grp 230 gCls0++(grp 232 gCls1++(grp 220 gCls2++(grp 216 gCls3++(grp 202 gCls4++(grp 1 gCls5++(grp 240 gCls6++(grp 8 gCls7++[])))))))) r=_
 simp only [pick_grp,pick]
set_option maxRecDepth 100000 in
set_option maxHeartbeats 8000000 in
theorem rclass_any (r:Int) (w:World):Calls Tryd.prog 29 #[.int .i32 r] w fun e w'=>e=.returned (.int .i64 (cls r))∧w=w':=by
 go_enter Tryd.func29,Tryd.ntmps29
 go_upto_if 3 with (go_at_call 40;refine (in_any _ _ _ _).mono ?_;rintro e w' ⟨rfl,rfl⟩)
 go_cut [3] (fun s wx=>∃b:Bool,s=.bool b∧Hid (anyB r gCls0=b)∧Hid (w=wx))
 case first=>as_aux_lemma =>
  go_wp2_with (go_at_call 40;refine (in_any _ _ _ _).mono ?_;rintro e w' ⟨rfl,rfl⟩)
  all_goals go_meet
  all_goals exact ⟨_,rfl,Lib.hid (by simp [anyB,gCls0, *]),Lib.hid rfl⟩
 case rest =>
  obtain ⟨b0,rfl,H0,hw⟩:=hcut
  obtain rfl:=hw.out
  clear hw
  cases b0 with
  | true=>as_aux_lemma =>
   go_wp2
   go_ret
   exact ⟨ret_int (by rw [cls_groups];simp [H0.out]),rfl⟩
  | false =>
   go_upto_if 20 with (go_at_call 40;refine (in_any _ _ _ _).mono ?_;rintro e w' ⟨rfl,rfl⟩)
   go_cut [20] (fun s wx=>∃b:Bool,s=.bool b∧Hid (anyB r gCls1=b)∧Hid (w=wx))
   case first=>as_aux_lemma =>
    go_wp2_with (go_at_call 40;refine (in_any _ _ _ _).mono ?_;rintro e w' ⟨rfl,rfl⟩)
    all_goals go_meet
    all_goals exact ⟨_,rfl,Lib.hid (by simp [anyB,gCls1, *]),Lib.hid rfl⟩
   case rest =>
    obtain ⟨b1,rfl,H1,hw⟩:=hcut
    obtain rfl:=hw.out
    clear hw
    cases b1 with
    | true=>as_aux_lemma =>
     go_wp2
     go_ret
     exact ⟨ret_int (by rw [cls_groups];simp [H0.out,H1.out]),rfl⟩
    | false =>
     go_upto_if 25 with (go_at_call 40;refine (in_any _ _ _ _).mono ?_;rintro e w' ⟨rfl,rfl⟩)
     go_cut [25] (fun s wx=>∃b:Bool,s=.bool b∧Hid (anyB r gCls2=b)∧Hid (w=wx))
     case first=>as_aux_lemma =>
      go_wp2_with (go_at_call 40;refine (in_any _ _ _ _).mono ?_;rintro e w' ⟨rfl,rfl⟩)
      all_goals go_meet
      all_goals exact ⟨_,rfl,Lib.hid (by simp [anyB,gCls2, *]),Lib.hid rfl⟩
     case rest =>
      obtain ⟨b2,rfl,H2,hw⟩:=hcut
      obtain rfl:=hw.out
      clear hw
      cases b2 with
      | true=>as_aux_lemma =>
       go_wp2
       go_ret
       exact ⟨ret_int (by rw [cls_groups];simp [H0.out,H1.out,H2.out]),rfl⟩
      | false =>
       obtain ⟨b3,hb3⟩:∃b,anyB r gCls3=b:=⟨_,rfl⟩
       have H3:=Lib.hid hb3
       have hi3:inB r 795 795=b3:=by rw [←hb3];simp [anyB,gCls3]
       clear hb3
       cases b3 with
       | true =>
        go_wp2_with (go_at_call 40;refine (in_any _ _ _ _).mono ?_;rintro e w' ⟨rfl,rfl⟩)
        go_ret
        exact ⟨ret_int (by rw [cls_groups];simp [H0.out,H1.out,H2.out,H3.out]),rfl⟩
       | false =>
        go_upto_if 47 with (go_at_call 40;refine (in_any _ _ _ _).mono ?_;rintro e w' ⟨rfl,rfl⟩)
        go_cut [47] (fun s wx=>∃b:Bool,s=.bool b∧Hid (anyB r gCls4=b)∧Hid (w=wx))
        case first=>as_aux_lemma =>
         go_wp2_with (go_at_call 40;refine (in_any _ _ _ _).mono ?_;rintro e w' ⟨rfl,rfl⟩)
         all_goals go_meet
         all_goals exact ⟨_,rfl,Lib.hid (by simp [anyB,gCls4, *]),Lib.hid rfl⟩
        case rest =>
         obtain ⟨b4,rfl,H4,hw⟩:=hcut
         obtain rfl:=hw.out
         clear hw
         cases b4 with
         | true=>as_aux_lemma =>
          go_wp2
          go_ret
          exact ⟨ret_int (by rw [cls_groups];simp [H0.out,H1.out,H2.out,H3.out,H4.out]),rfl⟩
         | false =>
          obtain ⟨b5,hb5⟩:∃b,anyB r gCls5=b:=⟨_,rfl⟩
          have H5:=Lib.hid hb5
          have hi5:inB r 820 824=b5:=by rw [←hb5];simp [anyB,gCls5]
          clear hb5
          cases b5 with
          | true =>
           go_wp2_with (go_at_call 40;refine (in_any _ _ _ _).mono ?_;rintro e w' ⟨rfl,rfl⟩)
           go_ret
           exact ⟨ret_int (by rw [cls_groups];simp [H0.out,H1.out,H2.out,H3.out,H4.out,H5.out]),rfl⟩
          | false =>
           obtain ⟨b6,hb6⟩:∃b,anyB r gCls6=b:=⟨_,rfl⟩
           have H6:=Lib.hid hb6
           have hi6:inB r 837 837=b6:=by rw [←hb6];simp [anyB,gCls6]
           clear hb6
           cases b6 with
           | true =>
            go_wp2_with (go_at_call 40;refine (in_any _ _ _ _).mono ?_;rintro e w' ⟨rfl,rfl⟩)
            go_ret
            exact ⟨ret_int (by rw [cls_groups];simp [H0.out,H1.out,H2.out,H3.out,H4.out,H5.out,H6.out]),rfl⟩
           | false =>
            obtain ⟨b7,hb7⟩:∃b,anyB r gCls7=b:=⟨_,rfl⟩
            have H7:=Lib.hid hb7
            have hi7:inB r 12441 12442=b7:=by rw [←hb7];simp [anyB,gCls7]
            clear hb7
            cases b7 with
            | true =>
             go_wp2_with (go_at_call 40;refine (in_any _ _ _ _).mono ?_;rintro e w' ⟨rfl,rfl⟩)
             go_ret
             exact ⟨ret_int (by rw [cls_groups];simp [H0.out,H1.out,H2.out,H3.out,H4.out,H5.out,H6.out,H7.out]),rfl⟩
            | false =>
             go_wp2_with (go_at_call 40;refine (in_any _ _ _ _).mono ?_;rintro e w' ⟨rfl,rfl⟩)
             go_ret
             exact ⟨ret_int (by rw [cls_groups];simp [H0.out,H1.out,H2.out,H3.out,H4.out,H5.out,H6.out,H7.out]),rfl⟩
end Go.Proofs.YtdngaddggcmjgaaDoor.Ucd
