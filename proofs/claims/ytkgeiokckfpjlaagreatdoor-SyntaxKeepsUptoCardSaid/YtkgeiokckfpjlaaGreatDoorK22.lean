/-
  Texts of stage 7, part 22.
-/
import Derived.BigGuardPart
import Derived.Deep.DeepCutAuto
import Derived.Test.YtkgeiokckfpjlaaGreatDoorK8
namespace Go.Proofs.YtkgeiokckfpjlaaGreatDoor.Ucd
open Go.RowKit Utf
def inB (r lo hi:Int):Bool:=decide (lo≤r∧r≤hi)
set_option maxHeartbeats 1000000 in
theorem in_any (r lo hi:Int) (w:World):Calls Tryz.prog 111 #[.int .i32 r,.int .i32 lo,.int .i32 hi] w fun e w'=>e=.returned (.bool (inB r lo hi))∧w=w':=by
 by_cases h1:lo≤r
 ·have d1:decide (lo≤r)=true:=decide_eq_true h1
  go_enter Tryz.func111,Tryz.ntmps111
  go_wp2
  go_ret
  exact ⟨ret_bool (by unfold inB;simp [h1]),rfl⟩
 ·have d1:decide (lo≤r)=false:=decide_eq_false h1
  go_enter Tryz.func111,Tryz.ntmps111
  go_wp2
  go_ret
  exact ⟨ret_bool (by unfold inB;rw [decide_eq_false];omega),rfl⟩
set_option maxHeartbeats 1000000 in
theorem trailing_any (r:Int) (w:World):Calls Tryz.prog 201 #[.int .i32 r] w fun e w'=>e=.returned (.bool (trl r))∧w=w':=by
 go_enter Tryz.func201,Tryz.ntmps201
 go_wp2
 all_goals go_ret
 all_goals exact ⟨ret_bool (by unfold trl;first | (exfalso;omega) | (rw [decide_eq_true];omega) | (rw [decide_eq_false];omega) | (refine decide_eq_decide.2 ?_;omega)),rfl⟩
end Go.Proofs.YtkgeiokckfpjlaaGreatDoor.Ucd
namespace Go.Proofs.YtkgeiokckfpjlaaGreatDoor.Ucd
open Go.RowKit Utf
def grp (v:Int) (l:List (Int × Int)):List (Int × Int × Int):=l.map fun x=>(x.1,x.2,v)
end Go.Proofs.YtkgeiokckfpjlaaGreatDoor.Ucd
