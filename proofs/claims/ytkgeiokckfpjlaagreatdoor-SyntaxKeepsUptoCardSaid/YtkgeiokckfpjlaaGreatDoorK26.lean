/-
  Texts of stage 7, part 26.
-/
import Derived.Lib.OthersKept
import Derived.Deep.LoopGhost
import Derived.Test.YtkgeiokckfpjlaaGreatDoorK22
import Derived.Test.YtkgeiokckfpjlaaGreatDoorK25
namespace Go.Proofs.YtkgeiokckfpjlaaGreatDoor.Ucd
open Go.RowKit Utf
theorem full_self {x:Int} (hz:(pairF x).2.2=0):fullF x=[x]:=by rw [fullF,full,if_pos hz]
def put (L:List Int) (j:Nat) (P:List Int):List Int:=L.take j++P++L.drop (j+1)
theorem full_some (x:Int):1≤(fullF x).length:=(bottom_parts x).1
def grow (L:List Int) (j:Nat) (P:List Int) (k:Nat):List Int:=if k≤j then L.take k else L.take j++P++(L.drop (j+1)).take (k - (j+1))
theorem all_self:∀{L:List Int},(∀x∈L,(pairF x).2.2=0)→L.flatMap fullF=L
 | [],_=>rfl
 | x :: t,h=>by rw [List.flatMap_cons,full_self (h x (by simp)),all_self fun y hy=>h y (by simp [hy])];rfl
end Go.Proofs.YtkgeiokckfpjlaaGreatDoor.Ucd
