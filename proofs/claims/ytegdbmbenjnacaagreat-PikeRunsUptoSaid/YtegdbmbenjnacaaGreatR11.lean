/-
  Texts of stage 7, part 11.
-/
import Derived.BigQuiet
import Derived.Deep.QuietTactic
import Derived.Test.YtegdbmbenjnacaaGreatR8
namespace Go.Proofs.YtegdbmbenjnacaaGreat.Rset
open Go.RowKit
open Utf (Rd Blk wpList_append_rd)
def Joined (base:Nat) (w:World) (v:Value) (l:List Rg) (e:Ending) (w':World):Prop :=
 ∃v',e=.returned v'∧w'.ownsRow base 141 2 v' l.length (rgs l)∧w.grownBy w' v.ownBlock
theorem grownBy_setCell (w:World) (g j:Nat) (u:Value):w.grownBy (w.setCell ⟨g,j,none⟩ u) (some g) :=
 ⟨rfl,rfl,rfl,by simp,fun k _ hk=>heap_setCell_other w ⟨g,j,none⟩ k u (fun e=>hk (by simp [e]))⟩
theorem grownBy_drewN (w:World) (n:Nat) (row:Option Nat):w.grownBy (w.drewN n) row:=⟨rfl,rfl,rfl,Nat.le_refl _,fun _ _ _=>rfl⟩
theorem grownBy_alloc (w:World) (o:Obj) (row:Option Nat):w.grownBy (w.alloc o) row:=⟨rfl,rfl,rfl,by simp,fun k hk _=>Below.heap_alloc w o k hk⟩
end Go.Proofs.YtegdbmbenjnacaaGreat.Rset
