/-
  Texts of stage 7, part 19.
-/
import Derived.Sort.Lot0
namespace Go.Proofs.YtegdbmbenjnacaaGreat.Norm
open Go.Sort
section
variable {α:Type} [Inhabited α]
def sg (a n:Nat) (d:Array α):List α:=(List.range n).map fun i=>d[a+i]!
variable (key:α→Int)
variable {key}
end
section
variable {α:Type} {key:α→Int}
end
end Go.Proofs.YtegdbmbenjnacaaGreat.Norm
