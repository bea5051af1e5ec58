/-
  CONTRACTS OF the document's Not, Union, Meet and Minus.
-/
import Derived.Test.YtipcbiecdabihaaGreatRsetRnorm
namespace Go.Proofs.YtipcbiecdabihaaGreat.Rset
set_option maxRecDepth 100000
open Go.RowKit
open Utf (Rd Blk wpList_append_rd own_ne)

theorem gp_at (s : List Rg) (i : Nat) (a : Int) (hi : i < s.length) : gp a (s.drop i) = (if a < s[i].1 then [(a, s[i].1 - 1)] else []) ++ gp (s[i].2 + 1) (s.drop (i + 1)) := by
  rw [List.drop_eq_getElem_cons hi]; rfl
theorem gp_end (a : Int) : gp a [] = if a ≤ 1114111 then [(a, 1114111)] else [] := rfl

theorem norm_append (a b : List Rg) : norm (a ++ b) = uni a b := nl_congr fun x _ => has_append a b x
theorem meet_not (a b : List Rg) : compl (uni (compl a) (compl b)) = meet a b := nl_congr fun x hx => by
  rw [uni_has, compl_has, compl_has, hx]; simp
theorem minus_not (a b : List Rg) : meet a (compl b) = minus a b := nl_congr fun x hx => by
  rw [compl_has, hx]; simp
end Go.Proofs.YtipcbiecdabihaaGreat.Rset
