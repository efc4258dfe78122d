/- fold.count. -/
import Derived.Test.YthdjadkdjljciaaGreatDoorgKit
namespace Go.Proofs.YthdjadkdjljciaaGreatDoor
set_option linter.unusedVariables false
open Go.RowKit Go.ChangeShapes
/-- How many of the first ones. -/
theorem cnt_succ (p : Int → Bool) (L : List Int) (j : Nat) (h : j < L.length) : (L.take (j + 1)).countP p = (L.take j).countP p + (bif p (L.getD j 0) then 1 else 0) := by
  rw [← List.take_append_getElem h, List.countP_append]
  simp [List.getD, List.getElem?_eq_getElem h, List.countP_cons, List.countP_nil]
theorem cnt_le (p : Int → Bool) (L : List Int) (j : Nat) : (L.take j).countP p ≤ j := by
  refine Nat.le_trans List.countP_le_length ?_
  simp; omega
/-- Runes lie there as a list. -/
def RLs (w : World) (v : Value) (L : List Int) : Prop := RSl w v L.length fun i => L.getD i 0
end Go.Proofs.YthdjadkdjljciaaGreatDoor
