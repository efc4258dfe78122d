/- PragmaWords, as its row wants it. -/
import Derived.Test.YteeeekpeokgaeaaDoorPkYRl2
import Derived.Test.YteeeekpeokgaeaaDooryWl
namespace Go.Proofs.YteeeekpeokgaeaaDoor
set_option linter.unusedVariables false
open Go.RowKit Go.ChangeShapes
theorem words_u8 {w : World} (hT : PT w) {v : Value} {Z : List (List Nat)} (hZ : BRR w v Z) (hZm : Z.length ≤ maxLen) {q : Int} (hq : 0 ≤ q ∧ q < 256) :
    Calls Tryd.prog 5 #[v, .int .u8 q] w fun ev w' => ev = .returned (.bool true) ∧ Below w.heap.size w w' := by
  obtain ⟨q, rfl⟩ : ∃ n : Nat, q = (n : Int) := ⟨q.toNat, by omega⟩
  exact words_law po_ok hT hZ hZm (by omega)
end Go.Proofs.YteeeekpeokgaeaaDoor
