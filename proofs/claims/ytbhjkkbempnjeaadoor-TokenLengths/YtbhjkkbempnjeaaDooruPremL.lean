/- TokenLengths, as its row wants it. -/
import Derived.Test.YtbhjkkbempnjeaaDoorPkUPrem2
import Derived.Test.YtbhjkkbempnjeaaDooruLLen
namespace Go.Proofs.YtbhjkkbempnjeaaDoor
set_option linter.unusedVariables false
open Go.RowKit Go.ChangeShapes
theorem lengths_u8 {w : World} (hT : Lns.Tabs w) {ba : Option Addr} {bn bcap : Nat} {bc : Nat → Int} (hbC : Ch bc bn) (hb : BC w ba bn bc) (hbn : bn ≤ maxLen)
    {la : Option Addr} {ln lcap : Nat} {lc : Nat → Int} (hlC : Ch lc ln) (hl : BC w la ln lc) (hln : ln ≤ maxLen) {p q : Int} (hp : 0 ≤ p ∧ p < 256) (hq : 0 ≤ q ∧ q < 256) :
    Calls Tryd.prog 7 #[.slice ba bn bcap, .slice la ln lcap, .int .u8 p, .int .u8 q] w fun ev w' => ev = .returned (.bool true) ∧ Below w.heap.size w w' := by
  obtain ⟨p, rfl⟩ : ∃ n : Nat, p = (n : Int) := ⟨p.toNat, by omega⟩
  obtain ⟨q, rfl⟩ : ∃ n : Nat, q = (n : Int) := ⟨q.toNat, by omega⟩
  exact lengths_law wo_ok hT hT hbC hb hbn hlC hl hln (by omega) (by omega)
end Go.Proofs.YtbhjkkbempnjeaaDoor
