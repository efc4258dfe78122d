/- token: what its three functions answer. -/
import Derived.Test.YtbhjkkbempnjeaaDoorPkVF3
import Derived.Test.YtbhjkkbempnjeaaDooruPW
import Derived.Test.YtbhjkkbempnjeaaDooruCsL
namespace Go.Proofs.YtbhjkkbempnjeaaDoor
set_option linter.unusedVariables false
open Go.RowKit Go.ChangeShapes
theorem wo_ok : WordsOk := fun w ad n cap c v l lo hi hC hb hcap hn hbig hU hF hk hl _ _ =>
  (twords_any hC hb hcap hn hbig hU hF hk hl lo hi).mono fun e w' ⟨v', e1, h1, h2⟩ => ⟨v', e1, h1.any, h2⟩
theorem ro_ok : RunsOk := fun w v l hU hF hk =>
  (truns_any hU hF (by omega)).mono fun e w' ⟨v', e1, h1, h2⟩ => ⟨v', e1, h1.any, h2⟩
theorem so_ok : SplitOk := fun w v l f t hU hF hk hf ht =>
  (tsplit_any hU hF (by omega) hf ht).mono fun e w' ⟨v', e1, h1, h2⟩ => ⟨v', e1, h1.any, h2⟩
theorem i64_wf {z : Int} (h : (Lit.int .i64 z).wf = true) : -9223372036854775808 ≤ z ∧ z ≤ 9223372036854775807 := by
  simp only [Lit.wf] at h
  have e1 : IntKind.i64.min = -9223372036854775808 := by decide
  have e2 : IntKind.i64.max = 9223372036854775807 := by decide
  revert h
  simp
  omega
end Go.Proofs.YtbhjkkbempnjeaaDoor
/- TokenCases, as its row wants it. -/
namespace Go.Proofs.YtbhjkkbempnjeaaDoor
set_option linter.unusedVariables false
open Go.RowKit Go.ChangeShapes
theorem cases_u8 {w : World} (hT : Lns.Tabs w) {v : Value} {Z : List (List Nat)} (hZ : BRR w v Z) (hZm : Z.length ≤ maxLen) {q : Int} (hq : 0 ≤ q ∧ q < 256) :
    Calls Tryd.prog 6 #[v, .int .u8 q] w fun ev w' => ev = .returned (.bool true) ∧ Below w.heap.size w w' := by
  obtain ⟨q, rfl⟩ : ∃ n : Nat, q = (n : Int) := ⟨q.toNat, by omega⟩
  exact cases_law wo_ok hT hT hZ hZm (by omega)
end Go.Proofs.YtbhjkkbempnjeaaDoor
