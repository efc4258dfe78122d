/- token: what its three functions answer. -/
import Derived.Test.YtbhjkkbempnjeaaDoorPkVLLit2
import Derived.Test.YtbhjkkbempnjeaaDooruPW
namespace Go.Proofs.YtbhjkkbempnjeaaDoor
set_option linter.unusedVariables false
open Go.RowKit Go.ChangeShapes
theorem wo_ok : WordsOk := fun w ad n cap c v l lo hi hC hb hcap hn hbig hU hF hk hl _ _ =>
  (twords_any hC hb hcap hn hbig hU hF hk hl lo hi).mono fun e w' ⟨v', e1, h1, h2⟩ => ⟨v', e1, h1.any, h2⟩
theorem ro_ok : RunsOk := fun w v l hU hF hk =>
  (truns_any hU hF (by omega)).mono fun e w' ⟨v', e1, h1, h2⟩ => ⟨v', e1, h1.any, h2⟩
theorem so_ok : SplitOk := fun w v l f t hU hF hk hf ht =>
  (tsplit_any hU hF (by omega) hf ht).mono fun e w' ⟨v', e1, h1, h2⟩ => ⟨v', e1, h1.any, h2⟩
theorem i64_wf {z : Int} (h : (Lit.int .i64 z).wf = true) : -9223372036854775808 ≤ z ∧ z ≤ 9223372036854775807 := by
  simp only [Lit.wf] at h
  have e1 : IntKind.i64.min = -9223372036854775808 := by decide
  have e2 : IntKind.i64.max = 9223372036854775807 := by decide
  revert h
  simp
  omega
end Go.Proofs.YtbhjkkbempnjeaaDoor
