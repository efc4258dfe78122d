/- TokenWords, as its row wants it. -/
import Derived.Test.YtbhjkkbempnjeaaDoorPkUPrem2
import Derived.Test.YtbhjkkbempnjeaaDooruLWds
namespace Go.Proofs.YtbhjkkbempnjeaaDoor
set_option linter.unusedVariables false
open Go.RowKit Go.ChangeShapes
theorem words_u8 {w : World} (hG : Glb w) {f : Int} (hf : 0 ≤ f ∧ f < 256) {ba : Option Addr} {bn bcap : Nat} {bc : Nat → Int} (hbC : Ch bc bn) (hb : BC w ba bn bc) (hbn : bn ≤ maxLen)
    {la : Option Addr} {ln lcap : Nat} {lc : Nat → Int} (hlC : Ch lc ln) (hl : BC w la ln lc) (hln : ln ≤ maxLen) {a b : Int} (ha : (Lit.int .i64 a).wf = true) (hb' : (Lit.int .i64 b).wf = true) (raw : Bool) :
    Calls Tryd.prog 4 #[.int .u8 f, .slice ba bn bcap, .slice la ln lcap, .int .i64 a, .int .i64 b, .bool raw] w fun ev w' => ev = .returned (.bool true) ∧ Below w.heap.size w w' := by
  obtain ⟨f, rfl⟩ : ∃ n : Nat, f = (n : Int) := ⟨f.toNat, by omega⟩
  exact words_law wo_ok hG (by omega) hbC hb hbn hlC hl hln (i64_wf ha) (i64_wf hb') raw
end Go.Proofs.YtbhjkkbempnjeaaDoor
