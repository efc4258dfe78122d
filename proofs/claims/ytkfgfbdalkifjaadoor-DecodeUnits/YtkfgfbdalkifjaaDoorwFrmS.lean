/- A span that comes in by value. -/
import Derived.Test.YtkfgfbdalkifjaaDoorvFrm
namespace Go.Proofs.YtkfgfbdalkifjaaDoor
set_option linter.unusedVariables false
open Go.ChangeShapes Go.WideShapes Go.ChangeAt Go.RowKit Go.Joins
set_option maxRecDepth 100000 in
theorem span_agg {H : Type} {enc : TypeId × Value → H} {W : World} {r : Reach} {b0 : Nat} {v : Value} {d : DataW H} {p : List MemPlace} (hv : Value.okWide Tryd.prog W r b0 35 v) (h : DataW.Trod enc Tryd.prog W 0 (fun _ => true) true 35 v d p) :
    ∃ a m : Int, v = .agg #[.int .i64 a, .int .i64 m] ∧ (Lit.int .i64 a).wf = true ∧ (Lit.int .i64 m).wf = true := by
  obtain ⟨cs, rfl, hsz⟩ := okWide_struct Tryd.fieldsS hv
  obtain ⟨fuel, hf⟩ := h
  obtain ⟨a, m, e, w1, w2⟩ := span_of (cs := cs.toList) (by rw [Array.length_toList, hsz, Tryd.cellsS]) (by simpa [Value.cells] using hf)
  exact ⟨a, m, by rw [← Array.toList_inj.1 (show cs.toList = (#[Value.int .i64 a, .int .i64 m] : Array Value).toList from e)], w1, w2⟩
end Go.Proofs.YtkfgfbdalkifjaaDoor
