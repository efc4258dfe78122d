/- The reference: Units. -/
import Derived.Test.YtbhjkkbempnjeaaDoorPkVNx2
import Derived.Laws.AppendOwn
namespace Go.Proofs.YtbhjkkbempnjeaaDoor
set_option linter.unusedVariables false
open Go.RowKit Go.ChangeShapes
/-- Signs in a row of their own. -/
def UR (w : World) (base : Nat) (v : Value) (l : List U3) : Prop := w.ownsRow base 56 3 v l.length (uC l)
theorem UR.stay {w w' : World} {base : Nat} {v : Value} {l : List U3} (h : UR w base v l) (hb : Below w.heap.size w w') : UR w' base v l := own_stay h hb
theorem infoU : (Tryd.prog.info? 56).map (fun i => (i.zero, i.size, i.bytes)) = some (some (.agg #[.int .i32 0, .int .i64 0, .int .i64 0]), 3, 24) := by kernel_rfl
theorem nv_amp {c : Nat → Int} {n : Nat} {x : Int × Nat} (h : nv c n = some x) : c 0 = 38 := by
  rcases Int.decEq (c 0) 38 with h0 | h0
  · rw [nv_first (Or.inr h0)] at h; cases h
  · exact h0
/-- What Units leaves. -/
def UnP (w : World) (l : List U3) (ev : Ending) (w' : World) : Prop := ∃ v, ev = .returned (.tuple #[v, .bool true]) ∧ UR w' w.heap.size v l ∧ Below w.heap.size w w'
end Go.Proofs.YtbhjkkbempnjeaaDoor
