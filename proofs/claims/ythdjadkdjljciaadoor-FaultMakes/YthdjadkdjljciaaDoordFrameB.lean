/- What FaultMakes' row wants beside: the tables that strconv.Itoa reads. -/
import Derived.Test.YthdjadkdjljciaaDoordFrame
import Derived.Test.YthdjadkdjljciaaDoordLawMakes
import Derived.Lib.LaidU8
namespace Go.Proofs.YthdjadkdjljciaaDoor
set_option linter.unusedVariables false
open Go.ChangeShapes Go.WideShapes Go.ChangeAt Go.RowKit Go.Joins
def lay3 : List (String × DataW Unit) := [("math/bits.deBruijn32tab", Rows.laid_math_bits_deBruijn32tab), ("math/bits.deBruijn64tab", Rows.laid_math_bits_deBruijn64tab), ("internal/strconv.uint64pow10", Rows.laid_internal_strconv_uint64pow10)]
def lay4 : List (String × DataW Unit) := [("math/bits.deBruijn32tab", Rows.laid_math_bits_deBruijn32tab), ("math/bits.deBruijn64tab", Rows.laid_math_bits_deBruijn64tab), ("internal/strconv.uint64pow10", Rows.laid_internal_strconv_uint64pow10), ("errors.errorType", Rows.laid_errors_errorType)]
/-- A table's cells. -/
def nums : DataW Unit → Array Value
  | .agg parts => (parts.map fun
    | .lit (.int k z) => Value.int k z
    | _ => undef).toArray
  | _ => #[]
def laidOfB (w1 : World) : World :=
  let w0 := laidOf w1
  let put (h : Array Obj) (g : Nat) (cs : Array Value) : Array Obj := h.modify g fun
    | .cells _ t frozen => .cells cs t frozen
    | o => o
  { w0 with heap := put (put (put w0.heap 2 (nums Rows.laid_math_bits_deBruijn32tab)) 3 (nums Rows.laid_math_bits_deBruijn64tab)) 1 (nums Rows.laid_internal_strconv_uint64pow10) }
theorem laid_metB (os : Os) (args : Array Value) : laidMetH Tryd.prog lay4 ((laidOfB (World.holding Tryd.prog os ⟨#[], #[], []⟩)).forCall (fun _ _ => 0) ⟨#[], args, []⟩).memory :=
  laidMetH_of_parts (LaidIn.of_run (l := lay3) [1, 2, 3] 8 (by kernel_rfl) (by kernel_rfl) (by kernel_rfl) (by kernel_rfl)).met (by kernel_rfl)
theorem tab_data : Rows.laid_internal_strconv_uint64pow10 = (Lib.tabData .u64 Lib.pow10Tab : DataW Unit) := by kernel_rfl
theorem tabType : (Tryd.prog.globals[1]?).map (·.type) = some 123 := by kernel_rfl
theorem tab_of {W : World} (h : laidMet Tryd.prog lay3 W) : Tab W := by
  have h1 := Lib.laidMet.reads h (.tail _ (.tail _ (.head _)))
  rw [tab_data] at h1
  obtain ⟨g, t, cs, fuel, p, e1, e2, e3, e4⟩ := h1
  obtain rfl := Option.some.inj (tabNamed.symm.trans e1)
  obtain rfl := Option.some.inj (tabType.symm.trans e2)
  unfold Tab Lib.TabIs
  rw [e3, ← Lib.cells_of_tab Tryd.underlying123 Tryd.underlying113 (by kernel_rfl) (by kernel_rfl) e4]
theorem both_in {W : World} (h : laidMetH Tryd.prog lay4 W) : Ety W ∧ Tab W ∧ 1 < W.heap.size := by
  have h' : laidMet Tryd.prog lay3 W ∧ handlesMet Tryd.prog ets W := h
  have ht := tab_of h'.1
  have hc := Lib.TabIs.cell ht tabNamed 0 (by simp [Lib.pow10Tab])
  exact ⟨ety_of h'.2, ht, World.block_lt_of_cell? W _ hc⟩
end Go.Proofs.YthdjadkdjljciaaDoor
