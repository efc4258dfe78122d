/- Texts that are put together, byte by byte. -/
import Derived.Test.YtgebmmbnpdhooaasAwk
import Derived.Test.YtgebmmbnpdhooaasLawP
namespace Go.Proofs.Ytgebmmbnpdhooaa
set_option linter.unusedVariables false
open Go.RowKit Go.ChangeShapes
/-- One byte that was laid out for it. -/
theorem one_bc (w : World) (x : Int) : BC (w.alloc (.cells #[.int .u8 x] 5)) (some ⟨w.heap.size, 0, none⟩) 1 (cL [x]) := fun i hi => by
  obtain rfl : i = 0 := by omega
  refine ⟨_, _, rfl, ?_⟩
  have := heap_alloc_new w (.cells #[.int .u8 x] 5)
  simp only [World.cell?, this]
  rfl
theorem cl_one (x : Int) : cl (cL [x]) 1 = [x] := rfl
theorem one_str (w : World) (x : Int) : (convert 22 9 (.slice (some ⟨w.heap.size, 0, none⟩) 1 1)).run Try.prog (w.alloc (.cells #[.int .u8 x] 5)) = .ok (.string (strOfNums [x])) (w.alloc (.cells #[.int .u8 x] 5)) := str_bc (cap := 1) (one_bc w x)
theorem nums_one (x : Int) : (strOfNums [x]).size = 1 := rfl
end Go.Proofs.Ytgebmmbnpdhooaa
