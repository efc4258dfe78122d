/- Rows of texts; the least of three numbers. -/
import Derived.Test.YtodjfeheagnnpaaDoorhOM
import Derived.Lib.MinMax
namespace Go.Proofs.YtodjfeheagnnpaaDoor
set_option linter.unusedVariables false
open Go.RowKit Go.ChangeShapes
def PS (w : World) (gp : Nat) (ps : List (List Int)) : Prop := ∀ (k : Nat) (t : List Int), ps[k]? = some t → w.cell? ⟨gp, k, none⟩ = some (.string (strOfNums t))
theorem lit_ps (w : World) (l : List (List Int)) : PS (w.alloc (.cells (l.map fun t => Value.string (strOfNums t)).toArray 9)) w.heap.size l := fun k t ht => by
  have hh : (w.alloc (.cells (l.map fun t => Value.string (strOfNums t)).toArray 9)).heap[w.heap.size]? = some (.cells (l.map fun t => Value.string (strOfNums t)).toArray 9) := heap_alloc_new _ _
  simp only [World.cell?, hh]
  simp [ht]
theorem nat_mod (a b : Nat) : Int.tmod (a : Int) (b : Int) = ((a % b : Nat) : Int) := rfl
theorem run_min3 {P : Program} (w : World) (ts : Array TypeId) (t : TypeId) (k : IntKind) (x y z : Int) :
    (Builtin.min_ ts t #[.int k x, .int k y, .int k z]).run P w = .ok (.int k (min (min x y) z)) w := by
  have e : ∀ x y : Int, (if y < x then y else x) = min x y := fun x y => by
    rw [Int.min_def]
    split <;> split <;> omega
  simp [Builtin.min_, Builtin.min2, e]
set_option maxHeartbeats 1000000 in

/-- A literal's bytes, with a conversion's mark. -/
theorem om_lit (w : World) (base : Nat) (hb : base ≤ w.heap.size) : OMg (w.alloc (.cells #[.int .u8 60] 5 (1, 2))) base w.heap.size 1 [60] := by
  have hh : (w.alloc (.cells #[.int .u8 60] 5 (1, 2))).heap[w.heap.size]? = some (.cells #[.int .u8 60] 5 (1, 2)) := heap_alloc_new _ _
  refine ⟨hb, lt_of_heap hh, Nat.le_refl _, fun j hj => ?_, fun j x hx => ?_⟩
  · obtain rfl : j = 0 := by omega
    exact ⟨by simp only [World.cell?, hh]; rfl, by simp only [World.frozen?, hh]; rfl⟩
  · cases j with
    | zero => simp at hx; subst hx; simp only [World.cell?, hh]; rfl
    | succ j => simp at hx
end Go.Proofs.YtodjfeheagnnpaaDoor
