/- Rows of texts; texts put together. -/
import Derived.Test.YtodjfeheagnnpaaDoormAwk
import Derived.Test.YtodjfeheagnnpaaDoorhIdx
namespace Go.Proofs.YtodjfeheagnnpaaDoor
set_option linter.unusedVariables false
open Go.RowKit Go.ChangeShapes
/-- Texts in a row. -/
def PS (w : World) (gp : Nat) (ps : List (List Int)) : Prop := ∀ (k : Nat) (t : List Int), ps[k]? = some t → w.cell? ⟨gp, k, none⟩ = some (.string (strOfNums t))
theorem lit_ps (w : World) (l : List (List Int)) : PS (w.alloc (.cells (l.map fun t => Value.string (strOfNums t)).toArray 9)) w.heap.size l := fun k t ht => by
  have hh : (w.alloc (.cells (l.map fun t => Value.string (strOfNums t)).toArray 9)).heap[w.heap.size]? = some (.cells (l.map fun t => Value.string (strOfNums t)).toArray 9) := heap_alloc_new _ _
  simp only [World.cell?, hh]
  simp [ht]
theorem nat_mod (a b : Nat) : Int.tmod (a : Int) (b : Int) = ((a % b : Nat) : Int) := rfl
theorem nums_app (l m : List Int) : strOfNums (l ++ m) = strOfNums l ++ strOfNums m := by
  apply ByteArray.ext
  apply Array.ext'
  rw [ByteArray.data_append, Array.toList_append, strOfNums_data, strOfNums_data, strOfNums_data, List.map_append]
/-- A text as bytes of its own. -/
theorem conv_cl {w : World} {t : List Int} (ht : Byt t) : BC (Lib.bytesWorld w 5 (strOfNums t)) (some ⟨w.heap.size, 0, none⟩) t.length (cL t) :=
  (conv_bc w t ht).congr fun i hi => by simp [cL, List.getElem?_eq_getElem hi]
end Go.Proofs.YtodjfeheagnnpaaDoor
