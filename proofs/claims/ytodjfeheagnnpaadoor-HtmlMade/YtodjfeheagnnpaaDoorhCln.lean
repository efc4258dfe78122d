/- Bytes as a text; bytes without one. -/
import Derived.Test.YtodjfeheagnnpaaDoorhApp
import Derived.Test.YtodjfeheagnnpaaDoormStr
namespace Go.Proofs.YtodjfeheagnnpaaDoor
set_option linter.unusedVariables false
open Go.RowKit Go.ChangeShapes
/-- Without a byte. -/
def wo (bad : Int) (l : List Int) : List Int := l.filter fun x => x != bad
theorem wo_mem {bad : Int} {l : List Int} {x : Int} (h : x ∈ wo bad l) : x ∈ l ∧ x ≠ bad := by
  have := List.mem_filter.1 h
  exact ⟨this.1, by simpa using this.2⟩
theorem wo_len (bad : Int) (l : List Int) : (wo bad l).length ≤ l.length := List.length_filter_le _ _
theorem cl_take (c : Nat → Int) (n i : Nat) (h : i < n) : (cl c n).take (i + 1) = (cl c n).take i ++ [c i] := by rw [List.take_add_one, cl_at c n i h]; rfl
theorem wo_snoc_yes {bad x : Int} {l : List Int} (h : x ≠ bad) : wo bad (l ++ [x]) = wo bad l ++ [x] := by
  unfold wo
  rw [List.filter_append]
  simp [h]
theorem wo_snoc_no {bad : Int} {l : List Int} : wo bad (l ++ [bad]) = wo bad l := by
  unfold wo
  rw [List.filter_append]
  simp
theorem cl_byt {c : Nat → Int} {n : Nat} (h : Ch c n) : Byt (cl c n) := fun x hx => by
  obtain ⟨j, hj, rfl⟩ := List.mem_map.1 hx
  exact h.1 j (List.mem_range.1 hj)
theorem wo_byt {bad : Int} {l : List Int} (h : Byt l) : Byt (wo bad l) := fun x hx => h x (wo_mem hx).1
end Go.Proofs.YtodjfeheagnnpaaDoor
