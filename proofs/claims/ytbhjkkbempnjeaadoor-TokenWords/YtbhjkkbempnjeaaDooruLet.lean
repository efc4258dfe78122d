/- Letters. -/
import Derived.Test.YtbhjkkbempnjeaaDoorPkVBase2
namespace Go.Proofs.YtbhjkkbempnjeaaDoor
set_option linter.unusedVariables false
open Go.RowKit Go.ChangeShapes
/-- Great letters, small ones, letters. -/
def gB (r : Int) : Bool := (decide (65 ≤ r) && decide (r ≤ 90)) || (decide (192 ≤ r) && decide (r ≤ 222) && !decide (r = 215))
def sB (r : Int) : Bool := gB (r - 32)
def lB (r : Int) : Bool := gB r || sB r || decide (r = 223) || (decide (255 ≤ r) && decide (r ≤ 591)) || (decide (880 ≤ r) && decide (r ≤ 1327))
def dn (r : Int) : Int := bif gB r then r + 32 else r
def up (r : Int) : Int := bif sB r then r - 32 else r
/-- A rune that fits. -/
def Fit (r : Int) : Prop := -2147483648 ≤ r ∧ r ≤ 2147483647
theorem gB_iff (r : Int) : gB r = true ↔ (65 ≤ r ∧ r ≤ 90) ∨ (192 ≤ r ∧ r ≤ 222 ∧ r ≠ 215) := by
  unfold gB; simp [and_assoc]
theorem gB_no (r : Int) : gB r = false ↔ ¬ ((65 ≤ r ∧ r ≤ 90) ∨ (192 ≤ r ∧ r ≤ 222 ∧ r ≠ 215)) := by
  rw [← gB_iff]; simp
theorem wrap_sub (r : Int) (h : Fit r) : gB (IntKind.i32.wrap (r - 32)) = sB r := by
  unfold Fit at h
  by_cases h1 : -2147483648 ≤ r - 32
  · rw [show IntKind.i32.wrap (r - 32) = r - 32 by simp [IntKind.wrap, IntKind.bits, IntKind.signed]; omega]; rfl
  · have e : sB r = false := by unfold sB; rw [gB_no]; omega
    rw [e, gB_no]
    have : IntKind.i32.wrap (r - 32) = r - 32 + 4294967296 := by simp [IntKind.wrap, IntKind.bits, IntKind.signed]; omega
    rw [this]; omega
end Go.Proofs.YtbhjkkbempnjeaaDoor
