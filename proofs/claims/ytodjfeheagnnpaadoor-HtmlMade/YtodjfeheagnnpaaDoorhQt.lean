/- html: a quoted value; no program in this text. -/
import Derived.Test.YtodjfeheagnnpaaDoorhRawP
namespace Go.Proofs.YtodjfeheagnnpaaDoor
set_option linter.unusedVariables false
open Go.RowKit Go.ChangeShapes
theorem atE_q {c : Nat → Int} {n k A2 A3 A4 : Nat} (h2 : a2 c n k = A2) (h3 : a3 c n k = A3) (h61 : c A2 = 61) (hq : quB (c A3) = true) (h4 : a4 c n A3 = A4) : atE c n k = if A4 < n then A4 + 1 else n := by
  unfold atE vlE
  rw [h2, if_pos h61, h3, if_pos hq, h4]
theorem prL_q {c : Nat → Int} {n k A1 A2 A3 A4 : Nat} (h1 : a1 c n k = A1) (h2 : a2 c n k = A2) (h3 : a3 c n k = A3) (h61 : c A2 = 61) (hq : quB (c A3) = true) (h4 : a4 c n A3 = A4) (hn : A4 < n) :
    prL (atP c n k) = if (decide (A3 + 1 < A4) && altB (nm c k A1)) = true then [(A3 + 1, A4 - (A3 + 1))] else [] := by
  unfold atP vlP
  rw [h2, if_pos h61, h3, if_pos hq, h4, if_pos hn, h1]
  by_cases e3 : altB (nm c k A1) = true
  · rw [if_pos e3, e3]
    unfold prL
    by_cases e4 : A3 + 1 < A4
    · rw [if_pos (show 0 < (A3 + 1, A4 - (A3 + 1)).2 by dsimp only; omega), if_pos (by simpa using e4)]
    · rw [if_neg (show ¬ 0 < (A3 + 1, A4 - (A3 + 1)).2 by dsimp only; omega), if_neg (by simp; omega)]
  · rw [if_neg e3, if_neg (by simp [e3])]
    rfl
end Go.Proofs.YtodjfeheagnnpaaDoor
