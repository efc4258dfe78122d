/- Letters and their cases: one rune. -/
import Derived.Test.YthdjadkdjljciaaGreatDoorErr
import Derived.WalkKit
import Derived.Below
import Derived.WalkSmall
import Derived.Deep.QuietTactic
import Derived.BigQuiet
namespace Go.Proofs.YthdjadkdjljciaaGreatDoor
set_option linter.unusedVariables false
open Go.RowKit Go.ChangeShapes
/-- Great letters, small ones, letters. -/
def gB (r : Int) : Bool := (decide (65 ≤ r) && decide (r ≤ 90)) || (decide (192 ≤ r) && decide (r ≤ 222) && !decide (r = 215))
def sB (r : Int) : Bool := gB (r - 32)
def lB (r : Int) : Bool := gB r || sB r || decide (r = 223) || (decide (255 ≤ r) && decide (r ≤ 591)) || (decide (880 ≤ r) && decide (r ≤ 1327))
def dn (r : Int) : Int := bif gB r then r + 32 else r
def up (r : Int) : Int := bif sB r then r - 32 else r
/-- A rune that fits. -/
def Fit (r : Int) : Prop := -2147483648 ≤ r ∧ r ≤ 2147483647
theorem gB_iff (r : Int) : gB r = true ↔ (65 ≤ r ∧ r ≤ 90) ∨ (192 ≤ r ∧ r ≤ 222 ∧ r ≠ 215) := by
  unfold gB; simp [and_assoc]
theorem gB_no (r : Int) : gB r = false ↔ ¬ ((65 ≤ r ∧ r ≤ 90) ∨ (192 ≤ r ∧ r ≤ 222 ∧ r ≠ 215)) := by
  rw [← gB_iff]; simp
theorem wrap_sub (r : Int) (h : Fit r) : gB (IntKind.i32.wrap (r - 32)) = sB r := by
  unfold Fit at h
  by_cases h1 : -2147483648 ≤ r - 32
  · rw [show IntKind.i32.wrap (r - 32) = r - 32 by simp [IntKind.wrap, IntKind.bits, IntKind.signed]; omega]; rfl
  · have e : sB r = false := by unfold sB; rw [gB_no]; omega
    rw [e, gB_no]
    have : IntKind.i32.wrap (r - 32) = r - 32 + 4294967296 := by simp [IntKind.wrap, IntKind.bits, IntKind.signed]; omega
    rw [this]; omega
set_option maxHeartbeats 1000000 in
theorem great_any (r : Int) (w : World) : Calls Tryz.prog 51 #[.int .i32 r] w fun e w' => e = .returned (.bool (gB r)) ∧ w' = w := by
  rcases (show (r < 65) ∨ (65 ≤ r ∧ r ≤ 90) ∨ (90 < r ∧ r < 192) ∨ (192 ≤ r ∧ r ≤ 222 ∧ r ≠ 215) ∨ (r = 215) ∨ (222 < r) by omega) with h | h | h | h | h | h
  · rw [show gB r = false from (gB_no r).2 (by omega)]
    have a0 : ¬ 65 ≤ r := by omega
    have a1 : ¬ 192 ≤ r := by omega
    clear h
    go_enter Tryz.func51, Tryz.ntmps51
    go_wp2
    go_ret
    exact ⟨rfl, rfl⟩
  · rw [show gB r = true from (gB_iff r).2 (by omega)]
    have a0 : 65 ≤ r := by omega
    have a1 : r ≤ 90 := by omega
    clear h
    go_enter Tryz.func51, Tryz.ntmps51
    go_wp2
    go_ret
    exact ⟨rfl, rfl⟩
  · rw [show gB r = false from (gB_no r).2 (by omega)]
    have a0 : 65 ≤ r := by omega
    have a1 : ¬ r ≤ 90 := by omega
    have a2 : ¬ 192 ≤ r := by omega
    clear h
    go_enter Tryz.func51, Tryz.ntmps51
    go_wp2
    go_ret
    exact ⟨rfl, rfl⟩
  · rw [show gB r = true from (gB_iff r).2 (by omega)]
    have a0 : 65 ≤ r := by omega
    have a1 : ¬ r ≤ 90 := by omega
    have a2 : 192 ≤ r := by omega
    have a3 : r ≤ 222 := by omega
    have a4 : (r != 215) = true := by simp; omega
    clear h
    go_enter Tryz.func51, Tryz.ntmps51
    go_wp2
    go_ret
    exact ⟨rfl, rfl⟩
  · subst h
    show Calls Tryz.prog 51 _ _ fun e w' => e = .returned (.bool false) ∧ w' = w
    go_enter Tryz.func51, Tryz.ntmps51
    go_wp2
    go_ret
    exact ⟨rfl, rfl⟩
  · rw [show gB r = false from (gB_no r).2 (by omega)]
    have a0 : 65 ≤ r := by omega
    have a1 : ¬ r ≤ 90 := by omega
    have a2 : 192 ≤ r := by omega
    have a3 : ¬ r ≤ 222 := by omega
    clear h
    go_enter Tryz.func51, Tryz.ntmps51
    go_wp2
    go_ret
    exact ⟨rfl, rfl⟩
set_option maxHeartbeats 1000000 in
theorem rgreat_any (r : Int) (w : World) : Calls Tryz.prog 54 #[.int .i32 r] w fun e w' => e = .returned (.bool (gB r)) ∧ w' = w := by
  rcases (show (r < 65) ∨ (65 ≤ r ∧ r ≤ 90) ∨ (90 < r ∧ r < 192) ∨ (192 ≤ r ∧ r ≤ 222 ∧ r ≠ 215) ∨ (r = 215) ∨ (222 < r) by omega) with h | h | h | h | h | h
  · rw [show gB r = false from (gB_no r).2 (by omega)]
    have a0 : ¬ 65 ≤ r := by omega
    have a1 : ¬ 192 ≤ r := by omega
    clear h
    go_enter Tryz.func54, Tryz.ntmps54
    go_wp2
    go_ret
    exact ⟨rfl, rfl⟩
  · rw [show gB r = true from (gB_iff r).2 (by omega)]
    have a0 : 65 ≤ r := by omega
    have a1 : r ≤ 90 := by omega
    clear h
    go_enter Tryz.func54, Tryz.ntmps54
    go_wp2
    go_ret
    exact ⟨rfl, rfl⟩
  · rw [show gB r = false from (gB_no r).2 (by omega)]
    have a0 : 65 ≤ r := by omega
    have a1 : ¬ r ≤ 90 := by omega
    have a2 : ¬ 192 ≤ r := by omega
    clear h
    go_enter Tryz.func54, Tryz.ntmps54
    go_wp2
    go_ret
    exact ⟨rfl, rfl⟩
  · rw [show gB r = true from (gB_iff r).2 (by omega)]
    have a0 : 65 ≤ r := by omega
    have a1 : ¬ r ≤ 90 := by omega
    have a2 : 192 ≤ r := by omega
    have a3 : r ≤ 222 := by omega
    have a4 : (r != 215) = true := by simp; omega
    clear h
    go_enter Tryz.func54, Tryz.ntmps54
    go_wp2
    go_ret
    exact ⟨rfl, rfl⟩
  · subst h
    show Calls Tryz.prog 54 _ _ fun e w' => e = .returned (.bool false) ∧ w' = w
    go_enter Tryz.func54, Tryz.ntmps54
    go_wp2
    go_ret
    exact ⟨rfl, rfl⟩
  · rw [show gB r = false from (gB_no r).2 (by omega)]
    have a0 : 65 ≤ r := by omega
    have a1 : ¬ r ≤ 90 := by omega
    have a2 : 192 ≤ r := by omega
    have a3 : ¬ r ≤ 222 := by omega
    clear h
    go_enter Tryz.func54, Tryz.ntmps54
    go_wp2
    go_ret
    exact ⟨rfl, rfl⟩
theorem small_any (r : Int) (h : Fit r) (w : World) : Calls Tryz.prog 52 #[.int .i32 r] w fun e w' => e = .returned (.bool (sB r)) ∧ w' = w := by
  have c := great_any (IntKind.i32.wrap (r - 32)) w
  rw [wrap_sub r h] at c
  generalize sB r = x at c ⊢
  obtain ⟨y, hy⟩ : ∃ y, IntKind.i32.wrap (r - 32) = y := ⟨_, rfl⟩
  rw [hy] at c
  clear h
  go_enter Tryz.func52, Tryz.ntmps52
  go_wp2_with fail
  refine c.mono ?_
  rintro e w' ⟨rfl, rfl⟩
  go_wp2
  go_ret
  exact ⟨rfl, rfl⟩
theorem rsmall_any (r : Int) (h : Fit r) (w : World) : Calls Tryz.prog 55 #[.int .i32 r] w fun e w' => e = .returned (.bool (sB r)) ∧ w' = w := by
  have c := rgreat_any (IntKind.i32.wrap (r - 32)) w
  rw [wrap_sub r h] at c
  generalize sB r = x at c ⊢
  obtain ⟨y, hy⟩ : ∃ y, IntKind.i32.wrap (r - 32) = y := ⟨_, rfl⟩
  rw [hy] at c
  clear h
  go_enter Tryz.func55, Tryz.ntmps55
  go_wp2_with fail
  refine c.mono ?_
  rintro e w' ⟨rfl, rfl⟩
  go_wp2
  go_ret
  exact ⟨rfl, rfl⟩
theorem up_any (r : Int) (h : Fit r) (w : World) : Calls Tryz.prog 117 #[.int .i32 r] w fun e w' => e = .returned (.int .i32 (up r)) ∧ w' = w := by
  have c := small_any r h w
  cases hb : sB r <;> rw [hb] at c
  · rw [show up r = r by unfold up; rw [hb]; rfl]
    clear h hb
    go_enter Tryz.func117, Tryz.ntmps117
    go_wp2_with fail
    refine c.mono ?_
    rintro e w' ⟨rfl, rfl⟩
    go_wp2
    go_ret
    exact ⟨rfl, rfl⟩
  · rw [show up r = r - 32 by unfold up; rw [hb]; rfl]
    have hi := hb
    unfold sB at hi
    rw [gB_iff] at hi
    have hw : IntKind.i32.wrap (r - 32) = r - 32 := by simp [IntKind.wrap, IntKind.bits, IntKind.signed]; omega
    clear h hb hi
    go_enter Tryz.func117, Tryz.ntmps117
    go_wp2_with fail
    refine c.mono ?_
    rintro e w' ⟨rfl, rfl⟩
    go_wp2
    go_ret
    exact ⟨rfl, rfl⟩
theorem down_any (r : Int) (h : Fit r) (w : World) : Calls Tryz.prog 118 #[.int .i32 r] w fun e w' => e = .returned (.int .i32 (dn r)) ∧ w' = w := by
  have c := great_any r w
  cases hb : gB r <;> rw [hb] at c
  · rw [show dn r = r by unfold dn; rw [hb]; rfl]
    clear h hb
    go_enter Tryz.func118, Tryz.ntmps118
    go_wp2_with fail
    refine c.mono ?_
    rintro e w' ⟨rfl, rfl⟩
    go_wp2
    go_ret
    exact ⟨rfl, rfl⟩
  · rw [show dn r = r + 32 by unfold dn; rw [hb]; rfl]
    have hi := hb
    
    rw [gB_iff] at hi
    have hw : IntKind.i32.wrap (r + 32) = r + 32 := by simp [IntKind.wrap, IntKind.bits, IntKind.signed]; omega
    clear h hb hi
    go_enter Tryz.func118, Tryz.ntmps118
    go_wp2_with fail
    refine c.mono ?_
    rintro e w' ⟨rfl, rfl⟩
    go_wp2
    go_ret
    exact ⟨rfl, rfl⟩
theorem clos_any (r : Int) (w : World) : Calls Tryz.prog 116 #[.int .i32 r] w fun e w' => e = .returned (.bool (decide (r < 0))) ∧ w' = w := by
  go_enter Tryz.func116, Tryz.ntmps116
  go_wp2
  all_goals (go_ret; exact ⟨by simp_all, rfl⟩)
end Go.Proofs.YthdjadkdjljciaaGreatDoor
