/- Letters and their cases: one rune. -/
import Derived.Test.YtbhjkkbempnjeaaDooruSml
import Derived.WalkKit
import Derived.Below
import Derived.WalkSmall
import Derived.Deep.QuietTactic
import Derived.BigQuiet
namespace Go.Proofs.YtbhjkkbempnjeaaDoor
set_option linter.unusedVariables false
open Go.RowKit Go.ChangeShapes
theorem up_any (r : Int) (h : Fit r) (w : World) : Calls Tryd.prog 57 #[.int .i32 r] w fun e w' => e = .returned (.int .i32 (up r)) ∧ w' = w := by
  have c := small_any r h w
  cases hb : sB r <;> rw [hb] at c
  · rw [show up r = r by unfold up; rw [hb]; rfl]
    clear h hb
    go_enter Tryd.func57, Tryd.ntmps57
    go_wp2_with fail
    refine c.mono ?_
    rintro e w' ⟨rfl, rfl⟩
    go_wp2
    go_ret
    exact ⟨rfl, rfl⟩
  · rw [show up r = r - 32 by unfold up; rw [hb]; rfl]
    have hi := hb
    unfold sB at hi
    rw [gB_iff] at hi
    have hw : IntKind.i32.wrap (r - 32) = r - 32 := by simp [IntKind.wrap, IntKind.bits, IntKind.signed]; omega
    clear h hb hi
    go_enter Tryd.func57, Tryd.ntmps57
    go_wp2_with fail
    refine c.mono ?_
    rintro e w' ⟨rfl, rfl⟩
    go_wp2
    go_ret
    exact ⟨rfl, rfl⟩
theorem down_any (r : Int) (h : Fit r) (w : World) : Calls Tryd.prog 58 #[.int .i32 r] w fun e w' => e = .returned (.int .i32 (dn r)) ∧ w' = w := by
  have c := great_any r w
  cases hb : gB r <;> rw [hb] at c
  · rw [show dn r = r by unfold dn; rw [hb]; rfl]
    clear h hb
    go_enter Tryd.func58, Tryd.ntmps58
    go_wp2_with fail
    refine c.mono ?_
    rintro e w' ⟨rfl, rfl⟩
    go_wp2
    go_ret
    exact ⟨rfl, rfl⟩
  · rw [show dn r = r + 32 by unfold dn; rw [hb]; rfl]
    have hi := hb
    
    rw [gB_iff] at hi
    have hw : IntKind.i32.wrap (r + 32) = r + 32 := by simp [IntKind.wrap, IntKind.bits, IntKind.signed]; omega
    clear h hb hi
    go_enter Tryd.func58, Tryd.ntmps58
    go_wp2_with fail
    refine c.mono ?_
    rintro e w' ⟨rfl, rfl⟩
    go_wp2
    go_ret
    exact ⟨rfl, rfl⟩
theorem clos_any (r : Int) (w : World) : Calls Tryd.prog 56 #[.int .i32 r] w fun e w' => e = .returned (.bool (decide (r < 0))) ∧ w' = w := by
  go_enter Tryd.func56, Tryd.ntmps56
  go_wp2
  all_goals (go_ret; exact ⟨by simp_all, rfl⟩)
end Go.Proofs.YtbhjkkbempnjeaaDoor
/- Letters; a sign in a case. -/
namespace Go.Proofs.YtbhjkkbempnjeaaDoor
set_option linter.unusedVariables false
open Go.RowKit Go.ChangeShapes
/-- A sign in a case. -/
def wrt (c r : Int) (first : Bool) : Int := bif c == 3 then up r else bif c == 2 then (bif first then up r else dn r) else bif c == 1 then dn r else r
theorem fwr_upper (r : Int) (h : Fit r) (w : World) (b : Bool) : Calls Tryd.prog 41 #[.int .u8 3, .int .i32 r, .bool b] w fun e w' => e = .returned (.int .i32 (up r)) ∧ w' = w := by
  have c := up_any r h w
  generalize up r = y at c ⊢
  clear h
  go_enter Tryd.func41, Tryd.ntmps41
  go_wp2_with fail
  refine c.mono ?_
  rintro e w' ⟨rfl, rfl⟩
  go_wp2
  go_ret
  exact ⟨rfl, rfl⟩
theorem fwr_first (r : Int) (h : Fit r) (w : World) : Calls Tryd.prog 41 #[.int .u8 2, .int .i32 r, .bool true] w fun e w' => e = .returned (.int .i32 (up r)) ∧ w' = w := by
  have c := up_any r h w
  generalize up r = y at c ⊢
  clear h
  go_enter Tryd.func41, Tryd.ntmps41
  go_wp2_with fail
  refine c.mono ?_
  rintro e w' ⟨rfl, rfl⟩
  go_wp2
  go_ret
  exact ⟨rfl, rfl⟩
theorem fwr_rest (r : Int) (h : Fit r) (w : World) : Calls Tryd.prog 41 #[.int .u8 2, .int .i32 r, .bool false] w fun e w' => e = .returned (.int .i32 (dn r)) ∧ w' = w := by
  have c := down_any r h w
  generalize dn r = y at c ⊢
  clear h
  go_enter Tryd.func41, Tryd.ntmps41
  go_wp2_with fail
  refine c.mono ?_
  rintro e w' ⟨rfl, rfl⟩
  go_wp2
  go_ret
  exact ⟨rfl, rfl⟩
theorem fwr_lower (r : Int) (h : Fit r) (w : World) (b : Bool) : Calls Tryd.prog 41 #[.int .u8 1, .int .i32 r, .bool b] w fun e w' => e = .returned (.int .i32 (dn r)) ∧ w' = w := by
  have c := down_any r h w
  generalize dn r = y at c ⊢
  clear h
  go_enter Tryd.func41, Tryd.ntmps41
  go_wp2_with fail
  refine c.mono ?_
  rintro e w' ⟨rfl, rfl⟩
  go_wp2
  go_ret
  exact ⟨rfl, rfl⟩
theorem fwr_mixed (c : Int) (h3 : (c == 3) = false) (h2 : (c == 2) = false) (h1 : (c == 1) = false) (r : Int) (w : World) (b : Bool) : Calls Tryd.prog 41 #[.int .u8 c, .int .i32 r, .bool b] w fun e w' => e = .returned (.int .i32 r) ∧ w' = w := by
  go_enter Tryd.func41, Tryd.ntmps41
  go_wp2
  go_ret
  exact ⟨rfl, rfl⟩
theorem fwr_any (c r : Int) (b : Bool) (h : Fit r) (w : World) : Calls Tryd.prog 41 #[.int .u8 c, .int .i32 r, .bool b] w fun e w' => e = .returned (.int .i32 (wrt c r b)) ∧ w' = w := by
  unfold wrt
  cases h3 : (c == 3)
  · cases h2 : (c == 2)
    · cases h1 : (c == 1)
      · exact fwr_mixed c h3 h2 h1 r w b
      · obtain rfl : c = 1 := by simpa using h1
        exact fwr_lower r h w b
    · obtain rfl : c = 2 := by simpa using h2
      cases b
      · exact fwr_rest r h w
      · exact fwr_first r h w
  · obtain rfl : c = 3 := by simpa using h3
    exact fwr_upper r h w b
end Go.Proofs.YtbhjkkbempnjeaaDoor
