/- Letters and their cases: one rune. -/
import Derived.Test.YtgijihfijoiafaaGreatDoorQPRangeErr
import Derived.WalkKit
import Derived.Below
import Derived.WalkSmall
import Derived.Deep.QuietTactic
import Derived.BigQuiet
namespace Go.Proofs.YtgijihfijoiafaaGreatDoor
set_option linter.unusedVariables false
open Go.RowKit Go.ChangeShapes
/-- Great letters, small ones, letters. -/
def gB (r : Int) : Bool := (decide (65 ≤ r) && decide (r ≤ 90)) || (decide (192 ≤ r) && decide (r ≤ 222) && !decide (r = 215))
def sB (r : Int) : Bool := gB (r - 32)
def lB (r : Int) : Bool := gB r || sB r || decide (r = 223) || (decide (255 ≤ r) && decide (r ≤ 591)) || (decide (880 ≤ r) && decide (r ≤ 1327))
def dn (r : Int) : Int := bif gB r then r + 32 else r
def up (r : Int) : Int := bif sB r then r - 32 else r
/-- A rune that fits. -/
def Fit (r : Int) : Prop := -2147483648 ≤ r ∧ r ≤ 2147483647
theorem gB_iff (r : Int) : gB r = true ↔ (65 ≤ r ∧ r ≤ 90) ∨ (192 ≤ r ∧ r ≤ 222 ∧ r ≠ 215) := by
  unfold gB; simp [and_assoc]
theorem gB_no (r : Int) : gB r = false ↔ ¬ ((65 ≤ r ∧ r ≤ 90) ∨ (192 ≤ r ∧ r ≤ 222 ∧ r ≠ 215)) := by
  rw [← gB_iff]; simp
theorem wrap_sub (r : Int) (h : Fit r) : gB (IntKind.i32.wrap (r - 32)) = sB r := by
  unfold Fit at h
  by_cases h1 : -2147483648 ≤ r - 32
  · rw [show IntKind.i32.wrap (r - 32) = r - 32 by simp [IntKind.wrap, IntKind.bits, IntKind.signed]; omega]; rfl
  · have e : sB r = false := by unfold sB; rw [gB_no]; omega
    rw [e, gB_no]
    have : IntKind.i32.wrap (r - 32) = r - 32 + 4294967296 := by simp [IntKind.wrap, IntKind.bits, IntKind.signed]; omega
    rw [this]; omega
set_option maxHeartbeats 1000000 in
theorem great_any (r : Int) (w : World) : Calls Tryz.prog 51 #[.int .i32 r] w fun e w' => e = .returned (.bool (gB r)) ∧ w' = w := by
  rcases (show (r < 65) ∨ (65 ≤ r ∧ r ≤ 90) ∨ (90 < r ∧ r < 192) ∨ (192 ≤ r ∧ r ≤ 222 ∧ r ≠ 215) ∨ (r = 215) ∨ (222 < r) by omega) with h | h | h | h | h | h
  · rw [show gB r = false from (gB_no r).2 (by omega)]
    have a0 : ¬ 65 ≤ r := by omega
    have a1 : ¬ 192 ≤ r := by omega
    clear h
    go_enter Tryz.func51, Tryz.ntmps51
    go_wp2
    go_ret
    exact ⟨rfl, rfl⟩
  · rw [show gB r = true from (gB_iff r).2 (by omega)]
    have a0 : 65 ≤ r := by omega
    have a1 : r ≤ 90 := by omega
    clear h
    go_enter Tryz.func51, Tryz.ntmps51
    go_wp2
    go_ret
    exact ⟨rfl, rfl⟩
  · rw [show gB r = false from (gB_no r).2 (by omega)]
    have a0 : 65 ≤ r := by omega
    have a1 : ¬ r ≤ 90 := by omega
    have a2 : ¬ 192 ≤ r := by omega
    clear h
    go_enter Tryz.func51, Tryz.ntmps51
    go_wp2
    go_ret
    exact ⟨rfl, rfl⟩
  · rw [show gB r = true from (gB_iff r).2 (by omega)]
    have a0 : 65 ≤ r := by omega
    have a1 : ¬ r ≤ 90 := by omega
    have a2 : 192 ≤ r := by omega
    have a3 : r ≤ 222 := by omega
    have a4 : (r != 215) = true := by simp; omega
    clear h
    go_enter Tryz.func51, Tryz.ntmps51
    go_wp2
    go_ret
    exact ⟨rfl, rfl⟩
  · subst h
    show Calls Tryz.prog 51 _ _ fun e w' => e = .returned (.bool false) ∧ w' = w
    go_enter Tryz.func51, Tryz.ntmps51
    go_wp2
    go_ret
    exact ⟨rfl, rfl⟩
  · rw [show gB r = false from (gB_no r).2 (by omega)]
    have a0 : 65 ≤ r := by omega
    have a1 : ¬ r ≤ 90 := by omega
    have a2 : 192 ≤ r := by omega
    have a3 : ¬ r ≤ 222 := by omega
    clear h
    go_enter Tryz.func51, Tryz.ntmps51
    go_wp2
    go_ret
    exact ⟨rfl, rfl⟩
set_option maxHeartbeats 1000000 in
theorem rgreat_any (r : Int) (w : World) : Calls Tryz.prog 54 #[.int .i32 r] w fun e w' => e = .returned (.bool (gB r)) ∧ w' = w := by
  rcases (show (r < 65) ∨ (65 ≤ r ∧ r ≤ 90) ∨ (90 < r ∧ r < 192) ∨ (192 ≤ r ∧ r ≤ 222 ∧ r ≠ 215) ∨ (r = 215) ∨ (222 < r) by omega) with h | h | h | h | h | h
  · rw [show gB r = false from (gB_no r).2 (by omega)]
    have a0 : ¬ 65 ≤ r := by omega
    have a1 : ¬ 192 ≤ r := by omega
    clear h
    go_enter Tryz.func54, Tryz.ntmps54
    go_wp2
    go_ret
    exact ⟨rfl, rfl⟩
  · rw [show gB r = true from (gB_iff r).2 (by omega)]
    have a0 : 65 ≤ r := by omega
    have a1 : r ≤ 90 := by omega
    clear h
    go_enter Tryz.func54, Tryz.ntmps54
    go_wp2
    go_ret
    exact ⟨rfl, rfl⟩
  · rw [show gB r = false from (gB_no r).2 (by omega)]
    have a0 : 65 ≤ r := by omega
    have a1 : ¬ r ≤ 90 := by omega
    have a2 : ¬ 192 ≤ r := by omega
    clear h
    go_enter Tryz.func54, Tryz.ntmps54
    go_wp2
    go_ret
    exact ⟨rfl, rfl⟩
  · rw [show gB r = true from (gB_iff r).2 (by omega)]
    have a0 : 65 ≤ r := by omega
    have a1 : ¬ r ≤ 90 := by omega
    have a2 : 192 ≤ r := by omega
    have a3 : r ≤ 222 := by omega
    have a4 : (r != 215) = true := by simp; omega
    clear h
    go_enter Tryz.func54, Tryz.ntmps54
    go_wp2
    go_ret
    exact ⟨rfl, rfl⟩
  · subst h
    show Calls Tryz.prog 54 _ _ fun e w' => e = .returned (.bool false) ∧ w' = w
    go_enter Tryz.func54, Tryz.ntmps54
    go_wp2
    go_ret
    exact ⟨rfl, rfl⟩
  · rw [show gB r = false from (gB_no r).2 (by omega)]
    have a0 : 65 ≤ r := by omega
    have a1 : ¬ r ≤ 90 := by omega
    have a2 : 192 ≤ r := by omega
    have a3 : ¬ r ≤ 222 := by omega
    clear h
    go_enter Tryz.func54, Tryz.ntmps54
    go_wp2
    go_ret
    exact ⟨rfl, rfl⟩
theorem small_any (r : Int) (h : Fit r) (w : World) : Calls Tryz.prog 52 #[.int .i32 r] w fun e w' => e = .returned (.bool (sB r)) ∧ w' = w := by
  have c := great_any (IntKind.i32.wrap (r - 32)) w
  rw [wrap_sub r h] at c
  generalize sB r = x at c ⊢
  obtain ⟨y, hy⟩ : ∃ y, IntKind.i32.wrap (r - 32) = y := ⟨_, rfl⟩
  rw [hy] at c
  clear h
  go_enter Tryz.func52, Tryz.ntmps52
  go_wp2_with fail
  refine c.mono ?_
  rintro e w' ⟨rfl, rfl⟩
  go_wp2
  go_ret
  exact ⟨rfl, rfl⟩
theorem rsmall_any (r : Int) (h : Fit r) (w : World) : Calls Tryz.prog 55 #[.int .i32 r] w fun e w' => e = .returned (.bool (sB r)) ∧ w' = w := by
  have c := rgreat_any (IntKind.i32.wrap (r - 32)) w
  rw [wrap_sub r h] at c
  generalize sB r = x at c ⊢
  obtain ⟨y, hy⟩ : ∃ y, IntKind.i32.wrap (r - 32) = y := ⟨_, rfl⟩
  rw [hy] at c
  clear h
  go_enter Tryz.func55, Tryz.ntmps55
  go_wp2_with fail
  refine c.mono ?_
  rintro e w' ⟨rfl, rfl⟩
  go_wp2
  go_ret
  exact ⟨rfl, rfl⟩
theorem up_any (r : Int) (h : Fit r) (w : World) : Calls Tryz.prog 117 #[.int .i32 r] w fun e w' => e = .returned (.int .i32 (up r)) ∧ w' = w := by
  have c := small_any r h w
  cases hb : sB r <;> rw [hb] at c
  · rw [show up r = r by unfold up; rw [hb]; rfl]
    clear h hb
    go_enter Tryz.func117, Tryz.ntmps117
    go_wp2_with fail
    refine c.mono ?_
    rintro e w' ⟨rfl, rfl⟩
    go_wp2
    go_ret
    exact ⟨rfl, rfl⟩
  · rw [show up r = r - 32 by unfold up; rw [hb]; rfl]
    have hi := hb
    unfold sB at hi
    rw [gB_iff] at hi
    have hw : IntKind.i32.wrap (r - 32) = r - 32 := by simp [IntKind.wrap, IntKind.bits, IntKind.signed]; omega
    clear h hb hi
    go_enter Tryz.func117, Tryz.ntmps117
    go_wp2_with fail
    refine c.mono ?_
    rintro e w' ⟨rfl, rfl⟩
    go_wp2
    go_ret
    exact ⟨rfl, rfl⟩
theorem down_any (r : Int) (h : Fit r) (w : World) : Calls Tryz.prog 118 #[.int .i32 r] w fun e w' => e = .returned (.int .i32 (dn r)) ∧ w' = w := by
  have c := great_any r w
  cases hb : gB r <;> rw [hb] at c
  · rw [show dn r = r by unfold dn; rw [hb]; rfl]
    clear h hb
    go_enter Tryz.func118, Tryz.ntmps118
    go_wp2_with fail
    refine c.mono ?_
    rintro e w' ⟨rfl, rfl⟩
    go_wp2
    go_ret
    exact ⟨rfl, rfl⟩
  · rw [show dn r = r + 32 by unfold dn; rw [hb]; rfl]
    have hi := hb
    
    rw [gB_iff] at hi
    have hw : IntKind.i32.wrap (r + 32) = r + 32 := by simp [IntKind.wrap, IntKind.bits, IntKind.signed]; omega
    clear h hb hi
    go_enter Tryz.func118, Tryz.ntmps118
    go_wp2_with fail
    refine c.mono ?_
    rintro e w' ⟨rfl, rfl⟩
    go_wp2
    go_ret
    exact ⟨rfl, rfl⟩
theorem clos_any (r : Int) (w : World) : Calls Tryz.prog 116 #[.int .i32 r] w fun e w' => e = .returned (.bool (decide (r < 0))) ∧ w' = w := by
  go_enter Tryz.func116, Tryz.ntmps116
  go_wp2
  all_goals (go_ret; exact ⟨by simp_all, rfl⟩)
end Go.Proofs.YtgijihfijoiafaaGreatDoor
/- Letters; a sign in a case. -/
namespace Go.Proofs.YtgijihfijoiafaaGreatDoor
set_option linter.unusedVariables false
open Go.RowKit Go.ChangeShapes
/-- A sign in a case. -/
def wrt (c r : Int) (first : Bool) : Int := bif c == 3 then up r else bif c == 2 then (bif first then up r else dn r) else bif c == 1 then dn r else r
theorem written_upper (r : Int) (h : Fit r) (w : World) (b : Bool) : Calls Tryz.prog 72 #[.int .u8 3, .int .i32 r, .bool b] w fun e w' => e = .returned (.int .i32 (up r)) ∧ w' = w := by
  have c := up_any r h w
  generalize up r = y at c ⊢
  clear h
  go_enter Tryz.func72, Tryz.ntmps72
  go_wp2_with fail
  refine c.mono ?_
  rintro e w' ⟨rfl, rfl⟩
  go_wp2
  go_ret
  exact ⟨rfl, rfl⟩
theorem written_first (r : Int) (h : Fit r) (w : World) : Calls Tryz.prog 72 #[.int .u8 2, .int .i32 r, .bool true] w fun e w' => e = .returned (.int .i32 (up r)) ∧ w' = w := by
  have c := up_any r h w
  generalize up r = y at c ⊢
  clear h
  go_enter Tryz.func72, Tryz.ntmps72
  go_wp2_with fail
  refine c.mono ?_
  rintro e w' ⟨rfl, rfl⟩
  go_wp2
  go_ret
  exact ⟨rfl, rfl⟩
theorem written_rest (r : Int) (h : Fit r) (w : World) : Calls Tryz.prog 72 #[.int .u8 2, .int .i32 r, .bool false] w fun e w' => e = .returned (.int .i32 (dn r)) ∧ w' = w := by
  have c := down_any r h w
  generalize dn r = y at c ⊢
  clear h
  go_enter Tryz.func72, Tryz.ntmps72
  go_wp2_with fail
  refine c.mono ?_
  rintro e w' ⟨rfl, rfl⟩
  go_wp2
  go_ret
  exact ⟨rfl, rfl⟩
theorem written_lower (r : Int) (h : Fit r) (w : World) (b : Bool) : Calls Tryz.prog 72 #[.int .u8 1, .int .i32 r, .bool b] w fun e w' => e = .returned (.int .i32 (dn r)) ∧ w' = w := by
  have c := down_any r h w
  generalize dn r = y at c ⊢
  clear h
  go_enter Tryz.func72, Tryz.ntmps72
  go_wp2_with fail
  refine c.mono ?_
  rintro e w' ⟨rfl, rfl⟩
  go_wp2
  go_ret
  exact ⟨rfl, rfl⟩
theorem written_mixed (c : Int) (h3 : (c == 3) = false) (h2 : (c == 2) = false) (h1 : (c == 1) = false) (r : Int) (w : World) (b : Bool) : Calls Tryz.prog 72 #[.int .u8 c, .int .i32 r, .bool b] w fun e w' => e = .returned (.int .i32 r) ∧ w' = w := by
  go_enter Tryz.func72, Tryz.ntmps72
  go_wp2
  go_ret
  exact ⟨rfl, rfl⟩
theorem written_any (c r : Int) (b : Bool) (h : Fit r) (w : World) : Calls Tryz.prog 72 #[.int .u8 c, .int .i32 r, .bool b] w fun e w' => e = .returned (.int .i32 (wrt c r b)) ∧ w' = w := by
  unfold wrt
  cases h3 : (c == 3)
  · cases h2 : (c == 2)
    · cases h1 : (c == 1)
      · exact written_mixed c h3 h2 h1 r w b
      · obtain rfl : c = 1 := by simpa using h1
        exact written_lower r h w b
    · obtain rfl : c = 2 := by simpa using h2
      cases b
      · exact written_rest r h w
      · exact written_first r h w
  · obtain rfl : c = 3 := by simpa using h3
    exact written_upper r h w b
set_option maxHeartbeats 1000000 in
theorem letter_great (r : Int) (hg : gB r = true) (w : World) : Calls Tryz.prog 27 #[.int .i32 r] w fun e w' => e = .returned (.bool true) ∧ w' = w := by
  have c := great_any r w
  rw [hg] at c
  clear hg
  go_enter Tryz.func27, Tryz.ntmps27
  go_wp2_with fail
  refine c.mono ?_
  rintro e w' ⟨rfl, rfl⟩
  go_wp2
  go_ret
  exact ⟨rfl, rfl⟩
set_option maxHeartbeats 1000000 in
theorem letter_small (r : Int) (h : Fit r) (hg : gB r = false) (hs : sB r = true) (w : World) : Calls Tryz.prog 27 #[.int .i32 r] w fun e w' => e = .returned (.bool true) ∧ w' = w := by
  have c := great_any r w
  rw [hg] at c
  have c' := small_any r h w
  rw [hs] at c'
  clear hg hs h
  go_enter Tryz.func27, Tryz.ntmps27
  go_wp2_with fail
  refine c.mono ?_
  rintro e w' ⟨rfl, rfl⟩
  go_wp2_with fail
  refine c'.mono ?_
  rintro e w' ⟨rfl, rfl⟩
  go_wp2
  go_ret
  exact ⟨rfl, rfl⟩
set_option maxHeartbeats 1000000 in
theorem letter_df (r : Int) (h : Fit r) (hg : gB r = false) (hs : sB r = false) (hr : r = 223) (w : World) : Calls Tryz.prog 27 #[.int .i32 r] w fun e w' => e = .returned (.bool true) ∧ w' = w := by
  subst hr
  have c := great_any 223 w
  rw [hg] at c
  have c' := small_any 223 h w
  rw [hs] at c'
  clear hg hs h
  go_enter Tryz.func27, Tryz.ntmps27
  go_wp2_with fail
  refine c.mono ?_
  rintro e w' ⟨rfl, rfl⟩
  go_wp2_with fail
  refine c'.mono ?_
  rintro e w' ⟨rfl, rfl⟩
  go_wp2
  go_ret
  exact ⟨by first | rfl | (simp; omega), rfl⟩
set_option maxHeartbeats 1000000 in
theorem letter_a (r : Int) (h : Fit r) (hg : gB r = false) (hs : sB r = false) (hr : r < 255 ∧ r ≠ 223) (w : World) : Calls Tryz.prog 27 #[.int .i32 r] w fun e w' => e = .returned (.bool false) ∧ w' = w := by
  have a0 : (r == 223) = false := by simp; omega
  have a1 : ¬ 255 ≤ r := by omega
  have a2 : ¬ 880 ≤ r := by omega
  have c := great_any r w
  rw [hg] at c
  have c' := small_any r h w
  rw [hs] at c'
  clear hg hs h hr
  go_enter Tryz.func27, Tryz.ntmps27
  go_wp2_with fail
  refine c.mono ?_
  rintro e w' ⟨rfl, rfl⟩
  go_wp2_with fail
  refine c'.mono ?_
  rintro e w' ⟨rfl, rfl⟩
  go_wp2
  go_ret
  exact ⟨by first | rfl | (simp; omega), rfl⟩
set_option maxHeartbeats 1000000 in
theorem letter_b (r : Int) (h : Fit r) (hg : gB r = false) (hs : sB r = false) (hr : 255 ≤ r ∧ r ≤ 591) (w : World) : Calls Tryz.prog 27 #[.int .i32 r] w fun e w' => e = .returned (.bool true) ∧ w' = w := by
  have a0 : (r == 223) = false := by simp; omega
  have a1 : 255 ≤ r := by omega
  have a2 : r ≤ 591 := by omega
  have c := great_any r w
  rw [hg] at c
  have c' := small_any r h w
  rw [hs] at c'
  clear hg hs h hr
  go_enter Tryz.func27, Tryz.ntmps27
  go_wp2_with fail
  refine c.mono ?_
  rintro e w' ⟨rfl, rfl⟩
  go_wp2_with fail
  refine c'.mono ?_
  rintro e w' ⟨rfl, rfl⟩
  go_wp2
  go_ret
  exact ⟨by first | rfl | (simp; omega), rfl⟩
set_option maxHeartbeats 1000000 in
theorem letter_c (r : Int) (h : Fit r) (hg : gB r = false) (hs : sB r = false) (hr : 591 < r ∧ r < 880) (w : World) : Calls Tryz.prog 27 #[.int .i32 r] w fun e w' => e = .returned (.bool false) ∧ w' = w := by
  have a0 : (r == 223) = false := by simp; omega
  have a1 : 255 ≤ r := by omega
  have a2 : ¬ r ≤ 591 := by omega
  have a3 : ¬ 880 ≤ r := by omega
  have c := great_any r w
  rw [hg] at c
  have c' := small_any r h w
  rw [hs] at c'
  clear hg hs h hr
  go_enter Tryz.func27, Tryz.ntmps27
  go_wp2_with fail
  refine c.mono ?_
  rintro e w' ⟨rfl, rfl⟩
  go_wp2_with fail
  refine c'.mono ?_
  rintro e w' ⟨rfl, rfl⟩
  go_wp2
  go_ret
  exact ⟨by first | rfl | (simp; omega), rfl⟩
set_option maxHeartbeats 1000000 in
theorem letter_d (r : Int) (h : Fit r) (hg : gB r = false) (hs : sB r = false) (hr : 880 ≤ r ∧ r ≤ 1327) (w : World) : Calls Tryz.prog 27 #[.int .i32 r] w fun e w' => e = .returned (.bool true) ∧ w' = w := by
  have a0 : (r == 223) = false := by simp; omega
  have a1 : 255 ≤ r := by omega
  have a2 : ¬ r ≤ 591 := by omega
  have a3 : 880 ≤ r := by omega
  have a4 : r ≤ 1327 := by omega
  have c := great_any r w
  rw [hg] at c
  have c' := small_any r h w
  rw [hs] at c'
  clear hg hs h hr
  go_enter Tryz.func27, Tryz.ntmps27
  go_wp2_with fail
  refine c.mono ?_
  rintro e w' ⟨rfl, rfl⟩
  go_wp2_with fail
  refine c'.mono ?_
  rintro e w' ⟨rfl, rfl⟩
  go_wp2
  go_ret
  exact ⟨by first | rfl | (simp; omega), rfl⟩
set_option maxHeartbeats 1000000 in
theorem letter_e (r : Int) (h : Fit r) (hg : gB r = false) (hs : sB r = false) (hr : 1327 < r) (w : World) : Calls Tryz.prog 27 #[.int .i32 r] w fun e w' => e = .returned (.bool false) ∧ w' = w := by
  have a0 : (r == 223) = false := by simp; omega
  have a1 : 255 ≤ r := by omega
  have a2 : ¬ r ≤ 591 := by omega
  have a3 : 880 ≤ r := by omega
  have a4 : ¬ r ≤ 1327 := by omega
  have c := great_any r w
  rw [hg] at c
  have c' := small_any r h w
  rw [hs] at c'
  clear hg hs h hr
  go_enter Tryz.func27, Tryz.ntmps27
  go_wp2_with fail
  refine c.mono ?_
  rintro e w' ⟨rfl, rfl⟩
  go_wp2_with fail
  refine c'.mono ?_
  rintro e w' ⟨rfl, rfl⟩
  go_wp2
  go_ret
  exact ⟨by first | rfl | (simp; omega), rfl⟩
theorem letter_any (r : Int) (h : Fit r) (w : World) : Calls Tryz.prog 27 #[.int .i32 r] w fun e w' => e = .returned (.bool (lB r)) ∧ w' = w := by
  cases hg : gB r
  · cases hs : sB r
    · rcases (show (r = 223) ∨ (r < 255 ∧ r ≠ 223) ∨ (255 ≤ r ∧ r ≤ 591) ∨ (591 < r ∧ r < 880) ∨ (880 ≤ r ∧ r ≤ 1327) ∨ (1327 < r) by omega) with hr | hr | hr | hr | hr | hr
      · rw [show lB r = true by unfold lB; rw [hg, hs]; simp; omega]; exact letter_df r h hg hs hr w
      · rw [show lB r = false by unfold lB; rw [hg, hs]; simp; omega]; exact letter_a r h hg hs hr w
      · rw [show lB r = true by unfold lB; rw [hg, hs]; simp; omega]; exact letter_b r h hg hs hr w
      · rw [show lB r = false by unfold lB; rw [hg, hs]; simp; omega]; exact letter_c r h hg hs hr w
      · rw [show lB r = true by unfold lB; rw [hg, hs]; simp; omega]; exact letter_d r h hg hs hr w
      · rw [show lB r = false by unfold lB; rw [hg, hs]; simp; omega]; exact letter_e r h hg hs hr w
    · rw [show lB r = true by unfold lB; rw [hg, hs]; simp]; exact letter_small r h hg hs w
  · rw [show lB r = true by unfold lB; rw [hg]; simp]; exact letter_great r hg w
set_option maxHeartbeats 1000000 in
theorem rletter_great (r : Int) (hg : gB r = true) (w : World) : Calls Tryz.prog 29 #[.int .i32 r] w fun e w' => e = .returned (.bool true) ∧ w' = w := by
  have c := rgreat_any r w
  rw [hg] at c
  clear hg
  go_enter Tryz.func29, Tryz.ntmps29
  go_wp2_with fail
  refine c.mono ?_
  rintro e w' ⟨rfl, rfl⟩
  go_wp2
  go_ret
  exact ⟨rfl, rfl⟩
set_option maxHeartbeats 1000000 in
theorem rletter_small (r : Int) (h : Fit r) (hg : gB r = false) (hs : sB r = true) (w : World) : Calls Tryz.prog 29 #[.int .i32 r] w fun e w' => e = .returned (.bool true) ∧ w' = w := by
  have c := rgreat_any r w
  rw [hg] at c
  have c' := rsmall_any r h w
  rw [hs] at c'
  clear hg hs h
  go_enter Tryz.func29, Tryz.ntmps29
  go_wp2_with fail
  refine c.mono ?_
  rintro e w' ⟨rfl, rfl⟩
  go_wp2_with fail
  refine c'.mono ?_
  rintro e w' ⟨rfl, rfl⟩
  go_wp2
  go_ret
  exact ⟨rfl, rfl⟩
set_option maxHeartbeats 1000000 in
theorem rletter_df (r : Int) (h : Fit r) (hg : gB r = false) (hs : sB r = false) (hr : r = 223) (w : World) : Calls Tryz.prog 29 #[.int .i32 r] w fun e w' => e = .returned (.bool true) ∧ w' = w := by
  subst hr
  have c := rgreat_any 223 w
  rw [hg] at c
  have c' := rsmall_any 223 h w
  rw [hs] at c'
  clear hg hs h
  go_enter Tryz.func29, Tryz.ntmps29
  go_wp2_with fail
  refine c.mono ?_
  rintro e w' ⟨rfl, rfl⟩
  go_wp2_with fail
  refine c'.mono ?_
  rintro e w' ⟨rfl, rfl⟩
  go_wp2
  go_ret
  exact ⟨by first | rfl | (simp; omega), rfl⟩
set_option maxHeartbeats 1000000 in
theorem rletter_a (r : Int) (h : Fit r) (hg : gB r = false) (hs : sB r = false) (hr : r < 255 ∧ r ≠ 223) (w : World) : Calls Tryz.prog 29 #[.int .i32 r] w fun e w' => e = .returned (.bool false) ∧ w' = w := by
  have a0 : (r == 223) = false := by simp; omega
  have a1 : ¬ 255 ≤ r := by omega
  have a2 : ¬ 880 ≤ r := by omega
  have c := rgreat_any r w
  rw [hg] at c
  have c' := rsmall_any r h w
  rw [hs] at c'
  clear hg hs h hr
  go_enter Tryz.func29, Tryz.ntmps29
  go_wp2_with fail
  refine c.mono ?_
  rintro e w' ⟨rfl, rfl⟩
  go_wp2_with fail
  refine c'.mono ?_
  rintro e w' ⟨rfl, rfl⟩
  go_wp2
  go_ret
  exact ⟨by first | rfl | (simp; omega), rfl⟩
set_option maxHeartbeats 1000000 in
theorem rletter_b (r : Int) (h : Fit r) (hg : gB r = false) (hs : sB r = false) (hr : 255 ≤ r ∧ r ≤ 591) (w : World) : Calls Tryz.prog 29 #[.int .i32 r] w fun e w' => e = .returned (.bool true) ∧ w' = w := by
  have a0 : (r == 223) = false := by simp; omega
  have a1 : 255 ≤ r := by omega
  have a2 : r ≤ 591 := by omega
  have c := rgreat_any r w
  rw [hg] at c
  have c' := rsmall_any r h w
  rw [hs] at c'
  clear hg hs h hr
  go_enter Tryz.func29, Tryz.ntmps29
  go_wp2_with fail
  refine c.mono ?_
  rintro e w' ⟨rfl, rfl⟩
  go_wp2_with fail
  refine c'.mono ?_
  rintro e w' ⟨rfl, rfl⟩
  go_wp2
  go_ret
  exact ⟨by first | rfl | (simp; omega), rfl⟩
set_option maxHeartbeats 1000000 in
theorem rletter_c (r : Int) (h : Fit r) (hg : gB r = false) (hs : sB r = false) (hr : 591 < r ∧ r < 880) (w : World) : Calls Tryz.prog 29 #[.int .i32 r] w fun e w' => e = .returned (.bool false) ∧ w' = w := by
  have a0 : (r == 223) = false := by simp; omega
  have a1 : 255 ≤ r := by omega
  have a2 : ¬ r ≤ 591 := by omega
  have a3 : ¬ 880 ≤ r := by omega
  have c := rgreat_any r w
  rw [hg] at c
  have c' := rsmall_any r h w
  rw [hs] at c'
  clear hg hs h hr
  go_enter Tryz.func29, Tryz.ntmps29
  go_wp2_with fail
  refine c.mono ?_
  rintro e w' ⟨rfl, rfl⟩
  go_wp2_with fail
  refine c'.mono ?_
  rintro e w' ⟨rfl, rfl⟩
  go_wp2
  go_ret
  exact ⟨by first | rfl | (simp; omega), rfl⟩
set_option maxHeartbeats 1000000 in
theorem rletter_d (r : Int) (h : Fit r) (hg : gB r = false) (hs : sB r = false) (hr : 880 ≤ r ∧ r ≤ 1327) (w : World) : Calls Tryz.prog 29 #[.int .i32 r] w fun e w' => e = .returned (.bool true) ∧ w' = w := by
  have a0 : (r == 223) = false := by simp; omega
  have a1 : 255 ≤ r := by omega
  have a2 : ¬ r ≤ 591 := by omega
  have a3 : 880 ≤ r := by omega
  have a4 : r ≤ 1327 := by omega
  have c := rgreat_any r w
  rw [hg] at c
  have c' := rsmall_any r h w
  rw [hs] at c'
  clear hg hs h hr
  go_enter Tryz.func29, Tryz.ntmps29
  go_wp2_with fail
  refine c.mono ?_
  rintro e w' ⟨rfl, rfl⟩
  go_wp2_with fail
  refine c'.mono ?_
  rintro e w' ⟨rfl, rfl⟩
  go_wp2
  go_ret
  exact ⟨by first | rfl | (simp; omega), rfl⟩
set_option maxHeartbeats 1000000 in
theorem rletter_e (r : Int) (h : Fit r) (hg : gB r = false) (hs : sB r = false) (hr : 1327 < r) (w : World) : Calls Tryz.prog 29 #[.int .i32 r] w fun e w' => e = .returned (.bool false) ∧ w' = w := by
  have a0 : (r == 223) = false := by simp; omega
  have a1 : 255 ≤ r := by omega
  have a2 : ¬ r ≤ 591 := by omega
  have a3 : 880 ≤ r := by omega
  have a4 : ¬ r ≤ 1327 := by omega
  have c := rgreat_any r w
  rw [hg] at c
  have c' := rsmall_any r h w
  rw [hs] at c'
  clear hg hs h hr
  go_enter Tryz.func29, Tryz.ntmps29
  go_wp2_with fail
  refine c.mono ?_
  rintro e w' ⟨rfl, rfl⟩
  go_wp2_with fail
  refine c'.mono ?_
  rintro e w' ⟨rfl, rfl⟩
  go_wp2
  go_ret
  exact ⟨by first | rfl | (simp; omega), rfl⟩
theorem rletter_any (r : Int) (h : Fit r) (w : World) : Calls Tryz.prog 29 #[.int .i32 r] w fun e w' => e = .returned (.bool (lB r)) ∧ w' = w := by
  cases hg : gB r
  · cases hs : sB r
    · rcases (show (r = 223) ∨ (r < 255 ∧ r ≠ 223) ∨ (255 ≤ r ∧ r ≤ 591) ∨ (591 < r ∧ r < 880) ∨ (880 ≤ r ∧ r ≤ 1327) ∨ (1327 < r) by omega) with hr | hr | hr | hr | hr | hr
      · rw [show lB r = true by unfold lB; rw [hg, hs]; simp; omega]; exact rletter_df r h hg hs hr w
      · rw [show lB r = false by unfold lB; rw [hg, hs]; simp; omega]; exact rletter_a r h hg hs hr w
      · rw [show lB r = true by unfold lB; rw [hg, hs]; simp; omega]; exact rletter_b r h hg hs hr w
      · rw [show lB r = false by unfold lB; rw [hg, hs]; simp; omega]; exact rletter_c r h hg hs hr w
      · rw [show lB r = true by unfold lB; rw [hg, hs]; simp; omega]; exact rletter_d r h hg hs hr w
      · rw [show lB r = false by unfold lB; rw [hg, hs]; simp; omega]; exact rletter_e r h hg hs hr w
    · rw [show lB r = true by unfold lB; rw [hg, hs]; simp]; exact rletter_small r h hg hs w
  · rw [show lB r = true by unfold lB; rw [hg]; simp]; exact rletter_great r hg w
end Go.Proofs.YtgijihfijoiafaaGreatDoor
