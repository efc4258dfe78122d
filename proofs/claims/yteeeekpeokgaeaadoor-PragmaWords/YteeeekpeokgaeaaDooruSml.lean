/- Letters: one rune. -/
import Derived.Test.YteeeekpeokgaeaaDoorPkVKitB2
import Derived.WalkKit
import Derived.Below
import Derived.WalkSmall
import Derived.Deep.QuietTactic
import Derived.BigQuiet
namespace Go.Proofs.YteeeekpeokgaeaaDoor
set_option linter.unusedVariables false
open Go.RowKit Go.ChangeShapes
set_option maxHeartbeats 1000000 in
theorem great_any (r : Int) (w : World) : Calls Tryd.prog 77 #[.int .i32 r] w fun e w' => e = .returned (.bool (gB r)) ∧ w' = w := by
  rcases (show (r < 65) ∨ (65 ≤ r ∧ r ≤ 90) ∨ (90 < r ∧ r < 192) ∨ (192 ≤ r ∧ r ≤ 222 ∧ r ≠ 215) ∨ (r = 215) ∨ (222 < r) by omega) with h | h | h | h | h | h
  · rw [show gB r = false from (gB_no r).2 (by omega)]
    have a0 : ¬ 65 ≤ r := by omega
    have a1 : ¬ 192 ≤ r := by omega
    clear h
    go_enter Tryd.func77, Tryd.ntmps77
    go_wp2
    go_ret
    exact ⟨rfl, rfl⟩
  · rw [show gB r = true from (gB_iff r).2 (by omega)]
    have a0 : 65 ≤ r := by omega
    have a1 : r ≤ 90 := by omega
    clear h
    go_enter Tryd.func77, Tryd.ntmps77
    go_wp2
    go_ret
    exact ⟨rfl, rfl⟩
  · rw [show gB r = false from (gB_no r).2 (by omega)]
    have a0 : 65 ≤ r := by omega
    have a1 : ¬ r ≤ 90 := by omega
    have a2 : ¬ 192 ≤ r := by omega
    clear h
    go_enter Tryd.func77, Tryd.ntmps77
    go_wp2
    go_ret
    exact ⟨rfl, rfl⟩
  · rw [show gB r = true from (gB_iff r).2 (by omega)]
    have a0 : 65 ≤ r := by omega
    have a1 : ¬ r ≤ 90 := by omega
    have a2 : 192 ≤ r := by omega
    have a3 : r ≤ 222 := by omega
    have a4 : (r != 215) = true := by simp; omega
    clear h
    go_enter Tryd.func77, Tryd.ntmps77
    go_wp2
    go_ret
    exact ⟨rfl, rfl⟩
  · subst h
    show Calls Tryd.prog 77 _ _ fun e w' => e = .returned (.bool false) ∧ w' = w
    go_enter Tryd.func77, Tryd.ntmps77
    go_wp2
    go_ret
    exact ⟨rfl, rfl⟩
  · rw [show gB r = false from (gB_no r).2 (by omega)]
    have a0 : 65 ≤ r := by omega
    have a1 : ¬ r ≤ 90 := by omega
    have a2 : 192 ≤ r := by omega
    have a3 : ¬ r ≤ 222 := by omega
    clear h
    go_enter Tryd.func77, Tryd.ntmps77
    go_wp2
    go_ret
    exact ⟨rfl, rfl⟩
set_option maxHeartbeats 1000000 in
theorem rgreat_any (r : Int) (w : World) : Calls Tryd.prog 39 #[.int .i32 r] w fun e w' => e = .returned (.bool (gB r)) ∧ w' = w := by
  rcases (show (r < 65) ∨ (65 ≤ r ∧ r ≤ 90) ∨ (90 < r ∧ r < 192) ∨ (192 ≤ r ∧ r ≤ 222 ∧ r ≠ 215) ∨ (r = 215) ∨ (222 < r) by omega) with h | h | h | h | h | h
  · rw [show gB r = false from (gB_no r).2 (by omega)]
    have a0 : ¬ 65 ≤ r := by omega
    have a1 : ¬ 192 ≤ r := by omega
    clear h
    go_enter Tryd.func39, Tryd.ntmps39
    go_wp2
    go_ret
    exact ⟨rfl, rfl⟩
  · rw [show gB r = true from (gB_iff r).2 (by omega)]
    have a0 : 65 ≤ r := by omega
    have a1 : r ≤ 90 := by omega
    clear h
    go_enter Tryd.func39, Tryd.ntmps39
    go_wp2
    go_ret
    exact ⟨rfl, rfl⟩
  · rw [show gB r = false from (gB_no r).2 (by omega)]
    have a0 : 65 ≤ r := by omega
    have a1 : ¬ r ≤ 90 := by omega
    have a2 : ¬ 192 ≤ r := by omega
    clear h
    go_enter Tryd.func39, Tryd.ntmps39
    go_wp2
    go_ret
    exact ⟨rfl, rfl⟩
  · rw [show gB r = true from (gB_iff r).2 (by omega)]
    have a0 : 65 ≤ r := by omega
    have a1 : ¬ r ≤ 90 := by omega
    have a2 : 192 ≤ r := by omega
    have a3 : r ≤ 222 := by omega
    have a4 : (r != 215) = true := by simp; omega
    clear h
    go_enter Tryd.func39, Tryd.ntmps39
    go_wp2
    go_ret
    exact ⟨rfl, rfl⟩
  · subst h
    show Calls Tryd.prog 39 _ _ fun e w' => e = .returned (.bool false) ∧ w' = w
    go_enter Tryd.func39, Tryd.ntmps39
    go_wp2
    go_ret
    exact ⟨rfl, rfl⟩
  · rw [show gB r = false from (gB_no r).2 (by omega)]
    have a0 : 65 ≤ r := by omega
    have a1 : ¬ r ≤ 90 := by omega
    have a2 : 192 ≤ r := by omega
    have a3 : ¬ r ≤ 222 := by omega
    clear h
    go_enter Tryd.func39, Tryd.ntmps39
    go_wp2
    go_ret
    exact ⟨rfl, rfl⟩
theorem small_any (r : Int) (h : Fit r) (w : World) : Calls Tryd.prog 78 #[.int .i32 r] w fun e w' => e = .returned (.bool (sB r)) ∧ w' = w := by
  have c := great_any (IntKind.i32.wrap (r - 32)) w
  rw [wrap_sub r h] at c
  generalize sB r = x at c ⊢
  obtain ⟨y, hy⟩ : ∃ y, IntKind.i32.wrap (r - 32) = y := ⟨_, rfl⟩
  rw [hy] at c
  clear h
  go_enter Tryd.func78, Tryd.ntmps78
  go_wp2_with fail
  refine c.mono ?_
  rintro e w' ⟨rfl, rfl⟩
  go_wp2
  go_ret
  exact ⟨rfl, rfl⟩
theorem rsmall_any (r : Int) (h : Fit r) (w : World) : Calls Tryd.prog 48 #[.int .i32 r] w fun e w' => e = .returned (.bool (sB r)) ∧ w' = w := by
  have c := rgreat_any (IntKind.i32.wrap (r - 32)) w
  rw [wrap_sub r h] at c
  generalize sB r = x at c ⊢
  obtain ⟨y, hy⟩ : ∃ y, IntKind.i32.wrap (r - 32) = y := ⟨_, rfl⟩
  rw [hy] at c
  clear h
  go_enter Tryd.func48, Tryd.ntmps48
  go_wp2_with fail
  refine c.mono ?_
  rintro e w' ⟨rfl, rfl⟩
  go_wp2
  go_ret
  exact ⟨rfl, rfl⟩
set_option maxHeartbeats 1000000 in
theorem letter_great (r : Int) (hg : gB r = true) (w : World) : Calls Tryd.prog 59 #[.int .i32 r] w fun e w' => e = .returned (.bool true) ∧ w' = w := by
  have c := great_any r w
  rw [hg] at c
  clear hg
  go_enter Tryd.func59, Tryd.ntmps59
  go_wp2_with fail
  refine c.mono ?_
  rintro e w' ⟨rfl, rfl⟩
  go_wp2
  go_ret
  exact ⟨rfl, rfl⟩
set_option maxHeartbeats 1000000 in
theorem letter_small (r : Int) (h : Fit r) (hg : gB r = false) (hs : sB r = true) (w : World) : Calls Tryd.prog 59 #[.int .i32 r] w fun e w' => e = .returned (.bool true) ∧ w' = w := by
  have c := great_any r w
  rw [hg] at c
  have c' := small_any r h w
  rw [hs] at c'
  clear hg hs h
  go_enter Tryd.func59, Tryd.ntmps59
  go_wp2_with fail
  refine c.mono ?_
  rintro e w' ⟨rfl, rfl⟩
  go_wp2_with fail
  refine c'.mono ?_
  rintro e w' ⟨rfl, rfl⟩
  go_wp2
  go_ret
  exact ⟨rfl, rfl⟩
set_option maxHeartbeats 1000000 in
theorem letter_df (r : Int) (h : Fit r) (hg : gB r = false) (hs : sB r = false) (hr : r = 223) (w : World) : Calls Tryd.prog 59 #[.int .i32 r] w fun e w' => e = .returned (.bool true) ∧ w' = w := by
  subst hr
  have c := great_any 223 w
  rw [hg] at c
  have c' := small_any 223 h w
  rw [hs] at c'
  clear hg hs h
  go_enter Tryd.func59, Tryd.ntmps59
  go_wp2_with fail
  refine c.mono ?_
  rintro e w' ⟨rfl, rfl⟩
  go_wp2_with fail
  refine c'.mono ?_
  rintro e w' ⟨rfl, rfl⟩
  go_wp2
  go_ret
  exact ⟨by first | rfl | (simp; omega), rfl⟩
set_option maxHeartbeats 1000000 in
theorem letter_a (r : Int) (h : Fit r) (hg : gB r = false) (hs : sB r = false) (hr : r < 255 ∧ r ≠ 223) (w : World) : Calls Tryd.prog 59 #[.int .i32 r] w fun e w' => e = .returned (.bool false) ∧ w' = w := by
  have a0 : (r == 223) = false := by simp; omega
  have a1 : ¬ 255 ≤ r := by omega
  have a2 : ¬ 880 ≤ r := by omega
  have c := great_any r w
  rw [hg] at c
  have c' := small_any r h w
  rw [hs] at c'
  clear hg hs h hr
  go_enter Tryd.func59, Tryd.ntmps59
  go_wp2_with fail
  refine c.mono ?_
  rintro e w' ⟨rfl, rfl⟩
  go_wp2_with fail
  refine c'.mono ?_
  rintro e w' ⟨rfl, rfl⟩
  go_wp2
  go_ret
  exact ⟨by first | rfl | (simp; omega), rfl⟩
set_option maxHeartbeats 1000000 in
theorem letter_b (r : Int) (h : Fit r) (hg : gB r = false) (hs : sB r = false) (hr : 255 ≤ r ∧ r ≤ 591) (w : World) : Calls Tryd.prog 59 #[.int .i32 r] w fun e w' => e = .returned (.bool true) ∧ w' = w := by
  have a0 : (r == 223) = false := by simp; omega
  have a1 : 255 ≤ r := by omega
  have a2 : r ≤ 591 := by omega
  have c := great_any r w
  rw [hg] at c
  have c' := small_any r h w
  rw [hs] at c'
  clear hg hs h hr
  go_enter Tryd.func59, Tryd.ntmps59
  go_wp2_with fail
  refine c.mono ?_
  rintro e w' ⟨rfl, rfl⟩
  go_wp2_with fail
  refine c'.mono ?_
  rintro e w' ⟨rfl, rfl⟩
  go_wp2
  go_ret
  exact ⟨by first | rfl | (simp; omega), rfl⟩
set_option maxHeartbeats 1000000 in
theorem letter_c (r : Int) (h : Fit r) (hg : gB r = false) (hs : sB r = false) (hr : 591 < r ∧ r < 880) (w : World) : Calls Tryd.prog 59 #[.int .i32 r] w fun e w' => e = .returned (.bool false) ∧ w' = w := by
  have a0 : (r == 223) = false := by simp; omega
  have a1 : 255 ≤ r := by omega
  have a2 : ¬ r ≤ 591 := by omega
  have a3 : ¬ 880 ≤ r := by omega
  have c := great_any r w
  rw [hg] at c
  have c' := small_any r h w
  rw [hs] at c'
  clear hg hs h hr
  go_enter Tryd.func59, Tryd.ntmps59
  go_wp2_with fail
  refine c.mono ?_
  rintro e w' ⟨rfl, rfl⟩
  go_wp2_with fail
  refine c'.mono ?_
  rintro e w' ⟨rfl, rfl⟩
  go_wp2
  go_ret
  exact ⟨by first | rfl | (simp; omega), rfl⟩
set_option maxHeartbeats 1000000 in
theorem letter_d (r : Int) (h : Fit r) (hg : gB r = false) (hs : sB r = false) (hr : 880 ≤ r ∧ r ≤ 1327) (w : World) : Calls Tryd.prog 59 #[.int .i32 r] w fun e w' => e = .returned (.bool true) ∧ w' = w := by
  have a0 : (r == 223) = false := by simp; omega
  have a1 : 255 ≤ r := by omega
  have a2 : ¬ r ≤ 591 := by omega
  have a3 : 880 ≤ r := by omega
  have a4 : r ≤ 1327 := by omega
  have c := great_any r w
  rw [hg] at c
  have c' := small_any r h w
  rw [hs] at c'
  clear hg hs h hr
  go_enter Tryd.func59, Tryd.ntmps59
  go_wp2_with fail
  refine c.mono ?_
  rintro e w' ⟨rfl, rfl⟩
  go_wp2_with fail
  refine c'.mono ?_
  rintro e w' ⟨rfl, rfl⟩
  go_wp2
  go_ret
  exact ⟨by first | rfl | (simp; omega), rfl⟩
set_option maxHeartbeats 1000000 in
theorem letter_e (r : Int) (h : Fit r) (hg : gB r = false) (hs : sB r = false) (hr : 1327 < r) (w : World) : Calls Tryd.prog 59 #[.int .i32 r] w fun e w' => e = .returned (.bool false) ∧ w' = w := by
  have a0 : (r == 223) = false := by simp; omega
  have a1 : 255 ≤ r := by omega
  have a2 : ¬ r ≤ 591 := by omega
  have a3 : 880 ≤ r := by omega
  have a4 : ¬ r ≤ 1327 := by omega
  have c := great_any r w
  rw [hg] at c
  have c' := small_any r h w
  rw [hs] at c'
  clear hg hs h hr
  go_enter Tryd.func59, Tryd.ntmps59
  go_wp2_with fail
  refine c.mono ?_
  rintro e w' ⟨rfl, rfl⟩
  go_wp2_with fail
  refine c'.mono ?_
  rintro e w' ⟨rfl, rfl⟩
  go_wp2
  go_ret
  exact ⟨by first | rfl | (simp; omega), rfl⟩
theorem letter_any (r : Int) (h : Fit r) (w : World) : Calls Tryd.prog 59 #[.int .i32 r] w fun e w' => e = .returned (.bool (lB r)) ∧ w' = w := by
  cases hg : gB r
  · cases hs : sB r
    · rcases (show (r = 223) ∨ (r < 255 ∧ r ≠ 223) ∨ (255 ≤ r ∧ r ≤ 591) ∨ (591 < r ∧ r < 880) ∨ (880 ≤ r ∧ r ≤ 1327) ∨ (1327 < r) by omega) with hr | hr | hr | hr | hr | hr
      · rw [show lB r = true by unfold lB; rw [hg, hs]; simp; omega]; exact letter_df r h hg hs hr w
      · rw [show lB r = false by unfold lB; rw [hg, hs]; simp; omega]; exact letter_a r h hg hs hr w
      · rw [show lB r = true by unfold lB; rw [hg, hs]; simp; omega]; exact letter_b r h hg hs hr w
      · rw [show lB r = false by unfold lB; rw [hg, hs]; simp; omega]; exact letter_c r h hg hs hr w
      · rw [show lB r = true by unfold lB; rw [hg, hs]; simp; omega]; exact letter_d r h hg hs hr w
      · rw [show lB r = false by unfold lB; rw [hg, hs]; simp; omega]; exact letter_e r h hg hs hr w
    · rw [show lB r = true by unfold lB; rw [hg, hs]; simp]; exact letter_small r h hg hs w
  · rw [show lB r = true by unfold lB; rw [hg]; simp]; exact letter_great r hg w
set_option maxHeartbeats 1000000 in
theorem rletter_great (r : Int) (hg : gB r = true) (w : World) : Calls Tryd.prog 35 #[.int .i32 r] w fun e w' => e = .returned (.bool true) ∧ w' = w := by
  have c := rgreat_any r w
  rw [hg] at c
  clear hg
  go_enter Tryd.func35, Tryd.ntmps35
  go_wp2_with fail
  refine c.mono ?_
  rintro e w' ⟨rfl, rfl⟩
  go_wp2
  go_ret
  exact ⟨rfl, rfl⟩
set_option maxHeartbeats 1000000 in
theorem rletter_small (r : Int) (h : Fit r) (hg : gB r = false) (hs : sB r = true) (w : World) : Calls Tryd.prog 35 #[.int .i32 r] w fun e w' => e = .returned (.bool true) ∧ w' = w := by
  have c := rgreat_any r w
  rw [hg] at c
  have c' := rsmall_any r h w
  rw [hs] at c'
  clear hg hs h
  go_enter Tryd.func35, Tryd.ntmps35
  go_wp2_with fail
  refine c.mono ?_
  rintro e w' ⟨rfl, rfl⟩
  go_wp2_with fail
  refine c'.mono ?_
  rintro e w' ⟨rfl, rfl⟩
  go_wp2
  go_ret
  exact ⟨rfl, rfl⟩
set_option maxHeartbeats 1000000 in
theorem rletter_df (r : Int) (h : Fit r) (hg : gB r = false) (hs : sB r = false) (hr : r = 223) (w : World) : Calls Tryd.prog 35 #[.int .i32 r] w fun e w' => e = .returned (.bool true) ∧ w' = w := by
  subst hr
  have c := rgreat_any 223 w
  rw [hg] at c
  have c' := rsmall_any 223 h w
  rw [hs] at c'
  clear hg hs h
  go_enter Tryd.func35, Tryd.ntmps35
  go_wp2_with fail
  refine c.mono ?_
  rintro e w' ⟨rfl, rfl⟩
  go_wp2_with fail
  refine c'.mono ?_
  rintro e w' ⟨rfl, rfl⟩
  go_wp2
  go_ret
  exact ⟨by first | rfl | (simp; omega), rfl⟩
set_option maxHeartbeats 1000000 in
theorem rletter_a (r : Int) (h : Fit r) (hg : gB r = false) (hs : sB r = false) (hr : r < 255 ∧ r ≠ 223) (w : World) : Calls Tryd.prog 35 #[.int .i32 r] w fun e w' => e = .returned (.bool false) ∧ w' = w := by
  have a0 : (r == 223) = false := by simp; omega
  have a1 : ¬ 255 ≤ r := by omega
  have a2 : ¬ 880 ≤ r := by omega
  have c := rgreat_any r w
  rw [hg] at c
  have c' := rsmall_any r h w
  rw [hs] at c'
  clear hg hs h hr
  go_enter Tryd.func35, Tryd.ntmps35
  go_wp2_with fail
  refine c.mono ?_
  rintro e w' ⟨rfl, rfl⟩
  go_wp2_with fail
  refine c'.mono ?_
  rintro e w' ⟨rfl, rfl⟩
  go_wp2
  go_ret
  exact ⟨by first | rfl | (simp; omega), rfl⟩
set_option maxHeartbeats 1000000 in
theorem rletter_b (r : Int) (h : Fit r) (hg : gB r = false) (hs : sB r = false) (hr : 255 ≤ r ∧ r ≤ 591) (w : World) : Calls Tryd.prog 35 #[.int .i32 r] w fun e w' => e = .returned (.bool true) ∧ w' = w := by
  have a0 : (r == 223) = false := by simp; omega
  have a1 : 255 ≤ r := by omega
  have a2 : r ≤ 591 := by omega
  have c := rgreat_any r w
  rw [hg] at c
  have c' := rsmall_any r h w
  rw [hs] at c'
  clear hg hs h hr
  go_enter Tryd.func35, Tryd.ntmps35
  go_wp2_with fail
  refine c.mono ?_
  rintro e w' ⟨rfl, rfl⟩
  go_wp2_with fail
  refine c'.mono ?_
  rintro e w' ⟨rfl, rfl⟩
  go_wp2
  go_ret
  exact ⟨by first | rfl | (simp; omega), rfl⟩
set_option maxHeartbeats 1000000 in
theorem rletter_c (r : Int) (h : Fit r) (hg : gB r = false) (hs : sB r = false) (hr : 591 < r ∧ r < 880) (w : World) : Calls Tryd.prog 35 #[.int .i32 r] w fun e w' => e = .returned (.bool false) ∧ w' = w := by
  have a0 : (r == 223) = false := by simp; omega
  have a1 : 255 ≤ r := by omega
  have a2 : ¬ r ≤ 591 := by omega
  have a3 : ¬ 880 ≤ r := by omega
  have c := rgreat_any r w
  rw [hg] at c
  have c' := rsmall_any r h w
  rw [hs] at c'
  clear hg hs h hr
  go_enter Tryd.func35, Tryd.ntmps35
  go_wp2_with fail
  refine c.mono ?_
  rintro e w' ⟨rfl, rfl⟩
  go_wp2_with fail
  refine c'.mono ?_
  rintro e w' ⟨rfl, rfl⟩
  go_wp2
  go_ret
  exact ⟨by first | rfl | (simp; omega), rfl⟩
set_option maxHeartbeats 1000000 in
theorem rletter_d (r : Int) (h : Fit r) (hg : gB r = false) (hs : sB r = false) (hr : 880 ≤ r ∧ r ≤ 1327) (w : World) : Calls Tryd.prog 35 #[.int .i32 r] w fun e w' => e = .returned (.bool true) ∧ w' = w := by
  have a0 : (r == 223) = false := by simp; omega
  have a1 : 255 ≤ r := by omega
  have a2 : ¬ r ≤ 591 := by omega
  have a3 : 880 ≤ r := by omega
  have a4 : r ≤ 1327 := by omega
  have c := rgreat_any r w
  rw [hg] at c
  have c' := rsmall_any r h w
  rw [hs] at c'
  clear hg hs h hr
  go_enter Tryd.func35, Tryd.ntmps35
  go_wp2_with fail
  refine c.mono ?_
  rintro e w' ⟨rfl, rfl⟩
  go_wp2_with fail
  refine c'.mono ?_
  rintro e w' ⟨rfl, rfl⟩
  go_wp2
  go_ret
  exact ⟨by first | rfl | (simp; omega), rfl⟩
set_option maxHeartbeats 1000000 in
theorem rletter_e (r : Int) (h : Fit r) (hg : gB r = false) (hs : sB r = false) (hr : 1327 < r) (w : World) : Calls Tryd.prog 35 #[.int .i32 r] w fun e w' => e = .returned (.bool false) ∧ w' = w := by
  have a0 : (r == 223) = false := by simp; omega
  have a1 : 255 ≤ r := by omega
  have a2 : ¬ r ≤ 591 := by omega
  have a3 : 880 ≤ r := by omega
  have a4 : ¬ r ≤ 1327 := by omega
  have c := rgreat_any r w
  rw [hg] at c
  have c' := rsmall_any r h w
  rw [hs] at c'
  clear hg hs h hr
  go_enter Tryd.func35, Tryd.ntmps35
  go_wp2_with fail
  refine c.mono ?_
  rintro e w' ⟨rfl, rfl⟩
  go_wp2_with fail
  refine c'.mono ?_
  rintro e w' ⟨rfl, rfl⟩
  go_wp2
  go_ret
  exact ⟨by first | rfl | (simp; omega), rfl⟩
theorem rletter_any (r : Int) (h : Fit r) (w : World) : Calls Tryd.prog 35 #[.int .i32 r] w fun e w' => e = .returned (.bool (lB r)) ∧ w' = w := by
  cases hg : gB r
  · cases hs : sB r
    · rcases (show (r = 223) ∨ (r < 255 ∧ r ≠ 223) ∨ (255 ≤ r ∧ r ≤ 591) ∨ (591 < r ∧ r < 880) ∨ (880 ≤ r ∧ r ≤ 1327) ∨ (1327 < r) by omega) with hr | hr | hr | hr | hr | hr
      · rw [show lB r = true by unfold lB; rw [hg, hs]; simp; omega]; exact rletter_df r h hg hs hr w
      · rw [show lB r = false by unfold lB; rw [hg, hs]; simp; omega]; exact rletter_a r h hg hs hr w
      · rw [show lB r = true by unfold lB; rw [hg, hs]; simp; omega]; exact rletter_b r h hg hs hr w
      · rw [show lB r = false by unfold lB; rw [hg, hs]; simp; omega]; exact rletter_c r h hg hs hr w
      · rw [show lB r = true by unfold lB; rw [hg, hs]; simp; omega]; exact rletter_d r h hg hs hr w
      · rw [show lB r = false by unfold lB; rw [hg, hs]; simp; omega]; exact rletter_e r h hg hs hr w
    · rw [show lB r = true by unfold lB; rw [hg, hs]; simp]; exact rletter_small r h hg hs w
  · rw [show lB r = true by unfold lB; rw [hg]; simp]; exact rletter_great r hg w
end Go.Proofs.YteeeekpeokgaeaaDoor
