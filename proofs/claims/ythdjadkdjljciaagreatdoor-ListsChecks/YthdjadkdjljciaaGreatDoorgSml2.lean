/- Letters; a sign in a case. -/
import Derived.Test.YthdjadkdjljciaaGreatDoorgSml
namespace Go.Proofs.YthdjadkdjljciaaGreatDoor
set_option linter.unusedVariables false
open Go.RowKit Go.ChangeShapes
/-- A sign in a case. -/
def wrt (c r : Int) (first : Bool) : Int := bif c == 3 then up r else bif c == 2 then (bif first then up r else dn r) else bif c == 1 then dn r else r
theorem written_upper (r : Int) (h : Fit r) (w : World) (b : Bool) : Calls Tryz.prog 72 #[.int .u8 3, .int .i32 r, .bool b] w fun e w' => e = .returned (.int .i32 (up r)) ∧ w' = w := by
  have c := up_any r h w
  generalize up r = y at c ⊢
  clear h
  go_enter Tryz.func72, Tryz.ntmps72
  go_wp2_with fail
  refine c.mono ?_
  rintro e w' ⟨rfl, rfl⟩
  go_wp2
  go_ret
  exact ⟨rfl, rfl⟩
theorem written_first (r : Int) (h : Fit r) (w : World) : Calls Tryz.prog 72 #[.int .u8 2, .int .i32 r, .bool true] w fun e w' => e = .returned (.int .i32 (up r)) ∧ w' = w := by
  have c := up_any r h w
  generalize up r = y at c ⊢
  clear h
  go_enter Tryz.func72, Tryz.ntmps72
  go_wp2_with fail
  refine c.mono ?_
  rintro e w' ⟨rfl, rfl⟩
  go_wp2
  go_ret
  exact ⟨rfl, rfl⟩
theorem written_rest (r : Int) (h : Fit r) (w : World) : Calls Tryz.prog 72 #[.int .u8 2, .int .i32 r, .bool false] w fun e w' => e = .returned (.int .i32 (dn r)) ∧ w' = w := by
  have c := down_any r h w
  generalize dn r = y at c ⊢
  clear h
  go_enter Tryz.func72, Tryz.ntmps72
  go_wp2_with fail
  refine c.mono ?_
  rintro e w' ⟨rfl, rfl⟩
  go_wp2
  go_ret
  exact ⟨rfl, rfl⟩
theorem written_lower (r : Int) (h : Fit r) (w : World) (b : Bool) : Calls Tryz.prog 72 #[.int .u8 1, .int .i32 r, .bool b] w fun e w' => e = .returned (.int .i32 (dn r)) ∧ w' = w := by
  have c := down_any r h w
  generalize dn r = y at c ⊢
  clear h
  go_enter Tryz.func72, Tryz.ntmps72
  go_wp2_with fail
  refine c.mono ?_
  rintro e w' ⟨rfl, rfl⟩
  go_wp2
  go_ret
  exact ⟨rfl, rfl⟩
theorem written_mixed (c : Int) (h3 : (c == 3) = false) (h2 : (c == 2) = false) (h1 : (c == 1) = false) (r : Int) (w : World) (b : Bool) : Calls Tryz.prog 72 #[.int .u8 c, .int .i32 r, .bool b] w fun e w' => e = .returned (.int .i32 r) ∧ w' = w := by
  go_enter Tryz.func72, Tryz.ntmps72
  go_wp2
  go_ret
  exact ⟨rfl, rfl⟩
theorem written_any (c r : Int) (b : Bool) (h : Fit r) (w : World) : Calls Tryz.prog 72 #[.int .u8 c, .int .i32 r, .bool b] w fun e w' => e = .returned (.int .i32 (wrt c r b)) ∧ w' = w := by
  unfold wrt
  cases h3 : (c == 3)
  · cases h2 : (c == 2)
    · cases h1 : (c == 1)
      · exact written_mixed c h3 h2 h1 r w b
      · obtain rfl : c = 1 := by simpa using h1
        exact written_lower r h w b
    · obtain rfl : c = 2 := by simpa using h2
      cases b
      · exact written_rest r h w
      · exact written_first r h w
  · obtain rfl : c = 3 := by simpa using h3
    exact written_upper r h w b
set_option maxHeartbeats 1000000 in
theorem letter_great (r : Int) (hg : gB r = true) (w : World) : Calls Tryz.prog 27 #[.int .i32 r] w fun e w' => e = .returned (.bool true) ∧ w' = w := by
  have c := great_any r w
  rw [hg] at c
  clear hg
  go_enter Tryz.func27, Tryz.ntmps27
  go_wp2_with fail
  refine c.mono ?_
  rintro e w' ⟨rfl, rfl⟩
  go_wp2
  go_ret
  exact ⟨rfl, rfl⟩
set_option maxHeartbeats 1000000 in
theorem letter_small (r : Int) (h : Fit r) (hg : gB r = false) (hs : sB r = true) (w : World) : Calls Tryz.prog 27 #[.int .i32 r] w fun e w' => e = .returned (.bool true) ∧ w' = w := by
  have c := great_any r w
  rw [hg] at c
  have c' := small_any r h w
  rw [hs] at c'
  clear hg hs h
  go_enter Tryz.func27, Tryz.ntmps27
  go_wp2_with fail
  refine c.mono ?_
  rintro e w' ⟨rfl, rfl⟩
  go_wp2_with fail
  refine c'.mono ?_
  rintro e w' ⟨rfl, rfl⟩
  go_wp2
  go_ret
  exact ⟨rfl, rfl⟩
set_option maxHeartbeats 1000000 in
theorem letter_df (r : Int) (h : Fit r) (hg : gB r = false) (hs : sB r = false) (hr : r = 223) (w : World) : Calls Tryz.prog 27 #[.int .i32 r] w fun e w' => e = .returned (.bool true) ∧ w' = w := by
  subst hr
  have c := great_any 223 w
  rw [hg] at c
  have c' := small_any 223 h w
  rw [hs] at c'
  clear hg hs h
  go_enter Tryz.func27, Tryz.ntmps27
  go_wp2_with fail
  refine c.mono ?_
  rintro e w' ⟨rfl, rfl⟩
  go_wp2_with fail
  refine c'.mono ?_
  rintro e w' ⟨rfl, rfl⟩
  go_wp2
  go_ret
  exact ⟨by first | rfl | (simp; omega), rfl⟩
set_option maxHeartbeats 1000000 in
theorem letter_a (r : Int) (h : Fit r) (hg : gB r = false) (hs : sB r = false) (hr : r < 255 ∧ r ≠ 223) (w : World) : Calls Tryz.prog 27 #[.int .i32 r] w fun e w' => e = .returned (.bool false) ∧ w' = w := by
  have a0 : (r == 223) = false := by simp; omega
  have a1 : ¬ 255 ≤ r := by omega
  have a2 : ¬ 880 ≤ r := by omega
  have c := great_any r w
  rw [hg] at c
  have c' := small_any r h w
  rw [hs] at c'
  clear hg hs h hr
  go_enter Tryz.func27, Tryz.ntmps27
  go_wp2_with fail
  refine c.mono ?_
  rintro e w' ⟨rfl, rfl⟩
  go_wp2_with fail
  refine c'.mono ?_
  rintro e w' ⟨rfl, rfl⟩
  go_wp2
  go_ret
  exact ⟨by first | rfl | (simp; omega), rfl⟩
set_option maxHeartbeats 1000000 in
theorem letter_b (r : Int) (h : Fit r) (hg : gB r = false) (hs : sB r = false) (hr : 255 ≤ r ∧ r ≤ 591) (w : World) : Calls Tryz.prog 27 #[.int .i32 r] w fun e w' => e = .returned (.bool true) ∧ w' = w := by
  have a0 : (r == 223) = false := by simp; omega
  have a1 : 255 ≤ r := by omega
  have a2 : r ≤ 591 := by omega
  have c := great_any r w
  rw [hg] at c
  have c' := small_any r h w
  rw [hs] at c'
  clear hg hs h hr
  go_enter Tryz.func27, Tryz.ntmps27
  go_wp2_with fail
  refine c.mono ?_
  rintro e w' ⟨rfl, rfl⟩
  go_wp2_with fail
  refine c'.mono ?_
  rintro e w' ⟨rfl, rfl⟩
  go_wp2
  go_ret
  exact ⟨by first | rfl | (simp; omega), rfl⟩
set_option maxHeartbeats 1000000 in
theorem letter_c (r : Int) (h : Fit r) (hg : gB r = false) (hs : sB r = false) (hr : 591 < r ∧ r < 880) (w : World) : Calls Tryz.prog 27 #[.int .i32 r] w fun e w' => e = .returned (.bool false) ∧ w' = w := by
  have a0 : (r == 223) = false := by simp; omega
  have a1 : 255 ≤ r := by omega
  have a2 : ¬ r ≤ 591 := by omega
  have a3 : ¬ 880 ≤ r := by omega
  have c := great_any r w
  rw [hg] at c
  have c' := small_any r h w
  rw [hs] at c'
  clear hg hs h hr
  go_enter Tryz.func27, Tryz.ntmps27
  go_wp2_with fail
  refine c.mono ?_
  rintro e w' ⟨rfl, rfl⟩
  go_wp2_with fail
  refine c'.mono ?_
  rintro e w' ⟨rfl, rfl⟩
  go_wp2
  go_ret
  exact ⟨by first | rfl | (simp; omega), rfl⟩
set_option maxHeartbeats 1000000 in
theorem letter_d (r : Int) (h : Fit r) (hg : gB r = false) (hs : sB r = false) (hr : 880 ≤ r ∧ r ≤ 1327) (w : World) : Calls Tryz.prog 27 #[.int .i32 r] w fun e w' => e = .returned (.bool true) ∧ w' = w := by
  have a0 : (r == 223) = false := by simp; omega
  have a1 : 255 ≤ r := by omega
  have a2 : ¬ r ≤ 591 := by omega
  have a3 : 880 ≤ r := by omega
  have a4 : r ≤ 1327 := by omega
  have c := great_any r w
  rw [hg] at c
  have c' := small_any r h w
  rw [hs] at c'
  clear hg hs h hr
  go_enter Tryz.func27, Tryz.ntmps27
  go_wp2_with fail
  refine c.mono ?_
  rintro e w' ⟨rfl, rfl⟩
  go_wp2_with fail
  refine c'.mono ?_
  rintro e w' ⟨rfl, rfl⟩
  go_wp2
  go_ret
  exact ⟨by first | rfl | (simp; omega), rfl⟩
set_option maxHeartbeats 1000000 in
theorem letter_e (r : Int) (h : Fit r) (hg : gB r = false) (hs : sB r = false) (hr : 1327 < r) (w : World) : Calls Tryz.prog 27 #[.int .i32 r] w fun e w' => e = .returned (.bool false) ∧ w' = w := by
  have a0 : (r == 223) = false := by simp; omega
  have a1 : 255 ≤ r := by omega
  have a2 : ¬ r ≤ 591 := by omega
  have a3 : 880 ≤ r := by omega
  have a4 : ¬ r ≤ 1327 := by omega
  have c := great_any r w
  rw [hg] at c
  have c' := small_any r h w
  rw [hs] at c'
  clear hg hs h hr
  go_enter Tryz.func27, Tryz.ntmps27
  go_wp2_with fail
  refine c.mono ?_
  rintro e w' ⟨rfl, rfl⟩
  go_wp2_with fail
  refine c'.mono ?_
  rintro e w' ⟨rfl, rfl⟩
  go_wp2
  go_ret
  exact ⟨by first | rfl | (simp; omega), rfl⟩
theorem letter_any (r : Int) (h : Fit r) (w : World) : Calls Tryz.prog 27 #[.int .i32 r] w fun e w' => e = .returned (.bool (lB r)) ∧ w' = w := by
  cases hg : gB r
  · cases hs : sB r
    · rcases (show (r = 223) ∨ (r < 255 ∧ r ≠ 223) ∨ (255 ≤ r ∧ r ≤ 591) ∨ (591 < r ∧ r < 880) ∨ (880 ≤ r ∧ r ≤ 1327) ∨ (1327 < r) by omega) with hr | hr | hr | hr | hr | hr
      · rw [show lB r = true by unfold lB; rw [hg, hs]; simp; omega]; exact letter_df r h hg hs hr w
      · rw [show lB r = false by unfold lB; rw [hg, hs]; simp; omega]; exact letter_a r h hg hs hr w
      · rw [show lB r = true by unfold lB; rw [hg, hs]; simp; omega]; exact letter_b r h hg hs hr w
      · rw [show lB r = false by unfold lB; rw [hg, hs]; simp; omega]; exact letter_c r h hg hs hr w
      · rw [show lB r = true by unfold lB; rw [hg, hs]; simp; omega]; exact letter_d r h hg hs hr w
      · rw [show lB r = false by unfold lB; rw [hg, hs]; simp; omega]; exact letter_e r h hg hs hr w
    · rw [show lB r = true by unfold lB; rw [hg, hs]; simp]; exact letter_small r h hg hs w
  · rw [show lB r = true by unfold lB; rw [hg]; simp]; exact letter_great r hg w
set_option maxHeartbeats 1000000 in
theorem rletter_great (r : Int) (hg : gB r = true) (w : World) : Calls Tryz.prog 29 #[.int .i32 r] w fun e w' => e = .returned (.bool true) ∧ w' = w := by
  have c := rgreat_any r w
  rw [hg] at c
  clear hg
  go_enter Tryz.func29, Tryz.ntmps29
  go_wp2_with fail
  refine c.mono ?_
  rintro e w' ⟨rfl, rfl⟩
  go_wp2
  go_ret
  exact ⟨rfl, rfl⟩
set_option maxHeartbeats 1000000 in
theorem rletter_small (r : Int) (h : Fit r) (hg : gB r = false) (hs : sB r = true) (w : World) : Calls Tryz.prog 29 #[.int .i32 r] w fun e w' => e = .returned (.bool true) ∧ w' = w := by
  have c := rgreat_any r w
  rw [hg] at c
  have c' := rsmall_any r h w
  rw [hs] at c'
  clear hg hs h
  go_enter Tryz.func29, Tryz.ntmps29
  go_wp2_with fail
  refine c.mono ?_
  rintro e w' ⟨rfl, rfl⟩
  go_wp2_with fail
  refine c'.mono ?_
  rintro e w' ⟨rfl, rfl⟩
  go_wp2
  go_ret
  exact ⟨rfl, rfl⟩
set_option maxHeartbeats 1000000 in
theorem rletter_df (r : Int) (h : Fit r) (hg : gB r = false) (hs : sB r = false) (hr : r = 223) (w : World) : Calls Tryz.prog 29 #[.int .i32 r] w fun e w' => e = .returned (.bool true) ∧ w' = w := by
  subst hr
  have c := rgreat_any 223 w
  rw [hg] at c
  have c' := rsmall_any 223 h w
  rw [hs] at c'
  clear hg hs h
  go_enter Tryz.func29, Tryz.ntmps29
  go_wp2_with fail
  refine c.mono ?_
  rintro e w' ⟨rfl, rfl⟩
  go_wp2_with fail
  refine c'.mono ?_
  rintro e w' ⟨rfl, rfl⟩
  go_wp2
  go_ret
  exact ⟨by first | rfl | (simp; omega), rfl⟩
set_option maxHeartbeats 1000000 in
theorem rletter_a (r : Int) (h : Fit r) (hg : gB r = false) (hs : sB r = false) (hr : r < 255 ∧ r ≠ 223) (w : World) : Calls Tryz.prog 29 #[.int .i32 r] w fun e w' => e = .returned (.bool false) ∧ w' = w := by
  have a0 : (r == 223) = false := by simp; omega
  have a1 : ¬ 255 ≤ r := by omega
  have a2 : ¬ 880 ≤ r := by omega
  have c := rgreat_any r w
  rw [hg] at c
  have c' := rsmall_any r h w
  rw [hs] at c'
  clear hg hs h hr
  go_enter Tryz.func29, Tryz.ntmps29
  go_wp2_with fail
  refine c.mono ?_
  rintro e w' ⟨rfl, rfl⟩
  go_wp2_with fail
  refine c'.mono ?_
  rintro e w' ⟨rfl, rfl⟩
  go_wp2
  go_ret
  exact ⟨by first | rfl | (simp; omega), rfl⟩
set_option maxHeartbeats 1000000 in
theorem rletter_b (r : Int) (h : Fit r) (hg : gB r = false) (hs : sB r = false) (hr : 255 ≤ r ∧ r ≤ 591) (w : World) : Calls Tryz.prog 29 #[.int .i32 r] w fun e w' => e = .returned (.bool true) ∧ w' = w := by
  have a0 : (r == 223) = false := by simp; omega
  have a1 : 255 ≤ r := by omega
  have a2 : r ≤ 591 := by omega
  have c := rgreat_any r w
  rw [hg] at c
  have c' := rsmall_any r h w
  rw [hs] at c'
  clear hg hs h hr
  go_enter Tryz.func29, Tryz.ntmps29
  go_wp2_with fail
  refine c.mono ?_
  rintro e w' ⟨rfl, rfl⟩
  go_wp2_with fail
  refine c'.mono ?_
  rintro e w' ⟨rfl, rfl⟩
  go_wp2
  go_ret
  exact ⟨by first | rfl | (simp; omega), rfl⟩
set_option maxHeartbeats 1000000 in
theorem rletter_c (r : Int) (h : Fit r) (hg : gB r = false) (hs : sB r = false) (hr : 591 < r ∧ r < 880) (w : World) : Calls Tryz.prog 29 #[.int .i32 r] w fun e w' => e = .returned (.bool false) ∧ w' = w := by
  have a0 : (r == 223) = false := by simp; omega
  have a1 : 255 ≤ r := by omega
  have a2 : ¬ r ≤ 591 := by omega
  have a3 : ¬ 880 ≤ r := by omega
  have c := rgreat_any r w
  rw [hg] at c
  have c' := rsmall_any r h w
  rw [hs] at c'
  clear hg hs h hr
  go_enter Tryz.func29, Tryz.ntmps29
  go_wp2_with fail
  refine c.mono ?_
  rintro e w' ⟨rfl, rfl⟩
  go_wp2_with fail
  refine c'.mono ?_
  rintro e w' ⟨rfl, rfl⟩
  go_wp2
  go_ret
  exact ⟨by first | rfl | (simp; omega), rfl⟩
set_option maxHeartbeats 1000000 in
theorem rletter_d (r : Int) (h : Fit r) (hg : gB r = false) (hs : sB r = false) (hr : 880 ≤ r ∧ r ≤ 1327) (w : World) : Calls Tryz.prog 29 #[.int .i32 r] w fun e w' => e = .returned (.bool true) ∧ w' = w := by
  have a0 : (r == 223) = false := by simp; omega
  have a1 : 255 ≤ r := by omega
  have a2 : ¬ r ≤ 591 := by omega
  have a3 : 880 ≤ r := by omega
  have a4 : r ≤ 1327 := by omega
  have c := rgreat_any r w
  rw [hg] at c
  have c' := rsmall_any r h w
  rw [hs] at c'
  clear hg hs h hr
  go_enter Tryz.func29, Tryz.ntmps29
  go_wp2_with fail
  refine c.mono ?_
  rintro e w' ⟨rfl, rfl⟩
  go_wp2_with fail
  refine c'.mono ?_
  rintro e w' ⟨rfl, rfl⟩
  go_wp2
  go_ret
  exact ⟨by first | rfl | (simp; omega), rfl⟩
set_option maxHeartbeats 1000000 in
theorem rletter_e (r : Int) (h : Fit r) (hg : gB r = false) (hs : sB r = false) (hr : 1327 < r) (w : World) : Calls Tryz.prog 29 #[.int .i32 r] w fun e w' => e = .returned (.bool false) ∧ w' = w := by
  have a0 : (r == 223) = false := by simp; omega
  have a1 : 255 ≤ r := by omega
  have a2 : ¬ r ≤ 591 := by omega
  have a3 : 880 ≤ r := by omega
  have a4 : ¬ r ≤ 1327 := by omega
  have c := rgreat_any r w
  rw [hg] at c
  have c' := rsmall_any r h w
  rw [hs] at c'
  clear hg hs h hr
  go_enter Tryz.func29, Tryz.ntmps29
  go_wp2_with fail
  refine c.mono ?_
  rintro e w' ⟨rfl, rfl⟩
  go_wp2_with fail
  refine c'.mono ?_
  rintro e w' ⟨rfl, rfl⟩
  go_wp2
  go_ret
  exact ⟨by first | rfl | (simp; omega), rfl⟩
theorem rletter_any (r : Int) (h : Fit r) (w : World) : Calls Tryz.prog 29 #[.int .i32 r] w fun e w' => e = .returned (.bool (lB r)) ∧ w' = w := by
  cases hg : gB r
  · cases hs : sB r
    · rcases (show (r = 223) ∨ (r < 255 ∧ r ≠ 223) ∨ (255 ≤ r ∧ r ≤ 591) ∨ (591 < r ∧ r < 880) ∨ (880 ≤ r ∧ r ≤ 1327) ∨ (1327 < r) by omega) with hr | hr | hr | hr | hr | hr
      · rw [show lB r = true by unfold lB; rw [hg, hs]; simp; omega]; exact rletter_df r h hg hs hr w
      · rw [show lB r = false by unfold lB; rw [hg, hs]; simp; omega]; exact rletter_a r h hg hs hr w
      · rw [show lB r = true by unfold lB; rw [hg, hs]; simp; omega]; exact rletter_b r h hg hs hr w
      · rw [show lB r = false by unfold lB; rw [hg, hs]; simp; omega]; exact rletter_c r h hg hs hr w
      · rw [show lB r = true by unfold lB; rw [hg, hs]; simp; omega]; exact rletter_d r h hg hs hr w
      · rw [show lB r = false by unfold lB; rw [hg, hs]; simp; omega]; exact rletter_e r h hg hs hr w
    · rw [show lB r = true by unfold lB; rw [hg, hs]; simp]; exact rletter_small r h hg hs w
  · rw [show lB r = true by unfold lB; rw [hg]; simp]; exact rletter_great r hg w
end Go.Proofs.YthdjadkdjljciaaGreatDoor
