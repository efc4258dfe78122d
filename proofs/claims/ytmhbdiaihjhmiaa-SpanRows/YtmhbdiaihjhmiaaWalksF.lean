/- What the reference's Meet answers, for any two spans. -/
import Derived.Test.YtmhbdiaihjhmiaaWalksD
import Derived.WalkSmall
namespace Go.Proofs.Ytmhbdiaihjhmiaa
open Go.RowKit Go.ChangeShapes
set_option maxHeartbeats 400000 in
theorem refMeet_no (a l b m : Int) (w : World) (h : bothB a l b m = false) :
    Calls Try.prog 15 #[.agg #[.int .i64 a, .int .i64 l], .agg #[.int .i64 b, .int .i64 m]] w fun e w' => e = .returned (.tuple #[.agg #[.int .i64 0, .int .i64 0], .bool false]) ∧ Below w.heap.size w w' := by
  cases h1 : sndB a l
  · go_enter Try.func15, Try.ntmps15
    go_wp2_with (go_at_call 12; refine (refSound_any _ _ _).mono ?_; rintro e w' ⟨rfl, rfl⟩)
    exact bodyPost_ret (v := .tuple #[.agg #[.int .i64 0, .int .i64 0], .bool false]) (by simp [results, Try.results15, go_sem]) rfl ⟨rfl, by (repeat (first | exact Below.refl _ _ | (refine Below.alloc ?_ (by simp <;> omega) _) | (refine Below.setCell ?_ (by simp <;> omega) _) | (refine Below.drew ?_) | (refine Go.below_drewN ?_ _)))⟩
  · have h2 : sndB b m = false := by simpa [bothB, h1] using h
    go_enter Try.func15, Try.ntmps15
    go_wp2_with (go_at_call 12; refine (refSound_any _ _ _).mono ?_; rintro e w' ⟨rfl, rfl⟩)
    exact bodyPost_ret (v := .tuple #[.agg #[.int .i64 0, .int .i64 0], .bool false]) (by simp [results, Try.results15, go_sem]) rfl ⟨rfl, by (repeat (first | exact Below.refl _ _ | (refine Below.alloc ?_ (by simp <;> omega) _) | (refine Below.setCell ?_ (by simp <;> omega) _) | (refine Below.drew ?_) | (refine Go.below_drewN ?_ _)))⟩
set_option maxHeartbeats 1000000 in
theorem refMeet_mid (a l b m lo hi : Int) (w : World) (h1 : sndB a l = true) (h2 : sndB b m = true) (hlo : (if a < b then b else a) = lo) (hhi : (if b + m < a + l then b + m else a + l) = hi) (hlh : lo < hi) :
    Calls Try.prog 15 #[.agg #[.int .i64 a, .int .i64 l], .agg #[.int .i64 b, .int .i64 m]] w fun e w' => e = .returned (.tuple #[.agg #[.int .i64 lo, .int .i64 (hi - lo)], .bool true]) ∧ Below w.heap.size w w' := by
  obtain ⟨⟨q1, q2⟩, q3, q4⟩ := (snd_iff _ _).1 h1
  obtain ⟨⟨q5, q6⟩, q7, q8⟩ := (snd_iff _ _).1 h2
  by_cases h3 : a < b
  · by_cases h4 : b + m < a + l
    · skip
      simp only [h3, h4, if_true] at hlo hhi
      subst hlo hhi
      go_enter Try.func15, Try.ntmps15
      go_wp2_with (go_at_call 12; refine (refSound_any _ _ _).mono ?_; rintro e w' ⟨rfl, rfl⟩)
      go_quiet (fail)
      go_wp2
      exact bodyPost_ret (v := .tuple #[.agg #[.int .i64 b, .int .i64 ((b + m) - b)], .bool true]) (by simp [results, Try.results15, go_sem]) rfl ⟨rfl, by (repeat (first | exact Below.refl _ _ | (refine Below.alloc ?_ (by simp <;> omega) _) | (refine Below.setCell ?_ (by simp <;> omega) _) | (refine Below.drew ?_) | (refine Go.below_drewN ?_ _)))⟩
    · skip
      simp only [h3, h4, if_true, if_false] at hlo hhi
      subst hlo hhi
      go_enter Try.func15, Try.ntmps15
      go_wp2_with (go_at_call 12; refine (refSound_any _ _ _).mono ?_; rintro e w' ⟨rfl, rfl⟩)
      go_quiet (fail)
      go_wp2
      exact bodyPost_ret (v := .tuple #[.agg #[.int .i64 b, .int .i64 ((a + l) - b)], .bool true]) (by simp [results, Try.results15, go_sem]) rfl ⟨rfl, by (repeat (first | exact Below.refl _ _ | (refine Below.alloc ?_ (by simp <;> omega) _) | (refine Below.setCell ?_ (by simp <;> omega) _) | (refine Below.drew ?_) | (refine Go.below_drewN ?_ _)))⟩
  · by_cases h4 : b + m < a + l
    · skip
      simp only [h3, h4, if_true, if_false] at hlo hhi
      subst hlo hhi
      go_enter Try.func15, Try.ntmps15
      go_wp2_with (go_at_call 12; refine (refSound_any _ _ _).mono ?_; rintro e w' ⟨rfl, rfl⟩)
      go_quiet (fail)
      go_wp2
      exact bodyPost_ret (v := .tuple #[.agg #[.int .i64 a, .int .i64 ((b + m) - a)], .bool true]) (by simp [results, Try.results15, go_sem]) rfl ⟨rfl, by (repeat (first | exact Below.refl _ _ | (refine Below.alloc ?_ (by simp <;> omega) _) | (refine Below.setCell ?_ (by simp <;> omega) _) | (refine Below.drew ?_) | (refine Go.below_drewN ?_ _)))⟩
    · skip
      simp only [h3, h4, if_false] at hlo hhi
      subst hlo hhi
      go_enter Try.func15, Try.ntmps15
      go_wp2_with (go_at_call 12; refine (refSound_any _ _ _).mono ?_; rintro e w' ⟨rfl, rfl⟩)
      go_quiet (fail)
      go_wp2
      exact bodyPost_ret (v := .tuple #[.agg #[.int .i64 a, .int .i64 ((a + l) - a)], .bool true]) (by simp [results, Try.results15, go_sem]) rfl ⟨rfl, by (repeat (first | exact Below.refl _ _ | (refine Below.alloc ?_ (by simp <;> omega) _) | (refine Below.setCell ?_ (by simp <;> omega) _) | (refine Below.drew ?_) | (refine Go.below_drewN ?_ _)))⟩
set_option maxHeartbeats 1000000 in
theorem refMeet_off (a l b m lo hi : Int) (w : World) (h1 : sndB a l = true) (h2 : sndB b m = true) (hlo : (if a < b then b else a) = lo) (hhi : (if b + m < a + l then b + m else a + l) = hi) (hlh : hi ≤ lo) :
    Calls Try.prog 15 #[.agg #[.int .i64 a, .int .i64 l], .agg #[.int .i64 b, .int .i64 m]] w fun e w' => e = .returned (.tuple #[.agg #[.int .i64 0, .int .i64 0], .bool false]) ∧ Below w.heap.size w w' := by
  obtain ⟨⟨q1, q2⟩, q3, q4⟩ := (snd_iff _ _).1 h1
  obtain ⟨⟨q5, q6⟩, q7, q8⟩ := (snd_iff _ _).1 h2
  by_cases h3 : a < b
  · by_cases h4 : b + m < a + l
    · skip
      simp only [h3, h4, if_true] at hlo hhi
      subst hlo hhi
      go_enter Try.func15, Try.ntmps15
      go_wp2_with (go_at_call 12; refine (refSound_any _ _ _).mono ?_; rintro e w' ⟨rfl, rfl⟩)
      go_quiet (fail)
      go_wp2
      exact bodyPost_ret (v := .tuple #[.agg #[.int .i64 0, .int .i64 0], .bool false]) (by simp [results, Try.results15, go_sem]) rfl ⟨rfl, by (repeat (first | exact Below.refl _ _ | (refine Below.alloc ?_ (by simp <;> omega) _) | (refine Below.setCell ?_ (by simp <;> omega) _) | (refine Below.drew ?_) | (refine Go.below_drewN ?_ _)))⟩
    · skip
      simp only [h3, h4, if_true, if_false] at hlo hhi
      subst hlo hhi
      go_enter Try.func15, Try.ntmps15
      go_wp2_with (go_at_call 12; refine (refSound_any _ _ _).mono ?_; rintro e w' ⟨rfl, rfl⟩)
      go_quiet (fail)
      go_wp2
      exact bodyPost_ret (v := .tuple #[.agg #[.int .i64 0, .int .i64 0], .bool false]) (by simp [results, Try.results15, go_sem]) rfl ⟨rfl, by (repeat (first | exact Below.refl _ _ | (refine Below.alloc ?_ (by simp <;> omega) _) | (refine Below.setCell ?_ (by simp <;> omega) _) | (refine Below.drew ?_) | (refine Go.below_drewN ?_ _)))⟩
  · by_cases h4 : b + m < a + l
    · skip
      simp only [h3, h4, if_true, if_false] at hlo hhi
      subst hlo hhi
      go_enter Try.func15, Try.ntmps15
      go_wp2_with (go_at_call 12; refine (refSound_any _ _ _).mono ?_; rintro e w' ⟨rfl, rfl⟩)
      go_quiet (fail)
      go_wp2
      exact bodyPost_ret (v := .tuple #[.agg #[.int .i64 0, .int .i64 0], .bool false]) (by simp [results, Try.results15, go_sem]) rfl ⟨rfl, by (repeat (first | exact Below.refl _ _ | (refine Below.alloc ?_ (by simp <;> omega) _) | (refine Below.setCell ?_ (by simp <;> omega) _) | (refine Below.drew ?_) | (refine Go.below_drewN ?_ _)))⟩
    · skip
      simp only [h3, h4, if_false] at hlo hhi
      subst hlo hhi
      go_enter Try.func15, Try.ntmps15
      go_wp2_with (go_at_call 12; refine (refSound_any _ _ _).mono ?_; rintro e w' ⟨rfl, rfl⟩)
      go_quiet (fail)
      go_wp2
      exact bodyPost_ret (v := .tuple #[.agg #[.int .i64 0, .int .i64 0], .bool false]) (by simp [results, Try.results15, go_sem]) rfl ⟨rfl, by (repeat (first | exact Below.refl _ _ | (refine Below.alloc ?_ (by simp <;> omega) _) | (refine Below.setCell ?_ (by simp <;> omega) _) | (refine Below.drew ?_) | (refine Go.below_drewN ?_ _)))⟩
end Go.Proofs.Ytmhbdiaihjhmiaa
