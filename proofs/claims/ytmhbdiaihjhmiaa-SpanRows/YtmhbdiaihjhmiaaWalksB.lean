/- What Check, End, Has of layer 1 and the reference's In and Sound answer, for every span. -/
import Derived.Test.YtmhbdiaihjhmiaaWalksA
namespace Go.Proofs.Ytmhbdiaihjhmiaa
open Go.RowKit Go.ChangeShapes
def insB (a l n : Int) : Bool := decide (0 ≤ a ∧ 0 ≤ l ∧ a ≤ n ∧ l ≤ n - a)
def hasB (a l p : Int) : Bool := sndB a l && decide (a ≤ p ∧ p < a + l)
theorem snd_iff (a l : Int) : sndB a l = true ↔ (0 ≤ a ∧ a ≤ 65536) ∧ 0 ≤ l ∧ l ≤ 65536 := by simp [sndB, inB]
set_option maxHeartbeats 400000 in
theorem refSound_any (a l : Int) (w : World) :
    Calls Try.prog 12 #[.agg #[.int .i64 a, .int .i64 l]] w fun e w' => e = .returned (.bool (sndB a l)) ∧ w' = w.alloc (.cells #[.int .i64 a, .int .i64 l] 23) := by
  by_cases h1 : 0 ≤ a
  · by_cases h2 : a ≤ 65536
    · by_cases h3 : 0 ≤ l
      · by_cases h4 : l ≤ 65536
        all_goals
          go_enter Try.func12, Try.ntmps12
          go_wp2
          go_ret
          exact ⟨by simp [sndB, inB, *], rfl⟩
      · go_enter Try.func12, Try.ntmps12
        go_wp2
        go_ret
        exact ⟨by simp [sndB, inB]; omega, rfl⟩
    · go_enter Try.func12, Try.ntmps12
      go_wp2
      go_ret
      exact ⟨by simp [sndB, inB]; omega, rfl⟩
  · go_enter Try.func12, Try.ntmps12
    go_wp2
    go_ret
    exact ⟨by simp [sndB, inB]; omega, rfl⟩
set_option maxHeartbeats 400000 in
theorem end2_any (a l : Int) (w : World) :
    Calls Try.prog 10 #[.agg #[.int .i64 a, .int .i64 l]] w fun e w' => e = .returned (.tuple #[.int .i64 (if sndB a l = true then a + l else 0), .int .i64 (if sndB a l = true then 0 else 2)]) ∧ Below w.heap.size w w' := by
  cases h : sndB a l
  · go_enter Try.func10, Try.ntmps10
    go_wp2_with (go_at_call 20; refine (sound_any _ _ _).mono ?_; rintro e w' ⟨rfl, rfl⟩)
    go_ret2
    exact ⟨by simp, ((Below.refl _ _).alloc (Nat.le_refl _) _).alloc (by simp) _⟩
  · go_enter Try.func10, Try.ntmps10
    go_wp2_with (first | (go_at_call 20; refine (sound_any _ _ _).mono ?_; rintro e w' ⟨rfl, rfl⟩) | (go_at_call 21; refine (end_any _ _ _ h).mono ?_; rintro e w' ⟨rfl, rfl⟩))
    go_ret2
    exact ⟨by simp, (((Below.refl _ _).alloc (Nat.le_refl _) _).alloc (by simp) _).alloc (by simp; omega) _⟩
set_option maxHeartbeats 400000 in
theorem has_any (a l p : Int) (w : World) :
    Calls Try.prog 13 #[.agg #[.int .i64 a, .int .i64 l], .int .i64 p] w fun e w' => e = .returned (.bool (hasB a l p)) ∧ Below w.heap.size w w' := by
  cases h : sndB a l
  · go_enter Try.func13, Try.ntmps13
    go_wp2_with (go_at_call 20; refine (sound_any _ _ _).mono ?_; rintro e w' ⟨rfl, rfl⟩)
    go_ret
    exact ⟨by simp [hasB, h], ((Below.refl _ _).alloc (Nat.le_refl _) _).alloc (by simp) _⟩
  · by_cases h1 : a ≤ p
    · by_cases h2 : p < a + l
      all_goals
        go_enter Try.func13, Try.ntmps13
        go_wp2_with (first | (go_at_call 20; refine (sound_any _ _ _).mono ?_; rintro e w' ⟨rfl, rfl⟩) | (go_at_call 21; refine (end_any _ _ _ h).mono ?_; rintro e w' ⟨rfl, rfl⟩))
        go_ret
        exact ⟨by simp [hasB, h, h1, h2], (((Below.refl _ _).alloc (Nat.le_refl _) _).alloc (by simp) _).alloc (by simp; omega) _⟩
    · go_enter Try.func13, Try.ntmps13
      go_wp2_with (first | (go_at_call 20; refine (sound_any _ _ _).mono ?_; rintro e w' ⟨rfl, rfl⟩) | (go_at_call 21; refine (end_any _ _ _ h).mono ?_; rintro e w' ⟨rfl, rfl⟩))
      go_ret
      exact ⟨by simp [hasB, h]; omega, ((Below.refl _ _).alloc (Nat.le_refl _) _).alloc (by simp) _⟩
end Go.Proofs.Ytmhbdiaihjhmiaa
