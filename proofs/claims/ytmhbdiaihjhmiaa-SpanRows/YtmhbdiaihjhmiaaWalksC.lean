/- What Check and the reference's In answer, for every span and every number of Go's int. -/
import Derived.Test.YtmhbdiaihjhmiaaWalksB
namespace Go.Proofs.Ytmhbdiaihjhmiaa
open Go.RowKit Go.ChangeShapes
theorem ret_int {k : IntKind} {a b : Int} (h : a = b) : Ending.returned (.int k a) = .returned (.int k b) := by rw [h]
def errB (b : Bool) : Int := bif b then 0 else 2
set_option maxHeartbeats 400000 in
theorem check_any (a l n : Int) (w : World) (hn : n ≤ 9223372036854775807) :
    Calls Try.prog 9 #[.agg #[.int .i64 a, .int .i64 l], .int .i64 n] w fun e w' => e = .returned (.int .i64 (errB (insB a l n))) ∧ w' = w.alloc (.cells #[.int .i64 a, .int .i64 l] 23) := by
  by_cases h1 : 0 ≤ a
  · by_cases h2 : 0 ≤ l
    · by_cases h3 : a ≤ n
      · by_cases h4 : l ≤ n - a
        all_goals
          have e : insB a l n = decide (l ≤ n - a) := by simp [insB, h1, h2, h3]
          have E : errB (insB a l n) = errB (decide (l ≤ n - a)) := by rw [e]
          simp only [h4, decide_true, decide_false] at E
          simp only [errB, cond_true, cond_false] at E
          have HE : Hid _ := E
          clear E e
          go_enter Try.func9, Try.ntmps9
          go_wp2
          go_ret
          exact ⟨ret_int HE.out.symm, rfl⟩
      · go_enter Try.func9, Try.ntmps9
        go_wp2
        go_ret
        have e : insB a l n = false := by simp [insB]; omega
        exact ⟨by simp [errB, e], rfl⟩
    · go_enter Try.func9, Try.ntmps9
      go_wp2
      go_ret
      have e : insB a l n = false := by simp [insB]; omega
      exact ⟨by simp [errB, e], rfl⟩
  · go_enter Try.func9, Try.ntmps9
    go_wp2
    go_ret
    have e : insB a l n = false := by simp [insB]; omega
    exact ⟨by simp [errB, e], rfl⟩
set_option maxHeartbeats 400000 in
theorem refIn_any (a l n : Int) (w : World) (hn : n ≤ 9223372036854775807) :
    Calls Try.prog 11 #[.agg #[.int .i64 a, .int .i64 l], .int .i64 n] w fun e w' => e = .returned (.bool (insB a l n)) ∧ w' = w.alloc (.cells #[.int .i64 a, .int .i64 l] 23) := by
  by_cases h1 : 0 ≤ a
  · by_cases h2 : 0 ≤ l
    · by_cases h3 : a ≤ n
      · by_cases h4 : l ≤ n - a
        all_goals
          go_enter Try.func11, Try.ntmps11
          go_wp2
          go_ret
          exact ⟨by simp [insB, *], rfl⟩
      · go_enter Try.func11, Try.ntmps11
        go_wp2
        go_ret
        exact ⟨by simp [insB]; omega, rfl⟩
    · go_enter Try.func11, Try.ntmps11
      go_wp2
      go_ret
      exact ⟨by simp [insB]; omega, rfl⟩
  · go_enter Try.func11, Try.ntmps11
    go_wp2
    go_ret
    exact ⟨by simp [insB]; omega, rfl⟩
end Go.Proofs.Ytmhbdiaihjhmiaa
