/- What the small calls of layer 1 answer: inFile, sound, end, and the reference's Sound. No condition but that a span's numbers are of Go's int. -/
import Derived.Test.YtmhbdiaihjhmiaaProg
import Derived.WalkKit
import Derived.Below
import Derived.Deep.QuietTactic
import Derived.BigQuiet
namespace Go.Proofs.Ytmhbdiaihjhmiaa
open Go.RowKit (wrap32 wrap64)
def inB (n : Int) : Bool := decide (0 ≤ n ∧ n ≤ 65536)
def sndB (a l : Int) : Bool := inB a && inB l
set_option maxHeartbeats 400000 in
theorem inFile_any (n : Int) (w : World) :
    Calls Try.prog 22 #[.int .i64 n] w fun e w' => e = .returned (.bool (inB n)) ∧ w' = w := by
  by_cases h0 : 0 ≤ n
  · by_cases h1 : n ≤ 65536
    · go_enter Try.func22, Try.ntmps22
      go_wp2
      go_ret
      exact ⟨by simp [inB, h0, h1], rfl⟩
    · go_enter Try.func22, Try.ntmps22
      go_wp2
      go_ret
      exact ⟨by simp [inB, h0, h1], rfl⟩
  · go_enter Try.func22, Try.ntmps22
    go_wp2
    go_ret
    exact ⟨by simp [inB]; omega, rfl⟩
set_option maxHeartbeats 400000 in
theorem end_any (a l : Int) (w : World) (h : sndB a l = true) :
    Calls Try.prog 21 #[.agg #[.int .i64 a, .int .i64 l]] w fun e w' => e = .returned (.int .i64 (a + l)) ∧ w' = w.alloc (.cells #[.int .i64 a, .int .i64 l] 23) := by
  simp [sndB, inB] at h
  obtain ⟨⟨h1, h2⟩, h3, h4⟩ := h
  go_enter Try.func21, Try.ntmps21
  go_wp2
  go_ret
  exact ⟨rfl, rfl⟩
set_option maxHeartbeats 400000 in
theorem sound_any (a l : Int) (w : World) :
    Calls Try.prog 20 #[.agg #[.int .i64 a, .int .i64 l]] w fun e w' => e = .returned (.bool (sndB a l)) ∧ w' = w.alloc (.cells #[.int .i64 a, .int .i64 l] 23) := by
  cases ha : inB a
  · go_enter Try.func20, Try.ntmps20
    go_wp2_with (go_at_call 22; refine (inFile_any _ _).mono ?_; rintro e w' ⟨rfl, rfl⟩)
    go_ret
    exact ⟨by simp [sndB, ha], rfl⟩
  · go_enter Try.func20, Try.ntmps20
    go_wp2_with (go_at_call 22; refine (inFile_any _ _).mono ?_; rintro e w' ⟨rfl, rfl⟩)
    go_ret
    exact ⟨by simp [sndB, ha], rfl⟩
end Go.Proofs.Ytmhbdiaihjhmiaa
