/- What Join of layer 1 answers, for any two spans. -/
import Derived.Test.YtmhbdiaihjhmiaaWalksD
namespace Go.Proofs.Ytmhbdiaihjhmiaa
open Go.RowKit Go.ChangeShapes
set_option maxHeartbeats 400000 in
theorem join_no (a l b m : Int) (w : World) (h : bothB a l b m = false) :
    Calls Try.prog 16 #[.agg #[.int .i64 a, .int .i64 l], .agg #[.int .i64 b, .int .i64 m]] w fun e w' => e = .returned (.tuple #[.agg #[.int .i64 0, .int .i64 0], .int .i64 2]) ∧ Below w.heap.size w w' := by
  cases h1 : sndB a l
  · go_enter Try.func16, Try.ntmps16
    go_wp2_with (go_at_call 20; refine (sound_any _ _ _).mono ?_; rintro e w' ⟨rfl, rfl⟩)
    exact bodyPost_ret (v := .tuple #[.agg #[.int .i64 0, .int .i64 0], .int .i64 2]) (by simp [results, Try.results16, go_sem]) rfl ⟨rfl, by (repeat (first | exact Below.refl _ _ | (refine Below.alloc ?_ (by simp <;> omega) _) | (refine Below.setCell ?_ (by simp <;> omega) _) | (refine Below.drew ?_)))⟩
  · have h2 : sndB b m = false := by simpa [bothB, h1] using h
    go_enter Try.func16, Try.ntmps16
    go_wp2_with (go_at_call 20; refine (sound_any _ _ _).mono ?_; rintro e w' ⟨rfl, rfl⟩)
    exact bodyPost_ret (v := .tuple #[.agg #[.int .i64 0, .int .i64 0], .int .i64 2]) (by simp [results, Try.results16, go_sem]) rfl ⟨rfl, by (repeat (first | exact Below.refl _ _ | (refine Below.alloc ?_ (by simp <;> omega) _) | (refine Below.setCell ?_ (by simp <;> omega) _) | (refine Below.drew ?_)))⟩
set_option maxHeartbeats 1000000 in
theorem join_mid (a l b m lo hi : Int) (w : World) (h1 : sndB a l = true) (h2 : sndB b m = true) (hlo : (if b < a then b else a) = lo) (hhi : (if a + l < b + m then b + m else a + l) = hi) (hlh : lo ≤ hi) (r1 : 0 ≤ lo) (r2 : hi ≤ 131072) :
    Calls Try.prog 16 #[.agg #[.int .i64 a, .int .i64 l], .agg #[.int .i64 b, .int .i64 m]] w fun e w' => e = .returned (.tuple #[.agg #[.int .i64 lo, .int .i64 (hi - lo)], .int .i64 0]) ∧ Below w.heap.size w w' := by
  go_enter Try.func16, Try.ntmps16
  go_wp2_with (go_at_call 20; refine (sound_any _ _ _).mono ?_; rintro e w' ⟨rfl, rfl⟩)
  go_region_held3 (fun w' => w'.cell? ⟨w.heap.size, 0, none⟩ = some (.int .i64 a) ∧ w'.cell? ⟨w.heap.size, 1, none⟩ = some (.int .i64 l) ∧ w'.cell? ⟨w.heap.size + 1, 0, none⟩ = some (.int .i64 b) ∧ w'.cell? ⟨w.heap.size + 1, 1, none⟩ = some (.int .i64 m)) (first | go_simp | go_keep) (first | (go_at_call_of 21 a; refine (end_any _ _ _ h1).mono ?_; rintro e w' ⟨rfl, rfl⟩) | (go_at_call_of 21 b; refine (end_any _ _ _ h2).mono ?_; rintro e w' ⟨rfl, rfl⟩))
  all_goals
    go_wp2
    exact bodyPost_ret (v := .tuple #[.agg #[.int .i64 lo, .int .i64 (hi - lo)], .int .i64 0]) (by simp [results, Try.results16, go_sem]) rfl ⟨rfl, by (repeat (first | exact Below.refl _ _ | (refine Below.alloc ?_ (by simp <;> omega) _) | (refine Below.setCell ?_ (by simp <;> omega) _) | (refine Below.drew ?_)))⟩
end Go.Proofs.Ytmhbdiaihjhmiaa
