/- What Meet and Join of layer 1, and the reference's Meet and Join, answer, for any two spans. -/
import Derived.Test.YtmhbdiaihjhmiaaWalksB
import Derived.Deep.RegionHeld3
import Derived.BigRegion
namespace Go.Proofs.Ytmhbdiaihjhmiaa
open Go.RowKit Go.ChangeShapes
def meetB (a l b m : Int) : Bool := sndB a l && sndB b m && decide (max a b < min (a + l) (b + m))
def meetAt (a l b m : Int) : Int := if meetB a l b m = true then max a b else 0
def meetLen (a l b m : Int) : Int := if meetB a l b m = true then min (a + l) (b + m) - max a b else 0
def bothB (a l b m : Int) : Bool := sndB a l && sndB b m
def joinAt (a l b m : Int) : Int := if bothB a l b m = true then min a b else 0
def joinLen (a l b m : Int) : Int := if bothB a l b m = true then max (a + l) (b + m) - min a b else 0
set_option maxHeartbeats 400000 in
theorem meet_no (a l b m : Int) (w : World) (h : bothB a l b m = false) :
    Calls Try.prog 14 #[.agg #[.int .i64 a, .int .i64 l], .agg #[.int .i64 b, .int .i64 m]] w fun e w' => e = .returned (.tuple #[.agg #[.int .i64 0, .int .i64 0], .bool false]) ∧ Below w.heap.size w w' := by
  cases h1 : sndB a l
  · go_enter Try.func14, Try.ntmps14
    go_wp2_with (go_at_call 20; refine (sound_any _ _ _).mono ?_; rintro e w' ⟨rfl, rfl⟩)
    exact bodyPost_ret (v := .tuple #[.agg #[.int .i64 0, .int .i64 0], .bool false]) (by simp [results, Try.results14, go_sem]) rfl ⟨rfl, by (repeat (first | exact Below.refl _ _ | (refine Below.alloc ?_ (by simp <;> omega) _) | (refine Below.setCell ?_ (by simp <;> omega) _) | (refine Below.drew ?_)))⟩
  · have h2 : sndB b m = false := by simpa [bothB, h1] using h
    go_enter Try.func14, Try.ntmps14
    go_wp2_with (go_at_call 20; refine (sound_any _ _ _).mono ?_; rintro e w' ⟨rfl, rfl⟩)
    exact bodyPost_ret (v := .tuple #[.agg #[.int .i64 0, .int .i64 0], .bool false]) (by simp [results, Try.results14, go_sem]) rfl ⟨rfl, by (repeat (first | exact Below.refl _ _ | (refine Below.alloc ?_ (by simp <;> omega) _) | (refine Below.setCell ?_ (by simp <;> omega) _) | (refine Below.drew ?_)))⟩
set_option maxHeartbeats 1000000 in
theorem meet_mid (a l b m lo hi : Int) (w : World) (h1 : sndB a l = true) (h2 : sndB b m = true) (hlo : (if a < b then b else a) = lo) (hhi : (if b + m < a + l then b + m else a + l) = hi) (hlh : lo < hi) (r1 : 0 ≤ lo) (r2 : hi ≤ 131072) :
    Calls Try.prog 14 #[.agg #[.int .i64 a, .int .i64 l], .agg #[.int .i64 b, .int .i64 m]] w fun e w' => e = .returned (.tuple #[.agg #[.int .i64 lo, .int .i64 (hi - lo)], .bool true]) ∧ Below w.heap.size w w' := by
  go_enter Try.func14, Try.ntmps14
  go_wp2_with (go_at_call 20; refine (sound_any _ _ _).mono ?_; rintro e w' ⟨rfl, rfl⟩)
  go_region_held3 (fun w' => w'.cell? ⟨w.heap.size, 0, none⟩ = some (.int .i64 a) ∧ w'.cell? ⟨w.heap.size, 1, none⟩ = some (.int .i64 l) ∧ w'.cell? ⟨w.heap.size + 1, 0, none⟩ = some (.int .i64 b) ∧ w'.cell? ⟨w.heap.size + 1, 1, none⟩ = some (.int .i64 m)) (first | go_simp | go_keep) (first | (go_at_call_of 21 a; refine (end_any _ _ _ h1).mono ?_; rintro e w' ⟨rfl, rfl⟩) | (go_at_call_of 21 b; refine (end_any _ _ _ h2).mono ?_; rintro e w' ⟨rfl, rfl⟩))
  all_goals
    go_wp2
    exact bodyPost_ret (v := .tuple #[.agg #[.int .i64 lo, .int .i64 (hi - lo)], .bool true]) (by simp [results, Try.results14, go_sem]) rfl ⟨rfl, by (repeat (first | exact Below.refl _ _ | (refine Below.alloc ?_ (by simp <;> omega) _) | (refine Below.setCell ?_ (by simp <;> omega) _) | (refine Below.drew ?_)))⟩
set_option maxHeartbeats 1000000 in
theorem meet_off (a l b m lo hi : Int) (w : World) (h1 : sndB a l = true) (h2 : sndB b m = true) (hlo : (if a < b then b else a) = lo) (hhi : (if b + m < a + l then b + m else a + l) = hi) (hlh : hi ≤ lo) :
    Calls Try.prog 14 #[.agg #[.int .i64 a, .int .i64 l], .agg #[.int .i64 b, .int .i64 m]] w fun e w' => e = .returned (.tuple #[.agg #[.int .i64 0, .int .i64 0], .bool false]) ∧ Below w.heap.size w w' := by
  go_enter Try.func14, Try.ntmps14
  go_wp2_with (go_at_call 20; refine (sound_any _ _ _).mono ?_; rintro e w' ⟨rfl, rfl⟩)
  go_region_held3 (fun w' => w'.cell? ⟨w.heap.size, 0, none⟩ = some (.int .i64 a) ∧ w'.cell? ⟨w.heap.size, 1, none⟩ = some (.int .i64 l) ∧ w'.cell? ⟨w.heap.size + 1, 0, none⟩ = some (.int .i64 b) ∧ w'.cell? ⟨w.heap.size + 1, 1, none⟩ = some (.int .i64 m)) (first | go_simp | go_keep) (first | (go_at_call_of 21 a; refine (end_any _ _ _ h1).mono ?_; rintro e w' ⟨rfl, rfl⟩) | (go_at_call_of 21 b; refine (end_any _ _ _ h2).mono ?_; rintro e w' ⟨rfl, rfl⟩))
  all_goals
    go_wp2
    exact bodyPost_ret (v := .tuple #[.agg #[.int .i64 0, .int .i64 0], .bool false]) (by simp [results, Try.results14, go_sem]) rfl ⟨rfl, by (repeat (first | exact Below.refl _ _ | (refine Below.alloc ?_ (by simp <;> omega) _) | (refine Below.setCell ?_ (by simp <;> omega) _) | (refine Below.drew ?_)))⟩
end Go.Proofs.Ytmhbdiaihjhmiaa
