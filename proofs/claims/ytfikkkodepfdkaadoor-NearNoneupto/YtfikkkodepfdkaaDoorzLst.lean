/- dist: Last, differ, Least. -/
import Derived.Test.YtfikkkodepfdkaaDoorzFst
namespace Go.Proofs.YtfikkkodepfdkaaDoor.Qns
set_option linter.unusedVariables false
open Go.RowKit Go.ChangeShapes
theorem last_any {w : World} {b off k c : Nat} {N : Nat → Int} (h : Is w b off (k + 1) N) (hk : k ≤ 1000) :
    Calls Tryd.prog 71 #[.slice (some ⟨b, off, none⟩) (k + 1) c] w fun e w' => e = .returned (.int .i64 (N k)) ∧ w' = w := by
  have hc := h k (by omega)
  have z1 : ((k : Nat) : Int) < (k : Int) + 1 := by omega
  have z2 : (0 : Int) ≤ (k : Int) := by omega
  have z3 : ¬ (k : Int) < 0 := by omega
  clear h
  go_enter Tryd.func71, Tryd.ntmps71
  go_wp2
  go_ret
  exact ⟨rfl, rfl⟩
theorem last_none (ad : Option Addr) (c : Nat) (w : World) :
    Calls Tryd.prog 71 #[.slice ad 0 c] w fun e w' => e = .returned (.int .i64 0) ∧ w' = w := by
  go_enter Tryd.func71, Tryd.ntmps71
  go_wp2
  go_ret
  exact ⟨rfl, rfl⟩
theorem least_none (ad : Option Addr) (c : Nat) (w : World) :
    Calls Tryd.prog 70 #[.slice ad 0 c] w fun e w' => e = .returned (.int .i64 0) ∧ w' = w := by
  go_enter Tryd.func70, Tryd.ntmps70
  go_wp2
  go_ret
  exact ⟨rfl, rfl⟩
theorem differ_any (x y : Int) (w : World) :
    Calls Tryd.prog 87 #[.int .i32 x, .int .i32 y] w fun e w' => e = .returned (.int .i64 (if x = y then 0 else 1)) ∧ w' = w := by
  by_cases h : x = y
  · subst h
    rw [if_pos rfl]
    go_enter Tryd.func87, Tryd.ntmps87
    go_wp2
    go_ret
    exact ⟨rfl, rfl⟩
  · rw [if_neg h]
    go_enter Tryd.func87, Tryd.ntmps87
    go_wp2
    go_ret
    exact ⟨rfl, rfl⟩
/-- The least of the first k + 1. -/
def lst (N : Nat → Int) : Nat → Int
  | 0 => N 0
  | k + 1 => min (lst N k) (N (k + 1))
theorem min_any {w : World} {b off k c : Nat} {N : Nat → Int} (h : Is w b off (k + 1) N) (hk : k ≤ 1000) :
    Calls Tryd.prog 86 #[.slice (some ⟨b, off, none⟩) (k + 1) c] w fun e w' => e = .returned (.int .i64 (lst N k)) ∧ w' = w := by
  have H : Hid (Is w b off (k + 1) N) := h
  have hc := h 0 (by omega)
  rw [Nat.add_zero] at hc
  clear h
  have z0 : ¬ ((k : Int) + 1 < 1) := by omega
  have z1 : (0 : Int) < (k : Int) + 1 := by omega
  go_enter Tryd.func86, Tryd.ntmps86
  go_wp2
  go_loopg [3, 4] k (fun g mv iv wr => ∃ i : Nat, i ≤ k ∧ g = k - i ∧ mv = .int .i64 (lst N i) ∧ iv = .int .i64 ((i + 1 : Nat) : Int) ∧ Hid (wr = w))
  case atStart => exact ⟨0, Nat.zero_le _, rfl, rfl, rfl, rfl⟩
  case round =>
    obtain ⟨i, hi, hg, rfl, rfl, HW⟩ := hrel
    obtain rfl := HW.out
    by_cases hlt : i < k
    · have z2 : ((i + 1 : Nat) : Int) < (k : Int) + 1 := by omega
      have z3 : (0 : Int) ≤ ((i + 1 : Nat) : Int) := by omega
      have z4 : ¬ ((i + 1 : Nat) : Int) < 0 := by omega
      have hc2 := H.out (i + 1) (by omega)
      generalize hx : lst N i = x
      have HX : Hid (lst N i = x) := hx
      clear hx
      generalize hy : N (i + 1) = y at hc2
      have HY : Hid (N (i + 1) = y) := hy
      clear hy
      by_cases hxy : y < x
      · go_wp2
        go_roundg (k - (i + 1))
        case measure => omega
        case rel => exact ⟨i + 1, by omega, rfl, by show _ = Value.int .i64 (min (lst N i) (N (i + 1))); rw [HX.out, HY.out]; congr 1; omega, by go_num, rfl⟩
      · go_wp2
        go_roundg (k - (i + 1))
        case measure => omega
        case rel => exact ⟨i + 1, by omega, rfl, by show _ = Value.int .i64 (min (lst N i) (N (i + 1))); rw [HX.out, HY.out]; congr 1; omega, by go_num, rfl⟩
    · obtain rfl : i = k := by omega
      have z2 : ¬ ((i + 1 : Nat) : Int) < (i : Int) + 1 := by omega
      go_wp2
      go_ret
      exact ⟨rfl, rfl⟩
theorem least_any {w : World} {b off k c : Nat} {N : Nat → Int} (h : Is w b off (k + 1) N) (hk : k ≤ 1000) :
    Calls Tryd.prog 70 #[.slice (some ⟨b, off, none⟩) (k + 1) c] w fun e w' => e = .returned (.int .i64 (lst N k)) ∧ w' = w := by
  have c1 := min_any (c := c) h hk
  clear h
  go_enter Tryd.func70, Tryd.ntmps70
  go_wp2_with fail
  refine c1.mono ?_
  rintro e w1 ⟨rfl, h1⟩
  subst w1
  clear c1
  go_wp2
  go_ret
  exact ⟨rfl, rfl⟩
end Go.Proofs.YtfikkkodepfdkaaDoor.Qns
