/- ref.tail. -/
import Derived.Test.YtkfgfbdalkifjaaDoorkA
namespace Go.Proofs.YtkfgfbdalkifjaaDoor.Lns
set_option linter.unusedVariables false
open Go.RowKit Go.ChangeShapes
theorem tail_any (b off n cap i x : Nat) (w : World) (hx : i < n → w.cell? ⟨b, off + i, none⟩ = some (.int .u8 x)) :
    Calls Tryd.prog 56 #[.slice (some ⟨b, off, none⟩) n cap, .int .i64 i] w fun e w' => e = .returned (.bool (tailB n i x)) ∧ w' = w := by
  by_cases h : i < n
  · have hc := hx h
    have h' : (i : Int) < (n : Int) := by omega
    have h0 : (0 : Int) ≤ (i : Int) := by omega
    by_cases h1 : 128 ≤ x
    · have h1' : (128 : Int) ≤ (x : Int) := by omega
      have ht : tailB n i x = decide ((x : Int) < 192) := by simp only [tailB, h, h1, decide_true, Bool.true_and]; exact decide_eq_decide.2 (by omega)
      rw [ht]
      go_enter Tryd.func56, Tryd.ntmps56
      go_wp2
      go_ret
      exact ⟨rfl, rfl⟩
    · have h1' : ¬ (128 : Int) ≤ (x : Int) := by omega
      have ht : tailB n i x = false := by simp [tailB, h1]
      rw [ht]
      go_enter Tryd.func56, Tryd.ntmps56
      go_wp2
      go_ret
      exact ⟨rfl, rfl⟩
  · have h' : ¬ (i : Int) < (n : Int) := by omega
    have ht : tailB n i x = false := by simp [tailB, h]
    rw [ht]
    go_enter Tryd.func56, Tryd.ntmps56
    go_wp2
    go_ret
    exact ⟨rfl, rfl⟩
end Go.Proofs.YtkfgfbdalkifjaaDoor.Lns
