/- A part's signs lie at places that are there. -/
import Derived.Test.YtbhjkkbempnjeaaDoorwSpc
namespace Go.Proofs.YtbhjkkbempnjeaaDoor
set_option linter.unusedVariables false
open Go.RowKit
theorem un_pos {f l : Int} {c : Nat → Int} {e : Nat} (hc : ∀ j, j < e → 0 ≤ c j ∧ c j ≤ 255) : ∀ d i, e - i = d → ∀ u ∈ un f l c e i, ∃ a k : Nat, u.a = (a : Int) ∧ u.n = (k : Int) ∧ i ≤ a ∧ 0 < k ∧ a + k ≤ e ∧ -1 ≤ u.r ∧ u.r ≤ 1114111 := by
  intro d
  induction d using Nat.strongRecOn with
  | ind d ih =>
    intro i hd u hu
    rcases Nat.lt_or_ge i e with h | h
    · obtain ⟨⟨r, k⟩, hu1⟩ : ∃ x, u1 f l (fun j => c (i + j)) (e - i) = x := ⟨_, rfl⟩
      have h1 := u1_le (f := f) (l := l) (c := fun j => c (i + j)) (n := e - i) (by omega) (fun h => hc _ (by omega))
      rw [hu1] at h1
      dsimp only at h1
      rw [un_step hc h hu1] at hu
      rcases List.mem_cons.1 hu with rfl | hu
      · exact ⟨i, k, rfl, rfl, Nat.le_refl _, by omega, by omega, by show -1 ≤ r; omega, by show r ≤ _; omega⟩
      · obtain ⟨a, k', q1, q2, q3, q4⟩ := ih (e - (i + k)) (by omega) (i + k) rfl u hu
        exact ⟨a, k', q1, q2, by omega, q4⟩
    · rw [un_end h] at hu
      cases hu
end Go.Proofs.YtbhjkkbempnjeaaDoor
