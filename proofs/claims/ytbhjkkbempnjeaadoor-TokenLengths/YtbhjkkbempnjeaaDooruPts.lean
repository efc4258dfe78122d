/- The parts of runs, plainly. -/
import Derived.Test.YtbhjkkbempnjeaaDooruWdP
import Derived.Test.YtbhjkkbempnjeaaDoorgFPure
namespace Go.Proofs.YtbhjkkbempnjeaaDoor
set_option linter.unusedVariables false
open Go.RowKit
theorem lB_ok {r : Int} (h : lB r = true) : okR r = true := by
  rw [okR_iff]
  unfold lB sB gB at h
  simp only [Bool.or_eq_true, Bool.and_eq_true, decide_eq_true_eq, Bool.not_eq_true', decide_eq_false_iff_not] at h
  omega
theorem inn_ok {R : Nat → Int} {k i : Nat} (h : inn R k i = true) : okR (R i) = true := by
  unfold inn at h
  rw [Bool.or_eq_true] at h
  rcases h with h | h
  · unfold ltP at h
    rw [Bool.and_eq_true] at h
    exact lB_ok h.2
  · simp only [Bool.and_eq_true, beq_iff_eq] at h
    rw [h.1.1.2]
    decide
theorem runsF_inn (R : Nat → Int) (k : Nat) : ∀ f i, ∀ p ∈ runsF R k f i, ∀ j, p.1 ≤ j → j < p.2 → inn R k j = true
  | 0, i, p, h => by simp [runsF] at h
  | f + 1, i, p, h => by
    have h' : p ∈ (bif inn R k i then (i, rEnd R k i) :: runsF R k f (rEnd R k i) else runsF R k f (i + 1)) := h
    cases hh : inn R k i
    · rw [hh] at h'
      exact runsF_inn R k f (i + 1) p h'
    · rw [hh] at h'
      rcases List.mem_cons.1 h' with rfl | h'
      · have hlt := inn_lt hh
        exact fun j h1 h2 => rEnd_all (k - i) i (by omega) j h1 h2
      · exact runsF_inn R k f _ p h'
theorem runs_inn (R : Nat → Int) (k i : Nat) {p : Nat × Nat} (h : p ∈ runsL R k i) (j : Nat) (h1 : p.1 ≤ j) (h2 : j < p.2) : inn R k j = true := runsF_inn R k _ i p h j h1 h2
/-- The signs of a part belong to its run. -/
theorem pts_in {R : Nat → Int} {k : Nat} {p : Nat × Nat} (h : p ∈ ptsL R (runsL R k 0)) : p.1 < p.2 ∧ p.2 ≤ k ∧ ∀ j, p.1 ≤ j → j < p.2 → inn R k j = true := by
  obtain ⟨r, hr, hp⟩ := List.mem_flatMap.1 h
  have h1 := runsL_in hr
  have h2 := partsL_in hp
  refine ⟨h2.2.1, by omega, fun j h3 h4 => ?_⟩
  exact runs_inn _ _ _ hr j (by omega) (by omega)
/-- A part's runes can be put; its text has as many signs. -/
theorem part_ok {l : List U3} {p : Nat × Nat} (h : p ∈ ptsL (RU l) (runsL (RU l) l.length 0)) : Ok ((sub l p.1 p.2).map (·.r)) := by
  obtain ⟨h1, h2, h3⟩ := pts_in h
  intro r hr
  obtain ⟨u, hu, rfl⟩ := List.mem_map.1 hr
  obtain ⟨i, hi⟩ := List.mem_iff_getElem?.1 hu
  have hil : i < p.2 - p.1 := by
    have := (List.getElem?_eq_some_iff.1 hi).1
    rw [sub_len (by omega) h2] at this
    exact this
  rw [sub_at hil] at hi
  have := inn_ok (h3 (p.1 + i) (by omega) (by omega))
  rw [RU_at hi] at this
  exact this
theorem tU_tx (l : List U3) : strOfNums (tU l) = tx (l.map (·.r)) := by
  unfold tU tx
  rw [List.flatMap_map]
theorem part_ends {l : List U3} {p : Nat × Nat} (h : p ∈ ptsL (RU l) (runsL (RU l) l.length 0)) : Ends (strOfNums (tU (sub l p.1 p.2))) (p.2 - p.1) := by
  have h1 := tx_ends _ (part_ok h)
  rw [tU_tx]
  rw [List.length_map, sub_len (by have := (pts_in h).1; omega) (pts_in h).2.1] at h1
  exact h1
/-- All parts are kept where all lengths are wanted. -/
theorem words_all {c : Nat → Int} {n : Nat} {l : List U3} {hi : Int} (hh : (l.length : Int) ≤ hi) : wordsL c n l 0 hi = (ptsL (RU l) (runsL (RU l) l.length 0)).map (wOf c n l) := by
  unfold wordsL wordsP
  rw [List.filter_eq_self.2]
  intro p hp
  have h1 := pts_in hp
  unfold kpB
  simp
  omega
end Go.Proofs.YtbhjkkbempnjeaaDoor
