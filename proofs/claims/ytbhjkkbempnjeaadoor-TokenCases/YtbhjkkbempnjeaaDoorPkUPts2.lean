/- The parts of runs, plainly. -/
import Derived.Test.YtbhjkkbempnjeaaDooruWdP
import Derived.Test.YtbhjkkbempnjeaaDoorgFPure
namespace Go.Proofs.YtbhjkkbempnjeaaDoor
set_option linter.unusedVariables false
open Go.RowKit
theorem lB_ok {r : Int} (h : lB r = true) : okR r = true := by
  rw [okR_iff]
  unfold lB sB gB at h
  simp only [Bool.or_eq_true, Bool.and_eq_true, decide_eq_true_eq, Bool.not_eq_true', decide_eq_false_iff_not] at h
  omega
theorem inn_ok {R : Nat → Int} {k i : Nat} (h : inn R k i = true) : okR (R i) = true := by
  unfold inn at h
  rw [Bool.or_eq_true] at h
  rcases h with h | h
  · unfold ltP at h
    rw [Bool.and_eq_true] at h
    exact lB_ok h.2
  · simp only [Bool.and_eq_true, beq_iff_eq] at h
    rw [h.1.1.2]
    decide
theorem runsF_inn (R : Nat → Int) (k : Nat) : ∀ f i, ∀ p ∈ runsF R k f i, ∀ j, p.1 ≤ j → j < p.2 → inn R k j = true
  | 0, i, p, h => by simp [runsF] at h
  | f + 1, i, p, h => by
    have h' : p ∈ (bif inn R k i then (i, rEnd R k i) :: runsF R k f (rEnd R k i) else runsF R k f (i + 1)) := h
    cases hh : inn R k i
    · rw [hh] at h'
      exact runsF_inn R k f (i + 1) p h'
    · rw [hh] at h'
      rcases List.mem_cons.1 h' with rfl | h'
      · have hlt := inn_lt hh
        exact fun j h1 h2 => rEnd_all (k - i) i (by omega) j h1 h2
      · exact runsF_inn R k f _ p h'
theorem runs_inn (R : Nat → Int) (k i : Nat) {p : Nat × Nat} (h : p ∈ runsL R k i) (j : Nat) (h1 : p.1 ≤ j) (h2 : j < p.2) : inn R k j = true := runsF_inn R k _ i p h j h1 h2
/-- The signs of a part belong to its run. -/
theorem pts_in {R : Nat → Int} {k : Nat} {p : Nat × Nat} (h : p ∈ ptsL R (runsL R k 0)) : p.1 < p.2 ∧ p.2 ≤ k ∧ ∀ j, p.1 ≤ j → j < p.2 → inn R k j = true := by
  obtain ⟨r, hr, hp⟩ := List.mem_flatMap.1 h
  have h1 := runsL_in hr
  have h2 := partsL_in hp
  refine ⟨h2.2.1, by omega, fun j h3 h4 => ?_⟩
  exact runs_inn _ _ _ hr j (by omega) (by omega)
/-- A part's runes can be put; its text has as many signs. -/
theorem part_ok {l : List U3} {p : Nat × Nat} (h : p ∈ ptsL (RU l) (runsL (RU l) l.length 0)) : Ok ((sub l p.1 p.2).map (·.r)) := by
  obtain ⟨h1, h2, h3⟩ := pts_in h
  intro r hr
  obtain ⟨u, hu, rfl⟩ := List.mem_map.1 hr
  obtain ⟨i, hi⟩ := List.mem_iff_getElem?.1 hu
  have hil : i < p.2 - p.1 := by
    have := (List.getElem?_eq_some_iff.1 hi).1
    rw [sub_len (by omega) h2] at this
    exact this
  rw [sub_at hil] at hi
  have := inn_ok (h3 (p.1 + i) (by omega) (by omega))
  rw [RU_at hi] at this
  exact this
theorem tU_tx (l : List U3) : strOfNums (tU l) = tx (l.map (·.r)) := by
  unfold tU tx
  rw [List.flatMap_map]
theorem part_ends {l : List U3} {p : Nat × Nat} (h : p ∈ ptsL (RU l) (runsL (RU l) l.length 0)) : Ends (strOfNums (tU (sub l p.1 p.2))) (p.2 - p.1) := by
  have h1 := tx_ends _ (part_ok h)
  rw [tU_tx]
  rw [List.length_map, sub_len (by have := (pts_in h).1; omega) (pts_in h).2.1] at h1
  exact h1
/-- All parts are kept where all lengths are wanted. -/
theorem words_all {c : Nat → Int} {n : Nat} {l : List U3} {hi : Int} (hh : (l.length : Int) ≤ hi) : wordsL c n l 0 hi = (ptsL (RU l) (runsL (RU l) l.length 0)).map (wOf c n l) := by
  unfold wordsL wordsP
  rw [List.filter_eq_self.2]
  intro p hp
  have h1 := pts_in hp
  unfold kpB
  simp
  omega
end Go.Proofs.YtbhjkkbempnjeaaDoor
/- Words put together: their parts, plainly. -/
namespace Go.Proofs.YtbhjkkbempnjeaaDoor
set_option linter.unusedVariables false
open Go.RowKit
/-- One behind the other, from a place on. -/
def spans : Nat → List Nat → List (Nat × Nat)
  | _, [] => []
  | i, l :: t => (i, i + l) :: spans (i + l) t
/-- A great letter, then small ones, again and again. -/
def PatG (R : Nat → Int) : Nat → List Nat → Prop
  | _, [] => True
  | i, l :: t => gB (R i) = true ∧ (∀ j, i < j → j < i + l → sB (R j) = true) ∧ PatG R (i + l) t
theorem sB_no {r : Int} (h : sB r = true) : gB r = false := by
  cases hg : gB r
  · rfl
  · rw [not_both hg] at h
    cases h
theorem pGo_to {R : Nat → Int} {e x : Nat} (hx : x ≤ e) (hc : x = e ∨ cutB R e x = true) : ∀ d q, q + d = x → (∀ j, q ≤ j → j < x → cutB R e j = false) → pGo R e q = x
  | 0, q, h, _ => by
    obtain rfl : q = x := by omega
    rcases hc with rfl | hc
    · exact pGo_end (Nat.le_refl _)
    · exact pGo_cut hc
  | d + 1, q, h, hn => by
    rw [pGo_on (hn q (Nat.le_refl _) (by omega)) (by omega)]
    exact pGo_to hx hc d (q + 1) (by omega) (fun j h1 h2 => hn j (by omega) h2)
theorem parts_spans {R : Nat → Int} {e : Nat} : ∀ (ls : List Nat) (i : Nat), i + ls.sum = e → (∀ l ∈ ls, 2 ≤ l) → PatG R i ls → partsL R e i = spans i ls
  | [], i, h, _, _ => by
    rw [List.sum_nil] at h
    exact partsL_end (by omega)
  | l :: t, i, h, h2, hp => by
    obtain ⟨hg, hs, ht⟩ := hp
    rw [List.sum_cons] at h
    have hl := h2 l (List.mem_cons_self ..)
    have hend : i + l = e ∨ cutB R e (i + l) = true := by
      cases t with
      | nil => left; rw [List.sum_nil] at h; omega
      | cons l' t' =>
        right
        unfold cutB
        rw [ht.1, hs (i + l - 1) (by omega) (by omega)]
        rfl
    have hno : ∀ j, i + 1 ≤ j → j < i + l → cutB R e j = false := fun j h3 h4 => by
      unfold cutB
      rw [sB_no (hs j (by omega) h4)]
      rfl
    rw [partsL_step (by omega), pGo_to (x := i + l) (by omega) hend (l - 1) (i + 1) (by omega) hno]
    show _ = (i, i + l) :: spans (i + l) t
    rw [parts_spans t (i + l) (by omega) (fun x hx => h2 x (List.mem_cons_of_mem _ hx)) ht]
theorem parts_one {R : Nat → Int} {e i : Nat} (hi : i < e) (h : ∀ j, i < j → j < e → cutB R e j = false) : partsL R e i = [(i, e)] := by
  rw [partsL_step hi, pGo_to (x := e) (Nat.le_refl _) (Or.inl rfl) (e - (i + 1)) (i + 1) (by omega) (fun j h1 h2 => h j (by omega) h2), partsL_end (Nat.le_refl _)]
theorem cut_small {R : Nat → Int} {e j : Nat} (h : sB (R j) = true) : cutB R e j = false := by
  unfold cutB
  rw [sB_no h]
  rfl
theorem cut_great {R : Nat → Int} {e j : Nat} (h1 : gB (R (j - 1)) = true) (h2 : j + 1 < e → gB (R (j + 1)) = true) : cutB R e j = false := by
  unfold cutB
  rw [not_both h1]
  by_cases h3 : j + 1 < e
  · rw [not_both (h2 h3)]
    simp
  · rw [show decide (j + 1 < e) = false by simpa using h3]
    simp
theorem rEnd_letters {R : Nat → Int} {k : Nat} : ∀ d i, i + d = k → (∀ j, i ≤ j → j < k → lB (R j) = true) → rEnd R k i = k
  | 0, i, h, _ => by rw [rEnd_out (inn_ge (by omega))]; omega
  | d + 1, i, h, hl => by
    rw [rEnd_in (inn_let (by rw [ltP_yes (by omega)]; exact hl i (Nat.le_refl _) (by omega)))]
    exact rEnd_letters d (i + 1) (by omega) (fun j h1 h2 => hl j (by omega) h2)
theorem runs_letters {R : Nat → Int} {k : Nat} (hk : 0 < k) (hl : ∀ j, j < k → lB (R j) = true) : runsL R k 0 = [(0, k)] := by
  rw [runsL_yes (inn_let (by rw [ltP_yes hk]; exact hl 0 hk)), rEnd_letters k 0 (by omega) (fun j _ h2 => hl j h2), runsL_end (Nat.le_refl _)]
/-- Words with a great first letter, put together, are cut where they were. -/
theorem pts_spans {R : Nat → Int} {k : Nat} {ls : List Nat} (hk : 0 < k) (h : ls.sum = k) (h2 : ∀ l ∈ ls, 2 ≤ l) (hp : PatG R 0 ls) (hl : ∀ j, j < k → lB (R j) = true) : ptsL R (runsL R k 0) = spans 0 ls := by
  rw [runs_letters hk hl]
  show partsL R k 0 ++ [] = _
  rw [List.append_nil]
  exact parts_spans ls 0 (by omega) h2 hp
theorem pts_small {R : Nat → Int} {k : Nat} (hk : 0 < k) (hs : ∀ j, j < k → sB (R j) = true) (hl : ∀ j, j < k → lB (R j) = true) : ptsL R (runsL R k 0) = [(0, k)] := by
  rw [runs_letters hk hl]
  show partsL R k 0 ++ [] = _
  rw [List.append_nil]
  exact parts_one hk (fun j _ h2 => cut_small (hs j h2))
theorem pts_great {R : Nat → Int} {k : Nat} (hk : 0 < k) (hg : ∀ j, j < k → gB (R j) = true) (hl : ∀ j, j < k → lB (R j) = true) : ptsL R (runsL R k 0) = [(0, k)] := by
  rw [runs_letters hk hl]
  show partsL R k 0 ++ [] = _
  rw [List.append_nil]
  exact parts_one hk (fun j h1 h2 => cut_great (hg (j - 1) (by omega)) (fun h3 => hg (j + 1) h3))
end Go.Proofs.YtbhjkkbempnjeaaDoor
