/- Runs and parts, plainly. -/
import Derived.Test.YtbhjkkbempnjeaaDoorvUn
import Derived.Test.YtbhjkkbempnjeaaDooruLet
namespace Go.Proofs.YtbhjkkbempnjeaaDoor
set_option linter.unusedVariables false
open Go.RowKit
/-- Is there a letter? -/
def ltP (R : Nat → Int) (k i : Nat) : Bool := decide (i < k) && lB (R i)
/-- Does a sign belong to a run? -/
def inn (R : Nat → Int) (k i : Nat) : Bool := ltP R k i || (decide (0 < i) && decide (i < k) && (R i == 39) && ltP R k (i - 1) && ltP R k (i + 1))
theorem inn_lt {R : Nat → Int} {k i : Nat} (h : inn R k i = true) : i < k := by
  unfold inn ltP at h
  by_cases hk : i < k
  · exact hk
  · rw [show decide (i < k) = false by simpa using hk] at h
    simp at h
theorem inn_ge {R : Nat → Int} {k i : Nat} (h : k ≤ i) : inn R k i = false := by
  cases hh : inn R k i
  · rfl
  · exact absurd (inn_lt hh) (by omega)
/-- Where the run ends in which a place lies. -/
def rEndF (R : Nat → Int) (k : Nat) : Nat → Nat → Nat
  | 0, i => i
  | f + 1, i => bif inn R k i then rEndF R k f (i + 1) else i
def rEnd (R : Nat → Int) (k i : Nat) : Nat := rEndF R k (k - i) i
theorem rEnd_in {R : Nat → Int} {k i : Nat} (h : inn R k i = true) : rEnd R k i = rEnd R k (i + 1) := by
  have := inn_lt h
  unfold rEnd
  rw [show k - i = (k - (i + 1)) + 1 by omega]
  show (bif inn R k i then rEndF R k (k - (i + 1)) (i + 1) else i) = _
  rw [h]
  rfl
theorem rEnd_out {R : Nat → Int} {k i : Nat} (h : inn R k i = false) : rEnd R k i = i := by
  unfold rEnd
  cases k - i with
  | zero => rfl
  | succ f =>
    show (bif inn R k i then rEndF R k f (i + 1) else i) = _
    rw [h]
    rfl
theorem rEndF_ge (R : Nat → Int) (k : Nat) : ∀ f i, i ≤ rEndF R k f i
  | 0, i => Nat.le_refl i
  | f + 1, i => by
    show i ≤ (bif inn R k i then rEndF R k f (i + 1) else i)
    cases inn R k i
    · exact Nat.le_refl i
    · exact Nat.le_trans (Nat.le_succ i) (rEndF_ge R k f (i + 1))
theorem rEnd_ge (R : Nat → Int) (k i : Nat) : i ≤ rEnd R k i := rEndF_ge R k _ i
theorem rEnd_gt {R : Nat → Int} {k i : Nat} (h : inn R k i = true) : i < rEnd R k i := by
  rw [rEnd_in h]
  exact rEnd_ge R k (i + 1)
theorem rEnd_le {R : Nat → Int} {k : Nat} : ∀ d i, i + d = k → rEnd R k i ≤ k
  | 0, i, h => by rw [rEnd_out (inn_ge (by omega))]; omega
  | d + 1, i, h => by
    cases hh : inn R k i
    · rw [rEnd_out hh]; omega
    · rw [rEnd_in hh]; exact rEnd_le d (i + 1) (by omega)
theorem rEnd_not {R : Nat → Int} {k : Nat} : ∀ d i, i + d = k → inn R k (rEnd R k i) = false
  | 0, i, h => by have e : inn R k i = false := inn_ge (by omega); rw [rEnd_out e]; exact e
  | d + 1, i, h => by
    cases hh : inn R k i
    · rw [rEnd_out hh]; exact hh
    · rw [rEnd_in hh]; exact rEnd_not d (i + 1) (by omega)
theorem rEnd_all {R : Nat → Int} {k : Nat} : ∀ d i, i + d = k → ∀ j, i ≤ j → j < rEnd R k i → inn R k j = true
  | 0, i, h, j, h1, h2 => by rw [rEnd_out (inn_ge (by omega))] at h2; omega
  | d + 1, i, h, j, h1, h2 => by
    cases hh : inn R k i
    · rw [rEnd_out hh] at h2; omega
    · rw [rEnd_in hh] at h2
      rcases Nat.eq_or_lt_of_le h1 with e | e
      · subst e; exact hh
      · exact rEnd_all d (i + 1) (by omega) j e h2
/-- The runs from a place on. -/
def runsF (R : Nat → Int) (k : Nat) : Nat → Nat → List (Nat × Nat)
  | 0, _ => []
  | f + 1, i => bif inn R k i then (i, rEnd R k i) :: runsF R k f (rEnd R k i) else runsF R k f (i + 1)
def runsL (R : Nat → Int) (k i : Nat) : List (Nat × Nat) := runsF R k (k - i) i
theorem runsF_end (R : Nat → Int) (k : Nat) : ∀ f i, k ≤ i → runsF R k f i = []
  | 0, i, _ => rfl
  | f + 1, i, h => by
    show (bif inn R k i then (i, rEnd R k i) :: runsF R k f (rEnd R k i) else runsF R k f (i + 1)) = _
    rw [inn_ge h]
    exact runsF_end R k f (i + 1) (by omega)
theorem runsF_any (R : Nat → Int) (k : Nat) : ∀ f g i, k ≤ i + f → k ≤ i + g → runsF R k f i = runsF R k g i
  | 0, g, i, h1, h2 => by rw [runsF_end R k g i (by omega)]; rfl
  | f + 1, 0, i, h1, h2 => by rw [runsF_end R k (f + 1) i (by omega)]; rfl
  | f + 1, g + 1, i, h1, h2 => by
    show (bif inn R k i then (i, rEnd R k i) :: runsF R k f (rEnd R k i) else runsF R k f (i + 1)) = (bif inn R k i then (i, rEnd R k i) :: runsF R k g (rEnd R k i) else runsF R k g (i + 1))
    cases hh : inn R k i
    · exact runsF_any R k f g (i + 1) (by omega) (by omega)
    · have := rEnd_gt hh
      show _ :: _ = _ :: _
      rw [runsF_any R k f g (rEnd R k i) (by omega) (by omega)]
theorem runsL_end {R : Nat → Int} {k i : Nat} (h : k ≤ i) : runsL R k i = [] := runsF_end R k _ i h
theorem runsL_no {R : Nat → Int} {k i : Nat} (h : inn R k i = false) : runsL R k i = runsL R k (i + 1) := by
  by_cases hk : i < k
  · unfold runsL
    rw [show k - i = (k - (i + 1)) + 1 by omega]
    show (bif inn R k i then (i, rEnd R k i) :: runsF R k (k - (i + 1)) (rEnd R k i) else runsF R k (k - (i + 1)) (i + 1)) = _
    rw [h]
    rfl
  · rw [runsL_end (by omega), runsL_end (by omega)]
theorem runsL_yes {R : Nat → Int} {k i : Nat} (h : inn R k i = true) : runsL R k i = (i, rEnd R k i) :: runsL R k (rEnd R k i) := by
  have hk := inn_lt h
  have hg := rEnd_gt h
  have e : runsL R k i = runsF R k ((k - (i + 1)) + 1) i := by
    unfold runsL
    rw [show k - i = (k - (i + 1)) + 1 by omega]
  rw [e]
  show (bif inn R k i then (i, rEnd R k i) :: runsF R k (k - (i + 1)) (rEnd R k i) else runsF R k (k - (i + 1)) (i + 1)) = _
  rw [h]
  show _ :: _ = _ :: _
  unfold runsL
  rw [runsF_any R k (k - (i + 1)) (k - rEnd R k i) (rEnd R k i) (by omega) (by omega)]
/-- Is a run cut ahead of a sign? -/
def cutB (R : Nat → Int) (e q : Nat) : Bool := gB (R q) && (sB (R (q - 1)) || (gB (R (q - 1)) && decide (q + 1 < e) && sB (R (q + 1))))
/-- Where a part ends, from a place on. -/
def pEndF (R : Nat → Int) (e : Nat) : Nat → Nat → Nat
  | 0, q => q
  | f + 1, q => bif cutB R e q then q else pEndF R e f (q + 1)
def pGo (R : Nat → Int) (e q : Nat) : Nat := pEndF R e (e - q) q
theorem pGo_end {R : Nat → Int} {e q : Nat} (h : e ≤ q) : pGo R e q = q := by
  unfold pGo
  rw [show e - q = 0 by omega]
  rfl
theorem pGo_cut {R : Nat → Int} {e q : Nat} (h : cutB R e q = true) : pGo R e q = q := by
  unfold pGo
  cases e - q with
  | zero => rfl
  | succ f =>
    show (bif cutB R e q then q else pEndF R e f (q + 1)) = _
    rw [h]
    rfl
theorem pGo_on {R : Nat → Int} {e q : Nat} (h : cutB R e q = false) (hq : q < e) : pGo R e q = pGo R e (q + 1) := by
  unfold pGo
  rw [show e - q = (e - (q + 1)) + 1 by omega]
  show (bif cutB R e q then q else pEndF R e (e - (q + 1)) (q + 1)) = _
  rw [h]
  rfl
theorem pGo_ge {R : Nat → Int} {e : Nat} : ∀ d q, q + d = e → q ≤ pGo R e q ∧ pGo R e q ≤ e
  | 0, q, h => by rw [pGo_end (by omega)]; omega
  | d + 1, q, h => by
    cases hh : cutB R e q
    · rw [pGo_on hh (by omega)]
      have := pGo_ge (R := R) (e := e) d (q + 1) (by omega)
      omega
    · rw [pGo_cut hh]; omega
theorem pGo_no {R : Nat → Int} {e : Nat} : ∀ d q, q + d = e → ∀ j, q ≤ j → j < pGo R e q → cutB R e j = false
  | 0, q, h, j, h1, h2 => by rw [pGo_end (by omega)] at h2; omega
  | d + 1, q, h, j, h1, h2 => by
    cases hh : cutB R e q
    · rw [pGo_on hh (by omega : q < e)] at h2
      rcases Nat.eq_or_lt_of_le h1 with e' | e'
      · subst e'; exact hh
      · exact pGo_no d (q + 1) (by omega) j e' h2
    · rw [pGo_cut hh] at h2; omega
theorem pGo_is {R : Nat → Int} {e : Nat} : ∀ d q, q + d = e → pGo R e q = e ∨ cutB R e (pGo R e q) = true
  | 0, q, h => by rw [pGo_end (by omega)]; exact Or.inl (by omega)
  | d + 1, q, h => by
    cases hh : cutB R e q
    · rw [pGo_on hh (by omega)]
      exact pGo_is d (q + 1) (by omega)
    · rw [pGo_cut hh]; exact Or.inr hh
/-- The parts of what lies between two places. -/
def partsF (R : Nat → Int) (e : Nat) : Nat → Nat → List (Nat × Nat)
  | 0, _ => []
  | f + 1, i => bif decide (i < e) then (i, pGo R e (i + 1)) :: partsF R e f (pGo R e (i + 1)) else []
def partsL (R : Nat → Int) (e i : Nat) : List (Nat × Nat) := partsF R e (e - i) i
theorem partsF_end (R : Nat → Int) (e f i : Nat) (h : e ≤ i) : partsF R e f i = [] := by
  cases f with
  | zero => rfl
  | succ f =>
    show (bif decide (i < e) then _ else []) = _
    rw [show decide (i < e) = false by simpa using h]
    rfl
theorem partsF_any (R : Nat → Int) (e : Nat) : ∀ f g i, e ≤ i + f → e ≤ i + g → partsF R e f i = partsF R e g i
  | 0, g, i, h1, h2 => by rw [partsF_end R e g i (by omega)]; rfl
  | f + 1, 0, i, h1, h2 => by rw [partsF_end R e (f + 1) i (by omega)]; rfl
  | f + 1, g + 1, i, h1, h2 => by
    show (bif decide (i < e) then (i, pGo R e (i + 1)) :: partsF R e f (pGo R e (i + 1)) else []) = (bif decide (i < e) then (i, pGo R e (i + 1)) :: partsF R e g (pGo R e (i + 1)) else [])
    by_cases h : i < e
    · have := (pGo_ge (R := R) (e - (i + 1)) (i + 1) (by omega : i + 1 + (e - (i + 1)) = e)).1
      rw [partsF_any R e f g (pGo R e (i + 1)) (by omega) (by omega)]
    · rw [show decide (i < e) = false by simpa using h]
      rfl
theorem partsL_end {R : Nat → Int} {e i : Nat} (h : e ≤ i) : partsL R e i = [] := partsF_end R e _ i h
theorem partsL_step {R : Nat → Int} {e i : Nat} (h : i < e) : partsL R e i = (i, pGo R e (i + 1)) :: partsL R e (pGo R e (i + 1)) := by
  have hg := (pGo_ge (R := R) (e - (i + 1)) (i + 1) (by omega : i + 1 + (e - (i + 1)) = e)).1
  have e1 : partsL R e i = partsF R e ((e - (i + 1)) + 1) i := by
    unfold partsL
    rw [show e - i = (e - (i + 1)) + 1 by omega]
  rw [e1]
  show (bif decide (i < e) then (i, pGo R e (i + 1)) :: partsF R e (e - (i + 1)) (pGo R e (i + 1)) else []) = _
  rw [show decide (i < e) = true by simpa using h]
  show _ :: _ = _ :: _
  unfold partsL
  rw [partsF_any R e (e - (i + 1)) (e - pGo R e (i + 1)) (pGo R e (i + 1)) (by omega) (by omega)]
end Go.Proofs.YtbhjkkbempnjeaaDoor
