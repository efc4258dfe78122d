/- The reference: words. -/
import Derived.Test.YtbhjkkbempnjeaaDooruSpl
import Derived.Test.YtbhjkkbempnjeaaDooruSam
import Derived.Test.YtbhjkkbempnjeaaDoorvLt
namespace Go.Proofs.YtbhjkkbempnjeaaDoor
set_option linter.unusedVariables false
open Go.RowKit Go.ChangeShapes
/-- Signs from a place up to another one. -/
def sub (l : List U3) (a b : Nat) : List U3 := (l.drop a).take (b - a)
theorem sub_len {l : List U3} {a b : Nat} (h1 : a ≤ b) (h2 : b ≤ l.length) : (sub l a b).length = b - a := by
  unfold sub
  rw [List.length_take, List.length_drop]
  omega
theorem sub_at {l : List U3} {a b i : Nat} (h : i < b - a) : (sub l a b)[i]? = l[a + i]? := by
  unfold sub
  rw [List.getElem?_take_of_lt h, List.getElem?_drop]
theorem sub_mem {l : List U3} {a b : Nat} {u : U3} (h : u ∈ sub l a b) : u ∈ l := List.mem_of_mem_drop (List.mem_of_mem_take h)
theorem US.sub {w : World} {b off C : Nat} {l : List U3} (h : US w (.slice (some ⟨b, off, none⟩) l.length C) l) {i j : Nat} (h1 : i ≤ j) (h2 : j ≤ l.length) : US w (.slice (some ⟨b, off + i * 3, none⟩) (j - i) (C - i)) (sub l i j) := by
  obtain ⟨A, C', e, hC, hh⟩ := h
  injection e with e1 e2 e3
  subst e1 e3
  refine ⟨_, _, by rw [sub_len h1 h2], by rw [sub_len h1 h2]; omega, fun k x hx => ?_⟩
  have hk : k < j - i := by
    have := (List.getElem?_eq_some_iff.1 hx).1
    rw [sub_len h1 h2] at this
    exact this
  rw [sub_at hk] at hx
  obtain ⟨b', off', e, hb, a1, a2, a3⟩ := hh (i + k) x hx
  injection e with e
  injection e with e1 e2 _
  subst e1 e2
  exact ⟨_, _, rfl, hb, by rw [show off + i * 3 + k * 3 = off + (i + k) * 3 by omega]; exact a1, by rw [show off + i * 3 + k * 3 + 1 = off + (i + k) * 3 + 1 by omega]; exact a2, by rw [show off + i * 3 + k * 3 + 2 = off + (i + k) * 3 + 2 by omega]; exact a3⟩
/-- The word of a part. -/
def wOf (c : Nat → Int) (n : Nat) (l : List U3) (p : Nat × Nat) : W4 := ⟨strOfNums (tU (sub l p.1 p.2)), (l.getD p.1 ⟨0, 0, 0⟩).a, (l.getD (p.2 - 1) ⟨0, 0, 0⟩).a + (l.getD (p.2 - 1) ⟨0, 0, 0⟩).n - (l.getD p.1 ⟨0, 0, 0⟩).a, litB c n (sub l p.1 p.2)⟩
/-- Is a part as long as is wanted? -/
def kpB (lo hi : Int) (p : Nat × Nat) : Bool := decide (lo ≤ ((p.2 - p.1 : Nat) : Int)) && decide (((p.2 - p.1 : Nat) : Int) ≤ hi)
def wordsP (c : Nat → Int) (n : Nat) (l : List U3) (lo hi : Int) (ps : List (Nat × Nat)) : List W4 := (ps.filter (kpB lo hi)).map (wOf c n l)
theorem wordsP_no {c : Nat → Int} {n : Nat} {l : List U3} {lo hi : Int} {p : Nat × Nat} {ps : List (Nat × Nat)} (h : kpB lo hi p = false) : wordsP c n l lo hi (p :: ps) = wordsP c n l lo hi ps := by
  unfold wordsP
  rw [List.filter_cons_of_neg (by rw [h]; exact Bool.false_ne_true)]
theorem wordsP_yes {c : Nat → Int} {n : Nat} {l : List U3} {lo hi : Int} {p : Nat × Nat} {ps : List (Nat × Nat)} (h : kpB lo hi p = true) : wordsP c n l lo hi (p :: ps) = wOf c n l p :: wordsP c n l lo hi ps := by
  unfold wordsP
  rw [List.filter_cons_of_pos h]
  rfl
/-- The parts of runs. -/
def ptsL (R : Nat → Int) (rs : List (Nat × Nat)) : List (Nat × Nat) := rs.flatMap fun r => partsL R r.2 r.1
/-- The words of signs. -/
def wordsL (c : Nat → Int) (n : Nat) (l : List U3) (lo hi : Int) : List W4 := wordsP c n l lo hi (ptsL (RU l) (runsL (RU l) l.length 0))
theorem runsF_in (R : Nat → Int) (k : Nat) : ∀ f i, ∀ p ∈ runsF R k f i, i ≤ p.1 ∧ p.1 < p.2 ∧ p.2 ≤ k
  | 0, i, p, h => by simp [runsF] at h
  | f + 1, i, p, h => by
    have h' : p ∈ (bif inn R k i then (i, rEnd R k i) :: runsF R k f (rEnd R k i) else runsF R k f (i + 1)) := h
    cases hh : inn R k i
    · rw [hh] at h'
      have := runsF_in R k f (i + 1) p h'
      omega
    · rw [hh] at h'
      have hlt := inn_lt hh
      have h1 := rEnd_gt hh
      have h2 := rEnd_le (R := R) (k := k) (k - i) i (by omega)
      rcases List.mem_cons.1 h' with rfl | h'
      · exact ⟨Nat.le_refl _, h1, h2⟩
      · have := runsF_in R k f _ p h'
        omega
theorem runsL_in {R : Nat → Int} {k i : Nat} {p : Nat × Nat} (h : p ∈ runsL R k i) : i ≤ p.1 ∧ p.1 < p.2 ∧ p.2 ≤ k := runsF_in R k _ i p h
theorem partsF_in (R : Nat → Int) (e : Nat) : ∀ f i, ∀ p ∈ partsF R e f i, i ≤ p.1 ∧ p.1 < p.2 ∧ p.2 ≤ e
  | 0, i, p, h => by simp [partsF] at h
  | f + 1, i, p, h => by
    have h' : p ∈ (bif decide (i < e) then (i, pGo R e (i + 1)) :: partsF R e f (pGo R e (i + 1)) else []) := h
    by_cases hh : i < e
    · rw [show decide (i < e) = true by simpa using hh] at h'
      have hg := pGo_ge (R := R) (e := e) (e - (i + 1)) (i + 1) (by omega)
      rcases List.mem_cons.1 h' with rfl | h'
      · exact ⟨Nat.le_refl _, by show i < pGo R e (i + 1); omega, hg.2⟩
      · have := partsF_in R e f _ p h'
        omega
    · rw [show decide (i < e) = false by simpa using hh] at h'
      cases h'
theorem partsL_in {R : Nat → Int} {e i : Nat} {p : Nat × Nat} (h : p ∈ partsL R e i) : i ≤ p.1 ∧ p.1 < p.2 ∧ p.2 ≤ e := partsF_in R e _ i p h
theorem partsF_len (R : Nat → Int) (e : Nat) : ∀ f i, (partsF R e f i).length ≤ f
  | 0, i => Nat.le_refl 0
  | f + 1, i => by
    show (bif decide (i < e) then (i, pGo R e (i + 1)) :: partsF R e f (pGo R e (i + 1)) else []).length ≤ f + 1
    cases decide (i < e)
    · exact Nat.zero_le _
    · exact Nat.succ_le_succ (partsF_len R e f _)
theorem partsL_len (R : Nat → Int) (e i : Nat) : (partsL R e i).length ≤ e - i := partsF_len R e (e - i) i
end Go.Proofs.YtbhjkkbempnjeaaDoor
