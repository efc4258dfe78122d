/- mark: front matter, plainly; no program in this text. -/
import Derived.Test.YtodjfeheagnnpaaDoormPlnP
namespace Go.Proofs.YtodjfeheagnnpaaDoor
set_option linter.unusedVariables false
open Go.RowKit Go.ChangeShapes
def frT : List (List Int) := [[97, 58, 32, 98], [120], [32, 32, 121], [45, 45, 32, 45], []]
def frD (ed : List Int) : List Int := [45, 45, 45] ++ ed
def frW : List Int := [119, 111, 114, 100]
/-- What ends a line, ahead of its newline. -/
def EdOk (ed : List Int) : Prop := ed = [] ∨ ed = [32, 13]
/-- Lines of the table. -/
def Qok (ed : List Int) (q : List (List Int)) : Prop := ∀ l ∈ q, ∃ t ∈ frT, l = t ++ ed
/-- A line of plain bytes. -/
def lnOk (l : List Int) : Bool := l.all (fun x => decide (0 ≤ x) && decide (x < 256) && plB x && decide (x ≠ 10)) && spL (l ++ [10]) 0 && decide (spT (l ++ [10]) 0 = 0)
theorem lnOk_T {ed : List Int} (he : EdOk ed) : (∀ t ∈ frT, lnOk (t ++ ed) = true ∧ dsP (cL ((t ++ ed) ++ [10])) ((t ++ ed).length + 1) = false) ∧ (lnOk (frD ed) = true ∧ dsP (cL (frD ed ++ [10])) ((frD ed).length + 1) = true) ∧ (lnOk frW = true ∧ dsP (cL (frW ++ [10])) (frW.length + 1) = false) := by
  rcases he with rfl | rfl
  · decide
  · decide
def PJ (B : List Int) : Prop := Byt B ∧ (∀ x ∈ B, plB x = true) ∧ spL B 0 = true ∧ spT B 0 = 0
theorem PJ.app {B l : List Int} (h : PJ B) (hl : lnOk l = true) : PJ (B ++ (l ++ [10])) := by
  unfold lnOk at hl
  simp only [Bool.and_eq_true, List.all_eq_true, decide_eq_true_eq] at hl
  obtain ⟨⟨h1, h2⟩, h3⟩ := hl
  obtain ⟨b1, b2, b3, b4⟩ := h
  have h1' : ∀ x ∈ l ++ [10], (0 ≤ x ∧ x < 256) ∧ plB x = true := fun x hx => by
    rcases List.mem_append.1 hx with h | h
    · exact ⟨(h1 x h).1.1, (h1 x h).1.2⟩
    · rw [List.mem_singleton] at h; subst h; decide
  refine ⟨fun x hx => ?_, fun x hx => ?_, ?_, ?_⟩
  · rcases List.mem_append.1 hx with h | h
    · exact b1 x h
    · exact (h1' x h).1
  · rcases List.mem_append.1 hx with h | h
    · exact b2 x h
    · exact (h1' x h).2
  · rw [spL_app, b3, b4, h2]; rfl
  · rw [spT_app, b4, h3]
theorem PJ.nls : ∀ (q : List (List Int)) {B : List Int}, PJ B → (∀ l ∈ q, lnOk l = true) → PJ (B ++ nls q)
  | [], B, h, _ => by simpa [Go.Proofs.YtodjfeheagnnpaaDoor.nls] using h
  | l :: q, B, h, hq => by
    have := PJ.nls q (h.app (hq l (List.mem_cons_self ..))) (fun x hx => hq x (List.mem_cons_of_mem _ hx))
    simpa [Go.Proofs.YtodjfeheagnnpaaDoor.nls] using this
theorem PJ.zero : PJ [] := ⟨fun x hx => (by cases hx), fun x hx => (by cases hx), rfl, rfl⟩
theorem ln_no10 {l : List Int} (h : lnOk l = true) : ∀ x ∈ l, x ≠ 10 := fun x hx => by
  unfold lnOk at h
  simp only [Bool.and_eq_true, List.all_eq_true, decide_eq_true_eq] at h
  exact (h.1.1 x hx).2
theorem front_fst {D z : List Int} (hD : ∀ x ∈ D, x ≠ 10) (hd : dsP (cL (D ++ [10])) (D.length + 1) = true) : frP (cL ((D ++ [10]) ++ z)) ((D ++ [10]) ++ z).length = fr (cL ((D ++ [10]) ++ z)) ((D ++ [10]) ++ z).length (D.length + 1) := by
  have h1 := lnE_at (A := []) (l := D) (z := z) hD
  have h2 := ln_at [] (D ++ [10]) z
  rw [List.nil_append, List.length_nil, Nat.zero_add] at h1 h2
  rw [show (D ++ [(10 : Int)]).length = D.length + 1 by simp] at h2
  unfold frP
  rw [if_neg (by simp), h1, h2, Nat.sub_zero, hd]
  rfl
theorem front_yes {D z : List Int} {q : List (List Int)} (hD : ∀ x ∈ D, x ≠ 10) (hd : dsP (cL (D ++ [10])) (D.length + 1) = true) (hq : ∀ l ∈ q, (∀ x ∈ l, x ≠ 10) ∧ dsP (cL (l ++ [10])) (l.length + 1) = false) :
    frP (cL ((D ++ [10]) ++ (nls q ++ ((D ++ [10]) ++ z)))) ((D ++ [10]) ++ (nls q ++ ((D ++ [10]) ++ z))).length = ((D ++ [10]) ++ (nls q ++ (D ++ [10]))).length := by
  rw [front_fst hD hd]
  have h1 := fr_skips q (D ++ [10]) ((D ++ [10]) ++ z) hq
  rw [show (D ++ [(10 : Int)]).length = D.length + 1 by simp] at h1
  rw [h1]
  have h2 := fr_hit (A := (D ++ [10]) ++ nls q) (l := D) (z := z) hD hd
  rw [List.append_assoc] at h2
  rw [show ((D ++ [(10 : Int)]) ++ nls q).length = D.length + 1 + (nls q).length by simp; omega] at h2
  rw [h2]
  simp
  omega
theorem front_no {D : List Int} {q : List (List Int)} (hD : ∀ x ∈ D, x ≠ 10) (hd : dsP (cL (D ++ [10])) (D.length + 1) = true) (hq : ∀ l ∈ q, (∀ x ∈ l, x ≠ 10) ∧ dsP (cL (l ++ [10])) (l.length + 1) = false) :
    frP (cL ((D ++ [10]) ++ nls q)) ((D ++ [10]) ++ nls q).length = 0 := by
  rw [front_fst hD hd]
  have h1 := fr_skips q (D ++ [10]) [] hq
  rw [List.append_nil, show (D ++ [(10 : Int)]).length = D.length + 1 by simp] at h1
  rw [h1]
  exact fr_end (by simp; omega)
/-- The labels. -/
theorem lab_plain {T : List Int} (h : PJ T) : mkA (cL T) T.length = setL (fun _ => 1) 4 0 ((frP (cL T) T.length : Nat) : Int) := by
  obtain ⟨b1, b2, b3, b4⟩ := h
  unfold mkA
  exact mk_plain (cL_ch b1) (pl_list b2) (sp_n3 _ b3) _ _ _ true (Nat.le_refl _)
/-- The text as it is made. -/
def frA (ed : List Int) (q : List (List Int)) : List Int := (frD ed ++ [10]) ++ nls q
theorem frA_len {ed : List Int} (he : EdOk ed) {q : List (List Int)} (hq : Qok ed q) : (frA ed q).length ≤ 6 + 7 * q.length := by
  have h2 : ∀ q : List (List Int), Qok ed q → (nls q).length ≤ 7 * q.length := fun q => by
    induction q with
    | nil => intro _; simp [nls]
    | cons l q ih =>
      intro hq
      have h3 := ih (fun x hx => hq x (List.mem_cons_of_mem _ hx))
      obtain ⟨t, ht, rfl⟩ := hq l (List.mem_cons_self ..)
      have h4 : (t ++ ed).length + 1 ≤ 7 := by
        have h5 : ∀ t ∈ frT, t.length ≤ 4 := by decide
        have h6 := h5 t ht
        rcases he with rfl | rfl <;> simp <;> omega
      unfold nls at h3 ⊢
      rw [List.flatMap_cons, List.length_append, List.length_append, List.length_singleton, List.length_cons]
      omega
  have := h2 q hq
  unfold frA frD
  rcases he with rfl | rfl <;> simp <;> omega
theorem frA_snoc (ed : List Int) (q : List (List Int)) (t : List Int) : frA ed (q ++ [t ++ ed]) = frA ed q ++ (t ++ (ed ++ [10])) := by
  simp [frA, nls]
theorem Qok.snoc {ed : List Int} {q : List (List Int)} (h : Qok ed q) {t : List Int} (ht : t ∈ frT) : Qok ed (q ++ [t ++ ed]) := fun l hl => by
  rcases List.mem_append.1 hl with h1 | h1
  · exact h l h1
  · rw [List.mem_singleton] at h1; exact ⟨t, ht, h1⟩
theorem frA_pj {ed : List Int} (he : EdOk ed) {q : List (List Int)} (hq : Qok ed q) : PJ (frA ed q) := by
  have h := lnOk_T he
  exact PJ.nls q (by simpa using PJ.zero.app h.2.1.1) (fun l hl => by obtain ⟨t, ht, rfl⟩ := hq l hl; exact (h.1 t ht).1)
theorem frA_lines {ed : List Int} (he : EdOk ed) {q : List (List Int)} (hq : Qok ed q) : ∀ l ∈ q, (∀ x ∈ l, x ≠ 10) ∧ dsP (cL (l ++ [10])) (l.length + 1) = false := fun l hl => by
  obtain ⟨t, ht, rfl⟩ := hq l hl
  have h := (lnOk_T he).1 t ht
  exact ⟨ln_no10 h.1, h.2⟩
def frY (ed : List Int) (q : List (List Int)) : List Int := (frA ed q ++ ([45, 45, 45] ++ (ed ++ [10]))) ++ [119, 111, 114, 100, 10]
def frN (ed : List Int) (q : List (List Int)) : List Int := frA ed q ++ [119, 111, 114, 100, 10]
theorem frY_pj {ed : List Int} (he : EdOk ed) {q : List (List Int)} (hq : Qok ed q) : PJ (frY ed q) := by
  have h := lnOk_T he
  have h1 := ((frA_pj he hq).app h.2.1.1).app h.2.2.1
  simpa [frY, frD, frW] using h1
theorem frN_pj {ed : List Int} (he : EdOk ed) {q : List (List Int)} (hq : Qok ed q) : PJ (frN ed q) := by
  have h := lnOk_T he
  have h1 := (frA_pj he hq).app h.2.2.1
  simpa [frN, frW] using h1
theorem frY_lab {ed : List Int} (he : EdOk ed) {q : List (List Int)} (hq : Qok ed q) : mkA (cL (frY ed q)) (frY ed q).length = setL (fun _ => 1) 4 0 ((((frA ed q).length + (4 + ed.length) : Nat)) : Int) := by
  have h := lnOk_T he
  rw [lab_plain (frY_pj he hq)]
  have h1 := front_yes (D := frD ed) (z := [119, 111, 114, 100, 10]) (q := q) (ln_no10 h.2.1.1) h.2.1.2 (frA_lines he hq)
  have e : frY ed q = (frD ed ++ [10]) ++ (nls q ++ ((frD ed ++ [10]) ++ [119, 111, 114, 100, 10])) := by simp [frY, frA, frD]
  rw [← e] at h1
  rw [h1]
  congr 2
  simp [frA, frD]
  omega
theorem frN_lab {ed : List Int} (he : EdOk ed) {q : List (List Int)} (hq : Qok ed q) : mkA (cL (frN ed q)) (frN ed q).length = fun _ => 1 := by
  have h := lnOk_T he
  rw [lab_plain (frN_pj he hq)]
  have h1 := front_no (D := frD ed) (q := q ++ [frW]) (ln_no10 h.2.1.1) h.2.1.2 (fun l hl => by
    rcases List.mem_append.1 hl with h1 | h1
    · exact frA_lines he hq l h1
    · rw [List.mem_singleton] at h1; subst h1; exact ⟨ln_no10 h.2.2.1, h.2.2.2⟩)
  have e : frN ed q = (frD ed ++ [10]) ++ nls (q ++ [frW]) := by simp [frN, frA, nls, frW]
  rw [← e] at h1
  rw [h1]
  funext i
  exact setL_none _ 4 0 _ (by simp) i
end Go.Proofs.YtodjfeheagnnpaaDoor
