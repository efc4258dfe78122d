/- mark: plain lines, front matter; no program in this text. -/
import Derived.Test.YtodjfeheagnnpaaDoormLexP
import Derived.Test.YtodjfeheagnnpaaDoorhCL
namespace Go.Proofs.YtodjfeheagnnpaaDoor
set_option linter.unusedVariables false
open Go.RowKit Go.ChangeShapes
/-- No sign that begins anything. -/
def plB (x : Int) : Bool := x != 9 && x != 60 && x != 91 && x != 92 && x != 93 && x != 96 && x != 126
def Pl (c : Nat → Int) : Prop := ∀ i, plB (c i) = true
theorem plB_ne {x : Int} (h : plB x = true) : x ≠ 9 ∧ x ≠ 60 ∧ x ≠ 91 ∧ x ≠ 92 ∧ x ≠ 93 ∧ x ≠ 96 ∧ x ≠ 126 := by
  unfold plB at h
  simpa [and_assoc] using h
/-- No three spaces side by side. -/
def N3 (c : Nat → Int) : Prop := ∀ i, ¬ (c i = 32 ∧ c (i + 1) = 32 ∧ c (i + 2) = 32)
theorem Pl.tr {c : Nat → Int} (h : Pl c) (n : Nat) : Pl (tr c n) := fun i => by
  unfold Go.Proofs.YtodjfeheagnnpaaDoor.tr
  split
  · exact h i
  · rfl
theorem Pl.sf {c : Nat → Int} (h : Pl c) (a : Nat) : Pl (sf c a) := fun i => h (a + i)
theorem Pl.ln {c : Nat → Int} (h : Pl c) (a e : Nat) : Pl (ln c a e) := (h.sf a).tr _
theorem Pl.bd {c : Nat → Int} (h : Pl c) (n : Nat) : Pl (bdC c n) := fun i => by
  unfold bdC
  split
  · rfl
  · exact h _
theorem tx_plain {c : Nat → Int} {n : Nat} (hC : Ch c n) (hP : Pl c) (L : Nat → Int) : ∀ d i, n - i ≤ d → tx c n i L = L
  | 0, i, hd => tx_end (by omega) L
  | d + 1, i, hd => by
    rcases Nat.lt_or_ge i n with h | h
    · have hp := plB_ne (hP i)
      have hE : txE c n i = i + 1 := by unfold txE; rw [if_neg hp.2.2.2.1, if_neg hp.2.2.2.2.2.1, if_neg hp.2.2.2.2.1, if_neg hp.2.1]
      have hL : txL L c n i = L := by unfold txL; rw [if_neg hp.2.2.2.1, if_neg hp.2.2.2.2.2.1, if_neg hp.2.2.2.2.1, if_neg hp.2.1]
      rw [tx_one hC h, hE, hL]
      exact tx_plain hC hP L d (i + 1) (by omega)
    · exact tx_end h L
theorem op_plain {d : Nat → Int} (hP : Pl d) (n : Nat) : opOk d n = false := by
  have hp := plB_ne ((hP.bd n) 0)
  unfold opOk
  have h1 : (bdC d n 0 == 126) = false := by simpa using hp.2.2.2.2.2.2
  have h2 : (bdC d n 0 == 96) = false := by simpa using hp.2.2.2.2.2.1
  rw [h1, h2]
  simp
theorem df_plain {d : Nat → Int} (hP : Pl d) (n : Nat) : dfP d n = false := by
  have hp := plB_ne ((hP.bd n) 0)
  unfold dfP
  have h1 : (bdC d n 0 == 91) = false := by simpa using hp.2.2.1
  rw [h1]
  simp
theorem ind_plain {d : Nat → Int} {n : Nat} (hP : Pl d) (h3 : ¬ (d 0 = 32 ∧ d 1 = 32 ∧ d 2 = 32)) : indP d n ≠ 4 := by
  have h2 : rwP 32 d n ≤ 2 := by
    rcases Nat.lt_or_ge 2 (rwP 32 d n) with h | h
    · exact absurd ⟨rwP_in (s := 32) (c := d) (n := n) (by omega), rwP_in (s := 32) (c := d) (n := n) (by omega), rwP_in (s := 32) (c := d) (n := n) h⟩ h3
    · exact h
  unfold indP
  rw [if_neg (plB_ne (hP _)).1]
  omega
theorem n3_ln {c : Nat → Int} (h : N3 c) (a e : Nat) : ¬ (ln c a e 0 = 32 ∧ ln c a e 1 = 32 ∧ ln c a e 2 = 32) := fun ⟨h0, h1, h2⟩ => by
  have k : ∀ j, Go.Proofs.YtodjfeheagnnpaaDoor.ln c a e j = 32 → c (a + j) = 32 := fun j hj => by
    unfold Go.Proofs.YtodjfeheagnnpaaDoor.ln Go.Proofs.YtodjfeheagnnpaaDoor.tr at hj
    split at hj
    · exact hj
    · exact absurd hj (by decide)
  exact h a ⟨k 0 h0, k 1 h1, k 2 h2⟩
theorem mk_plain {c : Nat → Int} {n : Nat} (hC : Ch c n) (hP : Pl c) (h3 : N3 c) (L : Nat → Int) : ∀ d i b, n - i ≤ d → mk c n i ⟨0, 0, b⟩ L = L
  | 0, i, b, hd => mk_end (by omega) _ L
  | d + 1, i, b, hd => by
    rcases Nat.lt_or_ge i n with h | h
    · have he := lnE_le c h
      have hop := op_plain (hP.ln i (lnE c n i)) (lnE c n i - i)
      have hdf := df_plain (hP.ln i (lnE c n i)) (lnE c n i - i)
      have hin := ind_plain (n := lnE c n i - i) (hP.ln i (lnE c n i)) (n3_ln h3 i (lnE c n i))
      have htx := tx_plain (tr_ch hC he.2) (hP.tr (lnE c n i)) L _ i (Nat.le_refl _)
      have hL : lnL L ⟨0, 0, b⟩ c i (lnE c n i) = L := by
        unfold lnL
        rw [if_neg (Nat.lt_irrefl 0), hop, hdf, htx]
        simp [hin]
      obtain ⟨b', hb'⟩ : ∃ b', stM ⟨0, 0, b⟩ (ln c i (lnE c n i)) (lnE c n i - i) = ⟨0, 0, b'⟩ := by
        unfold stM
        rw [if_neg (Nat.lt_irrefl 0), hop]
        by_cases ht : tmN (ln c i (lnE c n i)) (lnE c n i - i) = 0
        · exact ⟨true, by rw [if_pos ht]⟩
        · exact ⟨false, by rw [if_neg ht]; simp [hin]⟩
      rw [mk_one h, hL, hb']
      exact mk_plain hC hP h3 L d _ b' (by omega)
    · exact mk_end h _ L
/-- Spaces side by side, counted. -/
def spL : List Int → Nat → Bool
  | [], _ => true
  | x :: t, k => if x = 32 then decide (k + 1 < 3) && spL t (k + 1) else spL t 0
def spT : List Int → Nat → Nat
  | [], k => k
  | x :: t, k => if x = 32 then spT t (k + 1) else spT t 0
theorem spL_app : ∀ (l m : List Int) (k : Nat), spL (l ++ m) k = (spL l k && spL m (spT l k))
  | [], m, k => by simp [spL, spT]
  | x :: l, m, k => by
    show (if x = 32 then decide (k + 1 < 3) && spL (l ++ m) (k + 1) else spL (l ++ m) 0) = ((if x = 32 then decide (k + 1 < 3) && spL l (k + 1) else spL l 0) && spL m (if x = 32 then spT l (k + 1) else spT l 0))
    by_cases h : x = 32
    · rw [if_pos h, if_pos h, if_pos h, spL_app l m (k + 1), Bool.and_assoc]
    · rw [if_neg h, if_neg h, if_neg h, spL_app l m 0]
theorem spT_app : ∀ (l m : List Int) (k : Nat), spT (l ++ m) k = spT m (spT l k)
  | [], m, k => rfl
  | x :: l, m, k => by
    show (if x = 32 then spT (l ++ m) (k + 1) else spT (l ++ m) 0) = spT m (if x = 32 then spT l (k + 1) else spT l 0)
    by_cases h : x = 32
    · rw [if_pos h, if_pos h, spT_app l m (k + 1)]
    · rw [if_neg h, if_neg h, spT_app l m 0]
theorem spL_less : ∀ (l : List Int) (k j : Nat), j ≤ k → spL l k = true → spL l j = true
  | [], _, _, _, _ => rfl
  | x :: l, k, j, hj, h => by
    unfold spL at h ⊢
    by_cases hx : x = 32
    · rw [if_pos hx] at h ⊢
      simp only [Bool.and_eq_true, decide_eq_true_eq] at h ⊢
      exact ⟨by omega, spL_less l (k + 1) (j + 1) (by omega) h.2⟩
    · rw [if_neg hx] at h ⊢; exact h
theorem sp_n3 : ∀ (l : List Int), spL l 0 = true → N3 (cL l)
  | [], _ => fun i ⟨h, _⟩ => absurd h (by simp [cL])
  | x :: l, h => fun i ⟨h0, h1, h2⟩ => by
    match i with
    | i + 1 =>
      have hl : spL l 0 = true := by
        unfold spL at h
        by_cases hx : x = 32
        · rw [if_pos hx] at h
          simp only [Bool.and_eq_true] at h
          exact spL_less l 1 0 (by omega) h.2
        · rw [if_neg hx] at h; exact h
      exact sp_n3 l hl i ⟨by rwa [cL_cons] at h0, by rwa [show i + 1 + 1 = (i + 1) + 1 by omega, cL_cons] at h1, by rwa [show i + 1 + 2 = (i + 2) + 1 by omega, cL_cons] at h2⟩
    | 0 =>
      have hx : x = 32 := by simpa [cL] using h0
      subst hx
      cases l with
      | nil => simp [cL] at h1
      | cons y l =>
        have hy : y = 32 := by simpa [cL] using h1
        subst hy
        cases l with
        | nil => simp [cL] at h2
        | cons z l =>
          have hz : z = 32 := by simpa [cL] using h2
          subst hz
          simp [spL] at h
theorem pl_list {l : List Int} (h : ∀ x ∈ l, plB x = true) : Pl (cL l) := fun i => by
  rcases Nat.lt_or_ge i l.length with hi | hi
  · rw [cL_in (List.getElem?_eq_getElem hi)]
    exact h _ (List.getElem_mem hi)
  · rw [cL_out hi]; rfl
theorem fr_none {c : Nat → Int} {n : Nat} (h0 : 0 < n) (h : c 0 ≠ 45) : frP c n = 0 := by
  unfold frP
  rw [if_neg (by omega)]
  have he := lnE_le c h0
  have hd : dsP (ln c 0 (lnE c n 0)) (lnE c n 0 - 0) = false := by
    unfold dsP
    have h2 : ln c 0 (lnE c n 0) 0 = c 0 := by rw [ln_in (by omega)]
    have h3 : (c 0 == 45) = false := by simpa using h
    rw [h2, h3]
    simp
  rw [hd]
  rfl
/-- A line among others. -/
theorem lnE_at {A l z : List Int} (h : ∀ x ∈ l, x ≠ 10) : lnE (cL (A ++ ((l ++ [10]) ++ z))) (A ++ ((l ++ [10]) ++ z)).length A.length = A.length + (l.length + 1) := by
  have hlen : (A ++ ((l ++ [10]) ++ z)).length = A.length + (l.length + 1) + z.length := by simp; omega
  have hR : ∀ j, cL (A ++ ((l ++ [10]) ++ z)) (A.length + j) = cL ((l ++ [10]) ++ z) j := fun j => cL_right _ _ j
  have h10 : cL (A ++ ((l ++ [10]) ++ z)) (A.length + l.length) = 10 := by
    rw [hR, List.append_assoc]
    have := cL_right l ([10] ++ z) 0
    rw [Nat.add_zero] at this
    rw [this]
    rfl
  have hf : fs (fun j => cL (A ++ ((l ++ [10]) ++ z)) j == 10) (A ++ ((l ++ [10]) ++ z)).length A.length = A.length + l.length := by
    refine fs_is (by omega) (by omega) (fun k h1 h2 => ?_) (fun _ => by rw [h10]; rfl)
    obtain ⟨j, rfl⟩ : ∃ j, k = A.length + j := ⟨k - A.length, by omega⟩
    rw [hR, List.append_assoc, cL_left _ _ (by omega), cL_in (List.getElem?_eq_getElem (show j < l.length by omega))]
    have := h _ (List.getElem_mem (show j < l.length by omega))
    simpa using this
  unfold lnE
  rw [hf, if_pos (by omega)]
  omega
theorem ln_at (A l z : List Int) : ln (cL (A ++ (l ++ z))) A.length (A.length + l.length) = cL l := by
  funext i
  unfold ln tr sf
  rw [show A.length + l.length - A.length = l.length by omega]
  by_cases h : i < l.length
  · rw [if_pos h, cL_right, cL_left _ _ h]
  · rw [if_neg h, cL_out (by omega)]
theorem fr_skip {A l z : List Int} (h : ∀ x ∈ l, x ≠ 10) (hd : dsP (cL (l ++ [10])) (l.length + 1) = false) : fr (cL (A ++ ((l ++ [10]) ++ z))) (A ++ ((l ++ [10]) ++ z)).length A.length = fr (cL (A ++ ((l ++ [10]) ++ z))) (A ++ ((l ++ [10]) ++ z)).length (A.length + (l.length + 1)) := by
  have hl := ln_at A (l ++ [10]) z
  rw [show (l ++ [(10 : Int)]).length = l.length + 1 by simp] at hl
  rw [fr_one (by simp; omega), lnE_at h, hl, show A.length + (l.length + 1) - A.length = l.length + 1 by omega, hd]
  rfl
theorem fr_hit {A l z : List Int} (h : ∀ x ∈ l, x ≠ 10) (hd : dsP (cL (l ++ [10])) (l.length + 1) = true) : fr (cL (A ++ ((l ++ [10]) ++ z))) (A ++ ((l ++ [10]) ++ z)).length A.length = A.length + (l.length + 1) := by
  have hl := ln_at A (l ++ [10]) z
  rw [show (l ++ [(10 : Int)]).length = l.length + 1 by simp] at hl
  rw [fr_one (by simp; omega), lnE_at h, hl, show A.length + (l.length + 1) - A.length = l.length + 1 by omega, hd]
  rfl
/-- Lines, each without its newline, none of them dashes. -/
def nls (q : List (List Int)) : List Int := q.flatMap fun l => l ++ [10]
theorem fr_skips : ∀ (q : List (List Int)) (A z : List Int), (∀ l ∈ q, (∀ x ∈ l, x ≠ 10) ∧ dsP (cL (l ++ [10])) (l.length + 1) = false) →
    fr (cL (A ++ (nls q ++ z))) (A ++ (nls q ++ z)).length A.length = fr (cL (A ++ (nls q ++ z))) (A ++ (nls q ++ z)).length (A.length + (nls q).length)
  | [], A, z, _ => by simp [nls]
  | l :: q, A, z, h => by
    have e : A ++ (nls (l :: q) ++ z) = A ++ ((l ++ [10]) ++ (nls q ++ z)) := by simp [nls]
    have e2 : A ++ (nls (l :: q) ++ z) = (A ++ (l ++ [10])) ++ (nls q ++ z) := by simp [nls]
    have h1 := h l (List.mem_cons_self ..)
    rw [e, fr_skip h1.1 h1.2, ← e, e2]
    have ih := fr_skips q (A ++ (l ++ [10])) z (fun x hx => h x (List.mem_cons_of_mem _ hx))
    rw [show (A ++ (l ++ [(10 : Int)])).length = A.length + (l.length + 1) by simp] at ih
    rw [ih, show A.length + (l.length + 1) + (nls q).length = A.length + (nls (l :: q)).length by simp [nls]; omega]
end Go.Proofs.YtodjfeheagnnpaaDoor
