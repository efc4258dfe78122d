/- Words, in plain words: a stack of beginnings tells the words in their order. -/
import Derived.Test.YtfikkkodepfdkaaDoornNP
namespace Go.Proofs.YtfikkkodepfdkaaDoor
set_option linter.unusedVariables false
/-- Lists that rise and have the same members are the same. -/
theorem rise_ext : ∀ (A C : List (List Int)), A.Pairwise (· < ·) → C.Pairwise (· < ·) → (∀ x, x ∈ A ↔ x ∈ C) → A = C
  | [], [], _, _, _ => rfl
  | [], c :: C, _, _, h => absurd ((h c).2 (List.mem_cons_self ..)) List.not_mem_nil
  | a :: A, [], _, _, h => absurd ((h a).1 (List.mem_cons_self ..)) List.not_mem_nil
  | a :: A, c :: C, hA, hC, h => by
    rw [List.pairwise_cons] at hA hC
    have e : a = c := by
      rcases List.mem_cons.1 ((h a).1 (List.mem_cons_self ..)) with e | e
      · exact e
      · rcases List.mem_cons.1 ((h c).2 (List.mem_cons_self ..)) with e' | e'
        · exact e'.symm
        · exact absurd (List.lt_trans (hA.1 c e') (hC.1 a e)) (List.lt_irrefl a)
    subst e
    rw [rise_ext A C hA.2 hC.2 fun x => ?_]
    constructor
    · intro hx
      rcases List.mem_cons.1 ((h x).1 (List.mem_cons_of_mem _ hx)) with e | e
      · exact absurd (hA.1 x hx) (by rw [e]; exact List.lt_irrefl a)
      · exact e
    · intro hx
      rcases List.mem_cons.1 ((h x).2 (List.mem_cons_of_mem _ hx)) with e | e
      · exact absurd (hC.1 x hx) (by rw [e]; exact List.lt_irrefl a)
      · exact e
/-- The words that go on from a beginning. -/
def subW (D : List (List Int)) (p : List Int) : List (List Int) := D.filter fun u => decide (p <+: u)
theorem subW_nil (D : List (List Int)) : subW D [] = D := by
  unfold subW
  rw [List.filter_eq_self]
  intro u _
  simp
theorem lt_next (p : List Int) (r r' : Int) (a b : List Int) (h : r < r') : p ++ [r] ++ a < p ++ [r'] ++ b := by
  rw [List.append_assoc, List.append_assoc]
  exact app_lt p _ _ (cons_lt h)
theorem lt_longer (p : List Int) (r : Int) (a : List Int) : p < p ++ [r] ++ a := by
  have h : p ++ [] < p ++ ([r] ++ a) := app_lt p _ _ (by simp)
  rw [List.append_nil, ← List.append_assoc] at h
  exact h
/-- First the beginning itself, if it is a word; then by the next sign. -/
theorem subW_step (D : List (List Int)) (hD : D.Pairwise (· < ·)) (p : List Int) (R : List Int) (hR : R.Pairwise (· < ·)) (hall : ∀ u ∈ D, p <+: u → u ≠ p → ∃ r ∈ R, p ++ [r] <+: u) :
    subW D p = (if p ∈ D then [p] else []) ++ R.flatMap fun r => subW D (p ++ [r]) := by
  have hsub : ∀ q, (subW D q).Pairwise (· < ·) := fun q => hD.sublist List.filter_sublist
  have hmem : ∀ q x, x ∈ subW D q ↔ x ∈ D ∧ q <+: x := fun q x => by simp [subW, List.mem_filter]
  apply rise_ext _ _ (hsub p)
  · rw [List.pairwise_append]
    refine ⟨by split <;> simp, ?_, ?_⟩
    · rw [List.flatMap_def, List.pairwise_flatten]
      refine ⟨fun l hl => ?_, ?_⟩
      · obtain ⟨r, _, rfl⟩ := List.mem_map.1 hl
        exact hsub _
      · rw [List.pairwise_map]
        refine hR.imp ?_
        intro r r' hrr x hx y hy
        obtain ⟨a, rfl⟩ := ((hmem _ x).1 hx).2
        obtain ⟨b, rfl⟩ := ((hmem _ y).1 hy).2
        exact lt_next p r r' a b hrr
    · intro x hx y hy
      split at hx
      · obtain rfl : x = p := by simpa using hx
        obtain ⟨r, _, hy⟩ := List.mem_flatMap.1 hy
        obtain ⟨b, rfl⟩ := ((hmem _ y).1 hy).2
        exact lt_longer x r b
      · cases hx
  · intro x
    rw [hmem, List.mem_append, List.mem_flatMap]
    constructor
    · rintro ⟨h1, h2⟩
      by_cases e : x = p
      · subst e
        rw [if_pos h1]
        exact Or.inl (by simp)
      · obtain ⟨r, hr, h3⟩ := hall x h1 h2 e
        exact Or.inr ⟨r, hr, (hmem _ x).2 ⟨h1, h3⟩⟩
    · rintro (h | ⟨r, hr, h⟩)
      · split at h
        · rename_i hp
          obtain rfl : x = p := by simpa using h
          exact ⟨hp, List.prefix_refl _⟩
        · cases h
      · have h2 := (hmem _ x).1 h
        exact ⟨h2.1, (List.prefix_append p [r]).trans h2.2⟩
/-- What a node's words are. -/
theorem NP.words {L : List ByteArray} {P : List PN} {B : List (List Int)} (h : NP L P B) (hD : (L.map rs).Pairwise (· < ·)) {i : Nat} {p : List Int} {n : PN} (hp : B[i]? = some p) (hn : P[i]? = some n) :
    subW (L.map rs) p = (if n.e = true then [p] else []) ++ n.R.flatMap fun r => subW (L.map rs) (p ++ [r]) := by
  have he : n.e = true ↔ p ∈ L.map rs := by
    rw [h.ends.iff i n p hn hp]
    simp
  have hs := subW_step (L.map rs) hD p n.R (h.inv.rise i n hn) (fun u hu hpu hne => by
    obtain ⟨t, rfl⟩ := hpu
    cases t with
    | nil => simp at hne
    | cons r t =>
      obtain ⟨c, hc⟩ := h.ends.has _ (by simp only [List.append_nil, List.mem_reverse]; exact hu)
      have hc' : B[c]? = some ((p ++ [r]) ++ t) := by rw [hc]; simp
      obtain ⟨j, hj⟩ := h.inv.closed (p ++ [r]) t.length t c (Nat.le_refl _) hc'
      obtain ⟨i', n', j', h1, h2, h3, h4⟩ := h.inv.up j p r hj
      obtain rfl := h.inv.uniq i' i p h2 hp
      rw [hn] at h1
      cases h1
      exact ⟨r, List.mem_of_getElem? h3, ⟨t, by simp⟩⟩)
  rw [hs]
  congr 1
  by_cases hb : p ∈ L.map rs
  · rw [if_pos hb, if_pos (he.2 hb)]
  · rw [if_neg hb, if_neg (fun e => hb (he.1 e))]
end Go.Proofs.YtfikkkodepfdkaaDoor
