/- Where runes lead; what Has tells: no program's step in this text. -/
import Derived.Test.YtfikkkodepfdkaaDoortHas
import Derived.Test.YtfikkkodepfdkaaDoortInv
namespace Go.Proofs.YtfikkkodepfdkaaDoor
set_option linter.unusedVariables false
theorem Inv.closed {W : List (List Int)} {P : List PN} {B : List (List Int)} (h : Inv W P B) (q : List Int) : ∀ (d : Nat) (t : List Int) (c : Nat), t.length ≤ d → B[c]? = some (q ++ t) → ∃ i : Nat, B[i]? = some q
  | 0, t, c, ht, hc => by
    obtain rfl : t = [] := List.eq_nil_of_length_eq_zero (by omega)
    exact ⟨c, by rw [List.append_nil] at hc; exact hc⟩
  | d + 1, t, c, ht, hc => by
    rcases List.eq_nil_or_concat t with rfl | ⟨t', x, rfl⟩
    · exact ⟨c, by rw [List.append_nil] at hc; exact hc⟩
    · rw [List.concat_eq_append, ← List.append_assoc] at hc
      obtain ⟨i, n, j, _, h2, _⟩ := h.up c (q ++ t') x hc
      exact h.closed q d t' i (by simp at ht; omega) h2
theorem Inv.node {W : List (List Int)} {P : List PN} {B : List (List Int)} (h : Inv W P B) {i : Nat} {p : List Int} (hp : B[i]? = some p) : ∃ n, P[i]? = some n :=
  ⟨_, List.getElem?_eq_getElem (by have := (List.getElem?_eq_some_iff.1 hp).1; have := h.len; omega)⟩
theorem go_to {W : List (List Int)} {P : List PN} {B : List (List Int)} (h : Inv W P B) : ∀ (t : List Int) (i : Nat) (p : List Int) (c : Nat), B[i]? = some p → (goP P i t = some c ↔ B[c]? = some (p ++ t))
  | [], i, p, c, hp => by
    rw [List.append_nil]
    simp only [goP, Option.some.injEq]
    exact ⟨fun e => by rw [← e]; exact hp, fun e => h.uniq i c p hp e⟩
  | r :: t, i, p, c, hp => by
    obtain ⟨n, hn⟩ := h.node hp
    have hok := h.ok n (List.mem_of_getElem? hn)
    have hri := h.rise i n hn
    have e : p ++ r :: t = (p ++ [r]) ++ t := by simp
    rw [e]
    simp only [goP, hn]
    by_cases hr : r ∈ n.R
    · rw [if_pos hr]
      obtain ⟨j, hj⟩ := List.getElem?_of_mem hr
      have hjl := (List.getElem?_eq_some_iff.1 hj).1
      rw [idx_at hri hj]
      have hK : n.K[j]? = some (n.K[j]'(by omega)) := List.getElem?_eq_getElem (by omega)
      rw [hK]
      exact go_to h t _ (p ++ [r]) c (h.kid i n j r _ p hn hp hj hK)
    · rw [if_neg hr]
      refine ⟨(fun e => by cases e), fun hc => ?_⟩
      obtain ⟨k, hk⟩ := h.closed (p ++ [r]) t.length t c (Nat.le_refl _) hc
      obtain ⟨i2, n2, j, h1, h2, h3, _⟩ := h.up k p r hk
      obtain rfl := h.uniq i2 i p h2 hp
      rw [hn] at h1
      cases h1
      exact absurd (List.mem_of_getElem? h3) hr
/-- Has tells just the words. -/
theorem has_is {W D : List (List Int)} {P : List PN} {B : List (List Int)} (h : Inv W P B) (hD : EndI D P B) (u : List Int) : hasP P u = decide (u ∈ D) := by
  cases hg : goP P 0 u with
  | none =>
    have hno : u ∉ D := fun hu => by
      obtain ⟨c, hc⟩ := hD.has u hu
      have := (go_to h u 0 [] c h.b0).2 (by rw [List.nil_append]; exact hc)
      rw [hg] at this
      cases this
    rw [decide_eq_false hno]
    unfold hasP
    rw [hg]
  | some c =>
    have hc := (go_to h u 0 [] c h.b0).1 hg
    rw [List.nil_append] at hc
    obtain ⟨n, hn⟩ := h.node hc
    rw [hasP_yes hg hn]
    have := hD.iff c n u hn hc
    by_cases hu : u ∈ D
    · rw [decide_eq_true hu]; exact this.2 hu
    · rw [decide_eq_false hu]
      cases he : n.e with
      | false => rfl
      | true => exact absurd (this.1 he) hu
theorem Inv.riseP {W : List (List Int)} {P : List PN} {B : List (List Int)} (h : Inv W P B) : RiseP P := by
  intro n hn
  obtain ⟨i, hi⟩ := List.getElem?_of_mem hn
  exact h.rise i n hi
theorem inv0 : Inv [] [pn0] [[]] := by
  refine ⟨OkP0, rfl, rfl, ?_, ?_, ?_, ?_, ?_⟩
  · intro i n j r c p hn hp hj hc
    match i, hn with
    | 0, hn => simp at hn; subst hn; simp [pn0] at hj
    | i + 1, hn => simp at hn
  · intro i j p hi hj
    have h1 := (List.getElem?_eq_some_iff.1 hi).1
    have h2 := (List.getElem?_eq_some_iff.1 hj).1
    simp at h1 h2
    omega
  · intro c p r hc
    match c, hc with
    | 0, hc => simp at hc
    | c + 1, hc => simp at hc
  · intro i n hn
    match i, hn with
    | 0, hn => simp at hn; subst hn; exact List.Pairwise.nil
    | i + 1, hn => simp at hn
  · intro i p hp
    match i, hp with
    | 0, hp => simp at hp; exact Or.inl hp
    | i + 1, hp => simp at hp
theorem end0 : EndI [] [pn0] [[]] := by
  refine ⟨fun u hu => absurd hu List.not_mem_nil, fun i n p hn hp => ?_⟩
  match i, hn with
  | 0, hn => simp at hn; subst hn; simp [pn0]
  | i + 1, hn => simp at hn
end Go.Proofs.YtfikkkodepfdkaaDoor
