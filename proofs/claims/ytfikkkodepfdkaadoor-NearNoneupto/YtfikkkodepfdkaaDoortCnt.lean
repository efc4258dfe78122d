/- How many nodes lie below a node. -/
import Derived.Test.YtfikkkodepfdkaaDoortNod
namespace Go.Proofs.YtfikkkodepfdkaaDoor
set_option linter.unusedVariables false
/-- So many beginnings go on from this one. -/
def below (B : List (List Int)) (p : List Int) : Nat := B.countP fun q => decide (p <+: q ∧ q ≠ p)
def onP (B : List (List Int)) (p : List Int) : Nat := B.countP fun q => decide (p <+: q)
theorem on_below {B : List (List Int)} (hn : B.Nodup) {p : List Int} (hp : p ∈ B) : onP B p = below B p + 1 := by
  unfold onP below
  induction B with
  | nil => cases hp
  | cons a B ih =>
    rw [List.nodup_cons] at hn
    rw [List.countP_cons, List.countP_cons]
    by_cases e : a = p
    · subst e
      have h0 : ∀ q ∈ B, decide (a <+: q) = decide (a <+: q ∧ q ≠ a) := fun q hq => by
        have hne : q ≠ a := fun h => hn.1 (by rw [← h]; exact hq)
        simp [hne]
      rw [List.countP_congr (fun q hq => by rw [h0 q hq])]
      simp
    · have hp' : p ∈ B := by
        rcases List.mem_cons.1 hp with h | h
        · exact absurd h.symm e
        · exact h
      rw [ih hn.2 hp']
      have : decide (p <+: a) = decide (p <+: a ∧ a ≠ p) := by simp [e]
      rw [this]
      omega
/-- One of these goes on, at most. -/
theorem one_next (p q : List Int) : ∀ (R : List Int), R.Nodup → (R.map fun r => if p ++ [r] <+: q then 1 else 0).sum = if (∃ r ∈ R, p ++ [r] <+: q) then 1 else 0
  | [], _ => by simp
  | a :: R, hn => by
    rw [List.nodup_cons] at hn
    rw [List.map_cons, List.sum_cons, one_next p q R hn.2]
    by_cases ha : p ++ [a] <+: q
    · have hno : ¬ ∃ r ∈ R, p ++ [r] <+: q := by
        rintro ⟨r, hr, h⟩
        have := List.prefix_of_prefix_length_le h ha (by simp)
        have e : p ++ [r] = p ++ [a] := this.eq_of_length (by simp)
        have : r = a := by simpa using e
        exact hn.1 (by rw [← this]; exact hr)
      rw [if_pos ha, if_neg hno, if_pos ⟨a, List.mem_cons_self .., ha⟩]
    · rw [if_neg ha, Nat.zero_add]
      by_cases h : ∃ r ∈ R, p ++ [r] <+: q
      · obtain ⟨r, hr, h⟩ := h
        rw [if_pos ⟨r, hr, h⟩, if_pos ⟨r, List.mem_cons_of_mem _ hr, h⟩]
      · rw [if_neg h, if_neg]
        rintro ⟨r, hr, h'⟩
        rcases List.mem_cons.1 hr with rfl | hr
        · exact ha h'
        · exact h ⟨r, hr, h'⟩
theorem sum_add (R : List Int) (f g : Int → Nat) : (R.map fun r => f r + g r).sum = (R.map f).sum + (R.map g).sum := by
  induction R with
  | nil => rfl
  | cons a R ih => simp only [List.map_cons, List.sum_cons, ih]; omega
/-- What goes on from a beginning goes on by one of its signs. -/
theorem sum_on (p : List Int) (R : List Int) (hR : R.Nodup) : ∀ (B : List (List Int)), (∀ q ∈ B, p <+: q → q ≠ p → ∃ r ∈ R, p ++ [r] <+: q) → (R.map fun r => onP B (p ++ [r])).sum = below B p
  | [], _ => by
    show (R.map fun r => 0).sum = 0
    induction R with
    | nil => rfl
    | cons a R ih => rw [List.nodup_cons] at hR; simp [ih hR.2]
  | q :: B, h => by
    have ih := sum_on p R hR B (fun x hx => h x (List.mem_cons_of_mem _ hx))
    have e : (R.map fun r => onP (q :: B) (p ++ [r])) = R.map fun r => onP B (p ++ [r]) + if p ++ [r] <+: q then 1 else 0 := by
      apply List.map_congr_left
      intro r _
      unfold onP
      rw [List.countP_cons]
      by_cases hq : p ++ [r] <+: q <;> simp [hq]
    rw [e, sum_add, ih, one_next p q R hR]
    unfold below
    rw [List.countP_cons]
    by_cases hq : p <+: q ∧ q ≠ p
    · rw [if_pos (h q (List.mem_cons_self ..) hq.1 hq.2)]
      simp [hq]
    · rw [if_neg]
      · simp only [hq, decide_false]
        simp
      · rintro ⟨r, _, hr⟩
        refine hq ⟨(List.prefix_append p [r]).trans hr, fun e => ?_⟩
        rw [e] at hr
        have := hr.length_le
        simp at this
        omega
end Go.Proofs.YtfikkkodepfdkaaDoor
