/- How far words are apart: the table's numbers, in plain words; no program's function in this text. -/
namespace Go.Proofs.YtfikkkodepfdkaaDoor.Qns
/-- A row of the table out of the row ahead and the one ahead of that. -/
def nrow (A B : Nat → Int) (i : Nat) (cur prev : Nat → Nat) : Nat → Nat
  | 0 => i + 1
  | k + 1 => if 1 ≤ i ∧ 1 ≤ k ∧ A i = B (k - 1) ∧ A (i - 1) = B k then min (min (min (cur (k + 1) + 1) (nrow A B i cur prev k + 1)) (cur k + if A i = B k then 0 else 1)) (prev (k - 1) + 1) else min (min (cur (k + 1) + 1) (nrow A B i cur prev k + 1)) (cur k + if A i = B k then 0 else 1)
/-- The row for the first i signs, and the one ahead. -/
def rws (A B : Nat → Int) : Nat → (Nat → Nat) × (Nat → Nat)
  | 0 => (fun k => k, fun _ => 0)
  | i + 1 => (nrow A B i (rws A B i).1 (rws A B i).2, (rws A B i).1)
/-- The number of the table for the first i and k signs. -/
def dd (A B : Nat → Int) (i k : Nat) : Nat := (rws A B i).1 k
theorem dd_0 (A B : Nat → Int) (k : Nat) : dd A B 0 k = k := rfl
theorem dd_i (A B : Nat → Int) (i : Nat) : dd A B i 0 = i := by
  cases i <;> rfl
theorem dd_s (A B : Nat → Int) (i k : Nat) : dd A B (i + 1) (k + 1) = if 1 ≤ i ∧ 1 ≤ k ∧ A i = B (k - 1) ∧ A (i - 1) = B k then min (min (min (dd A B i (k + 1) + 1) (dd A B (i + 1) k + 1)) (dd A B i k + if A i = B k then 0 else 1)) (dd A B (i - 1) (k - 1) + 1) else min (min (dd A B i (k + 1) + 1) (dd A B (i + 1) k + 1)) (dd A B i k + if A i = B k then 0 else 1) := by
  cases i with
  | zero =>
    have e : dd A B (0 + 1) (k + 1) = nrow A B 0 (rws A B 0).1 (rws A B 0).2 (k + 1) := rfl
    rw [if_neg (fun h => absurd h.1 (by decide)), e, nrow, if_neg (fun h => absurd h.1 (by decide))]
    rfl
  | succ i => rfl
/-- What the number is at most. -/
theorem dd_le (A B : Nat → Int) (i k : Nat) :
    dd A B (i + 1) (k + 1) ≤ dd A B i (k + 1) + 1 ∧ dd A B (i + 1) (k + 1) ≤ dd A B (i + 1) k + 1 ∧ dd A B (i + 1) (k + 1) ≤ dd A B i k + 1 ∧ (A i = B k → dd A B (i + 1) (k + 1) ≤ dd A B i k) := by
  rw [dd_s]
  generalize dd A B i (k + 1) = x
  generalize dd A B (i + 1) k = y
  generalize dd A B i k = z
  generalize dd A B (i - 1) (k - 1) = u
  by_cases h : A i = B k
  · simp only [h, if_true]
    split <;> simp only [forall_const] <;> omega
  · simp only [h, if_false]
    split <;> refine ⟨?_, ?_, ?_, fun h' => absurd h' (by simp)⟩ <;> omega
theorem dd_le2 (A B : Nat → Int) (i k : Nat) (h1 : A (i + 1) = B k) (h2 : A i = B (k + 1)) : dd A B (i + 1 + 1) (k + 1 + 1) ≤ dd A B i k + 1 := by
  rw [dd_s]
  rw [if_pos ⟨by omega, by omega, h1, h2⟩]
  exact Nat.min_le_right _ _
/-- It is one of these. -/
theorem dd_is (A B : Nat → Int) (i k : Nat) :
    dd A B (i + 1) (k + 1) = dd A B i (k + 1) + 1 ∨ dd A B (i + 1) (k + 1) = dd A B (i + 1) k + 1 ∨ (A i ≠ B k ∧ dd A B (i + 1) (k + 1) = dd A B i k + 1) ∨ (A i = B k ∧ dd A B (i + 1) (k + 1) = dd A B i k) ∨
      ∃ i' k', i = i' + 1 ∧ k = k' + 1 ∧ A (i' + 1) = B k' ∧ A i' = B (k' + 1) ∧ dd A B (i + 1) (k + 1) = dd A B i' k' + 1 := by
  by_cases hc : 1 ≤ i ∧ 1 ≤ k ∧ A i = B (k - 1) ∧ A (i - 1) = B k
  · obtain ⟨i', rfl⟩ : ∃ i', i = i' + 1 := ⟨i - 1, by omega⟩
    obtain ⟨k', rfl⟩ : ∃ k', k = k' + 1 := ⟨k - 1, by omega⟩
    have e := dd_s A B (i' + 1) (k' + 1)
    rw [if_pos hc] at e
    simp only [Nat.add_sub_cancel] at e hc
    by_cases h : A (i' + 1) = B (k' + 1)
    · rw [if_pos h] at e
      rcases Nat.lt_or_ge (dd A B (i' + 1 + 1) (k' + 1 + 1)) (dd A B i' k' + 1) with q | q
      · rcases Nat.lt_or_ge (dd A B (i' + 1 + 1) (k' + 1 + 1)) (dd A B (i' + 1) (k' + 1)) with q2 | q2
        · rcases Nat.lt_or_ge (dd A B (i' + 1 + 1) (k' + 1 + 1)) (dd A B (i' + 1) (k' + 1 + 1) + 1) with q3 | q3
          · exact Or.inr (Or.inl (by omega))
          · exact Or.inl (by omega)
        · exact Or.inr (Or.inr (Or.inr (Or.inl ⟨h, by omega⟩)))
      · exact Or.inr (Or.inr (Or.inr (Or.inr ⟨i', k', rfl, rfl, hc.2.2.1, hc.2.2.2, by omega⟩)))
    · rw [if_neg h] at e
      rcases Nat.lt_or_ge (dd A B (i' + 1 + 1) (k' + 1 + 1)) (dd A B i' k' + 1) with q | q
      · rcases Nat.lt_or_ge (dd A B (i' + 1 + 1) (k' + 1 + 1)) (dd A B (i' + 1) (k' + 1) + 1) with q2 | q2
        · rcases Nat.lt_or_ge (dd A B (i' + 1 + 1) (k' + 1 + 1)) (dd A B (i' + 1) (k' + 1 + 1) + 1) with q3 | q3
          · exact Or.inr (Or.inl (by omega))
          · exact Or.inl (by omega)
        · exact Or.inr (Or.inr (Or.inl ⟨h, by omega⟩))
      · exact Or.inr (Or.inr (Or.inr (Or.inr ⟨i', k', rfl, rfl, hc.2.2.1, hc.2.2.2, by omega⟩)))
  · have e := dd_s A B i k
    rw [if_neg hc] at e
    by_cases h : A i = B k
    · rw [if_pos h] at e
      rcases Nat.lt_or_ge (dd A B (i + 1) (k + 1)) (dd A B i k) with q2 | q2
      · rcases Nat.lt_or_ge (dd A B (i + 1) (k + 1)) (dd A B i (k + 1) + 1) with q3 | q3
        · exact Or.inr (Or.inl (by omega))
        · exact Or.inl (by omega)
      · exact Or.inr (Or.inr (Or.inr (Or.inl ⟨h, by omega⟩)))
    · rw [if_neg h] at e
      rcases Nat.lt_or_ge (dd A B (i + 1) (k + 1)) (dd A B i k + 1) with q2 | q2
      · rcases Nat.lt_or_ge (dd A B (i + 1) (k + 1)) (dd A B i (k + 1) + 1) with q3 | q3
        · exact Or.inr (Or.inl (by omega))
        · exact Or.inl (by omega)
      · exact Or.inr (Or.inr (Or.inl ⟨h, by omega⟩))
theorem dd_comm_le (A B : Nat → Int) : ∀ n i k, i + k ≤ n → dd B A k i ≤ dd A B i k
  | n, 0, k, _ => by rw [dd_0, dd_i]; exact Nat.le_refl _
  | n, i + 1, 0, _ => by rw [dd_0, dd_i]; exact Nat.le_refl _
  | 0, i + 1, k + 1, h => by omega
  | n + 1, i + 1, k + 1, h => by
    obtain ⟨l1, l2, l3, l4⟩ := dd_le B A k i
    have a1 := dd_comm_le A B n i (k + 1) (by omega)
    have a2 := dd_comm_le A B n (i + 1) k (by omega)
    have a3 := dd_comm_le A B n i k (by omega)
    rcases dd_is A B i k with e | e | ⟨_, e⟩ | ⟨e', e⟩ | ⟨i', k', rfl, rfl, e1, e2, e⟩
    · omega
    · omega
    · omega
    · have := l4 e'.symm; omega
    · have a4 := dd_comm_le A B n i' k' (by omega)
      have := dd_le2 B A k' i' e2.symm e1.symm
      omega
theorem dd_comm (A B : Nat → Int) (i k : Nat) : dd A B i k = dd B A k i := Nat.le_antisymm (dd_comm_le B A _ k i (Nat.le_refl _)) (dd_comm_le A B _ i k (Nat.le_refl _))
/-- One sign more is one further at most. -/
theorem dd_up (A B : Nat → Int) (i k : Nat) : dd A B (i + 1) k ≤ dd A B i k + 1 := by
  cases k with
  | zero => rw [dd_i, dd_i]; exact Nat.le_refl _
  | succ k => exact (dd_le A B i k).1
theorem dd_up2 (A B : Nat → Int) (i k : Nat) : dd A B i (k + 1) ≤ dd A B i k + 1 := by
  rw [dd_comm A B i (k + 1), dd_comm A B i k]; exact dd_up B A k i
theorem dd_down' (A B : Nat → Int) : ∀ n i k, i + k ≤ n → dd A B i k ≤ dd A B (i + 1) k + 1
  | n, i, 0, _ => by rw [dd_i, dd_i]; omega
  | 0, i, k + 1, h => by omega
  | n + 1, i, k + 1, h => by
    have a2 := dd_down' A B n i k (by omega)
    have u2 := dd_up2 A B i k
    rcases dd_is A B i k with e | e | ⟨_, e⟩ | ⟨e', e⟩ | ⟨i', k', rfl, rfl, e1, e2, e⟩
    · omega
    · omega
    · omega
    · omega
    · have := (dd_le A B i' (k' + 1)).2.2.2 e2
      have := dd_up2 A B i' k'
      omega
theorem dd_down (A B : Nat → Int) (i k : Nat) : dd A B i k ≤ dd A B (i + 1) k + 1 := dd_down' A B _ i k (Nat.le_refl _)
theorem dd_max (A B : Nat → Int) : ∀ n i k, i + k ≤ n → dd A B i k ≤ max i k ∧ i - k ≤ dd A B i k ∧ k - i ≤ dd A B i k
  | n, 0, k, _ => by rw [dd_0]; omega
  | n, i + 1, 0, _ => by rw [dd_i]; omega
  | 0, i + 1, k + 1, h => by omega
  | n + 1, i + 1, k + 1, h => by
    obtain ⟨l1, l2, l3, l4⟩ := dd_le A B i k
    have a1 := dd_max A B n i (k + 1) (by omega)
    have a2 := dd_max A B n (i + 1) k (by omega)
    have a3 := dd_max A B n i k (by omega)
    rcases dd_is A B i k with e | e | ⟨_, e⟩ | ⟨e', e⟩ | ⟨i', k', rfl, rfl, e1, e2, e⟩
    · omega
    · omega
    · omega
    · omega
    · have a4 := dd_max A B n i' k' (by omega)
      omega
theorem dd_same (A B : Nat → Int) : ∀ i, (∀ j, j < i → A j = B j) → dd A B i i = 0
  | 0, _ => by rw [dd_0]
  | i + 1, h => by
    have := (dd_le A B i i).2.2.2 (h i (by omega))
    have := dd_same A B i (fun j hj => h j (by omega))
    omega
theorem dd_zero' (A B : Nat → Int) : ∀ n i k, i + k ≤ n → dd A B i k = 0 → i = k ∧ ∀ j, j < i → A j = B j
  | n, 0, k, _, h => by rw [dd_0] at h; exact ⟨h.symm, fun j hj => by omega⟩
  | n, i + 1, 0, _, h => by rw [dd_i] at h; omega
  | 0, i + 1, k + 1, h, _ => by omega
  | n + 1, i + 1, k + 1, h, h0 => by
    rcases dd_is A B i k with e | e | ⟨_, e⟩ | ⟨e', e⟩ | ⟨i', k', rfl, rfl, e1, e2, e⟩
    · omega
    · omega
    · omega
    · obtain ⟨rfl, h2⟩ := dd_zero' A B n i k (by omega) (by omega)
      refine ⟨rfl, fun j hj => ?_⟩
      rcases Nat.lt_or_ge j i with q | q
      · exact h2 j q
      · obtain rfl : j = i := by omega
        exact e'
    · omega
theorem dd_congr (A A' B B' : Nat → Int) : ∀ n i k, i + k ≤ n → (∀ j, j < i → A j = A' j) → (∀ j, j < k → B j = B' j) → dd A B i k = dd A' B' i k
  | n, 0, k, _, _, _ => by rw [dd_0, dd_0]
  | n, i + 1, 0, _, _, _ => by rw [dd_i, dd_i]
  | 0, i + 1, k + 1, h, _, _ => by omega
  | n + 1, i + 1, k + 1, h, hA, hB => by
    rw [dd_s, dd_s, dd_congr A A' B B' n i (k + 1) (by omega) (fun j hj => hA j (by omega)) hB, dd_congr A A' B B' n (i + 1) k (by omega) hA (fun j hj => hB j (by omega)),
      dd_congr A A' B B' n i k (by omega) (fun j hj => hA j (by omega)) (fun j hj => hB j (by omega)), dd_congr A A' B B' n (i - 1) (k - 1) (by omega) (fun j hj => hA j (by omega)) (fun j hj => hB j (by omega)),
      hA i (by omega), hB k (by omega), hA (i - 1) (by omega), hB (k - 1) (by omega)]
/-- Words behind words. -/
theorem dd_cat (A B C D A' B' : Nat → Int) (i k : Nat) (hA : ∀ j, j < i → A' j = A j) (hB : ∀ j, j < k → B' j = B j) (hC : ∀ j, A' (i + j) = C j) (hD : ∀ j, B' (k + j) = D j) :
    ∀ n p q, p + q ≤ n → dd A' B' (i + p) (k + q) ≤ dd A B i k + dd C D p q
  | n, 0, q, _ => by
    induction q with
    | zero => rw [dd_0, Nat.add_zero, Nat.add_zero, dd_congr A' A B' B _ i k (Nat.le_refl _) hA hB]; exact Nat.le_refl _
    | succ q ih =>
      have := dd_up2 A' B' i (k + q)
      have := ih (by omega)
      rw [Nat.add_zero] at *
      rw [dd_0] at *
      rw [← Nat.add_assoc]
      omega
  | n, p + 1, 0, h => by
    have := dd_cat A B C D A' B' i k hA hB hC hD n p 0 (by omega)
    have := dd_up A' B' (i + p) k
    simp only [dd_i, Nat.add_zero, ← Nat.add_assoc] at *
    omega
  | 0, p + 1, q + 1, h => by omega
  | n + 1, p + 1, q + 1, h => by
    obtain ⟨l1, l2, l3, l4⟩ := dd_le A' B' (i + p) (k + q)
    have a1 := dd_cat A B C D A' B' i k hA hB hC hD n p (q + 1) (by omega)
    have a2 := dd_cat A B C D A' B' i k hA hB hC hD n (p + 1) q (by omega)
    have a3 := dd_cat A B C D A' B' i k hA hB hC hD n p q (by omega)
    rw [← Nat.add_assoc] at a1 a2
    rw [← Nat.add_assoc, ← Nat.add_assoc]
    rcases dd_is C D p q with e | e | ⟨_, e⟩ | ⟨e', e⟩ | ⟨p', q', rfl, rfl, e1, e2, e⟩
    · omega
    · omega
    · omega
    · have := l4 (by rw [hC, hD]; exact e')
      omega
    · have a4 := dd_cat A B C D A' B' i k hA hB hC hD n p' q' (by omega)
      have := dd_le2 A' B' (i + p') (k + q') (by rw [Nat.add_assoc, hC, hD]; exact e1) (by rw [Nat.add_assoc k, hC, hD]; exact e2)
      rw [← Nat.add_assoc, ← Nat.add_assoc]
      omega
/-- A list, as what stands at each place. -/
def at_ (l : List Int) : Nat → Int := fun j => l.getD j 0
/-- How far two words are apart. -/
def far (x y : List Int) : Nat := dd (at_ x) (at_ y) x.length y.length
theorem far_comm (x y : List Int) : far x y = far y x := dd_comm _ _ _ _
theorem far_self (x : List Int) : far x x = 0 := dd_same _ _ _ (fun _ _ => rfl)
theorem far_zero (x y : List Int) : far x y = 0 ↔ x = y := by
  constructor
  · intro h
    obtain ⟨h1, h2⟩ := dd_zero' _ _ _ _ _ (Nat.le_refl _) h
    apply List.ext_getElem h1
    intro j h3 h4
    have := h2 j h3
    simpa [at_, List.getD, h3, h4] using this
  · rintro rfl; exact far_self x
theorem far_max (x y : List Int) : far x y ≤ max x.length y.length ∧ x.length - y.length ≤ far x y ∧ y.length - x.length ≤ far x y := dd_max _ _ _ _ _ (Nat.le_refl _)
theorem at_left (x y : List Int) (j : Nat) (h : j < x.length) : at_ (x ++ y) j = at_ x j := by
  simp [at_, List.getD, List.getElem?_append_left h]
theorem at_right (x y : List Int) (j : Nat) : at_ (x ++ y) (x.length + j) = at_ y j := by
  simp [at_, List.getD, List.getElem?_append_right]
theorem far_cat (a b c d : List Int) : far (a ++ c) (b ++ d) ≤ far a b + far c d := by
  unfold far
  rw [List.length_append, List.length_append]
  exact dd_cat (at_ a) (at_ b) (at_ c) (at_ d) _ _ _ _ (fun j hj => at_left a c j hj) (fun j hj => at_left b d j hj) (fun j => at_right a c j) (fun j => at_right b d j) _ _ _ (Nat.le_refl _)
theorem far_more (a b : List Int) (r : Int) : far (a ++ [r]) b ≤ far a b + 1 ∧ far a b ≤ far (a ++ [r]) b + 1 := by
  have e : far a b = dd (at_ (a ++ [r])) (at_ b) a.length b.length := dd_congr _ _ _ _ _ _ _ (Nat.le_refl _) (fun j hj => (at_left a [r] j hj).symm) (fun _ _ => rfl)
  have e2 : far (a ++ [r]) b = dd (at_ (a ++ [r])) (at_ b) (a.length + 1) b.length := by simp [far]
  rw [e, e2]
  exact ⟨dd_up _ _ _ _, dd_down _ _ _ _⟩
theorem far_nil (y : List Int) : far [] y = y.length := dd_0 _ _ _
theorem far_put (x y : List Int) (r : Int) : far (x ++ y) (x ++ r :: y) ≤ 1 := by
  have h1 := far_cat x x y (r :: y)
  have h2 := far_cat [] [r] y y
  rw [far_self] at h1 h2
  rw [far_nil] at h2
  simp only [List.nil_append, List.singleton_append, List.length_singleton] at h2
  omega
theorem far_set (x y : List Int) (p r : Int) : far (x ++ p :: y) (x ++ r :: y) ≤ 1 := by
  have h1 := far_cat x x (p :: y) (r :: y)
  have h2 := far_cat [p] [r] y y
  have h3 := (far_max [p] [r]).1
  rw [far_self] at h1 h2
  simp only [List.singleton_append, List.length_singleton] at h2 h3
  omega
theorem far_turn (x y : List Int) (p q : Int) : far (x ++ p :: q :: y) (x ++ q :: p :: y) ≤ 1 := by
  have h1 := far_cat x x (p :: q :: y) (q :: p :: y)
  have h2 := far_cat [p, q] [q, p] y y
  have h3 : far [p, q] [q, p] ≤ 1 := by
    have := dd_le2 (at_ [p, q]) (at_ [q, p]) 0 0 rfl rfl
    rw [dd_0] at this
    exact this
  rw [far_self] at h1 h2
  simp only [List.cons_append, List.nil_append] at h2
  omega
end Go.Proofs.YtfikkkodepfdkaaDoor.Qns
