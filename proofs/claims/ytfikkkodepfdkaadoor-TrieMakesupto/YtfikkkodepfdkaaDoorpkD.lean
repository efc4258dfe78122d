/- How far words are apart: the table's numbers, in plain words; no program's function in this text. What lies in memory: rows of signs and of numbers; no program's function in this text. dist: First, Last. dist: Last, differ, Least. -/
import Derived.WalkKit
import Derived.Below
import Derived.WalkSmall
import Derived.Deep.QuietTactic
import Derived.BigQuiet
import Derived.Deep.LoopGhost
import Derived.Deep.DeepFit
import Derived.OwnWalk
import Derived.Deep.OwnRows
import Derived.Test.YtfikkkodepfdkaaDoorProg
namespace Go.Proofs.YtfikkkodepfdkaaDoor.Qns
/-- A row of the table out of the row ahead and the one ahead of that. -/
def nrow (A B : Nat → Int) (i : Nat) (cur prev : Nat → Nat) : Nat → Nat
  | 0 => i + 1
  | k + 1 => if 1 ≤ i ∧ 1 ≤ k ∧ A i = B (k - 1) ∧ A (i - 1) = B k then min (min (min (cur (k + 1) + 1) (nrow A B i cur prev k + 1)) (cur k + if A i = B k then 0 else 1)) (prev (k - 1) + 1) else min (min (cur (k + 1) + 1) (nrow A B i cur prev k + 1)) (cur k + if A i = B k then 0 else 1)
/-- The row for the first i signs, and the one ahead. -/
def rws (A B : Nat → Int) : Nat → (Nat → Nat) × (Nat → Nat)
  | 0 => (fun k => k, fun _ => 0)
  | i + 1 => (nrow A B i (rws A B i).1 (rws A B i).2, (rws A B i).1)
/-- The number of the table for the first i and k signs. -/
def dd (A B : Nat → Int) (i k : Nat) : Nat := (rws A B i).1 k
theorem dd_0 (A B : Nat → Int) (k : Nat) : dd A B 0 k = k := rfl
theorem dd_i (A B : Nat → Int) (i : Nat) : dd A B i 0 = i := by
  cases i <;> rfl
theorem dd_s (A B : Nat → Int) (i k : Nat) : dd A B (i + 1) (k + 1) = if 1 ≤ i ∧ 1 ≤ k ∧ A i = B (k - 1) ∧ A (i - 1) = B k then min (min (min (dd A B i (k + 1) + 1) (dd A B (i + 1) k + 1)) (dd A B i k + if A i = B k then 0 else 1)) (dd A B (i - 1) (k - 1) + 1) else min (min (dd A B i (k + 1) + 1) (dd A B (i + 1) k + 1)) (dd A B i k + if A i = B k then 0 else 1) := by
  cases i with
  | zero =>
    have e : dd A B (0 + 1) (k + 1) = nrow A B 0 (rws A B 0).1 (rws A B 0).2 (k + 1) := rfl
    rw [if_neg (fun h => absurd h.1 (by decide)), e, nrow, if_neg (fun h => absurd h.1 (by decide))]
    rfl
  | succ i => rfl
/-- What the number is at most. -/
theorem dd_le (A B : Nat → Int) (i k : Nat) :
    dd A B (i + 1) (k + 1) ≤ dd A B i (k + 1) + 1 ∧ dd A B (i + 1) (k + 1) ≤ dd A B (i + 1) k + 1 ∧ dd A B (i + 1) (k + 1) ≤ dd A B i k + 1 ∧ (A i = B k → dd A B (i + 1) (k + 1) ≤ dd A B i k) := by
  rw [dd_s]
  generalize dd A B i (k + 1) = x
  generalize dd A B (i + 1) k = y
  generalize dd A B i k = z
  generalize dd A B (i - 1) (k - 1) = u
  by_cases h : A i = B k
  · simp only [h, if_true]
    split <;> simp only [forall_const] <;> omega
  · simp only [h, if_false]
    split <;> refine ⟨?_, ?_, ?_, fun h' => absurd h' (by simp)⟩ <;> omega
theorem dd_le2 (A B : Nat → Int) (i k : Nat) (h1 : A (i + 1) = B k) (h2 : A i = B (k + 1)) : dd A B (i + 1 + 1) (k + 1 + 1) ≤ dd A B i k + 1 := by
  rw [dd_s]
  rw [if_pos ⟨by omega, by omega, h1, h2⟩]
  exact Nat.min_le_right _ _
/-- It is one of these. -/
theorem dd_is (A B : Nat → Int) (i k : Nat) :
    dd A B (i + 1) (k + 1) = dd A B i (k + 1) + 1 ∨ dd A B (i + 1) (k + 1) = dd A B (i + 1) k + 1 ∨ (A i ≠ B k ∧ dd A B (i + 1) (k + 1) = dd A B i k + 1) ∨ (A i = B k ∧ dd A B (i + 1) (k + 1) = dd A B i k) ∨
      ∃ i' k', i = i' + 1 ∧ k = k' + 1 ∧ A (i' + 1) = B k' ∧ A i' = B (k' + 1) ∧ dd A B (i + 1) (k + 1) = dd A B i' k' + 1 := by
  by_cases hc : 1 ≤ i ∧ 1 ≤ k ∧ A i = B (k - 1) ∧ A (i - 1) = B k
  · obtain ⟨i', rfl⟩ : ∃ i', i = i' + 1 := ⟨i - 1, by omega⟩
    obtain ⟨k', rfl⟩ : ∃ k', k = k' + 1 := ⟨k - 1, by omega⟩
    have e := dd_s A B (i' + 1) (k' + 1)
    rw [if_pos hc] at e
    simp only [Nat.add_sub_cancel] at e hc
    by_cases h : A (i' + 1) = B (k' + 1)
    · rw [if_pos h] at e
      rcases Nat.lt_or_ge (dd A B (i' + 1 + 1) (k' + 1 + 1)) (dd A B i' k' + 1) with q | q
      · rcases Nat.lt_or_ge (dd A B (i' + 1 + 1) (k' + 1 + 1)) (dd A B (i' + 1) (k' + 1)) with q2 | q2
        · rcases Nat.lt_or_ge (dd A B (i' + 1 + 1) (k' + 1 + 1)) (dd A B (i' + 1) (k' + 1 + 1) + 1) with q3 | q3
          · exact Or.inr (Or.inl (by omega))
          · exact Or.inl (by omega)
        · exact Or.inr (Or.inr (Or.inr (Or.inl ⟨h, by omega⟩)))
      · exact Or.inr (Or.inr (Or.inr (Or.inr ⟨i', k', rfl, rfl, hc.2.2.1, hc.2.2.2, by omega⟩)))
    · rw [if_neg h] at e
      rcases Nat.lt_or_ge (dd A B (i' + 1 + 1) (k' + 1 + 1)) (dd A B i' k' + 1) with q | q
      · rcases Nat.lt_or_ge (dd A B (i' + 1 + 1) (k' + 1 + 1)) (dd A B (i' + 1) (k' + 1) + 1) with q2 | q2
        · rcases Nat.lt_or_ge (dd A B (i' + 1 + 1) (k' + 1 + 1)) (dd A B (i' + 1) (k' + 1 + 1) + 1) with q3 | q3
          · exact Or.inr (Or.inl (by omega))
          · exact Or.inl (by omega)
        · exact Or.inr (Or.inr (Or.inl ⟨h, by omega⟩))
      · exact Or.inr (Or.inr (Or.inr (Or.inr ⟨i', k', rfl, rfl, hc.2.2.1, hc.2.2.2, by omega⟩)))
  · have e := dd_s A B i k
    rw [if_neg hc] at e
    by_cases h : A i = B k
    · rw [if_pos h] at e
      rcases Nat.lt_or_ge (dd A B (i + 1) (k + 1)) (dd A B i k) with q2 | q2
      · rcases Nat.lt_or_ge (dd A B (i + 1) (k + 1)) (dd A B i (k + 1) + 1) with q3 | q3
        · exact Or.inr (Or.inl (by omega))
        · exact Or.inl (by omega)
      · exact Or.inr (Or.inr (Or.inr (Or.inl ⟨h, by omega⟩)))
    · rw [if_neg h] at e
      rcases Nat.lt_or_ge (dd A B (i + 1) (k + 1)) (dd A B i k + 1) with q2 | q2
      · rcases Nat.lt_or_ge (dd A B (i + 1) (k + 1)) (dd A B i (k + 1) + 1) with q3 | q3
        · exact Or.inr (Or.inl (by omega))
        · exact Or.inl (by omega)
      · exact Or.inr (Or.inr (Or.inl ⟨h, by omega⟩))
theorem dd_comm_le (A B : Nat → Int) : ∀ n i k, i + k ≤ n → dd B A k i ≤ dd A B i k
  | n, 0, k, _ => by rw [dd_0, dd_i]; exact Nat.le_refl _
  | n, i + 1, 0, _ => by rw [dd_0, dd_i]; exact Nat.le_refl _
  | 0, i + 1, k + 1, h => by omega
  | n + 1, i + 1, k + 1, h => by
    obtain ⟨l1, l2, l3, l4⟩ := dd_le B A k i
    have a1 := dd_comm_le A B n i (k + 1) (by omega)
    have a2 := dd_comm_le A B n (i + 1) k (by omega)
    have a3 := dd_comm_le A B n i k (by omega)
    rcases dd_is A B i k with e | e | ⟨_, e⟩ | ⟨e', e⟩ | ⟨i', k', rfl, rfl, e1, e2, e⟩
    · omega
    · omega
    · omega
    · have := l4 e'.symm; omega
    · have a4 := dd_comm_le A B n i' k' (by omega)
      have := dd_le2 B A k' i' e2.symm e1.symm
      omega
theorem dd_comm (A B : Nat → Int) (i k : Nat) : dd A B i k = dd B A k i := Nat.le_antisymm (dd_comm_le B A _ k i (Nat.le_refl _)) (dd_comm_le A B _ i k (Nat.le_refl _))
/-- One sign more is one further at most. -/
theorem dd_up (A B : Nat → Int) (i k : Nat) : dd A B (i + 1) k ≤ dd A B i k + 1 := by
  cases k with
  | zero => rw [dd_i, dd_i]; exact Nat.le_refl _
  | succ k => exact (dd_le A B i k).1
theorem dd_up2 (A B : Nat → Int) (i k : Nat) : dd A B i (k + 1) ≤ dd A B i k + 1 := by
  rw [dd_comm A B i (k + 1), dd_comm A B i k]; exact dd_up B A k i
theorem dd_down' (A B : Nat → Int) : ∀ n i k, i + k ≤ n → dd A B i k ≤ dd A B (i + 1) k + 1
  | n, i, 0, _ => by rw [dd_i, dd_i]; omega
  | 0, i, k + 1, h => by omega
  | n + 1, i, k + 1, h => by
    have a2 := dd_down' A B n i k (by omega)
    have u2 := dd_up2 A B i k
    rcases dd_is A B i k with e | e | ⟨_, e⟩ | ⟨e', e⟩ | ⟨i', k', rfl, rfl, e1, e2, e⟩
    · omega
    · omega
    · omega
    · omega
    · have := (dd_le A B i' (k' + 1)).2.2.2 e2
      have := dd_up2 A B i' k'
      omega
theorem dd_down (A B : Nat → Int) (i k : Nat) : dd A B i k ≤ dd A B (i + 1) k + 1 := dd_down' A B _ i k (Nat.le_refl _)
theorem dd_max (A B : Nat → Int) : ∀ n i k, i + k ≤ n → dd A B i k ≤ max i k ∧ i - k ≤ dd A B i k ∧ k - i ≤ dd A B i k
  | n, 0, k, _ => by rw [dd_0]; omega
  | n, i + 1, 0, _ => by rw [dd_i]; omega
  | 0, i + 1, k + 1, h => by omega
  | n + 1, i + 1, k + 1, h => by
    obtain ⟨l1, l2, l3, l4⟩ := dd_le A B i k
    have a1 := dd_max A B n i (k + 1) (by omega)
    have a2 := dd_max A B n (i + 1) k (by omega)
    have a3 := dd_max A B n i k (by omega)
    rcases dd_is A B i k with e | e | ⟨_, e⟩ | ⟨e', e⟩ | ⟨i', k', rfl, rfl, e1, e2, e⟩
    · omega
    · omega
    · omega
    · omega
    · have a4 := dd_max A B n i' k' (by omega)
      omega
theorem dd_same (A B : Nat → Int) : ∀ i, (∀ j, j < i → A j = B j) → dd A B i i = 0
  | 0, _ => by rw [dd_0]
  | i + 1, h => by
    have := (dd_le A B i i).2.2.2 (h i (by omega))
    have := dd_same A B i (fun j hj => h j (by omega))
    omega
theorem dd_zero' (A B : Nat → Int) : ∀ n i k, i + k ≤ n → dd A B i k = 0 → i = k ∧ ∀ j, j < i → A j = B j
  | n, 0, k, _, h => by rw [dd_0] at h; exact ⟨h.symm, fun j hj => by omega⟩
  | n, i + 1, 0, _, h => by rw [dd_i] at h; omega
  | 0, i + 1, k + 1, h, _ => by omega
  | n + 1, i + 1, k + 1, h, h0 => by
    rcases dd_is A B i k with e | e | ⟨_, e⟩ | ⟨e', e⟩ | ⟨i', k', rfl, rfl, e1, e2, e⟩
    · omega
    · omega
    · omega
    · obtain ⟨rfl, h2⟩ := dd_zero' A B n i k (by omega) (by omega)
      refine ⟨rfl, fun j hj => ?_⟩
      rcases Nat.lt_or_ge j i with q | q
      · exact h2 j q
      · obtain rfl : j = i := by omega
        exact e'
    · omega
theorem dd_congr (A A' B B' : Nat → Int) : ∀ n i k, i + k ≤ n → (∀ j, j < i → A j = A' j) → (∀ j, j < k → B j = B' j) → dd A B i k = dd A' B' i k
  | n, 0, k, _, _, _ => by rw [dd_0, dd_0]
  | n, i + 1, 0, _, _, _ => by rw [dd_i, dd_i]
  | 0, i + 1, k + 1, h, _, _ => by omega
  | n + 1, i + 1, k + 1, h, hA, hB => by
    rw [dd_s, dd_s, dd_congr A A' B B' n i (k + 1) (by omega) (fun j hj => hA j (by omega)) hB, dd_congr A A' B B' n (i + 1) k (by omega) hA (fun j hj => hB j (by omega)),
      dd_congr A A' B B' n i k (by omega) (fun j hj => hA j (by omega)) (fun j hj => hB j (by omega)), dd_congr A A' B B' n (i - 1) (k - 1) (by omega) (fun j hj => hA j (by omega)) (fun j hj => hB j (by omega)),
      hA i (by omega), hB k (by omega), hA (i - 1) (by omega), hB (k - 1) (by omega)]
/-- Words behind words. -/
theorem dd_cat (A B C D A' B' : Nat → Int) (i k : Nat) (hA : ∀ j, j < i → A' j = A j) (hB : ∀ j, j < k → B' j = B j) (hC : ∀ j, A' (i + j) = C j) (hD : ∀ j, B' (k + j) = D j) :
    ∀ n p q, p + q ≤ n → dd A' B' (i + p) (k + q) ≤ dd A B i k + dd C D p q
  | n, 0, q, _ => by
    induction q with
    | zero => rw [dd_0, Nat.add_zero, Nat.add_zero, dd_congr A' A B' B _ i k (Nat.le_refl _) hA hB]; exact Nat.le_refl _
    | succ q ih =>
      have := dd_up2 A' B' i (k + q)
      have := ih (by omega)
      rw [Nat.add_zero] at *
      rw [dd_0] at *
      rw [← Nat.add_assoc]
      omega
  | n, p + 1, 0, h => by
    have := dd_cat A B C D A' B' i k hA hB hC hD n p 0 (by omega)
    have := dd_up A' B' (i + p) k
    simp only [dd_i, Nat.add_zero, ← Nat.add_assoc] at *
    omega
  | 0, p + 1, q + 1, h => by omega
  | n + 1, p + 1, q + 1, h => by
    obtain ⟨l1, l2, l3, l4⟩ := dd_le A' B' (i + p) (k + q)
    have a1 := dd_cat A B C D A' B' i k hA hB hC hD n p (q + 1) (by omega)
    have a2 := dd_cat A B C D A' B' i k hA hB hC hD n (p + 1) q (by omega)
    have a3 := dd_cat A B C D A' B' i k hA hB hC hD n p q (by omega)
    rw [← Nat.add_assoc] at a1 a2
    rw [← Nat.add_assoc, ← Nat.add_assoc]
    rcases dd_is C D p q with e | e | ⟨_, e⟩ | ⟨e', e⟩ | ⟨p', q', rfl, rfl, e1, e2, e⟩
    · omega
    · omega
    · omega
    · have := l4 (by rw [hC, hD]; exact e')
      omega
    · have a4 := dd_cat A B C D A' B' i k hA hB hC hD n p' q' (by omega)
      have := dd_le2 A' B' (i + p') (k + q') (by rw [Nat.add_assoc, hC, hD]; exact e1) (by rw [Nat.add_assoc k, hC, hD]; exact e2)
      rw [← Nat.add_assoc, ← Nat.add_assoc]
      omega
/-- A list, as what stands at each place. -/
def at_ (l : List Int) : Nat → Int := fun j => l.getD j 0
/-- How far two words are apart. -/
def far (x y : List Int) : Nat := dd (at_ x) (at_ y) x.length y.length
theorem far_comm (x y : List Int) : far x y = far y x := dd_comm _ _ _ _
theorem far_self (x : List Int) : far x x = 0 := dd_same _ _ _ (fun _ _ => rfl)
theorem far_zero (x y : List Int) : far x y = 0 ↔ x = y := by
  constructor
  · intro h
    obtain ⟨h1, h2⟩ := dd_zero' _ _ _ _ _ (Nat.le_refl _) h
    apply List.ext_getElem h1
    intro j h3 h4
    have := h2 j h3
    simpa [at_, List.getD, h3, h4] using this
  · rintro rfl; exact far_self x
theorem far_max (x y : List Int) : far x y ≤ max x.length y.length ∧ x.length - y.length ≤ far x y ∧ y.length - x.length ≤ far x y := dd_max _ _ _ _ _ (Nat.le_refl _)
theorem at_left (x y : List Int) (j : Nat) (h : j < x.length) : at_ (x ++ y) j = at_ x j := by
  simp [at_, List.getD, List.getElem?_append_left h]
theorem at_right (x y : List Int) (j : Nat) : at_ (x ++ y) (x.length + j) = at_ y j := by
  simp [at_, List.getD, List.getElem?_append_right]
theorem far_cat (a b c d : List Int) : far (a ++ c) (b ++ d) ≤ far a b + far c d := by
  unfold far
  rw [List.length_append, List.length_append]
  exact dd_cat (at_ a) (at_ b) (at_ c) (at_ d) _ _ _ _ (fun j hj => at_left a c j hj) (fun j hj => at_left b d j hj) (fun j => at_right a c j) (fun j => at_right b d j) _ _ _ (Nat.le_refl _)
theorem far_more (a b : List Int) (r : Int) : far (a ++ [r]) b ≤ far a b + 1 ∧ far a b ≤ far (a ++ [r]) b + 1 := by
  have e : far a b = dd (at_ (a ++ [r])) (at_ b) a.length b.length := dd_congr _ _ _ _ _ _ _ (Nat.le_refl _) (fun j hj => (at_left a [r] j hj).symm) (fun _ _ => rfl)
  have e2 : far (a ++ [r]) b = dd (at_ (a ++ [r])) (at_ b) (a.length + 1) b.length := by simp [far]
  rw [e, e2]
  exact ⟨dd_up _ _ _ _, dd_down _ _ _ _⟩
theorem far_nil (y : List Int) : far [] y = y.length := dd_0 _ _ _
theorem far_put (x y : List Int) (r : Int) : far (x ++ y) (x ++ r :: y) ≤ 1 := by
  have h1 := far_cat x x y (r :: y)
  have h2 := far_cat [] [r] y y
  rw [far_self] at h1 h2
  rw [far_nil] at h2
  simp only [List.nil_append, List.singleton_append, List.length_singleton] at h2
  omega
theorem far_set (x y : List Int) (p r : Int) : far (x ++ p :: y) (x ++ r :: y) ≤ 1 := by
  have h1 := far_cat x x (p :: y) (r :: y)
  have h2 := far_cat [p] [r] y y
  have h3 := (far_max [p] [r]).1
  rw [far_self] at h1 h2
  simp only [List.singleton_append, List.length_singleton] at h2 h3
  omega
theorem far_turn (x y : List Int) (p q : Int) : far (x ++ p :: q :: y) (x ++ q :: p :: y) ≤ 1 := by
  have h1 := far_cat x x (p :: q :: y) (q :: p :: y)
  have h2 := far_cat [p, q] [q, p] y y
  have h3 : far [p, q] [q, p] ≤ 1 := by
    have := dd_le2 (at_ [p, q]) (at_ [q, p]) 0 0 rfl rfl
    rw [dd_0] at this
    exact this
  rw [far_self] at h1 h2
  simp only [List.cons_append, List.nil_append] at h2
  omega
end Go.Proofs.YtfikkkodepfdkaaDoor.Qns
namespace Go.Proofs.YtfikkkodepfdkaaDoor.Qns
set_option linter.unusedVariables false
open Go.RowKit Go.ChangeShapes
/-- The world has grown from there on. -/
def Up (B : Nat) (a w : World) : Prop := Below B a w ∧ B ≤ w.heap.size
theorem Up.refl (w : World) : Up w.heap.size w w := ⟨Below.refl _ _, Nat.le_refl _⟩
theorem Up.stay {B : Nat} {a w w' : World} (h : Up B a w) (hb : Below w.heap.size w w') : Up B a w' := ⟨h.1.trans (hb.mono h.2), Nat.le_trans h.2 hb.size⟩
theorem Up.alloc {B : Nat} {a w : World} (h : Up B a w) (o : Obj) : Up B a (w.alloc o) := h.stay ((Below.refl _ _).alloc (Nat.le_refl _) o)
theorem Up.drew {B : Nat} {a w : World} (h : Up B a w) : Up B a w.drew := ⟨h.1.drew, h.2⟩
theorem Up.setCell {B : Nat} {a w : World} (h : Up B a w) {p : Addr} (hp : B ≤ p.block) (u : Value) : Up B a (w.setCell p u) :=
  ⟨h.1.setCell hp u, by simpa [World.setCell] using h.2⟩
theorem cell_stay {w w' : World} {a : Addr} {v : Value} (h : w.cell? a = some v) (hb : Below w.heap.size w w') : w'.cell? a = some v := (hb.cell (World.block_lt_of_cell? w _ h)).trans h
/-- A row of signs. -/
def Rs (w : World) (b off k : Nat) (R : Nat → Int) : Prop := ∀ i, i < k → w.cell? ⟨b, off + i, none⟩ = some (.int .i32 (R i))
theorem Rs.stay {w w' : World} {b off k : Nat} {R : Nat → Int} (h : Rs w b off k R) (hb : Below w.heap.size w w') : Rs w' b off k R :=
  fun j hj => (hb.cell (World.block_lt_of_cell? w _ (h j hj))).trans (h j hj)
def RSl (w : World) (v : Value) (k : Nat) (R : Nat → Int) : Prop := (∃ ad c, v = .slice ad 0 c ∧ k = 0) ∨ ∃ b off c, v = .slice (some ⟨b, off, none⟩) k c ∧ Rs w b off k R
theorem RSl.stay {w w' : World} {v : Value} {k : Nat} {R : Nat → Int} (h : RSl w v k R) (hb : Below w.heap.size w w') : RSl w' v k R := by
  rcases h with h | ⟨b, off, c, rfl, h⟩
  · exact Or.inl h
  · exact Or.inr ⟨b, off, c, rfl, h.stay hb⟩
theorem RSl.form {w : World} {v : Value} {k : Nat} {R : Nat → Int} (h : RSl w v k R) : ∃ ad c, v = .slice ad k c := by
  rcases h with ⟨ad, c, rfl, rfl⟩ | ⟨b, off, c, rfl, _⟩
  · exact ⟨_, _, rfl⟩
  · exact ⟨_, _, rfl⟩
theorem RSl.at {w : World} {ad : Option Addr} {k c : Nat} {R : Nat → Int} (h : RSl w (.slice ad k c) k R) (hk : 0 < k) : ∃ b off, ad = some ⟨b, off, none⟩ ∧ Rs w b off k R := by
  rcases h with ⟨ad', c', e, e2⟩ | ⟨b, off, c', e, h⟩
  · omega
  · injection e with e1 e2 e3
    exact ⟨b, off, e1, h⟩
/-- A row of numbers. -/
def Is (w : World) (b off k : Nat) (N : Nat → Int) : Prop := ∀ i, i < k → w.cell? ⟨b, off + i, none⟩ = some (.int .i64 (N i))
theorem Is.stay {w w' : World} {b off k : Nat} {N : Nat → Int} (h : Is w b off k N) (hb : Below w.heap.size w w') : Is w' b off k N :=
  fun j hj => (hb.cell (World.block_lt_of_cell? w _ (h j hj))).trans (h j hj)
def ISl (w : World) (v : Value) (k : Nat) (N : Nat → Int) : Prop := (∃ ad c, v = .slice ad 0 c ∧ k = 0) ∨ ∃ b off c, v = .slice (some ⟨b, off, none⟩) k c ∧ Is w b off k N
theorem ISl.stay {w w' : World} {v : Value} {k : Nat} {R : Nat → Int} (h : ISl w v k R) (hb : Below w.heap.size w w') : ISl w' v k R := by
  rcases h with h | ⟨b, off, c, rfl, h⟩
  · exact Or.inl h
  · exact Or.inr ⟨b, off, c, rfl, h.stay hb⟩
theorem ISl.form {w : World} {v : Value} {k : Nat} {R : Nat → Int} (h : ISl w v k R) : ∃ ad c, v = .slice ad k c := by
  rcases h with ⟨ad, c, rfl, rfl⟩ | ⟨b, off, c, rfl, _⟩
  · exact ⟨_, _, rfl⟩
  · exact ⟨_, _, rfl⟩
theorem ISl.at {w : World} {ad : Option Addr} {k c : Nat} {R : Nat → Int} (h : ISl w (.slice ad k c) k R) (hk : 0 < k) : ∃ b off, ad = some ⟨b, off, none⟩ ∧ Is w b off k R := by
  rcases h with ⟨ad', c', e, e2⟩ | ⟨b, off, c', e, h⟩
  · omega
  · injection e with e1 e2 e3
    exact ⟨b, off, e1, h⟩
theorem Is.congr {w : World} {b off k : Nat} {N M : Nat → Int} (h : Is w b off k N) (e : ∀ i, i < k → N i = M i) : Is w b off k M := fun i hi => by rw [← e i hi]; exact h i hi
theorem info3 : (Tryd.prog.info? 3).map (fun i => (i.zero, i.size, i.bytes)) = some (some (.int .i64 0), 1, 8) := by kernel_rfl
/-- One number is laid in its place. -/
def setN (N : Nat → Int) (i : Nat) (x : Int) : Nat → Int := fun j => if j = i then x else N j
/-- A row of numbers of its own. -/
def IR (w : World) (b n : Nat) (N : Nat → Int) : Prop := w.rowIs b 3 n (fun i => .int .i64 (N i))
theorem IR.cell {w : World} {b n : Nat} {N : Nat → Int} (h : IR w b n N) {i : Nat} (hi : i < n) : w.cell? ⟨b, i, none⟩ = some (.int .i64 (N i)) := World.rowIs.cell h hi
theorem IR.frozen {w : World} {b n : Nat} {N : Nat → Int} (h : IR w b n N) (i : Nat) : w.frozen? ⟨b, i, none⟩ = false := World.rowIs.frozen h i
theorem IR.set {w : World} {b n : Nat} {N : Nat → Int} (h : IR w b n N) (i : Nat) (x : Int) : IR (w.setCell ⟨b, i, none⟩ (.int .i64 x)) b n (setN N i x) := by
  refine World.rowIs.congr (World.rowIs.set h i _) fun j _ => ?_
  unfold setN
  by_cases e : j = i
  · simp only [e, if_true]
  · simp only [e, if_false]
theorem IR.is {w : World} {b n : Nat} {N : Nat → Int} (h : IR w b n N) : Is w b 0 n N := fun i hi => by rw [Nat.zero_add]; exact h.cell hi
theorem IR.drew {w : World} {b n : Nat} {N : Nat → Int} (h : IR w b n N) : IR w.drew b n N := h
theorem made_ir (w : World) (n : Nat) : IR (w.alloc (.cells (madeCells #[Value.int .i64 0] n) 3)) w.heap.size n (fun _ => 0) := World.rowIs_made w _ n 3
theorem made_ir0 (w : World) (n : Nat) (x : Int) : IR (w.alloc (.cells ((madeCells #[Value.int .i64 0] n).setIfInBounds 0 (.int .i64 x)) 3)) w.heap.size n (setN (fun _ => 0) 0 x) := by
  have hs : ((madeCells #[Value.int .i64 0] n).setIfInBounds 0 (.int .i64 x)).size = n := by simp [madeCells]
  have h := World.rowIs_alloc w ((madeCells #[Value.int .i64 0] n).setIfInBounds 0 (.int .i64 x)) 3 (fun i => .int .i64 (setN (fun _ => 0) 0 x i)) (fun i hi => by
    rw [hs] at hi
    rw [Array.getElem?_setIfInBounds]
    unfold setN
    by_cases e : i = 0
    · subst e
      simp [madeCells, hi]
    · rw [if_neg (fun h => e h.symm)]
      simp [madeCells, hi, e, Nat.mod_one])
  rw [hs] at h
  exact h
theorem lt_of_heap {w : World} {b : Nat} {o : Obj} (h : w.heap[b]? = some o) : b < w.heap.size := (Array.getElem?_eq_some_iff.1 h).1
theorem Is.drew {w : World} {b off k : Nat} {N : Nat → Int} (h : Is w b off k N) : Is w.drew b off k N := h
end Go.Proofs.YtfikkkodepfdkaaDoor.Qns
namespace Go.Proofs.YtfikkkodepfdkaaDoor.Qns
set_option linter.unusedVariables false
open Go.RowKit Go.ChangeShapes
def fN (n : Int) : Nat := (min (max n 0) 64).toNat
theorem first_any (n : Int) (w : World) :
    Calls Tryd.prog 64 #[.int .i64 n] w fun e w' => e = .returned (.slice (some ⟨w.heap.size, 0, none⟩) (fN n + 1) (fN n + 1)) ∧ Is w' w.heap.size 0 (fN n + 1) (fun i => (i : Int)) ∧ Up w.heap.size w w' := by
  obtain ⟨M, hm⟩ : ∃ m, fN n = m := ⟨_, rfl⟩
  rw [hm]
  unfold fN at hm
  have hM : M ≤ 64 := by omega
  have hmk := run_make_row' (P := Tryd.prog) 114 3 (.int .i64 0) 8 Tryd.underlying114 info3 rfl .i64 .i64 (M + 1) (by omega) (by omega)
  by_cases h1 : n < 0
  · obtain rfl : M = 0 := by omega
    clear hm
    simp only [Nat.zero_add] at hmk ⊢
    have hmk2 : ∀ (w : World), (Instr.makeSlice 114 (.int .i64 1) (.int .i64 1)).run Tryd.prog w = .ok (.slice (some ⟨w.heap.size, 0, none⟩) 1 1) (w.alloc (.cells (madeCells #[Value.int .i64 0] 1) 3)) := hmk
    clear hmk
    go_enter Tryd.func64, Tryd.ntmps64
    go_wp2

    go_loopg [12] (1) (fun g iv wr => ∃ i : Nat, i ≤ 1 ∧ g = 1 - i ∧ iv = .int .i64 i ∧ Hid (∃ N, IR wr w.heap.size (1) N ∧ ∀ j, j < i → N j = j) ∧ Hid (Up w.heap.size w wr))
    case atStart => exact ⟨0, Nat.zero_le _, rfl, rfl, ⟨fun _ => 0, made_ir w (1), fun j hj => by omega⟩, (Up.refl w).alloc _⟩
    case round =>
      obtain ⟨i, hi, hg, rfl, HN, HU⟩ := hrel
      by_cases hlt : i < 1
      · have z1 : ((i : Nat) : Int) < 1 := by omega
        have z2 : (0 : Int) ≤ (i : Int) := by omega
        have z3 : ¬ (i : Int) < 0 := by omega
        obtain ⟨N, hN, hj⟩ := HN.out
        have hc := hN.cell hlt
        have hf := hN.frozen i
        have HN2 : Hid (IR wr w.heap.size (1) N) := hN
        have HJ : Hid (∀ j, j < i → N j = j) := hj
        clear hN hj HN
        go_wp2
        go_roundg (1 - (i + 1))
        case measure => omega
        case rel =>
          refine ⟨i + 1, by omega, rfl, by go_num, ⟨setN N i i, HN2.out.set i _, ?_⟩, HU.out.setCell (Nat.le_refl _) _⟩
          intro j hj
          unfold setN
          by_cases e : j = i
          · rw [if_pos e, e]
          · rw [if_neg e]; exact HJ.out j (by omega)
      · obtain rfl : i = 1 := by omega
        have z1 : ¬ (1 < 1) := by omega
        go_wp2
        go_ret
        obtain ⟨N, hN, hj⟩ := HN.out
        exact ⟨rfl, hN.is.congr hj, HU.out⟩
  by_cases h2 : 64 < n
  · obtain rfl : M = 64 := by omega
    clear hm
    have hmk2 : ∀ (w : World), (Instr.makeSlice 114 (.int .i64 65) (.int .i64 65)).run Tryd.prog w = .ok (.slice (some ⟨w.heap.size, 0, none⟩) 65 65) (w.alloc (.cells (madeCells #[Value.int .i64 0] 65) 3)) := hmk
    go_enter Tryd.func64, Tryd.ntmps64
    go_wp2

    go_loopg [12] (65) (fun g iv wr => ∃ i : Nat, i ≤ 65 ∧ g = 65 - i ∧ iv = .int .i64 i ∧ Hid (∃ N, IR wr w.heap.size (65) N ∧ ∀ j, j < i → N j = j) ∧ Hid (Up w.heap.size w wr))
    case atStart => exact ⟨0, Nat.zero_le _, rfl, rfl, ⟨fun _ => 0, made_ir w (65), fun j hj => by omega⟩, (Up.refl w).alloc _⟩
    case round =>
      obtain ⟨i, hi, hg, rfl, HN, HU⟩ := hrel
      by_cases hlt : i < 65
      · have z1 : ((i : Nat) : Int) < 65 := by omega
        have z2 : (0 : Int) ≤ (i : Int) := by omega
        have z3 : ¬ (i : Int) < 0 := by omega
        obtain ⟨N, hN, hj⟩ := HN.out
        have hc := hN.cell hlt
        have hf := hN.frozen i
        have HN2 : Hid (IR wr w.heap.size (65) N) := hN
        have HJ : Hid (∀ j, j < i → N j = j) := hj
        clear hN hj HN
        go_wp2
        go_roundg (65 - (i + 1))
        case measure => omega
        case rel =>
          refine ⟨i + 1, by omega, rfl, by go_num, ⟨setN N i i, HN2.out.set i _, ?_⟩, HU.out.setCell (Nat.le_refl _) _⟩
          intro j hj
          unfold setN
          by_cases e : j = i
          · rw [if_pos e, e]
          · rw [if_neg e]; exact HJ.out j (by omega)
      · obtain rfl : i = 65 := by omega
        have z1 : ¬ (65 < 65) := by omega
        go_wp2
        go_ret
        obtain ⟨N, hN, hj⟩ := HN.out
        exact ⟨rfl, hN.is.congr hj, HU.out⟩
  · obtain rfl : n = (M : Int) := by omega
    have h3 : ¬ (M : Int) < 0 := by omega
    clear hm
    have hmk2 : ∀ (w : World), (Instr.makeSlice 114 (.int .i64 ((M : Int) + 1)) (.int .i64 ((M : Int) + 1))).run Tryd.prog w = .ok (.slice (some ⟨w.heap.size, 0, none⟩) (M + 1) (M + 1)) (w.alloc (.cells (madeCells #[Value.int .i64 0] (M + 1)) 3)) := hmk
    go_enter Tryd.func64, Tryd.ntmps64
    go_wp2

    go_loopg [12] (M + 1) (fun g iv wr => ∃ i : Nat, i ≤ M + 1 ∧ g = M + 1 - i ∧ iv = .int .i64 i ∧ Hid (∃ N, IR wr w.heap.size (M + 1) N ∧ ∀ j, j < i → N j = j) ∧ Hid (Up w.heap.size w wr))
    case atStart => exact ⟨0, Nat.zero_le _, rfl, rfl, ⟨fun _ => 0, made_ir w (M + 1), fun j hj => by omega⟩, (Up.refl w).alloc _⟩
    case round =>
      obtain ⟨i, hi, hg, rfl, HN, HU⟩ := hrel
      by_cases hlt : i < M + 1
      · have z1 : ((i : Nat) : Int) < (M : Int) + 1 := by omega
        have z2 : (0 : Int) ≤ (i : Int) := by omega
        have z3 : ¬ (i : Int) < 0 := by omega
        obtain ⟨N, hN, hj⟩ := HN.out
        have hc := hN.cell hlt
        have hf := hN.frozen i
        have HN2 : Hid (IR wr w.heap.size (M + 1) N) := hN
        have HJ : Hid (∀ j, j < i → N j = j) := hj
        clear hN hj HN
        go_wp2
        go_roundg (M + 1 - (i + 1))
        case measure => omega
        case rel =>
          refine ⟨i + 1, by omega, rfl, by go_num, ⟨setN N i i, HN2.out.set i _, ?_⟩, HU.out.setCell (Nat.le_refl _) _⟩
          intro j hj
          unfold setN
          by_cases e : j = i
          · rw [if_pos e, e]
          · rw [if_neg e]; exact HJ.out j (by omega)
      · obtain rfl : i = M + 1 := by omega
        have z1 : ¬ ((M : Int) + 1 < (M : Int) + 1) := by omega
        go_wp2
        go_ret
        obtain ⟨N, hN, hj⟩ := HN.out
        exact ⟨rfl, hN.is.congr hj, HU.out⟩
end Go.Proofs.YtfikkkodepfdkaaDoor.Qns
namespace Go.Proofs.YtfikkkodepfdkaaDoor.Qns
set_option linter.unusedVariables false
open Go.RowKit Go.ChangeShapes
theorem last_any {w : World} {b off k c : Nat} {N : Nat → Int} (h : Is w b off (k + 1) N) (hk : k ≤ 1000) :
    Calls Tryd.prog 71 #[.slice (some ⟨b, off, none⟩) (k + 1) c] w fun e w' => e = .returned (.int .i64 (N k)) ∧ w' = w := by
  have hc := h k (by omega)
  have z1 : ((k : Nat) : Int) < (k : Int) + 1 := by omega
  have z2 : (0 : Int) ≤ (k : Int) := by omega
  have z3 : ¬ (k : Int) < 0 := by omega
  clear h
  go_enter Tryd.func71, Tryd.ntmps71
  go_wp2
  go_ret
  exact ⟨rfl, rfl⟩
theorem last_none (ad : Option Addr) (c : Nat) (w : World) :
    Calls Tryd.prog 71 #[.slice ad 0 c] w fun e w' => e = .returned (.int .i64 0) ∧ w' = w := by
  go_enter Tryd.func71, Tryd.ntmps71
  go_wp2
  go_ret
  exact ⟨rfl, rfl⟩
theorem least_none (ad : Option Addr) (c : Nat) (w : World) :
    Calls Tryd.prog 70 #[.slice ad 0 c] w fun e w' => e = .returned (.int .i64 0) ∧ w' = w := by
  go_enter Tryd.func70, Tryd.ntmps70
  go_wp2
  go_ret
  exact ⟨rfl, rfl⟩
theorem differ_any (x y : Int) (w : World) :
    Calls Tryd.prog 87 #[.int .i32 x, .int .i32 y] w fun e w' => e = .returned (.int .i64 (if x = y then 0 else 1)) ∧ w' = w := by
  by_cases h : x = y
  · subst h
    rw [if_pos rfl]
    go_enter Tryd.func87, Tryd.ntmps87
    go_wp2
    go_ret
    exact ⟨rfl, rfl⟩
  · rw [if_neg h]
    go_enter Tryd.func87, Tryd.ntmps87
    go_wp2
    go_ret
    exact ⟨rfl, rfl⟩
/-- The least of the first k + 1. -/
def lst (N : Nat → Int) : Nat → Int
  | 0 => N 0
  | k + 1 => min (lst N k) (N (k + 1))
theorem min_any {w : World} {b off k c : Nat} {N : Nat → Int} (h : Is w b off (k + 1) N) (hk : k ≤ 1000) :
    Calls Tryd.prog 86 #[.slice (some ⟨b, off, none⟩) (k + 1) c] w fun e w' => e = .returned (.int .i64 (lst N k)) ∧ w' = w := by
  have H : Hid (Is w b off (k + 1) N) := h
  have hc := h 0 (by omega)
  rw [Nat.add_zero] at hc
  clear h
  have z0 : ¬ ((k : Int) + 1 < 1) := by omega
  have z1 : (0 : Int) < (k : Int) + 1 := by omega
  go_enter Tryd.func86, Tryd.ntmps86
  go_wp2
  go_loopg [3, 4] k (fun g mv iv wr => ∃ i : Nat, i ≤ k ∧ g = k - i ∧ mv = .int .i64 (lst N i) ∧ iv = .int .i64 ((i + 1 : Nat) : Int) ∧ Hid (wr = w))
  case atStart => exact ⟨0, Nat.zero_le _, rfl, rfl, rfl, rfl⟩
  case round =>
    obtain ⟨i, hi, hg, rfl, rfl, HW⟩ := hrel
    obtain rfl := HW.out
    by_cases hlt : i < k
    · have z2 : ((i + 1 : Nat) : Int) < (k : Int) + 1 := by omega
      have z3 : (0 : Int) ≤ ((i + 1 : Nat) : Int) := by omega
      have z4 : ¬ ((i + 1 : Nat) : Int) < 0 := by omega
      have hc2 := H.out (i + 1) (by omega)
      generalize hx : lst N i = x
      have HX : Hid (lst N i = x) := hx
      clear hx
      generalize hy : N (i + 1) = y at hc2
      have HY : Hid (N (i + 1) = y) := hy
      clear hy
      by_cases hxy : y < x
      · go_wp2
        go_roundg (k - (i + 1))
        case measure => omega
        case rel => exact ⟨i + 1, by omega, rfl, by show _ = Value.int .i64 (min (lst N i) (N (i + 1))); rw [HX.out, HY.out]; congr 1; omega, by go_num, rfl⟩
      · go_wp2
        go_roundg (k - (i + 1))
        case measure => omega
        case rel => exact ⟨i + 1, by omega, rfl, by show _ = Value.int .i64 (min (lst N i) (N (i + 1))); rw [HX.out, HY.out]; congr 1; omega, by go_num, rfl⟩
    · obtain rfl : i = k := by omega
      have z2 : ¬ ((i + 1 : Nat) : Int) < (i : Int) + 1 := by omega
      go_wp2
      go_ret
      exact ⟨rfl, rfl⟩
theorem least_any {w : World} {b off k c : Nat} {N : Nat → Int} (h : Is w b off (k + 1) N) (hk : k ≤ 1000) :
    Calls Tryd.prog 70 #[.slice (some ⟨b, off, none⟩) (k + 1) c] w fun e w' => e = .returned (.int .i64 (lst N k)) ∧ w' = w := by
  have c1 := min_any (c := c) h hk
  clear h
  go_enter Tryd.func70, Tryd.ntmps70
  go_wp2_with fail
  refine c1.mono ?_
  rintro e w1 ⟨rfl, h1⟩
  subst w1
  clear c1
  go_wp2
  go_ret
  exact ⟨rfl, rfl⟩
end Go.Proofs.YtfikkkodepfdkaaDoor.Qns
