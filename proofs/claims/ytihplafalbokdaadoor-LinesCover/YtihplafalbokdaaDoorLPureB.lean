/- Lines of texts that are joined; places that rise. -/
import Derived.Test.YtihplafalbokdaaDoorLKit
import Derived.Test.YtihplafalbokdaaDoorWalksU
namespace Go.Proofs.YtihplafalbokdaaDoor
set_option linter.unusedVariables false
open Go.Lib
theorem Ahd.mono {k : Nat} {P : Nat → Nat} {x x' : Int} {i i' : Nat} (h : Ahd k P x i) (h' : Ahd k P x' i') (hx : x ≤ x') : i ≤ i' := by
  rcases Nat.lt_or_ge i' i with h4 | h4
  · have h1 := h.2.1 i' h4
    have h2 := h'.2.2 i' (Nat.le_refl _) (by have := h.1; omega)
    omega
  · exact h4
theorem OnL.mono {s : ByteArray} {p p' m m' : Nat} (h : OnL s p m) (h' : OnL s p' m') (hp : p ≤ p') : m ≤ m' := by
  rcases h with ⟨h0, ⟨h1, h2⟩ | ⟨h1, h2, h3⟩⟩
  · have := h'.1; omega
  · rcases h' with ⟨k0, ⟨k1, k2⟩ | ⟨k1, k2, k3⟩⟩
    · omega
    · rcases Nat.lt_or_ge m' m with h4 | h4
      · have := k3 (by omega)
        have := S_mono_le s (show m' ≤ m - 1 by omega)
        omega
      · exact h4
theorem Plc.rise {s : ByteArray} {p p' m c m' c' : Nat} (h : Plc s p m c) (h' : Plc s p' m' c') (hp : p ≤ p') : m ≤ m' ∧ (m = m' → c ≤ c') ∧ 1 ≤ c := by
  obtain ⟨K, i, k, he, ho, h1, h2, h3, h4, h5⟩ := h
  obtain ⟨K', i', k', he', ho', h1', h2', h3', h4', h5'⟩ := h'
  obtain rfl := he.one he'
  have hi := h4.mono h4' (by omega)
  refine ⟨ho.mono ho' hp, fun hm => ?_, by omega⟩
  subst hm
  have : k = k' := by
    rcases Nat.lt_trichotomy k k' with h | h | h
    · have := pos_up s he k' h2' k h; omega
    · exact h
    · have := pos_up s he k h2 k' h; omega
  omega
theorem Plc.onL {s : ByteArray} {p m c : Nat} (h : Plc s p m c) : OnL s p m := by
  obtain ⟨K, i, k, he, ho, _⟩ := h
  exact ho
/-- A place of a byte lies in its line. -/
theorem OnL.in {s : ByteArray} {p m : Nat} (h : OnL s p m) (hp : p < s.size) : ∃ j, m = j + 1 ∧ j < nL s ∧ S s j ≤ p ∧ p < S s (j + 1) := by
  have hn := nL_pos (s := s) (by omega)
  rcases h with ⟨h0, ⟨h1, _⟩ | ⟨h1, h2, h3⟩⟩
  · omega
  · refine ⟨m - 1, by omega, by omega, h2, ?_⟩
    rw [show m - 1 + 1 = m by omega]
    by_cases h4 : m < nL s
    · exact h3 h4
    · rw [S_big (by omega)]; exact hp

/-! ### joined behind a newline -/
theorem lst_left (t b : ByteArray) : ∀ i, i ≤ t.size → lst (t ++ b) i = lst t i
  | 0, _ => rfl
  | i + 1, h => by
    rw [lst_succ, lst_succ, lst_left t b i (by omega)]
    have : isSt (t ++ b) i = isSt t i := by
      cases i with
      | zero => rfl
      | succ j => rw [isSt_succ, isSt_succ]; unfold bt; rw [join_get_left t b j (by omega)]
    rw [this]
theorem isSt_right (t b : ByteArray) (ht : 0 < t.size) (hn : bt t (t.size - 1) = 10) (i : Nat) : isSt (t ++ b) (t.size + i) = isSt b i := by
  cases i with
  | zero =>
    rw [Nat.add_zero, show t.size = (t.size - 1) + 1 by omega, isSt_succ, isSt_zero]
    unfold bt at hn ⊢
    rw [join_get_left t b _ (by omega), hn]
    rfl
  | succ j =>
    rw [← Nat.add_assoc, isSt_succ, isSt_succ]
    unfold bt
    rw [join_get_right]
theorem lst_right (t b : ByteArray) (ht : 0 < t.size) (hn : bt t (t.size - 1) = 10) : ∀ i, lst (t ++ b) (t.size + i) = starts t ++ (lst b i).map (t.size + ·)
  | 0 => by rw [Nat.add_zero, lst_left t b t.size (Nat.le_refl _)]; simp [starts, lst]
  | i + 1 => by
    rw [← Nat.add_assoc, lst_succ, lst_right t b ht hn i, isSt_right t b ht hn i, lst_succ, List.map_append, List.append_assoc]
    congr 2
    split <;> simp
theorem starts_join (t b : ByteArray) (ht : 0 < t.size) (hn : bt t (t.size - 1) = 10) : starts (t ++ b) = starts t ++ (starts b).map (t.size + ·) := by
  have h := lst_right t b ht hn b.size
  unfold starts at h ⊢
  rw [join_size]
  exact h
theorem nL_join (t b : ByteArray) (ht : 0 < t.size) (hn : bt t (t.size - 1) = 10) : nL (t ++ b) = nL t + nL b := by
  unfold nL
  rw [starts_join t b ht hn, List.length_append, List.length_map]
theorem S_join_right (t b : ByteArray) (ht : 0 < t.size) (hn : bt t (t.size - 1) = 10) (j : Nat) : S (t ++ b) (nL t + j) = t.size + S b j := by
  by_cases h : j < nL b
  · have h1 := S_at (s := t ++ b) (j := nL t + j) (by rw [nL_join t b ht hn]; omega)
    rw [starts_join t b ht hn, List.getElem?_append_right (by show nL t ≤ _; omega)] at h1
    rw [show nL t + j - (starts t).length = j by show nL t + j - nL t = j; omega, List.getElem?_map, S_at h] at h1
    simpa using h1.symm
  · rw [S_big (by rw [nL_join t b ht hn]; omega), S_big (by omega), join_size]
theorem S_join_left (t b : ByteArray) (ht : 0 < t.size) (hn : bt t (t.size - 1) = 10) (j : Nat) (hj : j ≤ nL t) : S (t ++ b) j = S t j := by
  by_cases h : j < nL t
  · have h1 := S_at (s := t ++ b) (j := j) (by rw [nL_join t b ht hn]; omega)
    rw [starts_join t b ht hn, List.getElem?_append_left (by exact h), S_at h] at h1
    exact (Option.some.inj h1).symm
  · obtain rfl : j = nL t := by omega
    have := S_join_right t b ht hn 0
    rw [Nat.add_zero, S_zero] at this
    rw [this, S_big (Nat.le_refl _)]
    rfl
theorem sub_left (t b : ByteArray) (p q : Nat) (h : q ≤ t.size) : sub (t ++ b) p q = sub t p q := by
  apply ByteArray.ext
  show (t ++ b).data.extract p q = t.data.extract p q
  have h' : q ≤ t.data.size := h
  rw [ByteArray.data_append]
  apply Array.ext_getElem?
  intro i
  rw [Array.getElem?_extract, Array.getElem?_extract]
  by_cases h1 : p + i < q
  · rw [if_pos (by rw [Array.size_append]; omega), if_pos (by omega), Array.getElem?_append_left (by omega)]
  · rw [if_neg (by rw [Array.size_append]; omega), if_neg (by omega)]
theorem sub_right (t b : ByteArray) (p q : Nat) : sub (t ++ b) (t.size + p) (t.size + q) = sub b p q := by
  apply ByteArray.ext
  show (t ++ b).data.extract (t.size + p) (t.size + q) = b.data.extract p q
  rw [ByteArray.data_append, show t.size = t.data.size from rfl]
  apply Array.ext_getElem?
  intro i
  rw [Array.getElem?_extract, Array.getElem?_extract]
  by_cases h1 : i < min q b.data.size - p
  · rw [if_pos (by rw [Array.size_append]; omega), if_pos h1, Array.getElem?_append_right (by omega)]
    congr 1; omega
  · rw [if_neg (by rw [Array.size_append]; omega), if_neg h1]
theorem line_join_left (t b : ByteArray) (ht : 0 < t.size) (hn : bt t (t.size - 1) = 10) (j : Nat) (hj : j < nL t) : line (t ++ b) j = line t j := by
  unfold line
  rw [S_join_left t b ht hn j (by omega), S_join_left t b ht hn (j + 1) hj, sub_left t b _ _ (S_le t _)]
theorem line_join_right (t b : ByteArray) (ht : 0 < t.size) (hn : bt t (t.size - 1) = 10) (j : Nat) : line (t ++ b) (nL t + j) = line b j := by
  unfold line
  rw [S_join_right t b ht hn j, Nat.add_assoc, S_join_right t b ht hn (j + 1), sub_right]
theorem tcells_join (t b : ByteArray) (ht : 0 < t.size) (hn : bt t (t.size - 1) = 10) : tcells (line t) (nL t) ++ tcells (line b) (nL b) = tcells (line (t ++ b)) (nL (t ++ b)) := by
  rw [nL_join t b ht hn]
  apply List.ext_getElem?
  intro j
  by_cases h : j < nL t
  · rw [List.getElem?_append_left (by rw [tcells_len]; exact h), tcells_at _ _ j h, tcells_at _ _ j (by omega), line_join_left t b ht hn j h]
  · by_cases h2 : j < nL t + nL b
    · obtain ⟨i, rfl⟩ : ∃ i, j = nL t + i := ⟨j - nL t, by omega⟩
      rw [List.getElem?_append_right (by rw [tcells_len]; omega), tcells_len, show nL t + i - nL t = i by omega, tcells_at _ _ i (by omega), tcells_at _ _ _ h2, line_join_right t b ht hn i]
    · rw [List.getElem?_eq_none (by rw [List.length_append, tcells_len, tcells_len]; omega), List.getElem?_eq_none (by rw [tcells_len]; omega)]
theorem sub_add (s : ByteArray) (p q : Nat) (hpq : p ≤ q) (hq : q ≤ s.size) : sub s 0 p ++ sub s p q = sub s 0 q := by
  apply ByteArray.ext
  have hq' : q ≤ s.data.size := hq
  show (sub s 0 p ++ sub s p q).data = s.data.extract 0 q
  rw [ByteArray.data_append]
  show s.data.extract 0 p ++ s.data.extract p q = s.data.extract 0 q
  apply Array.ext_getElem?
  intro i
  have hz : (s.data.extract 0 p).size = p := by simp; omega
  by_cases h1 : i < p
  · rw [Array.getElem?_append_left (by omega), Array.getElem?_extract, Array.getElem?_extract, if_pos (by omega), if_pos (by omega)]
  · rw [Array.getElem?_append_right (by omega), hz, Array.getElem?_extract, Array.getElem?_extract]
    by_cases h2 : i < q
    · rw [if_pos (by omega), if_pos (by omega)]; congr 1; omega
    · rw [if_neg (by omega), if_neg (by omega)]
theorem sub_all (s : ByteArray) : sub s 0 s.size = s := by
  apply ByteArray.ext
  show s.data.extract 0 s.data.size = s.data
  simp
end Go.Proofs.YtihplafalbokdaaDoor
