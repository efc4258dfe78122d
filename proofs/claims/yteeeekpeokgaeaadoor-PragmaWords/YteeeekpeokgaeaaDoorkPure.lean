/- Where lines begin: no program in this text. -/
import Derived.Test.YteeeekpeokgaeaaDoorPkKA3
namespace Go.Proofs.YteeeekpeokgaeaaDoor.Lns
set_option linter.unusedVariables false
open Go.Lib

/-- Does a line begin there? -/
def isSt (s : ByteArray) (i : Nat) : Bool := decide (i = 0) || decide (bt s (i - 1) = 10)
theorem isSt_zero (s : ByteArray) : isSt s 0 = true := rfl
theorem isSt_succ (s : ByteArray) (i : Nat) : isSt s (i + 1) = decide (bt s i = 10) := by simp [isSt]
/-- Where lines begin, as far as there. -/
def lst (s : ByteArray) (i : Nat) : List Nat := (List.range i).filter (isSt s)
theorem lst_succ (s : ByteArray) (i : Nat) : lst s (i + 1) = lst s i ++ (if isSt s i then [i] else []) := by
  unfold lst
  rw [List.range_succ, List.filter_append]
  congr 1
  cases h : isSt s i <;> simp [h]
theorem lst_skip (s : ByteArray) (i : Nat) : ∀ d, (∀ j, j < d → isSt s (i + j) = false) → lst s (i + d) = lst s i
  | 0, _ => rfl
  | d + 1, h => by
    rw [← Nat.add_assoc, lst_succ, h d (Nat.lt_succ_self d), lst_skip s i d (fun j hj => h j (Nat.lt_succ_of_lt hj))]
    simp
theorem enc_high {r x : Int} (h : 128 ≤ r) (hx : x ∈ enc r) : 128 ≤ x := by
  unfold enc at hx
  split at hx
  · simp at hx
  rename_i ho
  have ho' : okR r = true := by simpa using ho
  have hv := (okR_iff r).1 ho'
  rw [if_neg (by omega)] at hx
  split at hx
  · simp at hx; omega
  split at hx
  · simp at hx; omega
  · simp at hx; omega
theorem sign_high {s : ByteArray} {i : Nat} {r : Int} (h : Sign s i r) (hr : 128 ≤ r) (m : Nat) (hm : m < lenR r) : 128 ≤ bt s (i + m) := by
  have hl := enc_len r h.1
  have hx : (enc r)[m]? = some (enc r)[m] := List.getElem?_eq_getElem (by omega)
  have h1 := h.2.2 m _ hx
  have h2 := enc_high hr (List.getElem_mem (show m < (enc r).length by omega))
  omega
theorem sign_low {s : ByteArray} {i : Nat} {r : Int} (h : Sign s i r) (hr : r < 128) : (bt s i : Int) = r ∧ lenR r = 1 := by
  have hv := (okR_iff r).1 h.1
  have he : enc r = [r] := by unfold enc; simp [h.1, hr]
  have h1 := h.2.2 0 r (by rw [he]; rfl)
  exact ⟨h1, by unfold lenR; rw [if_pos hr]⟩
theorem low_sign (s : ByteArray) (i : Nat) (h : bt s i < 128) : Utf8.decode s i = (bt s i, 1) := by
  rw [decode_at]
  exact dec_one _ _ _ _ _ h
/-- Behind a sign a line begins just if it is a newline. -/
theorem isSt_next (s : ByteArray) (p : Nat) (hp : p < s.size) : isSt s (p + wd s p) = decide (rn s p = 10) := by
  rcases sign_or s p hp with h | ⟨hd, hr, hw⟩
  · have hwd := h.wd
    by_cases hr : rn s p < 128
    · obtain ⟨h1, h2⟩ := sign_low h hr
      rw [hwd, h2, isSt_succ]
      exact decide_eq_decide.2 (by omega)
    · have hl := lenR_pos (rn s p)
      have h3 := sign_high h (by omega) (lenR (rn s p) - 1) (by omega)
      rw [hwd, show p + lenR (rn s p) = p + (lenR (rn s p) - 1) + 1 by omega, isSt_succ]
      exact decide_eq_decide.2 (by omega)
  · rw [hw, isSt_succ, hr]
    refine decide_eq_decide.2 ⟨fun h10 => ?_, fun h10 => by omega⟩
    have := low_sign s p (by omega)
    rw [hd, h10] at this
    simp at this
theorem isSt_in (s : ByteArray) (p : Nat) (hp : p < s.size) (j : Nat) (hj : j + 1 < wd s p) : isSt s (p + 1 + j) = false := by
  rcases sign_or s p hp with h | ⟨hd, hr, hw⟩
  · have hwd := h.wd
    by_cases hr : rn s p < 128
    · obtain ⟨h1, h2⟩ := sign_low h hr
      omega
    · have h3 := sign_high h (by omega) j (by omega)
      rw [show p + 1 + j = p + j + 1 by omega, isSt_succ]
      exact decide_eq_false (by omega)
  · omega
theorem lst_step (s : ByteArray) (p : Nat) (hp : p < s.size) : lst s (p + wd s p) = lst s p ++ (if isSt s p then [p] else []) := by
  have hw := wd_pos s p hp
  rw [show p + wd s p = (p + 1) + (wd s p - 1) by omega, lst_skip s (p + 1) (wd s p - 1) (fun j hj => isSt_in s p hp j (by omega)), lst_succ]
theorem lst_len (s : ByteArray) (i : Nat) : (lst s i).length ≤ i := by
  have := List.length_filter_le (isSt s) (List.range i)
  rw [List.length_range] at this
  exact this

/-- All lines' beginnings; how many lines; the beginning of one (the end, behind the last). -/
def starts (s : ByteArray) : List Nat := lst s s.size
def nL (s : ByteArray) : Nat := (starts s).length
def S (s : ByteArray) (j : Nat) : Nat := (starts s).getD j s.size
theorem mem_starts (s : ByteArray) (p : Nat) : p ∈ starts s ↔ p < s.size ∧ isSt s p = true := by
  unfold starts lst
  rw [List.mem_filter, List.mem_range]
theorem nL_le (s : ByteArray) : nL s ≤ s.size := lst_len s s.size
theorem S_at {s : ByteArray} {j : Nat} (h : j < nL s) : (starts s)[j]? = some (S s j) := by
  unfold S
  rw [List.getD, List.getElem?_eq_getElem h, Option.getD_some]
theorem S_mem {s : ByteArray} {j : Nat} (h : j < nL s) : S s j ∈ starts s := List.mem_of_getElem? (S_at h)
theorem S_lt {s : ByteArray} {j : Nat} (h : j < nL s) : S s j < s.size := ((mem_starts s _).1 (S_mem h)).1
theorem S_st {s : ByteArray} {j : Nat} (h : j < nL s) : isSt s (S s j) = true := ((mem_starts s _).1 (S_mem h)).2
theorem S_big {s : ByteArray} {j : Nat} (h : nL s ≤ j) : S s j = s.size := by
  unfold S
  rw [List.getD, List.getElem?_eq_none h, Option.getD_none]
theorem S_le (s : ByteArray) (j : Nat) : S s j ≤ s.size := by
  by_cases h : j < nL s
  · exact Nat.le_of_lt (S_lt h)
  · exact Nat.le_of_eq (S_big (by omega))
theorem starts_up (s : ByteArray) : (starts s).Pairwise (· < ·) := List.Pairwise.filter _ List.pairwise_lt_range
theorem S_mono {s : ByteArray} {i j : Nat} (hij : i < j) (hi : i < nL s) : S s i < S s j := by
  by_cases h : j < nL s
  · have h1 := S_at hi
    have h2 := S_at h
    have hl1 : i < (starts s).length := hi
    have hl2 : j < (starts s).length := h
    rw [List.getElem?_eq_getElem hl1] at h1
    rw [List.getElem?_eq_getElem hl2] at h2
    have h3 := List.pairwise_iff_getElem.1 (starts_up s) i j hl1 hl2 hij
    rw [Option.some.inj h1, Option.some.inj h2] at h3
    exact h3
  · rw [S_big (j := j) (by omega)]
    exact S_lt hi
theorem S_mono_le (s : ByteArray) {i j : Nat} (hij : i ≤ j) : S s i ≤ S s j := by
  rcases Nat.lt_or_eq_of_le hij with h | rfl
  · by_cases hi : i < nL s
    · exact Nat.le_of_lt (S_mono h hi)
    · rw [S_big (by omega), S_big (by omega)]; exact Nat.le_refl _
  · exact Nat.le_refl _
theorem S_of {s : ByteArray} {p : Nat} (hp : p < s.size) (h : isSt s p = true) : ∃ j, j < nL s ∧ S s j = p := by
  obtain ⟨j, hj, he⟩ := List.mem_iff_getElem.1 ((mem_starts s p).2 ⟨hp, h⟩)
  refine ⟨j, hj, ?_⟩
  have h1 := S_at (s := s) (j := j) hj
  rw [List.getElem?_eq_getElem hj] at h1
  exact (Option.some.inj h1).symm.trans he
theorem S_zero (s : ByteArray) : S s 0 = 0 := by
  by_cases h : 0 < s.size
  · obtain ⟨j, hj, he⟩ := S_of h (isSt_zero s)
    by_cases hj0 : j = 0
    · rw [hj0] at he; exact he
    · have := S_mono (s := s) (i := 0) (j := j) (by omega) (by omega)
      omega
  · have := S_le s 0
    omega
theorem nL_pos {s : ByteArray} (h : 0 < s.size) : 0 < nL s := by
  obtain ⟨j, hj, _⟩ := S_of h (isSt_zero s)
  omega
theorem nL_zero {s : ByteArray} (h : s.size = 0) : nL s = 0 := by have := nL_le s; omega
/-- Where a line ends that isn't the last one there is a newline. -/
theorem S_newline {s : ByteArray} {j : Nat} (h : j + 1 < nL s) : bt s (S s (j + 1) - 1) = 10 := by
  have h1 := S_st h
  have h2 := S_mono (s := s) (i := j) (j := j + 1) (by omega) (by omega)
  unfold isSt at h1
  simp at h1
  omega

/-- So many lines have ended, as far as there. -/
def LAt (s : ByteArray) (i c : Nat) : Prop := c ≤ nL s ∧ S s c ≤ i ∧ (c < nL s → i < S s (c + 1) ∨ (c + 1 = nL s ∧ i ≤ s.size))
theorem LAt.zero (s : ByteArray) : LAt s 0 0 := by
  refine ⟨Nat.zero_le _, by rw [S_zero]; exact Nat.le_refl _, fun h => ?_⟩
  have h1 := S_mono (s := s) (i := 0) (j := 0 + 1) (by omega) h
  omega
theorem LAt.lt {s : ByteArray} {i c : Nat} (h : LAt s i c) (hi : i < s.size) : c < nL s := by
  rcases Nat.lt_or_eq_of_le h.1 with h1 | h1
  · exact h1
  · have := h.2.1
    rw [S_big (Nat.le_of_eq h1.symm)] at this
    omega
theorem LAt.newline {s : ByteArray} {i c : Nat} (h : LAt s i c) (hi : i < s.size) (hb : bt s i = 10) : S s (c + 1) = i + 1 ∧ LAt s (i + 1) (c + 1) := by
  have hc := h.lt hi
  have he : S s (c + 1) = i + 1 := by
    by_cases hn : i + 1 < s.size
    · obtain ⟨k, hk, hs⟩ := S_of hn (by rw [isSt_succ, hb]; rfl)
      have h1 : c < k := by
        rcases Nat.lt_or_ge c k with h1 | h1
        · exact h1
        · have := S_mono_le s h1
          have := h.2.1
          omega
      have h2 := S_mono_le s (show c + 1 ≤ k from h1)
      rcases h.2.2 hc with h3 | ⟨h3, _⟩
      · omega
      · have := S_big (s := s) (j := c + 1) (by omega)
        omega
    · rcases h.2.2 hc with h3 | ⟨h3, _⟩
      · have := S_le s (c + 1)
        omega
      · rw [S_big (by omega)]; omega
  refine ⟨he, hc, by omega, fun h4 => Or.inl ?_⟩
  have := S_mono (s := s) (i := c + 1) (j := c + 1 + 1) (by omega) h4
  omega
theorem LAt.other {s : ByteArray} {i c : Nat} (h : LAt s i c) (hi : i < s.size) (hb : ¬ bt s i = 10) : LAt s (i + 1) c := by
  refine ⟨h.1, by have := h.2.1; omega, fun hc => ?_⟩
  rcases h.2.2 hc with h3 | ⟨h3, h4⟩
  · by_cases hn : c + 1 = nL s
    · exact Or.inr ⟨hn, hi⟩
    · refine Or.inl ?_
      rcases Nat.lt_or_ge (i + 1) (S s (c + 1)) with h5 | h5
      · exact h5
      · have h6 := S_newline (s := s) (j := c) (by omega)
        rw [show S s (c + 1) - 1 = i by omega] at h6
        exact absurd h6 hb
  · exact Or.inr ⟨h3, hi⟩
theorem LAt.last {s : ByteArray} {c : Nat} (h : LAt s s.size c) : (S s c < s.size → c + 1 = nL s) ∧ (¬ S s c < s.size → c = nL s) := by
  refine ⟨fun h1 => ?_, fun h1 => ?_⟩
  · have hc : c < nL s := by
      rcases Nat.lt_or_ge c (nL s) with h2 | h2
      · exact h2
      · rw [S_big h2] at h1; omega
    rcases h.2.2 hc with h3 | ⟨h3, _⟩
    · have := S_le s (c + 1); omega
    · exact h3
  · rcases Nat.lt_or_eq_of_le h.1 with h2 | h2
    · exact absurd (S_lt h2) h1
    · exact h2

/-- The line on which a place lies. -/
def OnL (s : ByteArray) (at_ m : Nat) : Prop := 1 ≤ m ∧ ((nL s = 0 ∧ m = 1) ∨ (m ≤ nL s ∧ S s (m - 1) ≤ at_ ∧ (m < nL s → at_ < S s m)))
theorem OnL.one {s : ByteArray} {p m m' : Nat} (h : OnL s p m) (h' : OnL s p m') : m = m' := by
  rcases h with ⟨h0, ⟨h1, h2⟩ | ⟨h1, h2, h3⟩⟩
  · rcases h' with ⟨k0, ⟨k1, k2⟩ | ⟨k1, k2, k3⟩⟩
    · omega
    · omega
  · rcases h' with ⟨k0, ⟨k1, k2⟩ | ⟨k1, k2, k3⟩⟩
    · omega
    · rcases Nat.lt_trichotomy m m' with h4 | h4 | h4
      · have := h3 (by omega)
        have := S_mono_le s (show m ≤ m' - 1 by omega)
        omega
      · exact h4
      · have := k3 (by omega)
        have := S_mono_le s (show m' ≤ m - 1 by omega)
        omega
/-- How many of rising places lie ahead of one. -/
def Ahd (k : Nat) (P : Nat → Nat) (x : Int) (i : Nat) : Prop := i ≤ k ∧ (∀ j, j < i → (P j : Int) < x) ∧ (∀ j, i ≤ j → j < k → x ≤ (P j : Int))
theorem Ahd.one {k : Nat} {P : Nat → Nat} {x : Int} {i i' : Nat} (h : Ahd k P x i) (h' : Ahd k P x i') : i = i' := by
  rcases Nat.lt_trichotomy i i' with h4 | h4 | h4
  · have h1 := h'.2.1 i h4
    have h2 := h.2.2 i (Nat.le_refl _) (by have := h'.1; omega)
    omega
  · exact h4
  · have h1 := h.2.1 i' h4
    have h2 := h'.2.2 i' (Nat.le_refl _) (by have := h.1; omega)
    omega
theorem onL_of {s : ByteArray} {p i : Nat} (hp : p ≤ s.size) (h : Ahd (nL s) (S s) ((p : Int) + 1) i) : OnL s p (max 1 i) := by
  by_cases h0 : nL s = 0
  · have := h.1
    exact ⟨by omega, Or.inl ⟨h0, by omega⟩⟩
  · have h1 : 1 ≤ i := by
      rcases Nat.lt_or_ge 0 i with h1 | h1
      · exact h1
      · have h2 := h.2.2 0 (by omega) (by omega)
        rw [S_zero] at h2
        omega
    rw [show max 1 i = i by omega]
    refine ⟨h1, Or.inr ⟨h.1, ?_, fun h3 => ?_⟩⟩
    · have := h.2.1 (i - 1) (by omega); omega
    · have := h.2.2 i (Nat.le_refl _) h3; omega
end Go.Proofs.YteeeekpeokgaeaaDoor.Lns
