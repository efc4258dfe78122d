/- Texts of signs stand in their runes' order: no program in this text. -/
import Derived.Test.YtfikkkodepfdkaaDoortPure
import Derived.Test.YtfikkkodepfdkaaDoorRis
namespace Go.Proofs.YtfikkkodepfdkaaDoor
set_option linter.unusedVariables false
theorem cons_lt {a b : Int} {x y : List Int} (h : a < b) : a :: x < b :: y := List.cons_lt_cons_iff.2 (Or.inl h)
theorem cons_eq {a b : Int} {x y : List Int} (h : a = b) (h2 : x < y) : a :: x < b :: y := List.cons_lt_cons_iff.2 (Or.inr ⟨h, h2⟩)
theorem enc_lt {r r' : Int} (h : okR r = true) (h' : okR r' = true) (hlt : r < r') (x y : List Int) : enc r ++ x < enc r' ++ y := by
  have h0 : 0 ≤ r := ((okR_iff r).1 h).1
  have h9 := ((okR_iff r').1 h').2.2
  by_cases a1 : r < 128
  · rw [enc_one h0 a1]
    by_cases b1 : r' < 128
    · rw [enc_one (by omega) b1]; exact cons_lt hlt
    · by_cases b2 : r' < 2048
      · rw [enc_two (by omega) b2]; exact cons_lt (by omega)
      · by_cases b3 : r' < 65536
        · rw [enc_three (by omega) b3 h']; exact cons_lt (by omega)
        · rw [enc_four (by omega) h']; exact cons_lt (by omega)
  · by_cases a2 : r < 2048
    · rw [enc_two (by omega) a2]
      by_cases b2 : r' < 2048
      · rw [enc_two (by omega) b2]
        by_cases e : r / 64 = r' / 64
        · exact cons_eq (by omega) (cons_lt (by omega))
        · exact cons_lt (by omega)
      · by_cases b3 : r' < 65536
        · rw [enc_three (by omega) b3 h']; exact cons_lt (by omega)
        · rw [enc_four (by omega) h']; exact cons_lt (by omega)
    · by_cases a3 : r < 65536
      · rw [enc_three (by omega) a3 h]
        by_cases b3 : r' < 65536
        · rw [enc_three (by omega) b3 h']
          by_cases e : r / 4096 = r' / 4096
          · refine cons_eq (by omega) ?_
            by_cases e2 : r / 64 % 64 = r' / 64 % 64
            · exact cons_eq (by omega) (cons_lt (by omega))
            · exact cons_lt (by omega)
          · exact cons_lt (by omega)
        · rw [enc_four (by omega) h']; exact cons_lt (by omega)
      · rw [enc_four (by omega) h, enc_four (by omega) h']
        by_cases e : r / 262144 = r' / 262144
        · refine cons_eq (by omega) ?_
          by_cases e1 : r / 4096 % 64 = r' / 4096 % 64
          · refine cons_eq (by omega) ?_
            by_cases e2 : r / 64 % 64 = r' / 64 % 64
            · exact cons_eq (by omega) (cons_lt (by omega))
            · exact cons_lt (by omega)
          · exact cons_lt (by omega)
        · exact cons_lt (by omega)
theorem app_lt (l x y : List Int) (h : x < y) : l ++ x < l ++ y := by
  induction l with
  | nil => exact h
  | cons a l ih => exact cons_eq rfl ih
theorem enc_cons (r : Int) (h : okR r = true) : ∃ a l, enc r = a :: l := by
  cases he : enc r with
  | nil =>
    have h2 := enc_len r h
    rw [he] at h2
    unfold lenR at h2
    simp only [List.length_nil] at h2
    split at h2
    · omega
    · split at h2
      · omega
      · split at h2 <;> omega
  | cons a l => exact ⟨a, l, rfl⟩
/-- Runes' order is the bytes'. -/
theorem flat_mono : ∀ (a b : List Int), (∀ r ∈ a, okR r = true) → (∀ r ∈ b, okR r = true) → a < b → a.flatMap enc < b.flatMap enc
  | [], [], _, _, h => absurd h (List.lt_irrefl _)
  | [], r :: b, _, hb, _ => by
    obtain ⟨x, l, e⟩ := enc_cons r (hb r (List.mem_cons_self ..))
    rw [List.flatMap_cons, e]
    exact List.nil_lt_cons _ _
  | r :: a, [], _, _, h => absurd h (List.not_lt_nil _)
  | r :: a, r' :: b, ha, hb, h => by
    rw [List.flatMap_cons, List.flatMap_cons]
    rcases List.cons_lt_cons_iff.1 h with h1 | ⟨rfl, h1⟩
    · exact enc_lt (ha r (List.mem_cons_self ..)) (hb r' (List.mem_cons_self ..)) h1 _ _
    · exact app_lt _ _ _ (flat_mono a b (fun q hq => ha q (List.mem_cons_of_mem _ hq)) (fun q hq => hb q (List.mem_cons_of_mem _ hq)) h1)
/-- Numbers of bytes, and the bytes. -/
theorem bytes_mono : ∀ (a b : List Int), (∀ x ∈ a, 0 ≤ x ∧ x < 256) → (∀ x ∈ b, 0 ≤ x ∧ x < 256) → a < b → (a.map fun n => UInt8.ofNat n.toNat) < (b.map fun n => UInt8.ofNat n.toNat)
  | [], [], _, _, h => absurd h (List.lt_irrefl _)
  | [], r :: b, _, _, _ => List.nil_lt_cons _ _
  | r :: a, [], _, _, h => absurd h (List.not_lt_nil _)
  | r :: a, r' :: b, ha, hb, h => by
    have h1 := ha r (List.mem_cons_self ..)
    have h2 := hb r' (List.mem_cons_self ..)
    rw [List.map_cons, List.map_cons]
    rcases List.cons_lt_cons_iff.1 h with h3 | ⟨rfl, h3⟩
    · refine List.cons_lt_cons_iff.2 (Or.inl ?_)
      rw [UInt8.lt_iff_toNat_lt, UInt8.toNat_ofNat', UInt8.toNat_ofNat']
      omega
    · exact List.cons_lt_cons_iff.2 (Or.inr ⟨rfl, bytes_mono a b (fun q hq => ha q (List.mem_cons_of_mem _ hq)) (fun q hq => hb q (List.mem_cons_of_mem _ hq)) h3⟩)
theorem flat_range (a : List Int) : ∀ x ∈ a.flatMap enc, 0 ≤ x ∧ x < 256 := by
  intro x hx
  obtain ⟨r, _, hr⟩ := List.mem_flatMap.1 hx
  exact enc_range hr
/-- Texts of signs: one stands ahead of another just if its runes do. -/
theorem text_lt (a b : List Int) (ha : ∀ r ∈ a, okR r = true) (hb : ∀ r ∈ b, okR r = true) (h : lw (strOfNums (a.flatMap enc)) (strOfNums (b.flatMap enc)) = true) : a < b := by
  by_cases h1 : a < b
  · exact h1
  · exfalso
    by_cases e : a = b
    · subst e
      rw [lw_irrefl] at h
      cases h
    · have h2 : b < a := by
        by_cases h3 : b < a
        · exact h3
        · exact absurd (List.le_antisymm (List.not_lt.1 h3) (List.not_lt.1 h1)) e
      have h4 := bytes_mono _ _ (flat_range b) (flat_range a) (flat_mono b a hb ha h2)
      have h5 : lw (strOfNums (b.flatMap enc)) (strOfNums (a.flatMap enc)) = true := by
        unfold lw Sort.ltStr
        rw [decide_eq_true_eq, strOfNums_data, strOfNums_data]
        exact h4
      exact lw_asymm h h5
end Go.Proofs.YtfikkkodepfdkaaDoor
