/- The law NearMore, in plain words. -/
import Derived.Test.YtfikkkodepfdkaaDoorpkF
namespace Go.Proofs.YtfikkkodepfdkaaDoor
set_option linter.unusedVariables false
open Qns (dd far at_)
/-- Nearer ones are the first of those further out. -/
theorem near_less {L : List ByteArray} (hn : L.Nodup) (Pf : List ByteArray) (W : List Int) (m : Nat) : ∃ rest, nearsP Pf W (m + 1) L = nearsP Pf W m L ++ rest := by
  obtain ⟨g1, g2⟩ := nearsP_is Pf W m hn
  obtain ⟨k1, k2⟩ := nearsP_is Pf W (m + 1) hn
  have hs : nearsP Pf W m L = (nearsP Pf W (m + 1) L).filter (fun x => decide (x.d ≤ m)) := by
    refine strict_ext Pf _ _ g1 (k1.sublist List.filter_sublist) (fun x => ?_)
    rw [List.mem_filter, g2, k2]
    constructor
    · rintro ⟨s, h1, h2, rfl⟩
      exact ⟨⟨s, h1, by omega, rfl⟩, by simpa using h2⟩
    · rintro ⟨⟨s, h1, h2, rfl⟩, h3⟩
      exact ⟨s, h1, by simpa using h3, rfl⟩
  have hcut := cut_near m (nearsP Pf W (m + 1) L) (k1.imp fun h => by
    rcases h with h | ⟨h, _⟩
    · omega
    · omega)
  exact ⟨_, by rw [hs]; exact hcut⟩
/-- A word that is listed stands first. -/
theorem near_self {L : List ByteArray} (hr : (L.map rs).Pairwise (· < ·)) (hg : ∀ s ∈ L, GoodX s) (m : Nat) {word : ByteArray} (hw : word ∈ L) : ∃ rest, nearsP [] (rs word) m L = ⟨word, 0⟩ :: rest := by
  obtain ⟨g1, g2⟩ := nearsP_is [] (rs word) m (nodup_of hr)
  have hmem : (⟨word, 0⟩ : Nr) ∈ nearsP [] (rs word) m L := (g2 _).2 ⟨word, hw, by rw [Qns.far_self]; exact Nat.zero_le _, by rw [Qns.far_self]⟩
  cases hR : nearsP [] (rs word) m L with
  | nil => rw [hR] at hmem; cases hmem
  | cons h R =>
    refine ⟨R, ?_⟩
    rw [hR] at hmem g1
    rcases List.mem_cons.1 hmem with e | e
    · rw [← e]
    · exfalso
      rw [List.pairwise_cons] at g1
      have hlt := g1.1 _ e
      obtain ⟨s, hs, h1, h2⟩ := (g2 h).1 (by rw [hR]; exact List.mem_cons_self ..)
      have hd : h.d ≤ 0 := by
        rcases hlt with k | ⟨k, _⟩
        · exact Nat.le_of_lt k
        · exact Nat.le_of_eq k
      rw [h2] at hd
      have hz : far (rs word) (rs s) = 0 := Nat.le_zero.1 hd
      have hrs := (Qns.far_zero (rs word) (rs s)).1 hz
      have hsw : word = s := rs_inj (hg word hw).2.2.1 (hg s hs).2.2.1 hrs
      rw [h2, ← hsw, Qns.far_self] at hlt
      exact ltN_irr [] _ hlt
theorem take_few {R : List Nr} {k : Nat} (hk : k ≤ 32) : (R.take k).length = min (R.take 32).length k ∧ (R.take 32).take (R.take k).length = R.take k := by
  refine ⟨by rw [List.length_take, List.length_take]; omega, ?_⟩
  rw [List.take_take, List.length_take]
  by_cases h : k ≤ R.length
  · rw [Nat.min_eq_left (by omega), Nat.min_eq_left h]
  · rw [Nat.min_eq_left (by omega), Nat.min_eq_right (by omega), List.take_of_length_le (Nat.le_refl _), List.take_of_length_le (by omega)]
theorem take_last {R R' rest : List Nr} (h : R' = R ++ rest) : (R'.take 32).take (R.take 32).length = R.take 32 ∧ (R.take 32).length ≤ (R'.take 32).length := by
  subst h
  refine ⟨?_, by rw [List.length_take, List.length_take, List.length_append]; omega⟩
  rw [List.take_take, List.length_take, List.take_append_of_le_length (by omega)]
  by_cases h : 32 ≤ R.length
  · rw [show min (min 32 R.length) 32 = 32 by omega]
  · rw [show min (min 32 R.length) 32 = R.length by omega, List.take_of_length_le (Nat.le_refl _), List.take_of_length_le (by omega)]
end Go.Proofs.YtfikkkodepfdkaaDoor
