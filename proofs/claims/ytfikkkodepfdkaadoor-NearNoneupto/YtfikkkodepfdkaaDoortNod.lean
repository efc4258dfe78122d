/- Nodes are as many as there are beginnings; one word more. -/
import Derived.Test.YtfikkkodepfdkaaDoortHas1
namespace Go.Proofs.YtfikkkodepfdkaaDoor
set_option linter.unusedVariables false
theorem nodup_le : ∀ (A C : List (List Int)), A.Nodup → (∀ x ∈ A, x ∈ C) → A.length ≤ C.length
  | [], C, _, _ => Nat.zero_le _
  | a :: A, C, hn, hs => by
    rw [List.nodup_cons] at hn
    have ha := hs a (List.mem_cons_self ..)
    have h := nodup_le A (C.erase a) hn.2 (fun x hx => (List.mem_erase_of_ne (fun e => hn.1 (by rw [← e]; exact hx))).2 (hs x (List.mem_cons_of_mem _ hx)))
    rw [List.length_erase_of_mem ha] at h
    have := List.length_pos_of_mem ha
    simp only [List.length_cons]
    omega
/-- The nodes' beginnings: just those of words, each once. -/
theorem nodes_is {L : List ByteArray} (h : (makeP L).1 = 0) : ∃ B : List (List Int), B.Nodup ∧ B.length = (makeP L).2.length ∧ ∀ q, q ∈ B ↔ (q = [] ∨ ∃ s ∈ L, q <+: rs s) := by
  have he : (-1 : Int) ∉ rs ⟨#[]⟩ := by
    have h0 : rs ⟨#[]⟩ = [] := sm_rs [] (fun b hb => by cases hb)
    rw [h0]; exact List.not_mem_nil
  obtain ⟨B, hI, hE, _⟩ := make_inv L 0 ⟨#[]⟩ [pn0] [[]] [] h inv0 end0 he (fun x hx => by cases hx)
  refine ⟨B, ?_, hI.len, fun q => ⟨fun hq => ?_, fun hq => ?_⟩⟩
  · unfold List.Nodup
    rw [List.pairwise_iff_getElem]
    intro i j hi hj hij e
    have := hI.uniq i j B[i] (List.getElem?_eq_getElem hi) (by rw [e]; exact List.getElem?_eq_getElem hj)
    omega
  · obtain ⟨i, hi⟩ := List.getElem?_of_mem hq
    rcases hI.pre i q hi with e | ⟨u, hu, e⟩
    · exact Or.inl e
    · right
      simp only [List.append_nil, List.mem_reverse, List.mem_map] at hu
      obtain ⟨s, hs, rfl⟩ := hu
      exact ⟨s, hs, e⟩
  · rcases hq with rfl | ⟨s, hs, t, e⟩
    · exact List.mem_of_getElem? hI.b0
    · obtain ⟨c, hc⟩ := hE.has (rs s) (by simp only [List.append_nil, List.mem_reverse, List.mem_map]; exact ⟨s, hs, rfl⟩)
      obtain ⟨i, hi⟩ := hI.closed q t.length t c (Nat.le_refl _) (by rw [e]; exact hc)
      exact List.mem_of_getElem? hi
theorem more_nodes {L M : List ByteArray} {t : ByteArray} (h : (makeP L).1 = 0) (h' : (makeP M).1 = 0) (hm : ∀ x, x ∈ M ↔ x = t ∨ x ∈ L) : (makeP L).2.length ≤ (makeP M).2.length ∧ (makeP M).2.length ≤ (makeP L).2.length + (rs t).length := by
  obtain ⟨B, n1, l1, q1⟩ := nodes_is h
  obtain ⟨C, n2, l2, q2⟩ := nodes_is h'
  rw [← l1, ← l2]
  constructor
  · refine nodup_le B C n1 fun x hx => (q2 x).2 ?_
    rcases (q1 x).1 hx with e | ⟨s, hs, e⟩
    · exact Or.inl e
    · exact Or.inr ⟨s, (hm s).2 (Or.inr hs), e⟩
  · have hh := nodup_le C (B ++ (List.range (rs t).length).map fun i => (rs t).take (i + 1)) n2 fun x hx => by
      rw [List.mem_append]
      rcases (q2 x).1 hx with e | ⟨s, hs, e⟩
      · exact Or.inl ((q1 x).2 (Or.inl e))
      · rcases (hm s).1 hs with rfl | hs
        · by_cases hx0 : x = []
          · exact Or.inl ((q1 x).2 (Or.inl hx0))
          · right
            rw [List.mem_map]
            have hl : x.length ≤ (rs s).length := e.length_le
            have hp : 0 < x.length := List.length_pos_iff.2 hx0
            refine ⟨x.length - 1, by simp; omega, ?_⟩
            rw [show x.length - 1 + 1 = x.length by omega]
            exact (List.prefix_iff_eq_take.1 e).symm
        · exact Or.inl ((q1 x).2 (Or.inr ⟨s, hs, e⟩))
    simpa using hh
end Go.Proofs.YtfikkkodepfdkaaDoor
