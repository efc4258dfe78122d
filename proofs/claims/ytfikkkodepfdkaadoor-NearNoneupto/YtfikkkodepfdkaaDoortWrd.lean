/- Texts of signs, read and put again; the words that Make takes. -/
import Derived.Test.YtfikkkodepfdkaaDoortGo
namespace Go.Proofs.YtfikkkodepfdkaaDoor
set_option linter.unusedVariables false
def numsOf (s : ByteArray) : List Int := (List.range s.size).map fun j => ((s.get! j).toNat : Int)
theorem numsOf_len (s : ByteArray) : (numsOf s).length = s.size := by simp [numsOf]
theorem numsOf_at (s : ByteArray) (i : Nat) (h : i < s.size) : (numsOf s)[i]? = some (bt s i : Int) := by
  simp [numsOf, List.getElem?_range h, bt]
theorem back_take (s : ByteArray) {k : Nat} (hw : Whole s k) : ∀ j, j ≤ k → txt (fun i => rn s (pos s i)) j = (numsOf s).take (pos s j)
  | 0, _ => rfl
  | j + 1, h => by
    have ih := back_take s hw j (by omega)
    have hs := hw j (by omega)
    rw [txt_succ, ih]
    show _ = (numsOf s).take (pos s j + wd s (pos s j))
    rw [hs.wd, List.take_add]
    congr 1
    have h1 := hs.2.1
    apply List.ext_getElem?
    intro m
    by_cases hm : m < lenR (rn s (pos s j))
    · rw [List.getElem?_take_of_lt hm, List.getElem?_drop, numsOf_at s _ (by omega)]
      have hme : m < (enc (rn s (pos s j))).length := by rw [enc_len _ hs.1]; exact hm
      rw [List.getElem?_eq_getElem hme]
      congr 1
      exact (hs.2.2 m _ (List.getElem?_eq_getElem hme)).symm
    · rw [List.getElem?_eq_none (by rw [enc_len _ hs.1]; omega), List.getElem?_eq_none (by rw [List.length_take]; omega)]
theorem back_whole (s : ByteArray) {k : Nat} (hw : Whole s k) (he : Ends s k) : strOfNums (txt (fun i => rn s (pos s i)) k) = s := by
  rw [back_take s hw k (Nat.le_refl _), he.1, ← numsOf_len s, List.take_length]
  exact nums_of s
theorem rs_ok {s : ByteArray} (h : (-1 : Int) ∉ rs s) : ∀ r ∈ rs s, okR r = true := by
  intro r hr
  have hr0 := hr
  unfold rs rl at hr
  rw [List.mem_map] at hr
  obtain ⟨j, hj, rfl⟩ := hr
  rw [List.mem_range] at hj
  rcases rn_range s (pos s j) ((kS_ends s).2 j hj) with e | e
  · rw [e] at hr0; exact absurd hr0 h
  · exact e
theorem rs_back {s : ByteArray} (h : (-1 : Int) ∉ rs s) : strOfNums ((rs s).flatMap enc) = s := by
  have hw : Whole s (kS s) := by
    intro j hj
    rcases sign_or s (pos s j) ((kS_ends s).2 j hj) with h1 | ⟨_, h1, _⟩
    · exact h1
    · refine absurd ?_ h
      unfold rs rl
      exact List.mem_map.2 ⟨j, List.mem_range.2 hj, h1⟩
  have h2 := back_whole s hw (kS_ends s)
  have h3 : txt (fun i => rn s (pos s i)) (kS s) = (rs s).flatMap enc := by
    unfold txt rs rl
    rw [List.flatMap_map]
  rw [h3] at h2
  exact h2
theorem rs_lt {a s : ByteArray} (ha : (-1 : Int) ∉ rs a) (hs : (-1 : Int) ∉ rs s) (h : lw a s = true) : rs a < rs s := by
  refine text_lt _ _ (rs_ok ha) (rs_ok hs) ?_
  rw [rs_back ha, rs_back hs]
  exact h
theorem rs_inj {a s : ByteArray} (ha : (-1 : Int) ∉ rs a) (hs : (-1 : Int) ∉ rs s) (h : rs a = rs s) : a = s := by
  rw [← rs_back ha, ← rs_back hs, h]
theorem chkP_facts {i : Nat} {s a : ByteArray} {L : List Int} (h : chkP i s a L = 0) : lw a s = true ∧ (-1 : Int) ∉ L := by
  unfold chkP at h
  split at h
  · cases h
  · split at h
    · cases h
    · rename_i h1
      split at h
      · cases h
      · split at h
        · cases h
        · split at h
          · cases h
          · rename_i h2
            exact ⟨by simpa using h1, h2⟩
/-- Words that Make takes, one behind the other. -/
theorem make_inv : ∀ (L : List ByteArray) (i : Nat) (a : ByteArray) (P : List PN) (B D : List (List Int)), (makeG i a P L).1 = 0 → Inv D P B → EndI D P B → (-1 : Int) ∉ rs a → (∀ x ∈ D, x = rs a ∨ x < rs a) →
    ∃ B', Inv ((L.map rs).reverse ++ D) (makeG i a P L).2 B' ∧ EndI ((L.map rs).reverse ++ D) (makeG i a P L).2 B' ∧ ∀ s ∈ L, (-1 : Int) ∉ rs s
  | [], i, a, P, B, D, _, hI, hE, _, _ => ⟨B, hI, hE, fun s hs => absurd hs List.not_mem_nil⟩
  | s :: L, i, a, P, B, D, hc, hI, hE, ha, hD => by
    simp only [makeG] at hc ⊢
    by_cases h0 : chkP i s a (rs s) = 0
    · rw [if_pos h0] at hc ⊢
      obtain ⟨h1, h2⟩ := chkP_facts h0
      have hlt := rs_lt ha h2 h1
      have hW : ∀ x ∈ rs s :: D, x = rs s ∨ x < rs s := by
        intro x hx
        rcases List.mem_cons.1 hx with rfl | hx
        · exact Or.inl rfl
        · rcases hD x hx with e | e
          · exact Or.inr (by rw [e]; exact hlt)
          · exact Or.inr (List.lt_trans e hlt)
      obtain ⟨B1, h3, h4⟩ := add_inv (hI.more fun x hx => List.mem_cons_of_mem _ hx) hE hW (List.mem_cons_self ..)
      obtain ⟨B2, h5, h6, h7⟩ := make_inv L (i + 1) s (addP P (rs s)) B1 (rs s :: D) hc h3 h4 h2 hW
      refine ⟨B2, ?_, ?_, ?_⟩
      · simpa using h5
      · simpa using h6
      · intro x hx
        rcases List.mem_cons.1 hx with rfl | hx
        · exact h2
        · exact h7 x hx
    · rw [if_neg h0] at hc
      exact absurd hc h0
/-- What a trie that Make made has. -/
theorem makeP_has {L : List ByteArray} (h : (makeP L).1 = 0) : RiseP (makeP L).2 ∧ (∀ s ∈ L, (-1 : Int) ∉ rs s) ∧ (∀ u, hasP (makeP L).2 u = decide (u ∈ L.map rs)) := by
  have he : rs ⟨#[]⟩ = [] := by
    unfold rs
    rw [kS_is (s := ⟨#[]⟩) (k := 0) ⟨rfl, fun j hj => absurd hj (Nat.not_lt_zero j)⟩]
    rfl
  obtain ⟨B, h1, h2, h3⟩ := make_inv L 0 ⟨#[]⟩ [pn0] [[]] [] h inv0 end0 (by rw [he]; exact List.not_mem_nil) (fun x hx => absurd hx List.not_mem_nil)
  refine ⟨h1.riseP, h3, fun u => ?_⟩
  rw [show (makeP L).2 = (makeG 0 ⟨#[]⟩ [pn0] L).2 from rfl, has_is h1 h2]
  simp
end Go.Proofs.YtfikkkodepfdkaaDoor
