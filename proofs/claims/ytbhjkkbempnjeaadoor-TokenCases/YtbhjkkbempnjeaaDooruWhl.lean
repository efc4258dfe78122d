/- Words and their places, plainly. -/
import Derived.Test.YtbhjkkbempnjeaaDoorPkUPts2
import Derived.Test.YtbhjkkbempnjeaaDoorPkVF3
namespace Go.Proofs.YtbhjkkbempnjeaaDoor
set_option linter.unusedVariables false
open Go.RowKit
theorem pos_lt {s : ByteArray} {k : Nat} (he : Ends s k) (i : Nat) : ∀ d, i + d + 1 ≤ k → pos s i < pos s (i + d + 1)
  | 0, h => by
    have := (wd_pos s (pos s i) (he.2 i (by omega))).1
    show pos s i < pos s i + wd s (pos s i)
    omega
  | d + 1, h => by
    have h1 := pos_lt he i d (by omega)
    have := (wd_pos s (pos s (i + d + 1)) (he.2 (i + d + 1) (by omega))).1
    show pos s i < pos s (i + d + 1) + wd s (pos s (i + d + 1))
    omega
theorem pos_mono {s : ByteArray} {k : Nat} (he : Ends s k) {i j : Nat} (h : i ≤ j) (hj : j ≤ k) : pos s i ≤ pos s j := by
  rcases Nat.eq_or_lt_of_le h with rfl | h
  · exact Nat.le_refl _
  · have := pos_lt he i (j - i - 1) (by omega)
    rw [show i + (j - i - 1) + 1 = j by omega] at this
    omega
theorem pos_lt2 {s : ByteArray} {k : Nat} (he : Ends s k) {i j : Nat} (h : i < j) (hj : j ≤ k) : pos s i < pos s j := by
  have := pos_lt he i (j - i - 1) (by omega)
  rw [show i + (j - i - 1) + 1 = j by omega] at this
  exact this
theorem cl_app (f : Nat → Int) (m w : Nat) : cl f (m + w) = cl f m ++ cl (fun j => f (m + j)) w := by
  apply List.ext_getElem?
  intro i
  rcases Nat.lt_or_ge i m with h | h
  · rw [List.getElem?_append_left (by rw [cl_len]; exact h), cl_at f m i h, cl_at f (m + w) i (by omega)]
  · rw [List.getElem?_append_right (by rw [cl_len]; exact h), cl_len]
    rcases Nat.lt_or_ge i (m + w) with h2 | h2
    · rw [cl_at f (m + w) i h2, cl_at _ w (i - m) (by omega), show m + (i - m) = i by omega]
    · rw [List.getElem?_eq_none (by rw [cl_len]; exact h2), List.getElem?_eq_none (by rw [cl_len]; omega)]
theorem cl_is {f : Nat → Int} {w : Nat} {L : List Int} (hl : L.length = w) (h : ∀ m x, L[m]? = some x → f m = x) : cl f w = L := by
  apply List.ext_getElem?
  intro i
  rcases Nat.lt_or_ge i w with h1 | h1
  · rw [cl_at f w i h1, List.getElem?_eq_getElem (by omega)]
    rw [h i _ (List.getElem?_eq_getElem (by omega))]
  · rw [List.getElem?_eq_none (by rw [cl_len]; exact h1), List.getElem?_eq_none (by omega)]
/-- The bytes of a sign that can be put. -/
theorem sign_cl {c : Nat → Int} {n p : Nat} (hC : ∀ j, j < n → 0 ≤ c j ∧ c j < 256) (hp : p < n) (ho : okR (rn (strOfNums (cl c n)) p) = true) : cl (fun j => c (p + j)) (wd (strOfNums (cl c n)) p) = enc (rn (strOfNums (cl c n)) p) := by
  have hs : (strOfNums (cl c n)).size = n := by rw [strOfNums_size, cl_len]
  rcases sign_or (strOfNums (cl c n)) p (by omega) with h | ⟨_, h, _⟩
  · refine cl_is (by rw [h.wd, enc_len _ h.1]) fun m x hx => ?_
    have h1 := h.2.2 m x hx
    have h2 := h.2.1
    have hm : m < lenR (rn (strOfNums (cl c n)) p) := by
      rw [← enc_len _ h.1]
      exact (List.getElem?_eq_some_iff.1 hx).1
    rw [nums_bt (cl_at c n (p + m) (by omega)) (hC (p + m) (by omega))] at h1
    exact h1
  · rw [h] at ho
    cases ho
theorem sub_snoc {l : List U3} {a d : Nat} {x : U3} (h : l[a + d]? = some x) : sub l a (a + d + 1) = sub l a (a + d) ++ [x] := by
  unfold sub
  rw [show a + d + 1 - a = d + 1 by omega, show a + d - a = d by omega, List.take_add_one, List.getElem?_drop, h]
  rfl
/-- The bytes of signs that can be put are their text. -/
theorem part_lit {c : Nat → Int} {n k : Nat} (hC : ∀ j, j < n → 0 ≤ c j ∧ c j < 256) (he : Ends (strOfNums (cl c n)) k) (a : Nat) : ∀ d, a + d ≤ k → (∀ j, a ≤ j → j < a + d → okR (rn (strOfNums (cl c n)) (pos (strOfNums (cl c n)) j)) = true) →
    cl (fun j => c (pos (strOfNums (cl c n)) a + j)) (pos (strOfNums (cl c n)) (a + d) - pos (strOfNums (cl c n)) a) = tU (sub (unS (strOfNums (cl c n)) k) a (a + d))
  | 0, h, ho => by
    unfold sub
    rw [Nat.add_zero, Nat.sub_self, Nat.sub_self]
    rfl
  | d + 1, h, ho => by
    have hs : (strOfNums (cl c n)).size = n := by rw [strOfNums_size, cl_len]
    have ih := part_lit hC he a d (by omega) (fun j h1 h2 => ho j h1 (by omega))
    have hm := pos_mono he (show a ≤ a + d by omega) (by omega)
    have hp := he.2 (a + d) (by omega)
    rw [show a + (d + 1) = a + d + 1 by omega, sub_snoc (unS_at _ k (a + d) (by omega))]
    rw [show pos (strOfNums (cl c n)) (a + d + 1) - pos (strOfNums (cl c n)) a = (pos (strOfNums (cl c n)) (a + d) - pos (strOfNums (cl c n)) a) + wd (strOfNums (cl c n)) (pos (strOfNums (cl c n)) (a + d)) by show pos _ (a + d) + wd _ _ - _ = _; omega]
    rw [cl_app, ih]
    unfold tU
    rw [List.flatMap_append]
    congr 1
    rw [List.flatMap_cons, List.flatMap_nil, List.append_nil]
    show _ = enc (rn (strOfNums (cl c n)) (pos (strOfNums (cl c n)) (a + d)))
    rw [← sign_cl hC (by omega) (ho (a + d) (by omega) (by omega))]
    congr 1
    funext j
    show c _ = c _
    congr 1
    omega
/-- The word of a part, of a text's signs. -/
theorem word_at {c : Nat → Int} {n k : Nat} (hC : ∀ j, j < n → 0 ≤ c j ∧ c j < 256) (he : Ends (strOfNums (cl c n)) k) {U : List U3} (hU : unS (strOfNums (cl c n)) k = U) {p : Nat × Nat} (hp : p ∈ ptsL (RU U) (runsL (RU U) U.length 0)) :
    p.1 < p.2 ∧ p.2 ≤ k ∧ (wOf c n U p).a = (pos (strOfNums (cl c n)) p.1 : Int) ∧ (wOf c n U p).n = ((pos (strOfNums (cl c n)) p.2 - pos (strOfNums (cl c n)) p.1 : Nat) : Int) ∧ (wOf c n U p).l = true ∧ (wOf c n U p).t = strOfNums (cl (fun j => c (pos (strOfNums (cl c n)) p.1 + j)) (pos (strOfNums (cl c n)) p.2 - pos (strOfNums (cl c n)) p.1)) := by
  obtain ⟨h1, h2, h3⟩ := pts_in hp
  have hul : U.length = k := by rw [← hU, unS_len]
  rw [hul] at h2 h3
  have hs : (strOfNums (cl c n)).size = n := by rw [strOfNums_size, cl_len]
  have hat : ∀ i, i < k → U[i]? = some ⟨rn (strOfNums (cl c n)) (pos (strOfNums (cl c n)) i), (pos (strOfNums (cl c n)) i : Int), (wd (strOfNums (cl c n)) (pos (strOfNums (cl c n)) i) : Int)⟩ := fun i hi => by rw [← hU]; exact unS_at _ k i hi
  have hok : ∀ j, p.1 ≤ j → j < p.1 + (p.2 - p.1) → okR (rn (strOfNums (cl c n)) (pos (strOfNums (cl c n)) j)) = true := fun j h4 h5 => by
    have := inn_ok (h3 j h4 (by omega))
    rw [RU_at (hat j (by omega))] at this
    exact this
  have hlit := part_lit hC he p.1 (p.2 - p.1) (by omega) hok
  rw [show p.1 + (p.2 - p.1) = p.2 by omega, hU] at hlit
  have hm := pos_lt2 he h1 h2
  have hpp : pos (strOfNums (cl c n)) p.2 = pos (strOfNums (cl c n)) (p.2 - 1) + wd (strOfNums (cl c n)) (pos (strOfNums (cl c n)) (p.2 - 1)) := by
    obtain ⟨q, hq⟩ : ∃ q, p.2 = q + 1 := ⟨p.2 - 1, by omega⟩
    rw [hq, Nat.add_sub_cancel]
    rfl
  have hpn : pos (strOfNums (cl c n)) p.2 ≤ n := by
    have h6 := pos_mono he h2 (Nat.le_refl k)
    rw [he.1, hs] at h6
    exact h6
  have g1 : U.getD p.1 ⟨0, 0, 0⟩ = ⟨rn (strOfNums (cl c n)) (pos (strOfNums (cl c n)) p.1), (pos (strOfNums (cl c n)) p.1 : Int), (wd (strOfNums (cl c n)) (pos (strOfNums (cl c n)) p.1) : Int)⟩ := by
    rw [List.getD_eq_getElem?_getD, hat p.1 (by omega)]
    rfl
  have g2 : U.getD (p.2 - 1) ⟨0, 0, 0⟩ = ⟨rn (strOfNums (cl c n)) (pos (strOfNums (cl c n)) (p.2 - 1)), (pos (strOfNums (cl c n)) (p.2 - 1) : Int), (wd (strOfNums (cl c n)) (pos (strOfNums (cl c n)) (p.2 - 1)) : Int)⟩ := by
    rw [List.getD_eq_getElem?_getD, hat (p.2 - 1) (by omega)]
    rfl
  refine ⟨h1, h2, ?_, ?_, ?_, ?_⟩
  · unfold wOf
    rw [g1]
  · unfold wOf
    rw [g1, g2]
    dsimp only
    omega
  · show litB c n (sub U p.1 p.2) = true
    have hsl := sub_len (l := U) (a := p.1) (b := p.2) (by omega) (by omega)
    have e0 : (sub U p.1 p.2)[0]? = some ⟨rn (strOfNums (cl c n)) (pos (strOfNums (cl c n)) p.1), (pos (strOfNums (cl c n)) p.1 : Int), (wd (strOfNums (cl c n)) (pos (strOfNums (cl c n)) p.1) : Int)⟩ := by
      rw [sub_at (by omega), Nat.add_zero]
      exact hat p.1 (by omega)
    have e1 : (sub U p.1 p.2)[(sub U p.1 p.2).length - 1]? = some ⟨rn (strOfNums (cl c n)) (pos (strOfNums (cl c n)) (p.2 - 1)), (pos (strOfNums (cl c n)) (p.2 - 1) : Int), (wd (strOfNums (cl c n)) (pos (strOfNums (cl c n)) (p.2 - 1)) : Int)⟩ := by
      rw [hsl, sub_at (by omega), show p.1 + (p.2 - p.1 - 1) = p.2 - 1 by omega]
      exact hat (p.2 - 1) (by omega)
    rw [lit_is e0 e1]
    dsimp only
    rw [show (pos (strOfNums (cl c n)) (p.2 - 1) : Int) + (wd (strOfNums (cl c n)) (pos (strOfNums (cl c n)) (p.2 - 1)) : Int) = (pos (strOfNums (cl c n)) p.2 : Int) by omega]
    rw [show ((pos (strOfNums (cl c n)) p.2 : Int) - (pos (strOfNums (cl c n)) p.1 : Int)).toNat = pos (strOfNums (cl c n)) p.2 - pos (strOfNums (cl c n)) p.1 by omega, Int.toNat_natCast, hlit]
    simp
    omega
  · show strOfNums (tU (sub U p.1 p.2)) = _
    rw [hlit]
theorem partsF_chain (R : Nat → Int) (e : Nat) : ∀ f i, (partsF R e f i).Pairwise fun p q => p.2 ≤ q.1
  | 0, i => List.Pairwise.nil
  | f + 1, i => by
    show (bif decide (i < e) then (i, pGo R e (i + 1)) :: partsF R e f (pGo R e (i + 1)) else []).Pairwise _
    cases decide (i < e)
    · exact List.Pairwise.nil
    · refine List.Pairwise.cons (fun q hq => ?_) (partsF_chain R e f _)
      exact (partsF_in R e f _ q hq).1
theorem partsF_cover (R : Nat → Int) (e : Nat) : ∀ f i q, e ≤ i + f → i ≤ q → q < e → ∃ p ∈ partsF R e f i, p.1 ≤ q ∧ q < p.2
  | 0, i, q, h, h1, h2 => by omega
  | f + 1, i, q, h, h1, h2 => by
    have hg := pGo_ge (R := R) (e := e) (e - (i + 1)) (i + 1) (by omega)
    have e1 : partsF R e (f + 1) i = (i, pGo R e (i + 1)) :: partsF R e f (pGo R e (i + 1)) := by
      show (bif decide (i < e) then (i, pGo R e (i + 1)) :: partsF R e f (pGo R e (i + 1)) else []) = _
      rw [show decide (i < e) = true by simp; omega]
      rfl
    rw [e1]
    rcases Nat.lt_or_ge q (pGo R e (i + 1)) with h3 | h3
    · exact ⟨_, List.mem_cons_self .., h1, h3⟩
    · obtain ⟨p, hp, h4⟩ := partsF_cover R e f _ q (by omega) h3 h2
      exact ⟨p, List.mem_cons_of_mem _ hp, h4⟩
theorem ptsF_chain (R : Nat → Int) (k : Nat) : ∀ f i, (ptsL R (runsF R k f i)).Pairwise fun p q => p.2 ≤ q.1
  | 0, i => List.Pairwise.nil
  | f + 1, i => by
    show (ptsL R (bif inn R k i then (i, rEnd R k i) :: runsF R k f (rEnd R k i) else runsF R k f (i + 1))).Pairwise _
    cases hh : inn R k i
    · exact ptsF_chain R k f (i + 1)
    · show (ptsL R ((i, rEnd R k i) :: runsF R k f (rEnd R k i))).Pairwise _
      unfold ptsL
      rw [List.flatMap_cons, List.pairwise_append]
      refine ⟨partsF_chain R _ _ _, ptsF_chain R k f _, fun p hp q hq => ?_⟩
      have h1 := partsL_in hp
      obtain ⟨r, hr, hq2⟩ := List.mem_flatMap.1 hq
      have h2 := runsF_in R k f _ r hr
      have h3 := partsL_in hq2
      dsimp only at h1
      omega
theorem ptsF_cover (R : Nat → Int) (k : Nat) : ∀ f i q, k ≤ i + f → i ≤ q → inn R k q = true → ∃ p ∈ ptsL R (runsF R k f i), p.1 ≤ q ∧ q < p.2
  | 0, i, q, h, h1, h2 => by have := inn_lt h2; omega
  | f + 1, i, q, h, h1, h2 => by
    show ∃ p ∈ ptsL R (bif inn R k i then (i, rEnd R k i) :: runsF R k f (rEnd R k i) else runsF R k f (i + 1)), p.1 ≤ q ∧ q < p.2
    cases hh : inn R k i
    · rcases Nat.eq_or_lt_of_le h1 with rfl | h3
      · rw [hh] at h2; cases h2
      · exact ptsF_cover R k f (i + 1) q (by omega) h3 h2
    · show ∃ p ∈ ptsL R ((i, rEnd R k i) :: runsF R k f (rEnd R k i)), p.1 ≤ q ∧ q < p.2
      unfold ptsL
      rw [List.flatMap_cons]
      have hgt := rEnd_gt hh
      rcases Nat.lt_or_ge q (rEnd R k i) with h3 | h3
      · obtain ⟨p, hp, h4⟩ := partsF_cover R (rEnd R k i) (rEnd R k i - i) i q (by omega) h1 h3
        exact ⟨p, List.mem_append_left _ hp, h4⟩
      · obtain ⟨p, hp, h4⟩ := ptsF_cover R k f (rEnd R k i) q (by omega) h3 h2
        exact ⟨p, List.mem_append_right _ hp, h4⟩
theorem pts_chain (R : Nat → Int) (k : Nat) : (ptsL R (runsL R k 0)).Pairwise fun p q => p.2 ≤ q.1 := ptsF_chain R k _ 0
theorem pts_cover {R : Nat → Int} {k q : Nat} (h : inn R k q = true) : ∃ p ∈ ptsL R (runsL R k 0), p.1 ≤ q ∧ q < p.2 := ptsF_cover R k _ 0 q (by omega) (Nat.zero_le _) h
theorem inn_or {R : Nat → Int} {k q : Nat} (h : inn R k q = true) : lB (R q) = true ∨ R q = 39 := by
  unfold inn at h
  rw [Bool.or_eq_true] at h
  rcases h with h | h
  · unfold ltP at h
    rw [Bool.and_eq_true] at h
    exact Or.inl h.2
  · simp only [Bool.and_eq_true, beq_iff_eq] at h
    exact Or.inr h.1.1.2
theorem inn_letter {R : Nat → Int} {k q : Nat} (hq : q < k) (h : lB (R q) = true) : inn R k q = true := inn_let (by rw [ltP_yes hq]; exact h)
theorem part_rn {c : Nat → Int} {n : Nat} {l : List U3} {p : Nat × Nat} (h : p ∈ ptsL (RU l) (runsL (RU l) l.length 0)) {i : Nat} (hi : i < p.2 - p.1) : rn (wOf c n l p).t (pos (wOf c n l p).t i) = RU l (p.1 + i) := by
  have hp := pts_in h
  have hl : ((sub l p.1 p.2).map (·.r)).length = p.2 - p.1 := by rw [List.length_map, sub_len (by omega) hp.2.1]
  have h1 := put_rn _ (part_ok h) i (by rw [hl]; exact hi)
  show rn (strOfNums (tU (sub l p.1 p.2))) (pos (strOfNums (tU (sub l p.1 p.2))) i) = _
  rw [tU_tx, h1]
  obtain ⟨x, hx⟩ : ∃ x, l[p.1 + i]? = some x := ⟨_, List.getElem?_eq_getElem (by omega)⟩
  rw [RU_at hx]
  have h2 : ((sub l p.1 p.2).map (·.r))[i]? = some x.r := by rw [List.getElem?_map, sub_at hi, hx]; rfl
  rw [List.getElem?_eq_getElem (by rw [hl]; exact hi)] at h2
  exact Option.some.inj h2
theorem chain_at {PT : List (Nat × Nat)} (h : PT.Pairwise fun p q => p.2 ≤ q.1) {i j : Nat} {p q : Nat × Nat} (hp : PT[i]? = some p) (hq : PT[j]? = some q) (hij : i < j) : p.2 ≤ q.1 := by
  obtain ⟨h1, e1⟩ := List.getElem?_eq_some_iff.1 hp
  obtain ⟨h2, e2⟩ := List.getElem?_eq_some_iff.1 hq
  have := List.pairwise_iff_getElem.1 h i j h1 h2 hij
  rw [e1, e2] at this
  exact this
end Go.Proofs.YtbhjkkbempnjeaaDoor
