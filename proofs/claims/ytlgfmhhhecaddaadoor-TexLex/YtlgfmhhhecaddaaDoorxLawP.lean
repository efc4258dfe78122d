/- tex: what the laws' texts are, plainly. -/
import Derived.Test.YtlgfmhhhecaddaaDoorxPure
import Derived.Test.YtlgfmhhhecaddaaDoorxCL
namespace Go.Proofs.YtlgfmhhhecaddaaDoor
set_option linter.unusedVariables false
open Go.RowKit Go.ChangeShapes
/-- Bytes that begin nothing: each stands for itself. -/
def nuB (x : Int) : Bool := x != 37 && x != 36 && x != 92
def mk1 (x : Int) : Int := if mkB x = true then 2 else 1
/-- Labels by single bytes from a place up to another. -/
def byL (L c : Nat → Int) (a e : Nat) : Nat → Int := fun j => if a ≤ j ∧ j < e then mk1 (c j) else L j
theorem byL_zero (L c : Nat → Int) (a : Nat) : byL L c a a = L := by
  funext j
  unfold byL
  rw [if_neg (by omega)]
theorem byL_one (L c : Nat → Int) (a e : Nat) (h : a < e) : byL (setL L (mk1 (c a)) (a : Int) ((a + 1 : Nat) : Int)) c (a + 1) e = byL L c a e := by
  funext j
  unfold byL setL
  by_cases h1 : a + 1 ≤ j ∧ j < e
  · rw [if_pos h1, if_pos (by omega)]
  · rw [if_neg h1]
    by_cases h2 : j = a
    · subst h2
      rw [if_pos (by omega), if_pos (by omega)]
    · rw [if_neg (by omega), if_neg (by omega)]
theorem nu_nx {c : Nat → Int} {n i : Nat} (h : nuB (c i) = true) (L : Nat → Int) : nxE c n i = i + 1 ∧ nxL L c n i = setL L (mk1 (c i)) (i : Int) ((i + 1 : Nat) : Int) := by
  unfold nuB at h
  simp only [Bool.and_eq_true, bne_iff_ne, ne_eq] at h
  obtain ⟨⟨h1, h2⟩, h3⟩ := h
  unfold nxE nxL mk1
  rw [if_neg h1, if_neg h2, if_neg h3, if_neg h1, if_neg h2, if_neg h3]
  refine ⟨rfl, ?_⟩
  by_cases hm : mkB (c i) = true
  · rw [if_pos hm, if_pos hm]
  · rw [if_neg hm, if_neg hm]
theorem lx_by {c : Nat → Int} {n : Nat} (hC : Ch c n) (e : Nat) (he : e ≤ n) : ∀ d i L, e - i = d → i ≤ e → (∀ j, i ≤ j → j < e → nuB (c j) = true) → lx c n i L = lx c n e (byL L c i e)
  | 0, i, L, hd, hi, h => by
    obtain rfl : i = e := by omega
    rw [byL_zero]
  | d + 1, i, L, hd, hi, h => by
    have h1 := nu_nx (n := n) (h i (Nat.le_refl _) (by omega)) L
    rw [lx_one hC (by omega), h1.1, h1.2, lx_by hC e he d (i + 1) _ (by omega) (by omega) (fun j a b => h j (by omega) b), byL_one _ _ _ _ (by omega)]
/-- A command whose name is none of those. -/
theorem lx_cmd {c : Nat → Int} {n i K : Nat} (hC : Ch c n) (hi : i < n) (h92 : c i = 92) (hK : i + 1 < K) (hKn : K ≤ n) (hl : ∀ j, i + 1 ≤ j → j < K → ltB (c j) = true) (hk : K < n → ltB (c K) = false) : cmK c n i = K ∧ ltB (c (i + 1)) = true := by
  refine ⟨?_, hl _ (Nat.le_refl _) hK⟩
  unfold cmK ps
  exact fs_is (by omega) hKn (fun j h1 h2 => by rw [hl j h1 h2]; rfl) (fun h => by rw [hk h]; rfl)
theorem nx_cmd {c : Nat → Int} {n i : Nat} (h92 : c i = 92) (hl : ltB (c (i + 1)) = true) (L : Nat → Int) : nxE c n i = cmE c n i ∧ nxL L c n i = cmL L c n i := by
  have h40 : c (i + 1) ≠ 40 := fun e => by rw [e] at hl; exact absurd hl (by decide)
  have h91 : c (i + 1) ≠ 91 := fun e => by rw [e] at hl; exact absurd hl (by decide)
  unfold nxE nxL
  rw [h92, if_neg (by decide), if_neg (by decide), if_pos rfl, if_neg (by decide), if_neg (by decide), if_pos rfl]
  unfold bkE bkL
  rw [if_neg h40, if_neg h91, if_pos hl, if_neg h40, if_neg h91, if_pos hl]
  exact ⟨rfl, rfl⟩
/-- A list within a list. -/
theorem cL_app {a b : List Int} {k j : Nat} (hk : k = a.length + j) : cL (a ++ b) k = cL b j := by rw [hk, cL_right]
theorem cL_all {l : List Int} {p : Int → Bool} (h : ∀ x ∈ l, p x = true) {j : Nat} (hj : j < l.length) : p (cL l j) = true := h _ (cL_mem hj)
theorem byt_app {a b : List Int} (ha : Byt a) (hb : Byt b) : Byt (a ++ b) := fun x hx => by
  rcases List.mem_append.1 hx with h | h
  · exact ha x h
  · exact hb x h
theorem setL_in {L : Nat → Int} {l f t : Int} {j : Nat} (h : f ≤ (j : Int) ∧ (j : Int) < t) : setL L l f t j = l := by unfold setL; rw [if_pos h]
theorem setL_out {L : Nat → Int} {l f t : Int} {j : Nat} (h : ¬ (f ≤ (j : Int) ∧ (j : Int) < t)) : setL L l f t j = L j := by unfold setL; rw [if_neg h]
theorem byL_in {L c : Nat → Int} {a e j : Nat} (h : a ≤ j ∧ j < e) : byL L c a e j = mk1 (c j) := by unfold byL; rw [if_pos h]
theorem byL_out {L c : Nat → Int} {a e j : Nat} (h : ¬ (a ≤ j ∧ j < e)) : byL L c a e j = L j := by unfold byL; rw [if_neg h]
/-- Prose and a remark. -/
theorem signs_lab {B N : List Int} (hB : Byt B) (hBn : ∀ x ∈ B, nuB x = true ∧ mkB x = false) (hN : Byt N) (hN10 : ∀ x ∈ N, x ≠ 10) (k : Nat) (hk : k < (B ++ ([37] ++ N)).length + 2) (hk2 : k ≠ (B ++ ([37] ++ N)).length) :
    lxA (cL (B ++ ([37] ++ N) ++ [10, 120])) ((B ++ ([37] ++ N)).length + 2) k = if k < B.length then 1 else if k < (B ++ ([37] ++ N)).length then 3 else 1 := by
  obtain ⟨c, hc⟩ : ∃ c, cL (B ++ ([37] ++ N) ++ [10, 120]) = c := ⟨_, rfl⟩
  have hlen : (B ++ ([37] ++ N)).length = B.length + (1 + N.length) := by simp; omega
  rw [hc]
  rw [hlen] at hk hk2 ⊢
  have hby : Byt (B ++ ([37] ++ N) ++ [10, 120]) := byt_app (byt_app hB (byt_app (byt_lit _ rfl) hN)) (byt_lit _ rfl)
  have hC : Ch c (B.length + (1 + N.length) + 2) := by
    have := cL_ch hby
    have hl : (B ++ ([37] ++ N) ++ [10, 120]).length = B.length + (1 + N.length) + 2 := by simp; omega
    rw [hc, hl] at this
    exact this
  have c1 : ∀ j, j < B.length → c j = cL B j := fun j hj => by rw [← hc, List.append_assoc, cL_left _ _ hj]
  have c2 : c B.length = 37 := by rw [← hc, List.append_assoc, cL_app (j := 0) (by omega)]; rfl
  have c3 : ∀ j, j < N.length → c (B.length + 1 + j) = cL N j := fun j hj => by
    rw [← hc, List.append_assoc, cL_app (j := 1 + j) (by omega), List.append_assoc, cL_app (a := [37]) (j := j) (by simp), cL_left _ _ hj]
  have c4 : c (B.length + 1 + N.length) = 10 := by
    rw [← hc, cL_app (j := 0) (by simp; omega)]; rfl
  have c5 : c (B.length + 1 + N.length + 1) = 120 := by
    rw [← hc, cL_app (j := 1) (by simp; omega)]; rfl
  have hbh : bh [10] c (B.length + (1 + N.length) + 2) B.length = B.length + 1 + N.length + 1 := by
    have hf : fs (oc [10] c) (B.length + (1 + N.length) + 2) B.length = B.length + 1 + N.length := by
      refine fs_is (by omega) (by omega) (fun j h1 h2 => ?_) (fun _ => by rw [oc1, c4]; rfl)
      rw [oc1]
      by_cases e : j = B.length
      · rw [e, c2]; rfl
      · obtain ⟨q, hq⟩ : ∃ q, j = B.length + 1 + q := ⟨j - (B.length + 1), by omega⟩
        rw [hq, c3 q (by omega)]
        have := hN10 _ (cL_mem (show q < N.length by omega))
        simpa using this
    unfold bh
    rw [hf, if_pos (by omega)]
    rfl
  unfold lxA
  rw [lx_by hC B.length (by omega) _ 0 _ rfl (Nat.zero_le _) (fun j _ hj => by rw [c1 j hj]; exact (hBn _ (cL_mem hj)).1)]
  rw [lx_one hC (i := B.length) (by omega)]
  have e1 : nxE c (B.length + (1 + N.length) + 2) B.length = B.length + 1 + N.length + 1 := by unfold nxE; rw [if_pos c2, hbh]
  have e2 : ∀ L, nxL L c (B.length + (1 + N.length) + 2) B.length = setL L 3 (B.length : Int) ((B.length + 1 + N.length + 1 : Nat) : Int) := fun L => by unfold nxL; rw [if_pos c2, hbh]
  rw [e1, e2]
  rw [lx_by hC (B.length + (1 + N.length) + 2) (Nat.le_refl _) _ _ _ rfl (by omega) (fun j h1 h2 => by rw [show j = B.length + 1 + N.length + 1 by omega, c5]; rfl)]
  rw [lx_end (Nat.le_refl _)]
  by_cases h1 : k < B.length
  · rw [if_pos h1, byL_out (by omega), setL_out (by omega), byL_in (by omega), c1 k h1]
    unfold mk1
    rw [(hBn _ (cL_mem h1)).2]
    rfl
  · rw [if_neg h1]
    by_cases h2 : k < B.length + (1 + N.length)
    · rw [if_pos h2, byL_out (by omega), setL_in (by omega)]
    · rw [if_neg h2, byL_in (by omega), show k = B.length + 1 + N.length + 1 by omega, c5]
      rfl
/-- Prose alone. -/
theorem prose_lab {B : List Int} (hB : Byt B) (hBn : ∀ x ∈ B, nuB x = true ∧ mkB x = false) (k : Nat) (hk : k < B.length) : lxA (cL B) B.length k = 1 := by
  unfold lxA
  rw [lx_by (cL_ch hB) B.length (Nat.le_refl _) _ 0 _ rfl (Nat.zero_le _) (fun j _ hj => (hBn _ (cL_mem hj)).1), lx_end (Nat.le_refl _), byL_in (by omega)]
  unfold mk1
  rw [(hBn _ (cL_mem hk)).2]
  rfl
/-- A command with one argument. -/
theorem words_lab {s t : List Int} (hs : ∀ x ∈ s, ltB x = true) (hsB : Byt s) (ht : ∀ x ∈ t, nuB x = true ∧ mkB x = false) (htB : Byt t) (k : Nat) (hk : k < 1 + (s.length + 1) + 1 + t.length + 1) :
    lxA (cL ([92] ++ ([120] ++ s) ++ [123] ++ t ++ [125])) (1 + (s.length + 1) + 1 + t.length + 1) k = if s.length + 1 + 2 ≤ k ∧ k < 1 + (s.length + 1) + 1 + t.length then 1 else 2 := by
  obtain ⟨c, hc⟩ : ∃ c, cL ([92] ++ ([120] ++ s) ++ [123] ++ t ++ [125]) = c := ⟨_, rfl⟩
  rw [hc]
  have hlen : ([92] ++ ([120] ++ s) ++ [123] ++ t ++ [125]).length = 1 + (s.length + 1) + 1 + t.length + 1 := by simp; omega
  have hby : Byt ([92] ++ ([120] ++ s) ++ [123] ++ t ++ [125]) := byt_app (byt_app (byt_app (byt_app (byt_lit _ rfl) (byt_app (byt_lit _ rfl) hsB)) (byt_lit _ rfl)) htB) (byt_lit _ rfl)
  have hC : Ch c (1 + (s.length + 1) + 1 + t.length + 1) := by
    have := cL_ch hby
    rw [hc, hlen] at this
    exact this
  have hc' : cL ([92] ++ ([120] ++ (s ++ ([123] ++ (t ++ [125]))))) = c := by rw [← hc]; simp
  have c0 : c 0 = 92 := by rw [← hc']; rfl
  have c1 : c 1 = 120 := by rw [← hc']; rfl
  have c2 : ∀ j, j < s.length → c (2 + j) = cL s j := fun j hj => by
    rw [← hc', cL_app (a := [92]) (j := 1 + j) (by simp; omega), cL_app (a := [120]) (j := j) (by simp), cL_left _ _ hj]
  have c3 : c (2 + s.length) = 123 := by
    rw [← hc', cL_app (a := [92]) (j := 1 + s.length) (by simp; omega), cL_app (a := [120]) (j := s.length) (by simp), cL_app (a := s) (j := 0) (by omega)]; rfl
  have c4 : ∀ j, j < t.length → c (3 + s.length + j) = cL t j := fun j hj => by
    rw [← hc', cL_app (a := [92]) (j := 2 + s.length + j) (by simp; omega), cL_app (a := [120]) (j := 1 + s.length + j) (by simp; omega), cL_app (a := s) (j := 1 + j) (by omega), cL_app (a := [123]) (j := j) (by simp), cL_left _ _ hj]
  have c5 : c (3 + s.length + t.length) = 125 := by
    rw [← hc', cL_app (a := [92]) (j := 2 + s.length + t.length) (by simp; omega), cL_app (a := [120]) (j := 1 + s.length + t.length) (by simp; omega), cL_app (a := s) (j := 1 + t.length) (by omega), cL_app (a := [123]) (j := t.length) (by simp), cL_app (a := t) (j := 0) (by omega)]; rfl
  obtain ⟨n, hn⟩ : ∃ n, 1 + (s.length + 1) + 1 + t.length + 1 = n := ⟨_, rfl⟩
  rw [hn] at hC hk ⊢
  have hK := lx_cmd (K := 2 + s.length) hC (i := 0) (by omega) c0 (by omega) (by omega) (fun j h1 h2 => by
    by_cases e : j = 1
    · rw [e, c1]; rfl
    · obtain ⟨q, hq⟩ : ∃ q, j = 2 + q := ⟨j - 2, by omega⟩
      rw [hq, c2 q (by omega)]
      exact hs _ (cL_mem (by omega))) (fun _ => by rw [c3]; rfl)
  have hN : ∃ r, cmN c n 0 = 120 :: r := by
    unfold cmN
    rw [hK.1, show 2 + s.length - (0 + 1) = s.length + 1 by omega]
    unfold cl
    rw [List.range_succ_eq_map]
    exact ⟨_, by rw [List.map_cons]; show c 1 :: _ = _; rw [c1]⟩
  obtain ⟨r, hr⟩ := hN
  have n1 : isV (cmN c n 0) = false := by rw [hr]; rfl
  have n2 : isBg (cmN c n 0) = false := by rw [hr]; rfl
  have n3 : bareB (cmN c n 0) = false := by rw [hr]; rfl
  have hnx := nx_cmd (n := n) c0 hK.2 (fun _ => 1)
  have eE : cmE c n 0 = 2 + s.length := by unfold cmE; rw [n1, n2, n3, hK.1]; rfl
  have eL : cmL (fun _ => 1) c n 0 = setL (fun _ => 1) 2 0 ((2 + s.length : Nat) : Int) := by unfold cmL cm1; rw [n1, n2, n3, hK.1]; rfl
  unfold lxA
  rw [lx_one hC (i := 0) (by omega), hnx.1, hnx.2, eE, eL]
  rw [lx_by hC n (Nat.le_refl _) _ _ _ rfl (by omega) (fun j h1 h2 => by
    by_cases e : j = 2 + s.length
    · rw [e, c3]; rfl
    · by_cases e2 : j = 3 + s.length + t.length
      · rw [e2, c5]; rfl
      · obtain ⟨q, hq⟩ : ∃ q, j = 3 + s.length + q := ⟨j - (3 + s.length), by omega⟩
        rw [hq, c4 q (by omega)]
        exact (ht _ (cL_mem (by omega))).1), lx_end (Nat.le_refl _)]
  by_cases h1 : k < 2 + s.length
  · rw [if_neg (by omega), byL_out (by omega), setL_in (by omega)]
  · rw [byL_in (by omega)]
    by_cases e : k = 2 + s.length
    · rw [if_neg (by omega), e, c3]; rfl
    · by_cases e2 : k = 3 + s.length + t.length
      · rw [if_neg (by omega), e2, c5]; rfl
      · obtain ⟨q, hq⟩ : ∃ q, k = 3 + s.length + q := ⟨k - (3 + s.length), by omega⟩
        rw [if_pos (by omega), hq, c4 q (by omega)]
        unfold mk1
        rw [(ht _ (cL_mem (show q < t.length by omega))).2]
        rfl
end Go.Proofs.YtlgfmhhhecaddaaDoor
