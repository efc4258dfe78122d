/- src: what the laws' texts are, plainly. -/
import Derived.Test.YtgebmmbnpdhooaasPure
import Derived.Test.YtgebmmbnpdhooaasLen
namespace Go.Proofs.Ytgebmmbnpdhooaa
set_option linter.unusedVariables false
open Go.RowKit Go.ChangeShapes
theorem cL_app {a b : List Int} {k j : Nat} (hk : k = a.length + j) : cL (a ++ b) k = cL b j := by rw [hk, cL_right]
theorem cL_all {l : List Int} {p : Int → Bool} (h : ∀ x ∈ l, p x = true) {j : Nat} (hj : j < l.length) : p (cL l j) = true := h _ (cL_mem hj)
theorem byt_app {a b : List Int} (ha : Byt a) (hb : Byt b) : Byt (a ++ b) := fun x hx => by
  rcases List.mem_append.1 hx with h | h
  · exact ha x h
  · exact hb x h
/-- Bytes that begin nothing. -/
def plB (x : Int) : Bool := x != 47 && x != 35 && x != 45 && x != 34 && x != 39 && x != 96
theorem plB_all {x : Int} (h : plB x = true) : (x == 47) = false ∧ (x == 35) = false ∧ (x == 45) = false ∧ (x == 34) = false ∧ (x == 39) = false ∧ (x == 96) = false := by
  unfold plB at h
  simp only [Bool.and_eq_true, bne_iff_ne, ne_eq] at h
  obtain ⟨⟨⟨⟨⟨h1, h2⟩, h3⟩, h4⟩, h5⟩, h6⟩ := h
  simp only [beq_eq_false_iff_ne, ne_eq]
  exact ⟨h1, h2, h3, h4, h5, h6⟩
theorem fam_cases {f : Int} (hf : 4 ≤ f ∧ f ≤ 8) : f = 4 ∨ f = 5 ∨ f = 6 ∨ f = 7 ∨ f = 8 := by omega
theorem nx_pl {f : Int} (hf : 4 ≤ f ∧ f ≤ 8) {c : Nat → Int} {n i : Nat} (h : plB (c i) = true) : nx (fam f) c n i = (i + 1, fun _ => 4) := by
  obtain ⟨h1, h2, h3, h4, h5, h6⟩ := plB_all h
  rcases fam_cases hf with rfl | rfl | rfl | rfl | rfl <;> simp [nx, ntB, opB, fq, fam, qD, qS, oc, h1, h2, h3, h4, h5, h6, tqR]
theorem lx_at {F : Fm} (hF : GdF F) {c : Nat → Int} {n : Nat} (hC : Ch c n) {i : Nat} (h : i < n) (j : Nat) : lx F c n i j = if j < (nx F c n i).1 then (nx F c n i).2 j else lx F c n (nx F c n i).1 j := by
  rw [lx_one hF hC h]
  rfl
theorem lx_code {f : Int} (hf : 4 ≤ f ∧ f ≤ 8) {c : Nat → Int} {n : Nat} (hC : Ch c n) {e : Nat} (he : e ≤ n) : ∀ d i, e - i = d → i ≤ e → (∀ k, i ≤ k → k < e → plB (c k) = true) → ∀ j, i ≤ j → lx (fam f) c n i j = if j < e then 4 else lx (fam f) c n e j
  | 0, i, hd, hi, h, j, hj => by
    obtain rfl : i = e := by omega
    rw [if_neg (by omega)]
  | d + 1, i, hd, hi, h, j, hj => by
    rw [lx_at (gd_fam f) hC (by omega), nx_pl hf (h i (Nat.le_refl _) (by omega))]
    dsimp only
    by_cases h1 : j < i + 1
    · rw [if_pos h1, if_pos (by omega)]
    · rw [if_neg h1, lx_code hf hC he d (i + 1) (by omega) (by omega) (fun k a b => h k (by omega) b) j (by omega)]
theorem lx_end (F : Fm) (c : Nat → Int) {n i : Nat} (h : n ≤ i) (j : Nat) : lx F c n i j = 4 := by
  unfold lx
  rw [show n - i = 0 by omega]
  rfl
/-- A string's inner bytes, one by one. -/
theorem lnE_run {q : Qt} (hq : GdQ q) {c : Nat → Int} {n e : Nat} (he : e ≤ n) : ∀ d a, e - a = d → a ≤ e → (∀ j, a ≤ j → j < e → enB q c j = false ∧ tkN q c j = 1) → lnE q c n a = lnE q c n e
  | 0, a, hd, ha, h => by
    obtain rfl : a = e := by omega
    rfl
  | d + 1, a, hd, ha, h => by
    have h1 := h a (Nat.le_refl _) (by omega)
    rw [lnE_no hq (by omega) h1.1, h1.2, Nat.min_eq_left (by omega)]
    exact lnE_run hq he d (a + 1) (by omega) (by omega) (fun j h2 h3 => h j (by omega) h3)
theorem lnE_two {q : Qt} (hq : GdQ q) {c : Nat → Int} {n a : Nat} (h : a + 2 ≤ n) (h1 : enB q c a = false) (h2 : tkN q c a = 2) : lnE q c n a = lnE q c n (a + 2) := by
  rw [lnE_no hq (by omega) h1, h2, Nat.min_eq_left h]
/-- Raw strings: the third place begins one. -/
def rawQ (x : Int) (d : Bool) : Qt := ⟨[x], 7, false, d, true⟩
theorem rawQ_gd (x : Int) (h : 0 ≤ x ∧ x < 256) (d : Bool) : GdQ (rawQ x d) := ⟨byt1 x h, Nat.le_refl _, by show 1 ≤ 3; omega⟩
def rawK (r : Nat) : Int := if r = 0 then 5 else if r = 1 then 7 else 8
def rawM (r : Nat) : Int := if r = 0 then 96 else if r = 1 then 39 else 34
def rawD (r : Nat) : Bool := r == 2
theorem nx_raw {r : Nat} (hr : r < 3) {c : Nat → Int} {n i : Nat} (h : c i = rawM r) : nx (fam (rawK r)) c n i = ahd 4 (i + 1) (txR (rawQ (rawM r) (rawD r)) c n (i + 1)) := by
  have h3 : r = 0 ∨ r = 1 ∨ r = 2 := by omega
  rcases h3 with rfl | rfl | rfl <;> simp [rawM] at h <;> simp [nx, ntB, opB, fq, fam, qD, qS, oc, h, tqR, rawK, rawM, rawD, rawQ]
theorem raw_en {x : Int} {d : Bool} {c : Nat → Int} {j : Nat} (h : c j ≠ x) : enB (rawQ x d) c j = false ∧ tkN (rawQ x d) c j = 1 := by
  have h1 : (c j == x) = false := by simpa using h
  unfold enB tkN esB prB rawQ
  simp [oc, h1]
theorem raw_end {x : Int} {d : Bool} {c : Nat → Int} {j : Nat} (h : c j = x) (h1 : c (j + 1) ≠ x) : enB (rawQ x d) c j = true := by
  have h2 : (c (j + 1) == x) = false := by simpa using h1
  unfold enB prB rawQ
  simp [oc, h, h2]
theorem rawM_ok {r : Nat} (hr : r < 3) : (0 ≤ rawM r ∧ rawM r < 256) ∧ rawM r ≠ 32 ∧ (4 ≤ rawK r ∧ rawK r ≤ 8) := by
  have h3 : r = 0 ∨ r = 1 ∨ r = 2 := by omega
  rcases h3 with rfl | rfl | rfl <;> decide
/-- What is in a raw string, and about it. -/
theorem raw_lab {r : Nat} (hr : r < 3) {T : List Int} (hT : Byt T) (hx : ∀ y ∈ T, y ≠ rawM r) (en : Bool) (j : Nat) (hj : j < ([120, 32, rawM r] ++ T ++ (if en = true then [rawM r, 32] else [])).length) :
    lxA (fam (rawK r)) (cL ([120, 32, rawM r] ++ T ++ (if en = true then [rawM r, 32] else []))) ([120, 32, rawM r] ++ T ++ (if en = true then [rawM r, 32] else [])).length j = if 3 ≤ j ∧ j < 3 + T.length then 7 else 4 := by
  obtain ⟨hm, hm32, hk⟩ := rawM_ok hr
  obtain ⟨c, hc⟩ : ∃ c, cL ([120, 32, rawM r] ++ T ++ (if en = true then [rawM r, 32] else [])) = c := ⟨_, rfl⟩
  obtain ⟨n, hn⟩ : ∃ n, ([120, 32, rawM r] ++ T ++ (if en = true then [rawM r, 32] else [])).length = n := ⟨_, rfl⟩
  have hby : Byt ([120, 32, rawM r] ++ T ++ (if en = true then [rawM r, 32] else [])) := by
    refine byt_app (byt_app (fun y hy => ?_) hT) (fun y hy => ?_)
    · simp only [List.mem_cons, List.not_mem_nil, or_false] at hy
      rcases hy with rfl | rfl | rfl
      · decide
      · decide
      · exact hm
    · cases en with
      | false => cases hy
      | true =>
        simp only [if_true, List.mem_cons, List.not_mem_nil, or_false] at hy
        rcases hy with rfl | rfl
        · exact hm
        · decide
  have hC : Ch c n := by
    have := cL_ch hby
    rw [hc, hn] at this
    exact this
  have hl : n = 3 + T.length + (if en = true then 2 else 0) := by
    rw [← hn]
    cases en <;> simp <;> omega
  have c0 : c 0 = 120 := by rw [← hc]; rfl
  have c1 : c 1 = 32 := by rw [← hc]; rfl
  have c2 : c 2 = rawM r := by rw [← hc]; rfl
  have cT : ∀ k, 3 ≤ k → k < 3 + T.length → c k ≠ rawM r := fun k h1 h2 => by
    rw [← hc, cL_left _ _ (by simp; omega), cL_app (a := [120, 32, rawM r]) (j := k - 3) (by simp; omega)]
    exact hx _ (cL_mem (by omega))
  rw [hc, hn]
  rw [hn] at hj
  unfold lxA
  rw [lx_code hk hC (e := 2) (by rw [hl]; split <;> omega) 2 0 rfl (by omega) (fun k h1 h2 => by
    have h3 : k = 0 ∨ k = 1 := by omega
    rcases h3 with rfl | rfl
    · rw [c0]; rfl
    · rw [c1]; rfl) j (Nat.zero_le _)]
  by_cases hj2 : j < 2
  · rw [if_pos hj2, if_neg (by omega)]
  rw [if_neg hj2]
  have hgd := rawQ_gd (rawM r) hm (rawD r)
  have hle3 : 3 + T.length ≤ n := by rw [hl]; omega
  have hrun := lnE_run hgd hle3 T.length 3 (by omega) (by omega) (fun k h1 h2 => raw_en (d := rawD r) (cT k h1 h2))
  have hE : lnE (rawQ (rawM r) (rawD r)) c n 3 = 3 + T.length := by
    rw [hrun]
    cases en with
    | false =>
      simp only [Bool.false_eq_true, if_false] at hl
      exact lnE_end _ _ (by omega)
    | true =>
      refine lnE_yes (raw_end ?_ ?_)
      · rw [← hc, if_pos rfl, cL_app (j := 0) (by simp; omega)]
        rfl
      · rw [← hc, if_pos rfl, cL_app (j := 1) (by simp; omega)]
        exact fun e => hm32 e.symm
  rw [lx_at (gd_fam _) hC (by omega), nx_raw hr c2]
  show (if j < (txR (rawQ (rawM r) (rawD r)) c n 3).1 then (if j < 3 then 4 else (txR (rawQ (rawM r) (rawD r)) c n 3).2 j) else lx (fam (rawK r)) c n (txR (rawQ (rawM r) (rawD r)) c n 3).1 j) = _
  have hx1 : (txR (rawQ (rawM r) (rawD r)) c n 3).1 = n ∨ ((txR (rawQ (rawM r) (rawD r)) c n 3).1 = 3 + T.length + 1 ∧ n = 3 + T.length + 2 ∧ c (3 + T.length + 1) = 32) := by
    unfold txR ahd
    rw [hE]
    dsimp only
    cases en with
    | false =>
      simp only [Bool.false_eq_true, if_false] at hl
      left
      have : oc (rawQ (rawM r) (rawD r)).mark c (3 + T.length) = false := by
        show ((c (3 + T.length) == rawM r) && true) = false
        rw [hC.2 _ (by omega)]
        have : ((-1 : Int) == rawM r) = false := by simp; omega
        rw [this]
        rfl
      rw [if_neg (by rw [this]; exact Bool.false_ne_true)]
      omega
    | true =>
      right
      rw [if_pos rfl] at hl
      have h1 : c (3 + T.length) = rawM r := by
        rw [← hc, if_pos rfl, cL_app (j := 0) (by simp; omega)]
        rfl
      have h2 : c (3 + T.length + 1) = 32 := by
        rw [← hc, if_pos rfl, cL_app (j := 1) (by simp; omega)]
        rfl
      have : oc (rawQ (rawM r) (rawD r)).mark c (3 + T.length) = true := by
        show ((c (3 + T.length) == rawM r) && true) = true
        rw [h1]
        simp
      rw [if_pos this]
      exact ⟨rfl, hl, h2⟩
  have hlab : (txR (rawQ (rawM r) (rawD r)) c n 3).2 j = if j < 3 + T.length then 7 else 4 := by
    unfold txR ahd
    rw [hE]
    rfl
  rw [hlab]
  rcases hx1 with h1 | ⟨h1, h2, h3⟩
  · rw [h1, if_pos hj]
    by_cases h4 : j < 3
    · rw [if_pos h4, if_neg (by omega)]
    · rw [if_neg h4]
      by_cases h5 : j < 3 + T.length
      · rw [if_pos h5, if_pos (by omega)]
      · rw [if_neg h5, if_neg (by omega)]
  · rw [h1]
    by_cases h6 : j < 3 + T.length + 1
    · rw [if_pos h6]
      by_cases h4 : j < 3
      · rw [if_pos h4, if_neg (by omega)]
      · rw [if_neg h4]
        by_cases h5 : j < 3 + T.length
        · rw [if_pos h5, if_pos (by omega)]
        · rw [if_neg h5, if_neg (by omega)]
    · rw [if_neg h6, lx_code hk hC (e := n) (Nat.le_refl _) 1 (3 + T.length + 1) (by omega) (by omega) (fun k h7 h8 => by
        obtain rfl : k = 3 + T.length + 1 := by omega
        rw [h3]; rfl) j (by omega), if_pos hj, if_neg (by omega)]
end Go.Proofs.Ytgebmmbnpdhooaa
