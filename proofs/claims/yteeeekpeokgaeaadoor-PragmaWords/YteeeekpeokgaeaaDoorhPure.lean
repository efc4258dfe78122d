/- What is searched for in a file's bytes, plainly; no program in this text. -/

namespace Go.Proofs.YteeeekpeokgaeaaDoor
set_option linter.unusedVariables false
/-- The first place from one on at which it holds; the end of all, if there is none. -/
def fsG (P : Nat → Bool) : Nat → Nat → Nat
  | 0, i => i
  | k + 1, i => if P i = true then i else fsG P k (i + 1)
def fs (P : Nat → Bool) (n i : Nat) : Nat := fsG P (n - i) i
theorem fs_end (P : Nat → Bool) {n i : Nat} (h : n ≤ i) : fs P n i = i := by
  unfold fs
  rw [show n - i = 0 by omega]
  rfl
theorem fs_yes {P : Nat → Bool} {n i : Nat} (h : P i = true) : fs P n i = i := by
  unfold fs
  cases n - i with
  | zero => rfl
  | succ k => show (if P i = true then i else _) = i; rw [if_pos h]
theorem fs_no {P : Nat → Bool} {n i : Nat} (h : i < n) (hp : P i = false) : fs P n i = fs P n (i + 1) := by
  unfold fs
  rw [show n - i = (n - (i + 1)) + 1 by omega]
  show (if P i = true then i else _) = _
  rw [if_neg (by rw [hp]; exact Bool.false_ne_true)]
theorem fs_all (P : Nat → Bool) (n : Nat) : ∀ d i, n - i = d → i ≤ fs P n i ∧ (i ≤ n → fs P n i ≤ n) ∧ (fs P n i < n → P (fs P n i) = true) ∧ ∀ k, i ≤ k → k < fs P n i → P k = false
  | 0, i, hd => by
    rw [fs_end P (by omega)]
    exact ⟨Nat.le_refl _, fun h => h, fun h => by omega, fun k h1 h2 => by omega⟩
  | d + 1, i, hd => by
    cases hp : P i with
    | true =>
      rw [fs_yes hp]
      exact ⟨Nat.le_refl _, fun h => h, fun _ => hp, fun k h1 h2 => by omega⟩
    | false =>
      obtain ⟨a, b, c, e⟩ := fs_all P n d (i + 1) (by omega)
      rw [fs_no (by omega) hp]
      refine ⟨by omega, fun _ => b (by omega), c, fun k h1 h2 => ?_⟩
      by_cases hk : k = i
      · rw [hk]; exact hp
      · exact e k (by omega) h2
theorem fs_ge (P : Nat → Bool) (n i : Nat) : i ≤ fs P n i := (fs_all P n _ i rfl).1
theorem fs_le (P : Nat → Bool) {n i : Nat} (h : i ≤ n) : fs P n i ≤ n := (fs_all P n _ i rfl).2.1 h
theorem fs_hit {P : Nat → Bool} {n i : Nat} (h : fs P n i < n) : P (fs P n i) = true := (fs_all P n _ i rfl).2.2.1 h
theorem fs_before {P : Nat → Bool} {n i k : Nat} (h1 : i ≤ k) (h2 : k < fs P n i) : P k = false := (fs_all P n _ i rfl).2.2.2 k h1 h2
theorem fs_is {P : Nat → Bool} {n i j : Nat} (hij : i ≤ j) (hj : j ≤ n) (h : ∀ k, i ≤ k → k < j → P k = false) (hh : j < n → P j = true) : fs P n i = j := by
  rcases Nat.lt_trichotomy (fs P n i) j with h1 | h1 | h1
  · have := fs_hit (P := P) (n := n) (i := i) (by omega)
    rw [h _ (fs_ge P n i) h1] at this
    cases this
  · exact h1
  · have h2 := fs_before (P := P) hij h1
    have h3 := fs_le P (n := n) (i := i) (by omega)
    rw [hh (by omega)] at h2
    cases h2
theorem fs_congr {P Q : Nat → Bool} {n i : Nat} (hi : i ≤ n) (h : ∀ j, i ≤ j → j < n → P j = Q j) : fs P n i = fs Q n i :=
  fs_is (fs_ge Q n i) (fs_le Q hi) (fun k h1 h2 => (h k h1 (Nat.lt_of_lt_of_le h2 (fs_le Q hi))).trans (fs_before h1 h2)) (fun h1 => (h _ (fs_ge Q n i) h1).trans (fs_hit h1))
/-- Blanks; great letters; letters; a name's signs; an attribute's; a value's. -/
def bkB (x : Int) : Bool := x == 32 || x == 9 || x == 10 || x == 13 || x == 12
def grB (x : Int) : Bool := decide (65 ≤ x) && decide (x ≤ 90)
def ltB (x : Int) : Bool := (decide (97 ≤ x) && decide (x ≤ 122)) || grB x
def nmB (x : Int) : Bool := ltB x || (decide (48 ≤ x) && decide (x ≤ 57)) || x == 45
def atB (x : Int) : Bool := !bkB x && x != 47 && x != 62 && x != 61
def vlB (x : Int) : Bool := !bkB x && x != 62
def lw (x : Int) : Int := if grB x = true then x + 32 else x
/-- The first place whose sign isn't such a one. -/
def ps (p : Int → Bool) (c : Nat → Int) (n i : Nat) : Nat := fs (fun j => !p (c j)) n i
/-- A text stands there. -/
def oc : List Int → (Nat → Int) → Nat → Bool
  | [], _, _ => true
  | x :: t, c, i => (c i == x) && oc t c (i + 1)
/-- Behind the first such text. -/
def bh (t : List Int) (c : Nat → Int) (n i : Nat) : Nat := if fs (oc t c) n i < n then fs (oc t c) n i + t.length else n
/-- Signs in small letters. -/
def nm (c : Nat → Int) (i e : Nat) : List Int := (List.range (e - i)).map fun j => lw (c (i + j))
theorem nm_len (c : Nat → Int) (i e : Nat) : (nm c i e).length = e - i := by simp [nm]
/-- An attribute's name ends; blanks behind it end; blanks behind = end; the quote. -/
def a1 (c : Nat → Int) (n i : Nat) : Nat := ps atB c n (i + 1)
def a2 (c : Nat → Int) (n i : Nat) : Nat := ps bkB c n (a1 c n i)
def a3 (c : Nat → Int) (n i : Nat) : Nat := ps bkB c n (a2 c n i + 1)
def a4 (c : Nat → Int) (n e : Nat) : Nat := fs (fun j => c j == c e) n (e + 1)
def quB (x : Int) : Bool := x == 34 || x == 39
def altB (l : List Int) : Bool := l == [97, 108, 116] || l == [116, 105, 116, 108, 101]
/-- A value: where it ends, and what is quoted in it. -/
def vlE (c : Nat → Int) (n e : Nat) : Nat := if quB (c e) = true then (if a4 c n e < n then a4 c n e + 1 else n) else ps vlB c n e
def vlP (c : Nat → Int) (n e : Nat) : Nat × Nat := if quB (c e) = true then (if a4 c n e < n then (e + 1, a4 c n e - (e + 1)) else (0, 0)) else (0, 0)
/-- An attribute: where it ends, and what of it is prose. -/
def atE (c : Nat → Int) (n i : Nat) : Nat := if c (a2 c n i) = 61 then vlE c n (a3 c n i) else a2 c n i
def atP (c : Nat → Int) (n i : Nat) : Nat × Nat := if c (a2 c n i) = 61 then (if altB (nm c i (a1 c n i)) = true then vlP c n (a3 c n i) else (0, 0)) else (0, 0)
def prL (p : Nat × Nat) : List (Nat × Nat) := if 0 < p.2 then [p] else []
theorem ps_ge (p : Int → Bool) (c : Nat → Int) (n i : Nat) : i ≤ ps p c n i := fs_ge _ _ _
theorem ps_le (p : Int → Bool) (c : Nat → Int) {n i : Nat} (h : i ≤ n) : ps p c n i ≤ n := fs_le _ h
theorem a1_le {c : Nat → Int} {n i : Nat} (h : i < n) : i < a1 c n i ∧ a1 c n i ≤ n := ⟨ps_ge atB c n (i + 1), ps_le atB c h⟩
theorem a2_le {c : Nat → Int} {n i : Nat} (h : i < n) : i < a2 c n i ∧ a2 c n i ≤ n := by
  have h1 := a1_le (c := c) h
  have h2 := ps_ge bkB c n (a1 c n i)
  exact ⟨Nat.lt_of_lt_of_le h1.1 h2, ps_le bkB c h1.2⟩
theorem a3_le {c : Nat → Int} {n i : Nat} (h : i < n) (h2 : a2 c n i < n) : i < a3 c n i ∧ a3 c n i ≤ n := by
  have h1 := a2_le (c := c) h
  have h3 := ps_ge bkB c n (a2 c n i + 1)
  exact ⟨Nat.lt_of_lt_of_le h1.1 (Nat.le_trans (Nat.le_succ _) h3), ps_le bkB c h2⟩
theorem a4_le {c : Nat → Int} {n e : Nat} (h : e < n) : e < a4 c n e ∧ a4 c n e ≤ n := ⟨fs_ge (fun j => c j == c e) n (e + 1), fs_le (fun j => c j == c e) h⟩
theorem vlE_le {c : Nat → Int} {n e : Nat} (hc : ∀ i, n ≤ i → c i = -1) (h : e ≤ n) : e ≤ vlE c n e ∧ vlE c n e ≤ n := by
  unfold vlE
  by_cases hq : quB (c e) = true
  · have he : e < n := by
      rcases Nat.lt_or_ge e n with h1 | h1
      · exact h1
      · rw [hc e h1] at hq; exact absurd hq (by decide)
    have h4 := a4_le (c := c) he
    rw [if_pos hq]
    by_cases h5 : a4 c n e < n
    · rw [if_pos h5]; omega
    · rw [if_neg h5]; omega
  · rw [if_neg hq]
    exact ⟨ps_ge vlB c n e, ps_le vlB c h⟩
theorem atE_le {c : Nat → Int} {n i : Nat} (hc : ∀ i, n ≤ i → c i = -1) (h : i < n) : i < atE c n i ∧ atE c n i ≤ n := by
  unfold atE
  have h2 := a2_le (c := c) h
  by_cases he : c (a2 c n i) = 61
  · have h2n : a2 c n i < n := by
      rcases Nat.lt_or_ge (a2 c n i) n with h1 | h1
      · exact h1
      · rw [hc _ h1] at he; exact absurd he (by decide)
    have h3 := a3_le (c := c) h h2n
    have h4 := vlE_le hc h3.2
    rw [if_pos he]
    omega
  · rw [if_neg he]
    exact h2
/-- The rest of a tag: where it ends, and what of it is prose. -/
def rdG (c : Nat → Int) (n : Nat) : Nat → Nat → List (Nat × Nat) → Option (Nat × List (Nat × Nat))
  | 0, _, _ => none
  | k + 1, i, l => if n ≤ i then none else if c i = 62 then some (i + 1, l) else if c i = 47 ∨ bkB (c i) = true then rdG c n k (i + 1) l else rdG c n k (atE c n i) (l ++ prL (atP c n i))
def rd (c : Nat → Int) (n i : Nat) (l : List (Nat × Nat)) : Option (Nat × List (Nat × Nat)) := rdG c n (n - i) i l
theorem rdG_more {c : Nat → Int} {n : Nat} (hc : ∀ i, n ≤ i → c i = -1) : ∀ k m i l, n - i ≤ k → n - i ≤ m → rdG c n k i l = rdG c n m i l
  | 0, m, i, l, h1, h2 => by
    cases m with
    | zero => rfl
    | succ m =>
      show none = if n ≤ i then none else _
      rw [if_pos (by omega)]
  | k + 1, 0, i, l, h1, h2 => by
    show (if n ≤ i then none else _) = none
    rw [if_pos (by omega)]
  | k + 1, m + 1, i, l, h1, h2 => by
    show (if n ≤ i then none else if c i = 62 then some (i + 1, l) else if c i = 47 ∨ bkB (c i) = true then rdG c n k (i + 1) l else rdG c n k (atE c n i) (l ++ prL (atP c n i))) = (if n ≤ i then none else if c i = 62 then some (i + 1, l) else if c i = 47 ∨ bkB (c i) = true then rdG c n m (i + 1) l else rdG c n m (atE c n i) (l ++ prL (atP c n i)))
    by_cases h : n ≤ i
    · rw [if_pos h, if_pos h]
    · have ha := atE_le hc (i := i) (by omega)
      rw [rdG_more hc k m (i + 1) l (by omega) (by omega), rdG_more hc k m (atE c n i) _ (by omega) (by omega)]
theorem rd_end {c : Nat → Int} {n i : Nat} (h : n ≤ i) (l : List (Nat × Nat)) : rd c n i l = none := by
  unfold rd
  rw [show n - i = 0 by omega]
  rfl
theorem rd_one {c : Nat → Int} {n i : Nat} (hc : ∀ i, n ≤ i → c i = -1) (h : i < n) (l : List (Nat × Nat)) : rd c n i l = if c i = 62 then some (i + 1, l) else if c i = 47 ∨ bkB (c i) = true then rd c n (i + 1) l else rd c n (atE c n i) (l ++ prL (atP c n i)) := by
  have ha := atE_le hc h
  unfold rd
  rw [rdG_more hc (n - (i + 1)) (n - (i + 1)) (i + 1) l (by omega) (by omega), rdG_more hc (n - atE c n i) (n - (i + 1)) (atE c n i) _ (by omega) (by omega)]
  rw [show n - i = (n - (i + 1)) + 1 by omega]
  show (if n ≤ i then none else _) = _
  rw [if_neg (by omega)]
theorem rd_shut {c : Nat → Int} {n i : Nat} (hc : ∀ i, n ≤ i → c i = -1) (h : i < n) (h1 : c i = 62) (l : List (Nat × Nat)) : rd c n i l = some (i + 1, l) := by
  rw [rd_one hc h, if_pos h1]
theorem rd_skip {c : Nat → Int} {n i : Nat} (hc : ∀ i, n ≤ i → c i = -1) (h : i < n) (h1 : ¬ c i = 62) (h2 : c i = 47 ∨ bkB (c i) = true) (l : List (Nat × Nat)) : rd c n i l = rd c n (i + 1) l := by
  rw [rd_one hc h, if_neg h1, if_pos h2]
theorem rd_attr {c : Nat → Int} {n i : Nat} (hc : ∀ i, n ≤ i → c i = -1) (h : i < n) (h1 : ¬ c i = 62) (h2 : ¬ (c i = 47 ∨ bkB (c i) = true)) (l : List (Nat × Nat)) : rd c n i l = rd c n (atE c n i) (l ++ prL (atP c n i)) := by
  rw [rd_one hc h, if_neg h1, if_neg h2]
theorem rd_in {c : Nat → Int} {n : Nat} (hc : ∀ i, n ≤ i → c i = -1) : ∀ d i l r, n - i ≤ d → rd c n i l = some r → i < r.1 ∧ r.1 ≤ n
  | 0, i, l, r, hd, h => by
    rw [rd_end (by omega)] at h
    cases h
  | d + 1, i, l, r, hd, h => by
    rcases Nat.lt_or_ge i n with hi | hi
    · have ha := atE_le hc hi
      by_cases h1 : c i = 62
      · rw [rd_shut hc hi h1] at h
        injection h with h
        subst h
        exact ⟨Nat.lt_succ_self _, hi⟩
      · by_cases h2 : c i = 47 ∨ bkB (c i) = true
        · rw [rd_skip hc hi h1 h2] at h
          have := rd_in hc d (i + 1) l r (by omega) h
          omega
        · rw [rd_attr hc hi h1 h2] at h
          have := rd_in hc d (atE c n i) (l ++ prL (atP c n i)) r (by omega) h
          omega
    · rw [rd_end hi] at h
      cases h
end Go.Proofs.YteeeekpeokgaeaaDoor
