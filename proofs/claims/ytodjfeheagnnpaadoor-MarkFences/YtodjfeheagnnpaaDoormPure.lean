/- mark: a file's lines, plainly; no program in this text. -/
import Derived.Test.YtodjfeheagnnpaaDoorhTgP
namespace Go.Proofs.YtodjfeheagnnpaaDoor
set_option linter.unusedVariables false
open Go.RowKit Go.ChangeShapes
/-- Bytes up to a place; from a place on; a line by itself. -/
def tr (c : Nat → Int) (n : Nat) : Nat → Int := fun i => if i < n then c i else -1
def sf (c : Nat → Int) (a : Nat) : Nat → Int := fun i => c (a + i)
def ln (c : Nat → Int) (a e : Nat) : Nat → Int := tr (sf c a) (e - a)
theorem tr_in {c : Nat → Int} {n i : Nat} (h : i < n) : tr c n i = c i := by unfold tr; rw [if_pos h]
theorem tr_out {c : Nat → Int} {n i : Nat} (h : n ≤ i) : tr c n i = -1 := by unfold tr; rw [if_neg (by omega)]
theorem tr_ch {c : Nat → Int} {n m : Nat} (h : Ch c n) (hm : m ≤ n) : Ch (tr c m) m := ⟨fun i hi => by rw [tr_in hi]; exact h.1 i (by omega), fun i hi => tr_out hi⟩
theorem sf_ch {c : Nat → Int} {n : Nat} (h : Ch c n) (a : Nat) (ha : a ≤ n) : Ch (sf c a) (n - a) := Ch.from h a ha
theorem ln_ch {c : Nat → Int} {n a e : Nat} (h : Ch c n) (ha : a ≤ e) (he : e ≤ n) : Ch (ln c a e) (e - a) := ⟨fun i hi => by unfold ln; rw [tr_in hi]; exact h.1 (a + i) (by omega), fun i hi => tr_out hi⟩
theorem ln_in {c : Nat → Int} {a e i : Nat} (h : i < e - a) : ln c a e i = c (a + i) := by unfold ln; rw [tr_in h]; rfl
theorem sf_sf (c : Nat → Int) (a b : Nat) : sf (sf c a) b = sf c (a + b) := by funext i; show c (a + (b + i)) = c (a + b + i); rw [Nat.add_assoc]
theorem sf_tr {c : Nat → Int} {a e : Nat} (h : a ≤ e) : sf (tr c e) a = ln c a e := by
  funext i
  show tr c e (a + i) = tr (sf c a) (e - a) i
  unfold tr sf
  by_cases h1 : a + i < e
  · rw [if_pos h1, if_pos (by omega)]
  · rw [if_neg h1, if_neg (by omega)]
/-- How many of a sign bytes begin with. -/
def rwP (s : Int) (c : Nat → Int) (n : Nat) : Nat := ps (fun x => x == s) c n 0
theorem rwP_le (s : Int) (c : Nat → Int) (n : Nat) : rwP s c n ≤ n := ps_le _ c (Nat.zero_le n)
theorem rwP_in {s : Int} {c : Nat → Int} {n i : Nat} (h : i < rwP s c n) : c i = s := by
  have := fs_before (P := fun j => !((fun x => x == s) (c j))) (n := n) (i := 0) (k := i) (Nat.zero_le _) h
  simpa using this
theorem rwP_hit {s : Int} {c : Nat → Int} {n : Nat} (h : rwP s c n < n) : c (rwP s c n) ≠ s := by
  have := fs_hit (P := fun j => !((fun x => x == s) (c j))) (n := n) (i := 0) h
  intro e
  have h2 : (!(c (rwP s c n) == s)) = true := this
  rw [e] at h2
  simp at h2
theorem rwP_is {s : Int} {c : Nat → Int} {n k : Nat} (hk : k ≤ n) (h : ∀ i, i < k → c i = s) (hh : k < n → c k ≠ s) : rwP s c n = k :=
  fs_is (Nat.zero_le _) hk (fun i _ hi => by simp [h i hi]) (fun h1 => by simpa using hh h1)
theorem rwP_zero {s : Int} {c : Nat → Int} {n : Nat} (h : c 0 ≠ s) : rwP s c n = 0 := by
  rcases Nat.eq_zero_or_pos n with h0 | h0
  · have := rwP_le s c n; omega
  · exact rwP_is (Nat.zero_le _) (fun i hi => by omega) (fun _ => h)
theorem rwP_congr {s : Int} {c d : Nat → Int} {n : Nat} (h : ∀ i, i < n → c i = d i) : rwP s c n = rwP s d n := by
  unfold rwP ps
  exact fs_congr (Nat.zero_le _) fun j _ hj => by rw [h j hj]
/-- A line's indent; what stands behind it. -/
def indP (c : Nat → Int) (n : Nat) : Nat := if c (min (rwP 32 c n) 4) = 9 then 4 else min (rwP 32 c n) 4
theorem indP_four (c : Nat → Int) (n : Nat) : indP c n ≤ 4 := by unfold indP; split <;> omega
theorem indP_le {c : Nat → Int} {n : Nat} (h : indP c n ≠ 4) : indP c n ≤ n := by
  unfold indP at h ⊢
  have := rwP_le 32 c n
  split at h
  · exact absurd rfl h
  · rename_i h1; rw [if_neg h1]; omega
def bdN (c : Nat → Int) (n : Nat) : Nat := if indP c n = 4 then 0 else n - indP c n
def bdC (c : Nat → Int) (n : Nat) : Nat → Int := if indP c n = 4 then fun _ => -1 else sf c (indP c n)
theorem bd_ch {c : Nat → Int} {n : Nat} (h : Ch c n) : Ch (bdC c n) (bdN c n) := by
  unfold bdC bdN
  by_cases h4 : indP c n = 4
  · rw [if_pos h4, if_pos h4]
    exact ⟨fun i hi => absurd hi (Nat.not_lt_zero _), fun i _ => rfl⟩
  · rw [if_neg h4, if_neg h4]
    exact sf_ch h _ (indP_le h4)
theorem bdN_le (c : Nat → Int) (n : Nat) : bdN c n ≤ n := by unfold bdN; split <;> omega
/-- Without blanks at the end. -/
def blB (x : Int) : Bool := x == 32 || x == 9 || x == 13 || x == 10
def tmN (c : Nat → Int) : Nat → Nat
  | 0 => 0
  | k + 1 => if blB (c k) = true then tmN c k else k + 1
theorem tmN_le (c : Nat → Int) : ∀ n, tmN c n ≤ n
  | 0 => Nat.le_refl _
  | k + 1 => by
    show (if blB (c k) = true then tmN c k else k + 1) ≤ k + 1
    split
    · exact Nat.le_trans (tmN_le c k) (Nat.le_succ k)
    · exact Nat.le_refl _
theorem tmN_congr {c d : Nat → Int} : ∀ n, (∀ i, i < n → c i = d i) → tmN c n = tmN d n
  | 0, _ => rfl
  | k + 1, h => by
    show (if blB (c k) = true then tmN c k else k + 1) = (if blB (d k) = true then tmN d k else k + 1)
    rw [h k (by omega), tmN_congr k fun i hi => h i (by omega)]
/-- What opens a fence; what closes it; what a reference stands for; dashes. -/
def no96 (c : Nat → Int) (n k : Nat) : Bool := decide (fs (fun j => c j == 96) n k = n)
def opOk (c : Nat → Int) (n : Nat) : Bool := decide (0 < bdN c n) && decide (3 ≤ rwP (bdC c n 0) (bdC c n) (bdN c n)) && (bdC c n 0 == 126 || (bdC c n 0 == 96 && no96 (bdC c n) (bdN c n) (rwP (bdC c n 0) (bdC c n) (bdN c n))))
def opS (c : Nat → Int) (n : Nat) : Int := bdC c n 0
def opK (c : Nat → Int) (n : Nat) : Nat := rwP (bdC c n 0) (bdC c n) (bdN c n)
def clP (s : Int) (k : Nat) (c : Nat → Int) (n : Nat) : Bool := decide (k ≤ tmN (bdC c n) (bdN c n)) && decide (rwP s (bdC c n) (tmN (bdC c n) (bdN c n)) = tmN (bdC c n) (bdN c n))
def dfJ (c : Nat → Int) (n : Nat) : Nat := fs (fun j => bdC c n j == 93) (bdN c n) 1
def dfP (c : Nat → Int) (n : Nat) : Bool := (bdC c n 0 == 91) && decide (1 < dfJ c n) && decide (dfJ c n < bdN c n) && (bdC c n (dfJ c n + 1) == 58)
def dsP (c : Nat → Int) (n : Nat) : Bool := decide (tmN c n = 3) && (c 0 == 45) && (c 1 == 45) && (c 2 == 45)
/-- The first row of so many ticks, from a row's end on; the place of it. -/
def tkG (k : Nat) (c : Nat → Int) (n : Nat) : Nat → Nat → Option Nat
  | 0, _ => none
  | f + 1, p => if n ≤ p then none else if rwP 96 (sf c p) (n - p) = k then some p else tkG k c n f (p + max (rwP 96 (sf c p) (n - p)) 1)
def tk (k : Nat) (c : Nat → Int) (n p : Nat) : Option Nat := tkG k c n (n - p) p
theorem tkG_more {k : Nat} {c : Nat → Int} {n : Nat} : ∀ f g p, n - p ≤ f → n - p ≤ g → tkG k c n f p = tkG k c n g p
  | 0, g, p, h1, h2 => by
    cases g with
    | zero => rfl
    | succ g => show none = if n ≤ p then none else _; rw [if_pos (by omega)]
  | f + 1, 0, p, h1, h2 => by show (if n ≤ p then none else _) = none; rw [if_pos (by omega)]
  | f + 1, g + 1, p, h1, h2 => by
    show (if n ≤ p then none else if rwP 96 (sf c p) (n - p) = k then some p else tkG k c n f (p + max (rwP 96 (sf c p) (n - p)) 1)) = (if n ≤ p then none else if rwP 96 (sf c p) (n - p) = k then some p else tkG k c n g (p + max (rwP 96 (sf c p) (n - p)) 1))
    by_cases h : n ≤ p
    · rw [if_pos h, if_pos h]
    · rw [tkG_more f g (p + max (rwP 96 (sf c p) (n - p)) 1) (by omega) (by omega)]
theorem tk_end {k : Nat} {c : Nat → Int} {n p : Nat} (h : n ≤ p) : tk k c n p = none := by
  unfold tk; rw [show n - p = 0 by omega]; rfl
theorem tk_hit {k : Nat} {c : Nat → Int} {n p : Nat} (h : p < n) (hr : rwP 96 (sf c p) (n - p) = k) : tk k c n p = some p := by
  unfold tk
  rw [show n - p = (n - p - 1) + 1 by omega]
  show (if n ≤ p then none else if rwP 96 (sf c p) (n - p) = k then some p else _) = _
  rw [if_neg (by omega), if_pos hr]
theorem tk_miss {k : Nat} {c : Nat → Int} {n p : Nat} (h : p < n) (hr : rwP 96 (sf c p) (n - p) ≠ k) : tk k c n p = tk k c n (p + max (rwP 96 (sf c p) (n - p)) 1) := by
  have e : tk k c n p = tkG k c n ((n - p - 1) + 1) p := by unfold tk; rw [show n - p - 1 + 1 = n - p by omega]
  rw [e]
  show (if n ≤ p then none else if rwP 96 (sf c p) (n - p) = k then some p else tkG k c n (n - p - 1) (p + max (rwP 96 (sf c p) (n - p)) 1)) = _
  rw [if_neg (by omega), if_neg hr]
  exact tkG_more (k := k) (c := c) (n := n) (n - p - 1) (n - (p + max (rwP 96 (sf c p) (n - p)) 1)) (p + max (rwP 96 (sf c p) (n - p)) 1) (by omega) (by omega)
theorem tkG_le {k : Nat} {c : Nat → Int} {n : Nat} : ∀ f p q, tkG k c n f p = some q → p ≤ q ∧ q + k ≤ n
  | 0, p, q, h => by cases h
  | f + 1, p, q, h => by
    have h' : (if n ≤ p then none else if rwP 96 (sf c p) (n - p) = k then some p else tkG k c n f (p + max (rwP 96 (sf c p) (n - p)) 1)) = some q := h
    by_cases h1 : n ≤ p
    · rw [if_pos h1] at h'; cases h'
    · rw [if_neg h1] at h'
      by_cases h2 : rwP 96 (sf c p) (n - p) = k
      · rw [if_pos h2] at h'
        injection h' with h'
        have := rwP_le 96 (sf c p) (n - p)
        omega
      · rw [if_neg h2] at h'
        have := tkG_le f _ q h'
        omega
/-- Where a bracket is shut; so many are open. -/
def shG (c : Nat → Int) (n : Nat) : Nat → Nat → Nat → Option Nat
  | 0, _, _ => none
  | f + 1, i, o => if n ≤ i then none else if c i = 92 then shG c n f (i + 2) o else if c i = 40 then (if 32 < o + 1 then none else shG c n f (i + 1) (o + 1)) else if c i = 41 then (if o = 1 then some (i + 1) else shG c n f (i + 1) (o - 1)) else shG c n f (i + 1) o
def shP (c : Nat → Int) (n i o : Nat) : Option Nat := shG c n (n - i) i o
theorem shG_more {c : Nat → Int} {n : Nat} : ∀ f g i o, n - i ≤ f → n - i ≤ g → shG c n f i o = shG c n g i o
  | 0, g, i, o, h1, h2 => by
    cases g with
    | zero => rfl
    | succ g => show none = if n ≤ i then none else _; rw [if_pos (by omega)]
  | f + 1, 0, i, o, h1, h2 => by show (if n ≤ i then none else _) = none; rw [if_pos (by omega)]
  | f + 1, g + 1, i, o, h1, h2 => by
    show (if n ≤ i then none else if c i = 92 then shG c n f (i + 2) o else if c i = 40 then (if 32 < o + 1 then none else shG c n f (i + 1) (o + 1)) else if c i = 41 then (if o = 1 then some (i + 1) else shG c n f (i + 1) (o - 1)) else shG c n f (i + 1) o) = (if n ≤ i then none else if c i = 92 then shG c n g (i + 2) o else if c i = 40 then (if 32 < o + 1 then none else shG c n g (i + 1) (o + 1)) else if c i = 41 then (if o = 1 then some (i + 1) else shG c n g (i + 1) (o - 1)) else shG c n g (i + 1) o)
    by_cases h : n ≤ i
    · rw [if_pos h, if_pos h]
    · rw [shG_more f g (i + 2) o (by omega) (by omega), shG_more f g (i + 1) (o + 1) (by omega) (by omega), shG_more f g (i + 1) (o - 1) (by omega) (by omega), shG_more f g (i + 1) o (by omega) (by omega)]
theorem sh_end {c : Nat → Int} {n i : Nat} (h : n ≤ i) (o : Nat) : shP c n i o = none := by unfold shP; rw [show n - i = 0 by omega]; rfl
theorem sh_one {c : Nat → Int} {n i : Nat} (h : i < n) (o : Nat) : shP c n i o = if c i = 92 then shP c n (i + 2) o else if c i = 40 then (if 32 < o + 1 then none else shP c n (i + 1) (o + 1)) else if c i = 41 then (if o = 1 then some (i + 1) else shP c n (i + 1) (o - 1)) else shP c n (i + 1) o := by
  unfold shP
  rw [show n - i = (n - i - 1) + 1 by omega]
  show (if n ≤ i then none else if c i = 92 then shG c n (n - i - 1) (i + 2) o else if c i = 40 then (if 32 < o + 1 then none else shG c n (n - i - 1) (i + 1) (o + 1)) else if c i = 41 then (if o = 1 then some (i + 1) else shG c n (n - i - 1) (i + 1) (o - 1)) else shG c n (n - i - 1) (i + 1) o) = _
  rw [if_neg (by omega), shG_more (n - i - 1) (n - (i + 2)) (i + 2) o (by omega) (by omega), shG_more (n - i - 1) (n - (i + 1)) (i + 1) (o + 1) (by omega) (by omega), shG_more (n - i - 1) (n - (i + 1)) (i + 1) (o - 1) (by omega) (by omega), shG_more (n - i - 1) (n - (i + 1)) (i + 1) o (by omega) (by omega)]
theorem shG_le {c : Nat → Int} {n : Nat} : ∀ f i o q, shG c n f i o = some q → i < q ∧ q ≤ n
  | 0, i, o, q, h => by cases h
  | f + 1, i, o, q, h => by
    have h' : (if n ≤ i then none else if c i = 92 then shG c n f (i + 2) o else if c i = 40 then (if 32 < o + 1 then none else shG c n f (i + 1) (o + 1)) else if c i = 41 then (if o = 1 then some (i + 1) else shG c n f (i + 1) (o - 1)) else shG c n f (i + 1) o) = some q := h
    by_cases h1 : n ≤ i
    · rw [if_pos h1] at h'; cases h'
    rw [if_neg h1] at h'
    by_cases h2 : c i = 92
    · rw [if_pos h2] at h'; have := shG_le f _ _ q h'; omega
    rw [if_neg h2] at h'
    by_cases h3 : c i = 40
    · rw [if_pos h3] at h'
      by_cases h4 : 32 < o + 1
      · rw [if_pos h4] at h'; cases h'
      · rw [if_neg h4] at h'; have := shG_le f _ _ q h'; omega
    rw [if_neg h3] at h'
    by_cases h5 : c i = 41
    · rw [if_pos h5] at h'
      by_cases h6 : o = 1
      · rw [if_pos h6] at h'; injection h' with h'; omega
      · rw [if_neg h6] at h'; have := shG_le f _ _ q h'; omega
    rw [if_neg h5] at h'
    have := shG_le f _ _ q h'; omega
end Go.Proofs.YtodjfeheagnnpaaDoor
