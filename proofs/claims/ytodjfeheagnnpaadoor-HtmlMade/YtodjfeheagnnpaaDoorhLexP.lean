/- A file's bytes, thing by thing, plainly. -/
import Derived.Test.YtodjfeheagnnpaaDoorhIns
import Derived.Test.YtodjfeheagnnpaaDoorhTgP
namespace Go.Proofs.YtodjfeheagnnpaaDoor
set_option linter.unusedVariables false
open Go.RowKit Go.ChangeShapes
/-- What is no tag: the text that opens it, the text that shuts it, its label. -/
def kdO : Nat → List Int
  | 0 => [60, 33, 45, 45]
  | 1 => [60, 33, 91, 67, 68, 65, 84, 65, 91]
  | 2 => [60, 33]
  | _ => [60, 63]
def kdS : Nat → List Int
  | 0 => [45, 45, 62]
  | 1 => [93, 93, 62]
  | 2 => [62]
  | _ => [62]
def kdL : Nat → Int
  | 0 => 3
  | 1 => 6
  | 2 => 2
  | _ => 2
/-- Of so many kinds the first that stands there; which comes next. -/
def kdE (c : Nat → Int) (n i k : Nat) : Nat := bh (kdS k) c n (i + (kdO k).length)
def tgE (c : Nat → Int) (n i : Nat) : Nat := match tg c n i with
  | some t => inE c n t
  | none => if bg c i = true then n else i + 1
def tgL (L : Nat → Int) (c : Nat → Int) (n i : Nat) : Nat → Int := match tg c n i with
  | some t => inL (layT L i t) c n t
  | none => if bg c i = true then setL L 2 (i : Int) (n : Int) else L
def kd (c : Nat → Int) (i : Nat) : Nat := if oc (kdO 0) c i = true then 0 else if oc (kdO 1) c i = true then 1 else if oc (kdO 2) c i = true then 2 else if oc (kdO 3) c i = true then 3 else 4
def nxE (c : Nat → Int) (n i : Nat) : Nat := if kd c i < 4 then kdE c n i (kd c i) else tgE c n i
def nxL (L : Nat → Int) (c : Nat → Int) (n i : Nat) : Nat → Int := if kd c i < 4 then setL L (kdL (kd c i)) (i : Int) ((kdE c n i (kd c i) : Nat) : Int) else tgL L c n i
theorem bh_le {c : Nat → Int} {n : Nat} (hc : ∀ i, n ≤ i → c i = -1) (t : List Int) (ht : Byt t) (h0 : t ≠ []) (i : Nat) (hi : i ≤ n) : i ≤ bh t c n i ∧ bh t c n i ≤ n := by
  unfold bh
  have h1 := fs_ge (oc t c) n i
  by_cases h : fs (oc t c) n i < n
  · rw [if_pos h]
    have := oc_len hc t ht _ h0 (fs_hit h)
    omega
  · rw [if_neg h]
    omega
theorem kdO_byt (k : Nat) : Byt (kdO k) := byt_lit _ (by unfold kdO; split <;> rfl)
theorem kdS_byt (k : Nat) : Byt (kdS k) := byt_lit _ (by unfold kdS; split <;> rfl)
theorem kdO_ne (k : Nat) : kdO k ≠ [] := by unfold kdO; split <;> simp
theorem kdS_ne (k : Nat) : kdS k ≠ [] := by unfold kdS; split <;> simp
theorem kd_oc {c : Nat → Int} {i : Nat} (h : kd c i < 4) : oc (kdO (kd c i)) c i = true := by
  unfold kd at h ⊢
  by_cases h0 : oc (kdO 0) c i = true
  · rw [if_pos h0]; exact h0
  · rw [if_neg h0] at h ⊢
    by_cases h1 : oc (kdO 1) c i = true
    · rw [if_pos h1]; exact h1
    · rw [if_neg h1] at h ⊢
      by_cases h2 : oc (kdO 2) c i = true
      · rw [if_pos h2]; exact h2
      · rw [if_neg h2] at h ⊢
        by_cases h3 : oc (kdO 3) c i = true
        · rw [if_pos h3]; exact h3
        · rw [if_neg h3] at h; omega
theorem kdO_pos (k : Nat) : 0 < (kdO k).length := List.length_pos_iff.2 (kdO_ne k)
theorem kdE_le {c : Nat → Int} {n i k : Nat} (hc : ∀ i, n ≤ i → c i = -1) (h : oc (kdO k) c i = true) : i < kdE c n i k ∧ kdE c n i k ≤ n ∧ i + (kdO k).length ≤ n := by
  have h1 := oc_len hc (kdO k) (kdO_byt k) i (kdO_ne k) h
  have h2 := bh_le hc (kdS k) (kdS_byt k) (kdS_ne k) (i + (kdO k).length) h1
  have h3 := kdO_pos k
  unfold kdE
  omega
theorem inE_le {c : Nat → Int} {n : Nat} {t : Tg} (h : t.e ≤ n) : t.e ≤ inE c n t ∧ inE c n t ≤ n := by
  unfold inE
  have h1 := fs_ge (shB t.nm c n) n t.e
  have h2 := fs_le (shB t.nm c n) h
  split
  · omega
  · split <;> omega
theorem nxE_le {c : Nat → Int} {n i : Nat} (hC : Ch c n) (hi : i < n) : i < nxE c n i ∧ nxE c n i ≤ n := by
  unfold nxE
  by_cases h : kd c i < 4
  · rw [if_pos h]
    have := kdE_le hC.2 (kd_oc h)
    omega
  · rw [if_neg h]
    unfold tgE
    cases ht : tg c n i with
    | none => dsimp only; split <;> omega
    | some t =>
      have h1 := tg_ok hC ht
      have h2 := inE_le (c := c) h1.2.1
      dsimp only
      omega
/-- All of it. -/
def lxG (c : Nat → Int) (n : Nat) : Nat → Nat → (Nat → Int) → (Nat → Int)
  | 0, _, L => L
  | k + 1, i, L => if n ≤ i then L else lxG c n k (nxE c n i) (nxL L c n i)
def lx (c : Nat → Int) (n i : Nat) (L : Nat → Int) : Nat → Int := lxG c n (n - i) i L
theorem lxG_more {c : Nat → Int} {n : Nat} (hC : Ch c n) : ∀ k m i L, n - i ≤ k → n - i ≤ m → lxG c n k i L = lxG c n m i L
  | 0, m, i, L, h1, h2 => by
    cases m with
    | zero => rfl
    | succ m =>
      show L = if n ≤ i then L else _
      rw [if_pos (by omega)]
  | k + 1, 0, i, L, h1, h2 => by
    show (if n ≤ i then L else _) = L
    rw [if_pos (by omega)]
  | k + 1, m + 1, i, L, h1, h2 => by
    show (if n ≤ i then L else lxG c n k (nxE c n i) (nxL L c n i)) = (if n ≤ i then L else lxG c n m (nxE c n i) (nxL L c n i))
    by_cases h : n ≤ i
    · rw [if_pos h, if_pos h]
    · have ha := nxE_le hC (i := i) (by omega)
      rw [lxG_more hC k m (nxE c n i) _ (by omega) (by omega)]
theorem lx_end {c : Nat → Int} {n i : Nat} (h : n ≤ i) (L : Nat → Int) : lx c n i L = L := by
  unfold lx
  rw [show n - i = 0 by omega]
  rfl
theorem lx_one {c : Nat → Int} {n i : Nat} (hC : Ch c n) (h : i < n) (L : Nat → Int) : lx c n i L = lx c n (nxE c n i) (nxL L c n i) := by
  have ha := nxE_le hC h
  unfold lx
  rw [lxG_more hC (n - nxE c n i) (n - (i + 1)) (nxE c n i) _ (by omega) (by omega)]
  rw [show n - i = (n - (i + 1)) + 1 by omega]
  show (if n ≤ i then L else _) = _
  rw [if_neg (by omega)]
/-- The labels of a file. -/
def lxA (c : Nat → Int) (n : Nat) : Nat → Int := lx c n 0 (fun _ => 1)
end Go.Proofs.YtodjfeheagnnpaaDoor
