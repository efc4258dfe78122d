/- A file's bytes, thing by thing, plainly. -/
import Derived.Test.YtjieonldmckheaaDoorhIns
namespace Go.Proofs.YtjieonldmckheaaDoor
set_option linter.unusedVariables false
open Go.RowKit Go.ChangeShapes
/-- What is no tag: the text that opens it, the text that shuts it, its label. -/
def kdO : Nat → List Int
  | 0 => [60, 33, 45, 45]
  | 1 => [60, 33, 91, 67, 68, 65, 84, 65, 91]
  | 2 => [60, 33]
  | _ => [60, 63]
def kdS : Nat → List Int
  | 0 => [45, 45, 62]
  | 1 => [93, 93, 62]
  | 2 => [62]
  | _ => [62]
def kdL : Nat → Int
  | 0 => 3
  | 1 => 6
  | 2 => 2
  | _ => 2
/-- Of so many kinds the first that stands there; which comes next. -/
def kdE (c : Nat → Int) (n i k : Nat) : Nat := bh (kdS k) c n (i + (kdO k).length)
def tgE (c : Nat → Int) (n i : Nat) : Nat := match tg c n i with
  | some t => inE c n t
  | none => if bg c i = true then n else i + 1
def tgL (L : Nat → Int) (c : Nat → Int) (n i : Nat) : Nat → Int := match tg c n i with
  | some t => inL (layT L i t) c n t
  | none => if bg c i = true then setL L 2 (i : Int) (n : Int) else L
def kd (c : Nat → Int) (i : Nat) : Nat := if oc (kdO 0) c i = true then 0 else if oc (kdO 1) c i = true then 1 else if oc (kdO 2) c i = true then 2 else if oc (kdO 3) c i = true then 3 else 4
def nxE (c : Nat → Int) (n i : Nat) : Nat := if kd c i < 4 then kdE c n i (kd c i) else tgE c n i
def nxL (L : Nat → Int) (c : Nat → Int) (n i : Nat) : Nat → Int := if kd c i < 4 then setL L (kdL (kd c i)) (i : Int) ((kdE c n i (kd c i) : Nat) : Int) else tgL L c n i
theorem oc_len {c : Nat → Int} {n : Nat} (hc : ∀ i, n ≤ i → c i = -1) : ∀ (t : List Int) (ht : Byt t) (i : Nat), t ≠ [] → oc t c i = true → i + t.length ≤ n
  | [], _, _, h, _ => absurd rfl h
  | x :: t, ht, i, _, h => by
    have h' : (c i == x) = true ∧ oc t c (i + 1) = true := by
      have : ((c i == x) && oc t c (i + 1)) = true := h
      simpa using this
    have hi : i < n := by
      rcases Nat.lt_or_ge i n with h1 | h1
      · exact h1
      · have h2 := h'.1
        rw [hc i h1] at h2
        have := ht x List.mem_cons_self
        have h3 : (-1 : Int) = x := by simpa using h2
        omega
    by_cases h0 : t = []
    · subst h0
      exact hi
    · have := oc_len hc t (fun y hy => ht y (List.mem_cons_of_mem _ hy)) (i + 1) h0 h'.2
      rw [List.length_cons]
      omega
theorem bh_le {c : Nat → Int} {n : Nat} (hc : ∀ i, n ≤ i → c i = -1) (t : List Int) (ht : Byt t) (h0 : t ≠ []) (i : Nat) (hi : i ≤ n) : i ≤ bh t c n i ∧ bh t c n i ≤ n := by
  unfold bh
  have h1 := fs_ge (oc t c) n i
  by_cases h : fs (oc t c) n i < n
  · rw [if_pos h]
    have := oc_len hc t ht _ h0 (fs_hit h)
    omega
  · rw [if_neg h]
    omega
theorem kdO_byt (k : Nat) : Byt (kdO k) := byt_lit _ (by unfold kdO; split <;> rfl)
theorem kdS_byt (k : Nat) : Byt (kdS k) := byt_lit _ (by unfold kdS; split <;> rfl)
theorem kdO_ne (k : Nat) : kdO k ≠ [] := by unfold kdO; split <;> simp
theorem kdS_ne (k : Nat) : kdS k ≠ [] := by unfold kdS; split <;> simp
theorem kd_oc {c : Nat → Int} {i : Nat} (h : kd c i < 4) : oc (kdO (kd c i)) c i = true := by
  unfold kd at h ⊢
  by_cases h0 : oc (kdO 0) c i = true
  · rw [if_pos h0]; exact h0
  · rw [if_neg h0] at h ⊢
    by_cases h1 : oc (kdO 1) c i = true
    · rw [if_pos h1]; exact h1
    · rw [if_neg h1] at h ⊢
      by_cases h2 : oc (kdO 2) c i = true
      · rw [if_pos h2]; exact h2
      · rw [if_neg h2] at h ⊢
        by_cases h3 : oc (kdO 3) c i = true
        · rw [if_pos h3]; exact h3
        · rw [if_neg h3] at h; omega
theorem kdO_pos (k : Nat) : 0 < (kdO k).length := List.length_pos_iff.2 (kdO_ne k)
theorem kdE_le {c : Nat → Int} {n i k : Nat} (hc : ∀ i, n ≤ i → c i = -1) (h : oc (kdO k) c i = true) : i < kdE c n i k ∧ kdE c n i k ≤ n ∧ i + (kdO k).length ≤ n := by
  have h1 := oc_len hc (kdO k) (kdO_byt k) i (kdO_ne k) h
  have h2 := bh_le hc (kdS k) (kdS_byt k) (kdS_ne k) (i + (kdO k).length) h1
  have h3 := kdO_pos k
  unfold kdE
  omega
theorem rd_pr {c : Nat → Int} {n : Nat} (hc : ∀ i, n ≤ i → c i = -1) : ∀ d i l r, n - i ≤ d → PrOk n l → rd c n i l = some r → PrOk n r.2
  | 0, i, l, r, hd, hl, h => by
    rw [rd_end (by omega)] at h
    cases h
  | d + 1, i, l, r, hd, hl, h => by
    rcases Nat.lt_or_ge i n with hi | hi
    · have ha := atE_le hc hi
      by_cases h1 : c i = 62
      · rw [rd_shut hc hi h1] at h
        injection h with h
        subst h
        exact hl
      · by_cases h2 : c i = 47 ∨ bkB (c i) = true
        · rw [rd_skip hc hi h1 h2] at h
          exact rd_pr hc d (i + 1) l r (by omega) hl h
        · rw [rd_attr hc hi h1 h2] at h
          refine rd_pr hc d (atE c n i) (l ++ prL (atP c n i)) r (by omega) ?_ h
          intro p hp
          rcases List.mem_append.1 hp with hp | hp
          · exact hl p hp
          · unfold prL at hp
            by_cases h0 : 0 < (atP c n i).2
            · rw [if_pos h0, List.mem_singleton] at hp
              subst hp
              refine ⟨h0, ?_⟩
              unfold atP at h0 ⊢
              by_cases e1 : c (a2 c n i) = 61
              · rw [if_pos e1] at h0 ⊢
                by_cases e2 : altB (nm c i (a1 c n i)) = true
                · rw [if_pos e2] at h0 ⊢
                  unfold vlP at h0 ⊢
                  by_cases e3 : quB (c (a3 c n i)) = true
                  · rw [if_pos e3] at h0 ⊢
                    by_cases e4 : a4 c n (a3 c n i) < n
                    · rw [if_pos e4] at h0 ⊢
                      dsimp only at h0 ⊢
                      omega
                    · rw [if_neg e4] at h0; exact absurd h0 (Nat.lt_irrefl 0)
                  · rw [if_neg e3] at h0; exact absurd h0 (Nat.lt_irrefl 0)
                · rw [if_neg e2] at h0; exact absurd h0 (Nat.lt_irrefl 0)
              · rw [if_neg e1] at h0; exact absurd h0 (Nat.lt_irrefl 0)
            · rw [if_neg h0] at hp; cases hp
    · rw [rd_end hi] at h
      cases h
theorem rd_many {c : Nat → Int} {n : Nat} (hc : ∀ i, n ≤ i → c i = -1) : ∀ d i l r, n - i ≤ d → l.length ≤ i → rd c n i l = some r → r.2.length ≤ n
  | 0, i, l, r, hd, hl, h => by
    rw [rd_end (by omega)] at h
    cases h
  | d + 1, i, l, r, hd, hl, h => by
    rcases Nat.lt_or_ge i n with hi | hi
    · have ha := atE_le hc hi
      by_cases h1 : c i = 62
      · rw [rd_shut hc hi h1] at h
        injection h with h
        subst h
        show l.length ≤ n
        omega
      · by_cases h2 : c i = 47 ∨ bkB (c i) = true
        · rw [rd_skip hc hi h1 h2] at h
          exact rd_many hc d (i + 1) l r (by omega) (by omega) h
        · rw [rd_attr hc hi h1 h2] at h
          refine rd_many hc d (atE c n i) (l ++ prL (atP c n i)) r (by omega) ?_ h
          rw [List.length_append]
          have : (prL (atP c n i)).length ≤ 1 := by unfold prL; split <;> simp
          omega
    · rw [rd_end hi] at h
      cases h
/-- What a tag is like. -/
theorem tg_ok {c : Nat → Int} {n i : Nat} (hC : Ch c n) {t : Tg} (h : tg c n i = some t) : i < t.e ∧ t.e ≤ n ∧ Byt t.nm ∧ t.nm ≠ [] ∧ t.nm.length ≤ n ∧ PrOk n t.pr ∧ t.pr.length ≤ n := by
  unfold tg at h
  by_cases hb : bg c i = true
  · rw [if_pos hb] at h
    obtain ⟨r, hr, rfl⟩ := Option.map_eq_some_iff.1 h
    have hlF : ltB (c (tgF c i)) = true := by unfold bg at hb; simp only [Bool.and_eq_true] at hb; exact hb.2
    have hF : tgF c i < n := by
      rcases Nat.lt_or_ge (tgF c i) n with h1 | h1
      · exact h1
      · rw [hC.2 _ h1] at hlF; exact absurd hlF (by decide)
    have hF1 : i + 1 ≤ tgF c i := by unfold tgF; split <;> omega
    have h1 := ps_ge nmB c n (tgF c i)
    have h2 := ps_le nmB c (n := n) (i := tgF c i) (by omega)
    have h3 : tgF c i < ps nmB c n (tgF c i) := by
      unfold ps
      rw [fs_no hF (by simp [nmB, hlF])]
      exact fs_ge _ _ _
    have h4 := rd_in hC.2 _ _ _ _ (Nat.le_refl _) hr
    refine ⟨by dsimp only; omega, h4.2, nm_byt hC _ _ h2, ?_, ?_, rd_pr hC.2 _ _ _ _ (Nat.le_refl _) (fun p hp => by cases hp) hr, rd_many hC.2 _ _ _ _ (Nat.le_refl _) (Nat.zero_le _) hr⟩
    · intro e
      have := congrArg List.length e
      rw [nm_len] at this
      simp at this
      omega
    · show (nm c _ _).length ≤ n
      rw [nm_len]
      omega
  · rw [if_neg hb] at h
    cases h
theorem inE_le {c : Nat → Int} {n : Nat} {t : Tg} (h : t.e ≤ n) : t.e ≤ inE c n t ∧ inE c n t ≤ n := by
  unfold inE
  have h1 := fs_ge (shB t.nm c n) n t.e
  have h2 := fs_le (shB t.nm c n) h
  split
  · omega
  · split <;> omega
theorem nxE_le {c : Nat → Int} {n i : Nat} (hC : Ch c n) (hi : i < n) : i < nxE c n i ∧ nxE c n i ≤ n := by
  unfold nxE
  by_cases h : kd c i < 4
  · rw [if_pos h]
    have := kdE_le hC.2 (kd_oc h)
    omega
  · rw [if_neg h]
    unfold tgE
    cases ht : tg c n i with
    | none => dsimp only; split <;> omega
    | some t =>
      have h1 := tg_ok hC ht
      have h2 := inE_le (c := c) h1.2.1
      dsimp only
      omega
/-- All of it. -/
def lxG (c : Nat → Int) (n : Nat) : Nat → Nat → (Nat → Int) → (Nat → Int)
  | 0, _, L => L
  | k + 1, i, L => if n ≤ i then L else lxG c n k (nxE c n i) (nxL L c n i)
def lx (c : Nat → Int) (n i : Nat) (L : Nat → Int) : Nat → Int := lxG c n (n - i) i L
theorem lxG_more {c : Nat → Int} {n : Nat} (hC : Ch c n) : ∀ k m i L, n - i ≤ k → n - i ≤ m → lxG c n k i L = lxG c n m i L
  | 0, m, i, L, h1, h2 => by
    cases m with
    | zero => rfl
    | succ m =>
      show L = if n ≤ i then L else _
      rw [if_pos (by omega)]
  | k + 1, 0, i, L, h1, h2 => by
    show (if n ≤ i then L else _) = L
    rw [if_pos (by omega)]
  | k + 1, m + 1, i, L, h1, h2 => by
    show (if n ≤ i then L else lxG c n k (nxE c n i) (nxL L c n i)) = (if n ≤ i then L else lxG c n m (nxE c n i) (nxL L c n i))
    by_cases h : n ≤ i
    · rw [if_pos h, if_pos h]
    · have ha := nxE_le hC (i := i) (by omega)
      rw [lxG_more hC k m (nxE c n i) _ (by omega) (by omega)]
theorem lx_end {c : Nat → Int} {n i : Nat} (h : n ≤ i) (L : Nat → Int) : lx c n i L = L := by
  unfold lx
  rw [show n - i = 0 by omega]
  rfl
theorem lx_one {c : Nat → Int} {n i : Nat} (hC : Ch c n) (h : i < n) (L : Nat → Int) : lx c n i L = lx c n (nxE c n i) (nxL L c n i) := by
  have ha := nxE_le hC h
  unfold lx
  rw [lxG_more hC (n - nxE c n i) (n - (i + 1)) (nxE c n i) _ (by omega) (by omega)]
  rw [show n - i = (n - (i + 1)) + 1 by omega]
  show (if n ≤ i then L else _) = _
  rw [if_neg (by omega)]
/-- The labels of a file. -/
def lxA (c : Nat → Int) (n : Nat) : Nat → Int := lx c n 0 (fun _ => 1)
end Go.Proofs.YtjieonldmckheaaDoor
