/- html: what is known of a tag; no program in this text. -/
import Derived.Test.YtodjfeheagnnpaaDoorhLay
namespace Go.Proofs.YtodjfeheagnnpaaDoor
set_option linter.unusedVariables false
open Go.RowKit Go.ChangeShapes
theorem oc_len {c : Nat → Int} {n : Nat} (hc : ∀ i, n ≤ i → c i = -1) : ∀ (t : List Int) (ht : Byt t) (i : Nat), t ≠ [] → oc t c i = true → i + t.length ≤ n
  | [], _, _, h, _ => absurd rfl h
  | x :: t, ht, i, _, h => by
    have h' : (c i == x) = true ∧ oc t c (i + 1) = true := by
      have : ((c i == x) && oc t c (i + 1)) = true := h
      simpa using this
    have hi : i < n := by
      rcases Nat.lt_or_ge i n with h1 | h1
      · exact h1
      · have h2 := h'.1
        rw [hc i h1] at h2
        have := ht x List.mem_cons_self
        have h3 : (-1 : Int) = x := by simpa using h2
        omega
    by_cases h0 : t = []
    · subst h0
      exact hi
    · have := oc_len hc t (fun y hy => ht y (List.mem_cons_of_mem _ hy)) (i + 1) h0 h'.2
      rw [List.length_cons]
      omega
theorem rd_pr {c : Nat → Int} {n : Nat} (hc : ∀ i, n ≤ i → c i = -1) : ∀ d i l r, n - i ≤ d → PrOk n l → rd c n i l = some r → PrOk n r.2
  | 0, i, l, r, hd, hl, h => by
    rw [rd_end (by omega)] at h
    cases h
  | d + 1, i, l, r, hd, hl, h => by
    rcases Nat.lt_or_ge i n with hi | hi
    · have ha := atE_le hc hi
      by_cases h1 : c i = 62
      · rw [rd_shut hc hi h1] at h
        injection h with h
        subst h
        exact hl
      · by_cases h2 : c i = 47 ∨ bkB (c i) = true
        · rw [rd_skip hc hi h1 h2] at h
          exact rd_pr hc d (i + 1) l r (by omega) hl h
        · rw [rd_attr hc hi h1 h2] at h
          refine rd_pr hc d (atE c n i) (l ++ prL (atP c n i)) r (by omega) ?_ h
          intro p hp
          rcases List.mem_append.1 hp with hp | hp
          · exact hl p hp
          · unfold prL at hp
            by_cases h0 : 0 < (atP c n i).2
            · rw [if_pos h0, List.mem_singleton] at hp
              subst hp
              refine ⟨h0, ?_⟩
              unfold atP at h0 ⊢
              by_cases e1 : c (a2 c n i) = 61
              · rw [if_pos e1] at h0 ⊢
                by_cases e2 : altB (nm c i (a1 c n i)) = true
                · rw [if_pos e2] at h0 ⊢
                  unfold vlP at h0 ⊢
                  by_cases e3 : quB (c (a3 c n i)) = true
                  · rw [if_pos e3] at h0 ⊢
                    by_cases e4 : a4 c n (a3 c n i) < n
                    · rw [if_pos e4] at h0 ⊢
                      dsimp only at h0 ⊢
                      omega
                    · rw [if_neg e4] at h0; exact absurd h0 (Nat.lt_irrefl 0)
                  · rw [if_neg e3] at h0; exact absurd h0 (Nat.lt_irrefl 0)
                · rw [if_neg e2] at h0; exact absurd h0 (Nat.lt_irrefl 0)
              · rw [if_neg e1] at h0; exact absurd h0 (Nat.lt_irrefl 0)
            · rw [if_neg h0] at hp; cases hp
    · rw [rd_end hi] at h
      cases h
theorem rd_many {c : Nat → Int} {n : Nat} (hc : ∀ i, n ≤ i → c i = -1) : ∀ d i l r, n - i ≤ d → l.length ≤ i → rd c n i l = some r → r.2.length ≤ n
  | 0, i, l, r, hd, hl, h => by
    rw [rd_end (by omega)] at h
    cases h
  | d + 1, i, l, r, hd, hl, h => by
    rcases Nat.lt_or_ge i n with hi | hi
    · have ha := atE_le hc hi
      by_cases h1 : c i = 62
      · rw [rd_shut hc hi h1] at h
        injection h with h
        subst h
        show l.length ≤ n
        omega
      · by_cases h2 : c i = 47 ∨ bkB (c i) = true
        · rw [rd_skip hc hi h1 h2] at h
          exact rd_many hc d (i + 1) l r (by omega) (by omega) h
        · rw [rd_attr hc hi h1 h2] at h
          refine rd_many hc d (atE c n i) (l ++ prL (atP c n i)) r (by omega) ?_ h
          rw [List.length_append]
          have : (prL (atP c n i)).length ≤ 1 := by unfold prL; split <;> simp
          omega
    · rw [rd_end hi] at h
      cases h
/-- What a tag is like. -/
theorem tg_ok {c : Nat → Int} {n i : Nat} (hC : Ch c n) {t : Tg} (h : tg c n i = some t) : i < t.e ∧ t.e ≤ n ∧ Byt t.nm ∧ t.nm ≠ [] ∧ t.nm.length ≤ n ∧ PrOk n t.pr ∧ t.pr.length ≤ n := by
  unfold tg at h
  by_cases hb : bg c i = true
  · rw [if_pos hb] at h
    obtain ⟨r, hr, rfl⟩ := Option.map_eq_some_iff.1 h
    have hlF : ltB (c (tgF c i)) = true := by unfold bg at hb; simp only [Bool.and_eq_true] at hb; exact hb.2
    have hF : tgF c i < n := by
      rcases Nat.lt_or_ge (tgF c i) n with h1 | h1
      · exact h1
      · rw [hC.2 _ h1] at hlF; exact absurd hlF (by decide)
    have hF1 : i + 1 ≤ tgF c i := by unfold tgF; split <;> omega
    have h1 := ps_ge nmB c n (tgF c i)
    have h2 := ps_le nmB c (n := n) (i := tgF c i) (by omega)
    have h3 : tgF c i < ps nmB c n (tgF c i) := by
      unfold ps
      rw [fs_no hF (by simp [nmB, hlF])]
      exact fs_ge _ _ _
    have h4 := rd_in hC.2 _ _ _ _ (Nat.le_refl _) hr
    refine ⟨by dsimp only; omega, h4.2, nm_byt hC _ _ h2, ?_, ?_, rd_pr hC.2 _ _ _ _ (Nat.le_refl _) (fun p hp => by cases hp) hr, rd_many hC.2 _ _ _ _ (Nat.le_refl _) (Nat.zero_le _) hr⟩
    · intro e
      have := congrArg List.length e
      rw [nm_len] at this
      simp at this
      omega
    · show (nm c _ _).length ≤ n
      rw [nm_len]
      omega
  · rw [if_neg hb] at h
    cases h
end Go.Proofs.YtodjfeheagnnpaaDoor
