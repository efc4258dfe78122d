/- html: what lies in a script, a style, a title, a textarea: the numbers alone. -/
import Derived.Test.YtodjfeheagnnpaaDoorhPlnP
namespace Go.Proofs.YtodjfeheagnnpaaDoor
set_option linter.unusedVariables false
open Go.RowKit Go.ChangeShapes
theorem tg_bare {c : Nat → Int} {n i F E : Nat} (hC : Ch c n) (h60 : c i = 60) (hF : tgF c i = F) (hl : ltB (c F) = true) (hFE : F ≤ E) (hE : E < n) (hnm : ∀ j, F ≤ j → j < E → nmB (c j) = true) (h62 : c E = 62) :
    tg c n i = some ⟨E + 1, nm c F E, c (i + 1) == 47, []⟩ := by
  have hps : ps nmB c n F = E := fs_is hFE (by omega) (fun k h1 h2 => by rw [hnm k h1 h2]; rfl) (fun _ => by rw [h62]; rfl)
  unfold tg
  rw [if_pos (by unfold bg; rw [h60, hF, hl]; rfl), hF, hps, rd_shut hC.2 hE h62]
  rfl
theorem kd_bare {c : Nat → Int} {i : Nat} (h1 : c (i + 1) ≠ 33) (h2 : c (i + 1) ≠ 63) : kd c i = 4 := kd_no fun j hj => by
  have e1 : (c (i + 1) == 33) = false := by simpa using h1
  have e2 : (c (i + 1) == 63) = false := by simpa using h2
  rcases (show j = 0 ∨ j = 1 ∨ j = 2 ∨ j = 3 by omega) with rfl | rfl | rfl | rfl
  · simp [kdO, oc, e1]
  · simp [kdO, oc, e1]
  · simp [kdO, oc, e1]
  · simp [kdO, oc, e2]
theorem lx_tag {c : Nat → Int} {n i : Nat} (hC : Ch c n) (hi : i < n) (hk : kd c i = 4) {t : Tg} (ht : tg c n i = some t) (L : Nat → Int) : lx c n i L = lx c n (inE c n t) (inL (layT L i t) c n t) := by
  rw [lx_one hC hi]
  unfold nxE nxL tgE tgL
  rw [hk, if_neg (Nat.lt_irrefl 4), if_neg (Nat.lt_irrefl 4), ht]
theorem setL_low {L : Nat → Int} {l f t : Int} {j : Nat} (h : (j : Int) < f) : setL L l f t j = L j := by
  unfold setL
  rw [if_neg (by omega)]
theorem layP_low {lo j : Nat} (hj : j < lo) : ∀ (l : List (Nat × Nat)) (L : Nat → Int), (∀ p ∈ l, lo ≤ p.1) → layP L l j = L j
  | [], _, _ => rfl
  | p :: l, L, h => by
    show layP (setL L 1 (p.1 : Int) ((p.1 : Int) + (p.2 : Int))) l j = L j
    rw [layP_low hj l _ (fun q hq => h q (List.mem_cons_of_mem _ hq))]
    have := h p (List.mem_cons_self ..)
    exact setL_low (by omega)
theorem rd_lo {c : Nat → Int} {n lo : Nat} (hc : ∀ i, n ≤ i → c i = -1) : ∀ d i l r, n - i ≤ d → lo ≤ i → (∀ p ∈ l, lo ≤ p.1) → rd c n i l = some r → ∀ p ∈ r.2, lo ≤ p.1
  | 0, i, l, r, hd, hlo, hl, h => by
    rw [rd_end (by omega)] at h
    cases h
  | d + 1, i, l, r, hd, hlo, hl, h => by
    rcases Nat.lt_or_ge i n with hi | hi
    · have ha := atE_le hc hi
      by_cases h1 : c i = 62
      · rw [rd_shut hc hi h1] at h
        injection h with h
        subst h
        exact hl
      · by_cases h2 : c i = 47 ∨ bkB (c i) = true
        · rw [rd_skip hc hi h1 h2] at h
          exact rd_lo hc d (i + 1) l r (by omega) (by omega) hl h
        · rw [rd_attr hc hi h1 h2] at h
          refine rd_lo hc d (atE c n i) (l ++ prL (atP c n i)) r (by omega) (by omega) ?_ h
          intro p hp
          rcases List.mem_append.1 hp with hp | hp
          · exact hl p hp
          · unfold prL at hp
            by_cases h0 : 0 < (atP c n i).2
            · rw [if_pos h0, List.mem_singleton] at hp
              subst hp
              unfold atP at h0 ⊢
              by_cases e1 : c (a2 c n i) = 61
              · have h61 : a2 c n i < n := by
                  rcases Nat.lt_or_ge (a2 c n i) n with h5 | h5
                  · exact h5
                  · rw [hc _ h5] at e1; exact absurd e1 (by decide)
                have h3 := a3_le hi h61
                rw [if_pos e1] at h0 ⊢
                by_cases e2 : altB (nm c i (a1 c n i)) = true
                · rw [if_pos e2] at h0 ⊢
                  unfold vlP at h0 ⊢
                  by_cases e3 : quB (c (a3 c n i)) = true
                  · rw [if_pos e3] at h0 ⊢
                    by_cases e4 : a4 c n (a3 c n i) < n
                    · rw [if_pos e4] at h0 ⊢
                      dsimp only at h0 ⊢
                      omega
                    · rw [if_neg e4] at h0; exact absurd h0 (Nat.lt_irrefl 0)
                  · rw [if_neg e3] at h0; exact absurd h0 (Nat.lt_irrefl 0)
                · rw [if_neg e2] at h0; exact absurd h0 (Nat.lt_irrefl 0)
              · rw [if_neg e1] at h0; exact absurd h0 (Nat.lt_irrefl 0)
            · rw [if_neg h0] at hp; cases hp
    · rw [rd_end hi] at h
      cases h
theorem tg_lo {c : Nat → Int} {n i : Nat} (hC : Ch c n) {t : Tg} (h : tg c n i = some t) : ∀ p ∈ t.pr, i ≤ p.1 := by
  unfold tg at h
  by_cases hb : bg c i = true
  · rw [if_pos hb] at h
    obtain ⟨r, hr, rfl⟩ := Option.map_eq_some_iff.1 h
    have hF1 : i + 1 ≤ tgF c i := by unfold tgF; split <;> omega
    have h1 := ps_ge nmB c n (tgF c i)
    exact rd_lo hC.2 _ _ _ _ (Nat.le_refl _) (by omega) (fun p hp => by cases hp) hr
  · rw [if_neg hb] at h
    cases h
theorem nxL_low {c : Nat → Int} {n i j : Nat} (hC : Ch c n) (hj : j < i) (L : Nat → Int) : nxL L c n i j = L j := by
  unfold nxL
  by_cases h : kd c i < 4
  · rw [if_pos h]
    exact setL_low (by omega)
  · rw [if_neg h]
    unfold tgL
    cases ht : tg c n i with
    | none =>
      dsimp only
      split
      · exact setL_low (by omega)
      · rfl
    | some t =>
      have h1 := tg_ok hC ht
      have h2 : layT L i t j = L j := by
        unfold layT
        rw [layP_low hj _ _ (tg_lo hC ht)]
        exact setL_low (by omega)
      dsimp only
      unfold inL
      split
      · exact h2
      · split
        · rw [setL_low (by omega)]
          exact h2
        · exact h2
theorem lx_low {c : Nat → Int} {n j : Nat} (hC : Ch c n) : ∀ d k L, n - k ≤ d → j < k → lx c n k L j = L j
  | 0, k, L, hd, hj => by rw [lx_end (by omega)]
  | d + 1, k, L, hd, hj => by
    rcases Nat.lt_or_ge k n with hk | hk
    · have h1 := nxE_le hC hk
      rw [lx_one hC hk, lx_low hC d _ _ (by omega) (by omega)]
      exact nxL_low hC hj L
    · rw [lx_end hk]
def Low (l : List Int) : Prop := l ≠ [] ∧ ∀ x ∈ l, 97 ≤ x ∧ x ≤ 122
theorem low_at {l : List Int} (h : Low l) {j : Nat} (hj : j < l.length) : 97 ≤ cL l j ∧ cL l j ≤ 122 := h.2 _ (cL_mem hj)
theorem low_nm {c : Nat → Int} {l : List Int} (h : Low l) (F : Nat) (hc : ∀ j, j < l.length → c (F + j) = cL l j) :
    (∀ j, F ≤ j → j < F + l.length → nmB (c j) = true) ∧ nm c F (F + l.length) = l ∧ ltB (c F) = true := by
  have h1 : ∀ j, F ≤ j → j < F + l.length → 97 ≤ c j ∧ c j ≤ 122 := fun j h1 h2 => by
    have := hc (j - F) (by omega)
    rw [show F + (j - F) = j by omega] at this
    rw [this]
    exact low_at h (by omega)
  have h0 : 0 < l.length := List.length_pos_iff.2 h.1
  have hlt : ∀ x : Int, 97 ≤ x ∧ x ≤ 122 → ltB x = true := fun x hx => by
    unfold ltB
    simp [hx.1, hx.2]
  refine ⟨fun j h2 h3 => by unfold nmB; rw [hlt _ (h1 j h2 h3)]; rfl, ?_, hlt _ (h1 F (Nat.le_refl _) (by omega))⟩
  unfold nm
  rw [show F + l.length - F = l.length by omega]
  apply List.ext_getElem?
  intro j
  rcases Nat.lt_or_ge j l.length with hj | hj
  · rw [List.getElem?_map, List.getElem?_range hj, List.getElem?_eq_getElem hj]
    show some (lw (c (F + j))) = _
    have h2 := h1 (F + j) (by omega) (by omega)
    have h3 : lw (c (F + j)) = c (F + j) := by
      unfold lw grB
      rw [if_neg (by simp; omega)]
    rw [h3, hc j hj, cL_in (List.getElem?_eq_getElem hj)]
  · rw [List.getElem?_eq_none (by simpa using hj), List.getElem?_eq_none hj]
def rwA (l : List Int) : List Int := 60 :: (l ++ [62])
def rwZ (l : List Int) : List Int := 60 :: 47 :: (l ++ [62])
theorem raw_all {l t b : List Int} (hl : Low l) (hsx : scB l = true ∨ txB l = true) (ht : ∀ x ∈ t, x ≠ 47) (hB : Byt (((rwA l ++ t) ++ rwZ l) ++ b)) :
    ∀ i, i < l.length + 2 + t.length + (l.length + 3) → lxA (cL (((rwA l ++ t) ++ rwZ l) ++ b)) (((rwA l ++ t) ++ rwZ l) ++ b).length i = if l.length + 2 ≤ i ∧ i < l.length + 2 + t.length then (if scB l = true then 4 else 1) else 2 := by
  have hC := cL_ch hB
  have lA : (rwA l).length = l.length + 2 := by simp [rwA]
  have lZ : (rwZ l).length = l.length + 3 := by simp [rwZ]
  have lAt : (rwA l ++ t).length = l.length + 2 + t.length := by rw [List.length_append, lA]
  have lAll : (((rwA l ++ t) ++ rwZ l) ++ b).length = l.length + 2 + t.length + (l.length + 3) + b.length := by rw [List.length_append, List.length_append, lAt, lZ]
  have hA : ∀ j, j < l.length + 2 → cL (((rwA l ++ t) ++ rwZ l) ++ b) j = cL (rwA l) j := fun j hj => by
    rw [cL_left _ _ (by rw [List.length_append, lAt]; omega), cL_left _ _ (by rw [lAt]; omega), cL_left _ _ (by rw [lA]; omega)]
  have hT : ∀ j, j < t.length → cL (((rwA l ++ t) ++ rwZ l) ++ b) (l.length + 2 + j) = cL t j := fun j hj => by
    rw [cL_left _ _ (by rw [List.length_append, lAt]; omega), cL_left _ _ (by rw [lAt]; omega), ← lA, cL_right]
  have hZ : ∀ j, j < l.length + 3 → cL (((rwA l ++ t) ++ rwZ l) ++ b) (l.length + 2 + t.length + j) = cL (rwZ l) j := fun j hj => by
    rw [cL_left _ _ (by rw [List.length_append, lAt, lZ]; omega), ← lAt, cL_right]
  generalize hc : cL (((rwA l ++ t) ++ rwZ l) ++ b) = c at hC hA hT hZ
  generalize hn : (((rwA l ++ t) ++ rwZ l) ++ b).length = n at hC lAll
  have a0 : c 0 = 60 := by rw [hA 0 (by omega)]; exact cL_zero _ _
  have aN : ∀ j, j < l.length → c (1 + j) = cL l j := fun j hj => by
    rw [hA _ (by omega), Nat.add_comm]
    unfold rwA
    rw [cL_cons, cL_left _ _ hj]
  have aE : c (1 + l.length) = 62 := by
    rw [hA _ (by omega), Nat.add_comm]
    unfold rwA
    rw [cL_cons, show l.length = l.length + 0 by omega, cL_right]
    rfl
  have z0 : c (l.length + 2 + t.length) = 60 := by rw [show l.length + 2 + t.length = l.length + 2 + t.length + 0 by omega, hZ 0 (by omega)]; exact cL_zero _ _
  have z1 : c (l.length + 2 + t.length + 1) = 47 := by rw [hZ 1 (by omega)]; unfold rwZ; rw [cL_cons]; exact cL_zero _ _
  have zN : ∀ j, j < l.length → c (l.length + 2 + t.length + 2 + j) = cL l j := fun j hj => by
    rw [show l.length + 2 + t.length + 2 + j = l.length + 2 + t.length + (j + 1 + 1) by omega, hZ _ (by omega)]
    unfold rwZ
    rw [cL_cons, cL_cons, cL_left _ _ hj]
  have zE : c (l.length + 2 + t.length + 2 + l.length) = 62 := by
    rw [show l.length + 2 + t.length + 2 + l.length = l.length + 2 + t.length + (l.length + 1 + 1) by omega, hZ _ (by omega)]
    unfold rwZ
    rw [cL_cons, cL_cons, show l.length = l.length + 0 by omega, cL_right]
    rfl
  obtain ⟨n1, n2, n3⟩ := low_nm hl 1 aN
  obtain ⟨m1, m2, m3⟩ := low_nm hl _ zN
  have h0 : 0 < l.length := List.length_pos_iff.2 hl.1
  have c1 : 97 ≤ c 1 ∧ c 1 ≤ 122 := by
    have := aN 0 h0
    rw [this]
    exact low_at hl h0
  have hF1 : tgF c 0 = 1 := by unfold tgF; rw [if_neg (by rw [show 0 + 1 = 1 from rfl]; omega)]
  have hF2 : tgF c (l.length + 2 + t.length) = l.length + 2 + t.length + 2 := by unfold tgF; rw [if_pos z1]
  have t1 := tg_bare hC a0 hF1 n3 (by omega) (by omega) n1 aE
  have t2 := tg_bare hC z0 hF2 m3 (by omega) (by omega) m1 zE
  rw [n2, show (c (0 + 1) == 47) = false by simp; omega, show 1 + l.length + 1 = l.length + 2 by omega] at t1
  rw [m2, z1, show ((47 : Int) == 47) = true from rfl, show l.length + 2 + t.length + 2 + l.length + 1 = l.length + 2 + t.length + (l.length + 3) by omega] at t2
  have hsh : fs (shB l c n) n (l.length + 2) = l.length + 2 + t.length := by
    refine fs_is (by omega) (by omega) (fun k h1 h2 => ?_) (fun _ => ?_)
    · have hne : c (k + 1) ≠ 47 := by
        rcases Nat.lt_or_ge (k + 1) (l.length + 2 + t.length) with h3 | h3
        · have := hT (k + 1 - (l.length + 2)) (by omega)
          rw [show l.length + 2 + (k + 1 - (l.length + 2)) = k + 1 by omega] at this
          rw [this]
          exact ht _ (cL_mem (by omega))
        · rw [show k + 1 = l.length + 2 + t.length by omega, z0]
          decide
      have e : (c (k + 1) == 47) = false := by simpa using hne
      unfold shB
      simp [oc, e]
    · have e1 : oc [60, 47] c (l.length + 2 + t.length) = true := by simp [oc, z0, z1]
      have e2 : shK c n (l.length + 2 + t.length + 2 + l.length) = true := by unfold shK; rw [zE]; simp
      unfold shB
      rw [e1, e2, m2]
      simp
      omega
  intro i hi
  unfold lxA
  rw [lx_tag hC (by omega) (kd_bare (by rw [show 0 + 1 = 1 from rfl]; omega) (by rw [show 0 + 1 = 1 from rfl]; omega)) t1]
  have e1 : inE c n ⟨l.length + 2, l, false, []⟩ = l.length + 2 + t.length := by
    unfold inE
    rw [if_neg (show ¬ false = true from Bool.false_ne_true), if_pos hsx]
    exact hsh
  rw [e1, lx_tag hC (by omega) (kd_bare (by rw [z1]; decide) (by rw [z1]; decide)) t2]
  have e2 : inE c n ⟨l.length + 2 + t.length + (l.length + 3), l, true, []⟩ = l.length + 2 + t.length + (l.length + 3) := by
    unfold inE
    rw [if_pos rfl]
  rw [e2, lx_low hC _ _ _ (Nat.le_refl _) hi]
  unfold inL layT layP
  dsimp only [List.foldl_nil]
  rw [if_pos rfl, if_neg (show ¬ false = true from Bool.false_ne_true), hsh]
  by_cases hs : scB l = true
  · rw [if_pos hs, if_pos hs]
    unfold setL
    by_cases hm : l.length + 2 ≤ i ∧ i < l.length + 2 + t.length
    · rw [if_pos hm, if_neg (by omega), if_pos (by omega)]
    · rw [if_neg hm]
      by_cases h5 : l.length + 2 + t.length ≤ i
      · rw [if_pos (by omega)]
      · rw [if_neg (by omega), if_neg (by omega), if_pos (by omega)]
  · rw [if_neg hs, if_neg hs]
    unfold setL
    by_cases hm : l.length + 2 ≤ i ∧ i < l.length + 2 + t.length
    · rw [if_pos hm, if_neg (by omega), if_neg (by omega)]
    · rw [if_neg hm]
      by_cases h5 : l.length + 2 + t.length ≤ i
      · rw [if_pos (by omega)]
      · rw [if_neg (by omega), if_pos (by omega)]
end Go.Proofs.YtodjfeheagnnpaaDoor
