/- HtmlMade: a tag that is put together, plainly; no program in this text. -/
import Derived.Test.YtodjfeheagnnpaaDoorhMadP
namespace Go.Proofs.YtodjfeheagnnpaaDoor
set_option linter.unusedVariables false
open Go.RowKit Go.ChangeShapes
/-- What stands ahead of the attributes. -/
def mdH (sh : Bool) : List Int := [60] ++ (if sh = true then [47] else []) ++ [69, 109, 45, 50]
theorem mdH_len (sh : Bool) : (mdH sh).length = if sh = true then 6 else 5 := by cases sh <;> rfl
/-- Attributes so far, and their spans. -/
structure Md (sh : Bool) (B : List Int) (l : List (Nat × Nat)) : Prop where
  by' : Byt B
  hd : ∃ t, B = mdH sh ++ t
  sp : ∀ z, Byt z → (∀ x, z[0]? = some x → x = 32 ∨ x = 62) → z ≠ [] → rd (cL (B ++ z)) (B ++ z).length (mdH sh).length [] = rd (cL (B ++ z)) (B ++ z).length B.length l
  nx : ∀ z : List Int, (∀ x, z[0]? = some x → x = 32 ∨ x = 62) → z ≠ [] → nmB (cL (B ++ z) (mdH sh).length) = false
  ok : ∀ p ∈ l, 0 < p.2 ∧ p.1 + p.2 ≤ B.length
  up : l.Pairwise (fun p q => p.1 + p.2 ≤ q.1)
theorem mdz (sh : Bool) : Md sh (mdH sh) [] := by
  refine ⟨?_, ⟨[], by simp⟩, fun z _ _ _ => rfl, fun z hz h0 => ?_, fun p hp => (by cases hp), List.Pairwise.nil⟩
  · cases sh <;> exact byt_lit _ rfl
  · cases z with
    | nil => exact absurd rfl h0
    | cons x z =>
      rw [cL_app_at]
      rcases hz x rfl with rfl | rfl <;> rfl
theorem Md.step {sh : Bool} {B : List Int} {l : List (Nat × Nat)} (h : Md sh B l) {k v : List Int} (hk0 : k ≠ []) (hkb : Byt k) (hvb : Byt v) (hk : ∀ x ∈ k, atB x = true) (hv : ∀ x ∈ v, x ≠ 34) :
    Md sh (B ++ atL k v) (l ++ if (decide (0 < v.length) && altB (k.map lw)) = true then [(B.length + k.length + 3, v.length)] else []) := by
  have hab : Byt (atL k v) := fun x hx => by
    unfold atL at hx
    simp only [List.mem_cons, List.mem_append, List.not_mem_nil, or_false] at hx
    rcases hx with rfl | hx | rfl | rfl | hx | rfl
    · decide
    · exact hkb x hx
    · decide
    · decide
    · exact hvb x hx
    · decide
  have hBb : Byt (B ++ atL k v) := fun x hx => by
    rcases List.mem_append.1 hx with h1 | h1
    · exact h.by' x h1
    · exact hab x h1
  have h0 : ∀ z : List Int, ∀ x, (atL k v ++ z)[0]? = some x → x = 32 ∨ x = 62 := fun z x hx => by
    have : (atL k v ++ z)[0]? = some 32 := rfl
    rw [this] at hx
    injection hx with hx
    exact Or.inl hx.symm
  have hl := atL_len k v
  refine ⟨hBb, ?_, fun z hz hz0 hzn => ?_, fun z hz hzn => ?_, fun p hp => ?_, ?_⟩
  · obtain ⟨t, rfl⟩ := h.hd
    exact ⟨t ++ atL k v, by simp⟩
  · have hzb : Byt (atL k v ++ z) := fun x hx => by
      rcases List.mem_append.1 hx with h1 | h1
      · exact hab x h1
      · exact hz x h1
    have h1 := h.sp (atL k v ++ z) hzb (h0 z) (by simp [atL])
    have h2 := rd_made (A := B) (k := k) (v := v) (z := z) (fun x hx => by
      rcases List.mem_append.1 hx with h1 | h1
      · exact h.by' x h1
      · exact hzb x h1) hk0 hk hv l
    rw [List.append_assoc, h1, h2, show (B ++ atL k v).length = B.length + (atL k v).length from List.length_append]
  · have h1 := h.nx (atL k v ++ z) (h0 z) (by simp [atL])
    rw [List.append_assoc]
    exact h1
  · rw [List.length_append, hl]
    rcases List.mem_append.1 hp with h1 | h1
    · have := h.ok p h1; omega
    · split at h1
      · rename_i hc
        rw [List.mem_singleton] at h1
        subst h1
        simp only [Bool.and_eq_true, decide_eq_true_eq] at hc
        dsimp only
        omega
      · cases h1
  · rw [List.pairwise_append]
    refine ⟨h.up, ?_, fun p hp q hq => ?_⟩
    · split
      · exact List.pairwise_singleton _ _
      · exact List.Pairwise.nil
    · split at hq
      · rw [List.mem_singleton] at hq
        subst hq
        have := h.ok p hp
        dsimp only
        omega
      · cases hq
/-- The tag is read as it is. -/
theorem Md.tag {sh : Bool} {B : List Int} {l : List (Nat × Nat)} (h : Md sh B l) {t : List Int} (ht : Byt t) :
    tg (cL (B ++ ([62] ++ t))) (B ++ ([62] ++ t)).length 0 = some ⟨B.length + 1, [101, 109, 45, 50], sh, l⟩ := by
  obtain ⟨u, hu⟩ := h.hd
  have hz0 : ∀ x, ([62] ++ t)[0]? = some x → x = 32 ∨ x = 62 := fun x hx => by
    have : ([62] ++ t)[0]? = some (62 : Int) := rfl
    rw [this] at hx
    injection hx with hx
    exact Or.inr hx.symm
  have hzb : Byt ([62] ++ t) := fun x hx => by
    rcases List.mem_append.1 hx with h1 | h1
    · rw [List.mem_singleton] at h1; subst h1; decide
    · exact ht x h1
  have hTb : Byt (B ++ ([62] ++ t)) := fun x hx => by
    rcases List.mem_append.1 hx with h1 | h1
    · exact h.by' x h1
    · exact hzb x h1
  have hC := cL_ch hTb
  have hsp := h.sp _ hzb hz0 (by simp)
  have hnx := h.nx _ hz0 (by simp)
  have hat : ∀ j, j < (mdH sh).length → cL (B ++ ([62] ++ t)) j = cL (mdH sh) j := fun j hj => by
    rw [hu, List.append_assoc, cL_left _ _ hj]
  have hBl : (mdH sh).length ≤ B.length := by rw [hu]; simp
  have hlen : (B ++ ([62] ++ t)).length = B.length + (1 + t.length) := by simp; omega
  have h62 : cL (B ++ ([62] ++ t)) B.length = 62 := cL_app_at B t 62
  rw [rd_shut hC.2 (by omega) h62] at hsp
  generalize cL (B ++ ([62] ++ t)) = c at hC hsp hnx hat h62 ⊢
  generalize (B ++ ([62] ++ t)).length = n at hC hsp hlen ⊢
  have hF : tgF c 0 = (mdH sh).length - 4 := by
    unfold tgF
    rw [hat 1 (by rw [mdH_len]; split <;> omega)]
    cases sh <;> rfl
  have hbg : bg c 0 = true := by
    unfold bg
    rw [hF, hat 0 (by rw [mdH_len]; split <;> omega), hat _ (by rw [mdH_len]; split <;> omega)]
    cases sh <;> rfl
  have hps : ps nmB c n ((mdH sh).length - 4) = (mdH sh).length := by
    have h4 : 4 ≤ (mdH sh).length := by rw [mdH_len]; split <;> omega
    unfold ps
    refine fs_is (by omega) (by omega) (fun k h1 h2 => ?_) (fun _ => by rw [hnx]; rfl)
    rw [hat k h2]
    cases sh
    · rcases (show k = 1 ∨ k = 2 ∨ k = 3 ∨ k = 4 by rw [show (mdH false).length = 5 from rfl] at h1 h2; omega) with rfl | rfl | rfl | rfl <;> rfl
    · rcases (show k = 2 ∨ k = 3 ∨ k = 4 ∨ k = 5 by rw [show (mdH true).length = 6 from rfl] at h1 h2; omega) with rfl | rfl | rfl | rfl <;> rfl
  have hnm : nm c ((mdH sh).length - 4) (mdH sh).length = [101, 109, 45, 50] := by
    have h4 : 4 ≤ (mdH sh).length := by rw [mdH_len]; split <;> omega
    unfold nm
    rw [show (mdH sh).length - ((mdH sh).length - 4) = 4 by omega]
    show [lw (c ((mdH sh).length - 4 + 0)), lw (c ((mdH sh).length - 4 + 1)), lw (c ((mdH sh).length - 4 + 2)), lw (c ((mdH sh).length - 4 + 3))] = _
    rw [hat _ (by omega), hat _ (by omega), hat _ (by omega), hat _ (by omega)]
    cases sh <;> rfl
  have h47 : (c (0 + 1) == 47) = sh := by
    rw [hat 1 (by rw [mdH_len]; split <;> omega)]
    cases sh <;> rfl
  unfold tg
  rw [if_pos hbg, hF, hps, hsp, hnm, h47]
  rfl
/-- Labels: spans are prose, the others markup. -/
def lbM (l : List (Nat × Nat)) (i : Nat) : Int := if l.any (fun p => decide (p.1 ≤ i) && decide (i < p.1 + p.2)) = true then 1 else 2
theorem lay_lbM (n : Nat) : ∀ (l m : List (Nat × Nat)) (L : Nat → Int), (∀ i, i < n → L i = lbM m i) → ∀ i, i < n → layP L l i = lbM (m ++ l) i
  | [], m, L, h, i, hi => by rw [List.append_nil]; exact h i hi
  | p :: l, m, L, h, i, hi => by
    have e : m ++ p :: l = (m ++ [p]) ++ l := by simp
    rw [e]
    refine lay_lbM n l (m ++ [p]) (setL L 1 (p.1 : Int) ((p.1 : Int) + (p.2 : Int))) (fun j hj => ?_) i hi
    unfold setL
    by_cases hc : (p.1 : Int) ≤ (j : Int) ∧ (j : Int) < (p.1 : Int) + (p.2 : Int)
    · rw [if_pos hc]
      unfold lbM
      rw [List.any_append, if_pos]
      simp only [Bool.or_eq_true]
      right
      simp
      omega
    · rw [if_neg hc, h j hj]
      unfold lbM
      rw [List.any_append]
      have : ([p].any fun p => decide (p.1 ≤ j) && decide (j < p.1 + p.2)) = false := by simp; omega
      rw [this, Bool.or_false]
theorem lbM_hit {p : Nat × Nat} {l : List (Nat × Nat)} (h : 0 < p.2) : lbM (p :: l) p.1 = 1 := by
  unfold lbM
  rw [if_pos]
  simp only [List.any_cons, Bool.or_eq_true]
  left
  simp
  exact h
theorem lbM_next {p : Nat × Nat} {l : List (Nat × Nat)} (h : ∀ q ∈ l, p.1 + p.2 ≤ q.1) (i : Nat) : setL (lbM (p :: l)) 2 (p.1 : Int) ((p.1 : Int) + (p.2 : Int)) i = lbM l i := by
  unfold setL
  by_cases hc : (p.1 : Int) ≤ (i : Int) ∧ (i : Int) < (p.1 : Int) + (p.2 : Int)
  · rw [if_pos hc]
    unfold lbM
    rw [if_neg]
    intro h2
    obtain ⟨q, hq, h3⟩ := List.any_eq_true.1 h2
    simp only [Bool.and_eq_true, decide_eq_true_eq] at h3
    have := h q hq
    omega
  · rw [if_neg hc]
    unfold lbM
    have : (decide (p.1 ≤ i) && decide (i < p.1 + p.2)) = false := by simp; omega
    rw [List.any_cons, this, Bool.false_or]
end Go.Proofs.YtodjfeheagnnpaaDoor
