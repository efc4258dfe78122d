/- html: a tag that is put together: one attribute, the numbers alone. -/
import Derived.Test.YtodjfeheagnnpaaDoorhQt
namespace Go.Proofs.YtodjfeheagnnpaaDoor
set_option linter.unusedVariables false
open Go.RowKit Go.ChangeShapes
/-- An attribute, as it is put together. -/
def atL (k v : List Int) : List Int := 32 :: (k ++ 61 :: 34 :: (v ++ [34]))
theorem atL_len (k v : List Int) : (atL k v).length = k.length + v.length + 4 := by simp [atL]; omega
theorem cL_app_at (a b : List Int) (x : Int) : cL (a ++ x :: b) a.length = x := by
  have := cL_right a (x :: b) 0
  rw [Nat.add_zero] at this
  rw [this]
  exact cL_zero _ _
theorem rd_made {A k v z : List Int} (hB : Byt (A ++ (atL k v ++ z))) (hk0 : k ≠ []) (hk : ∀ x ∈ k, atB x = true) (hv : ∀ x ∈ v, x ≠ 34) (l : List (Nat × Nat)) :
    rd (cL (A ++ (atL k v ++ z))) (A ++ (atL k v ++ z)).length A.length l =
      rd (cL (A ++ (atL k v ++ z))) (A ++ (atL k v ++ z)).length (A.length + (atL k v).length) (l ++ if (decide (0 < v.length) && altB (k.map lw)) = true then [(A.length + k.length + 3, v.length)] else []) := by
  have hC := cL_ch hB
  have hlen : (A ++ (atL k v ++ z)).length = A.length + (k.length + v.length + 4) + z.length := by rw [List.length_append, List.length_append, atL_len]; omega
  have hR : ∀ j, cL (A ++ (atL k v ++ z)) (A.length + j) = cL (atL k v ++ z) j := fun j => cL_right _ _ j
  have h0 : cL (A ++ (atL k v ++ z)) A.length = 32 := by rw [← Nat.add_zero A.length, hR 0]; exact cL_zero _ _
  have hN : ∀ j, j < k.length → cL (A ++ (atL k v ++ z)) (A.length + 1 + j) = cL k j := fun j hj => by
    rw [show A.length + 1 + j = A.length + (j + 1) by omega, hR, show atL k v ++ z = 32 :: (k ++ (61 :: 34 :: (v ++ [34]) ++ z)) by simp [atL], cL_cons, cL_left _ _ hj]
  have h1 : cL (A ++ (atL k v ++ z)) (A.length + 1 + k.length) = 61 := by
    rw [show A.length + 1 + k.length = A.length + (k.length + 1) by omega, hR, show atL k v ++ z = 32 :: (k ++ 61 :: (34 :: (v ++ [34]) ++ z)) by simp [atL], cL_cons]
    exact cL_app_at _ _ _
  have h2 : cL (A ++ (atL k v ++ z)) (A.length + 1 + k.length + 1) = 34 := by
    rw [show A.length + 1 + k.length + 1 = A.length + ((k ++ [61]).length + 1) by simp; omega, hR, show atL k v ++ z = 32 :: ((k ++ [61]) ++ 34 :: ((v ++ [34]) ++ z)) by simp [atL], cL_cons]
    exact cL_app_at _ _ _
  have hV : ∀ j, j < v.length → cL (A ++ (atL k v ++ z)) (A.length + 1 + k.length + 2 + j) = cL v j := fun j hj => by
    rw [show A.length + 1 + k.length + 2 + j = A.length + ((k ++ [61, 34]).length + j + 1) by simp; omega, hR, show atL k v ++ z = 32 :: ((k ++ [61, 34]) ++ (v ++ ([34] ++ z))) by simp [atL], cL_cons, cL_right, cL_left _ _ hj]
  have h3 : cL (A ++ (atL k v ++ z)) (A.length + 1 + k.length + 2 + v.length) = 34 := by
    rw [show A.length + 1 + k.length + 2 + v.length = A.length + ((k ++ [61, 34] ++ v).length + 1) by simp; omega, hR, show atL k v ++ z = 32 :: ((k ++ [61, 34] ++ v) ++ 34 :: z) by simp [atL], cL_cons]
    exact cL_app_at _ _ _
  rw [atL_len]
  generalize cL (A ++ (atL k v ++ z)) = c at hC h0 hN h1 h2 hV h3 ⊢
  generalize (A ++ (atL k v ++ z)).length = n at hC hlen ⊢
  clear hR
  have hkl : 0 < k.length := List.length_pos_iff.2 hk0
  have hat : ∀ j, A.length + 1 ≤ j → j < A.length + 1 + k.length → atB (c j) = true := fun j g1 g2 => by
    have := hN (j - (A.length + 1)) (by omega)
    rw [show A.length + 1 + (j - (A.length + 1)) = j by omega] at this
    rw [this]
    exact hk _ (cL_mem (by omega))
  have hfirst := hat (A.length + 1) (Nat.le_refl _) (by omega)
  have hf : bkB (c (A.length + 1)) = false ∧ c (A.length + 1) ≠ 47 ∧ c (A.length + 1) ≠ 62 := by
    unfold atB at hfirst
    simp only [Bool.and_eq_true, Bool.not_eq_true', bne_iff_ne, ne_eq] at hfirst
    exact ⟨hfirst.1.1.1, hfirst.1.1.2, hfirst.1.2⟩
  rw [rd_skip hC.2 (by omega) (by rw [h0]; decide) (Or.inr (by rw [h0]; decide)), rd_attr hC.2 (by omega) hf.2.2 (by rw [hf.1]; simp; exact hf.2.1)]
  have e1 : a1 c n (A.length + 1) = A.length + 1 + k.length := by
    unfold a1 ps
    exact fs_is (by omega) (by omega) (fun j g1 g2 => by rw [hat j (by omega) g2]; rfl) (fun _ => by rw [h1]; decide)
  have e2 : a2 c n (A.length + 1) = A.length + 1 + k.length := by
    unfold a2 ps
    rw [e1]
    exact fs_yes (by rw [h1]; decide)
  have e3 : a3 c n (A.length + 1) = A.length + 1 + k.length + 1 := by
    unfold a3 ps
    rw [e2]
    exact fs_yes (by rw [h2]; decide)
  have e4 : a4 c n (A.length + 1 + k.length + 1) = A.length + 1 + k.length + 2 + v.length := by
    unfold a4
    refine fs_is (by omega) (by omega) (fun j g1 g2 => ?_) (fun _ => by rw [h2, h3]; decide)
    have := hV (j - (A.length + 1 + k.length + 2)) (by omega)
    rw [show A.length + 1 + k.length + 2 + (j - (A.length + 1 + k.length + 2)) = j by omega] at this
    rw [this, h2]
    have := hv _ (cL_mem (l := v) (i := j - (A.length + 1 + k.length + 2)) (by omega))
    simpa using this
  have hnm : nm c (A.length + 1) (A.length + 1 + k.length) = k.map lw := by
    unfold nm
    rw [show A.length + 1 + k.length - (A.length + 1) = k.length by omega]
    apply List.ext_getElem?
    intro j
    rcases Nat.lt_or_ge j k.length with hj | hj
    · rw [List.getElem?_map, List.getElem?_range hj, List.getElem?_map, List.getElem?_eq_getElem hj]
      show some (lw (c (A.length + 1 + j))) = some (lw k[j])
      rw [hN j hj, cL_in (List.getElem?_eq_getElem hj)]
    · rw [List.getElem?_eq_none (by simpa using hj), List.getElem?_eq_none (by simpa using hj)]
  have hE := atE_q e2 e3 h1 (by rw [h2]; decide) e4
  have hP := prL_q e1 e2 e3 h1 (by rw [h2]; decide) e4 (by omega)
  rw [if_pos (by omega)] at hE
  rw [hnm] at hP
  rw [hE, hP, show A.length + 1 + k.length + 2 + v.length + 1 = A.length + (k.length + v.length + 4) by omega, show A.length + 1 + k.length + 2 + v.length - (A.length + 1 + k.length + 1 + 1) = v.length by omega, show A.length + 1 + k.length + 1 + 1 = A.length + k.length + 3 by omega]
  congr 2
  have : decide (A.length + k.length + 3 < A.length + k.length + 3 + v.length) = decide (0 < v.length) := by
    congr 1
    exact propext ⟨fun h => by omega, fun h => by omega⟩
  rw [this]
end Go.Proofs.YtodjfeheagnnpaaDoor
