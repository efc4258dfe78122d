/- Texts without <, remarks: their labels; no program's function in this text. -/
import Derived.Test.YtodjfeheagnnpaaDoorhAwk
namespace Go.Proofs.YtodjfeheagnnpaaDoor
set_option linter.unusedVariables false
theorem kd_not {c : Nat → Int} {i : Nat} (h : c i ≠ 60) : kd c i = 4 := by
  have h0 : (c i == 60) = false := by simpa using h
  refine kd_no fun j hj => ?_
  unfold kdO
  split <;> (show ((c i == 60) && _) = false; rw [h0]; rfl)
theorem nx_not {c : Nat → Int} {n i : Nat} (h : c i ≠ 60) (L : Nat → Int) : nxE c n i = i + 1 ∧ nxL L c n i = L := by
  have hb : bg c i = false := by
    unfold bg
    have h0 : (c i == 60) = false := by simpa using h
    rw [h0]; rfl
  have ht : tg c n i = none := by unfold tg; rw [if_neg (by rw [hb]; exact Bool.false_ne_true)]
  unfold nxE nxL tgE tgL
  rw [kd_not h, ht]
  dsimp only
  rw [hb, if_neg (Nat.lt_irrefl 4), if_neg (Nat.lt_irrefl 4), if_neg Bool.false_ne_true, if_neg Bool.false_ne_true]
  exact ⟨rfl, rfl⟩
theorem lx_skip {c : Nat → Int} {n : Nat} (hC : Ch c n) (L : Nat → Int) : ∀ d i k, k - i = d → i ≤ k → k ≤ n → (∀ j, i ≤ j → j < k → c j ≠ 60) → lx c n i L = lx c n k L
  | 0, i, k, hd, h1, h2, h => by
    obtain rfl : i = k := by omega
    rfl
  | d + 1, i, k, hd, h1, h2, h => by
    obtain ⟨e1, e2⟩ := nx_not (n := n) (h i (by omega) (by omega)) L
    rw [lx_one hC (by omega), e1, e2]
    exact lx_skip hC L d (i + 1) k (by omega) (by omega) h2 (fun j h3 h4 => h j (by omega) h4)
theorem lx_kd {c : Nat → Int} {n i k : Nat} (hC : Ch c n) (hi : i < n) (hk : k < 4) (h : ∀ j, j < k → oc (kdO j) c i = false) (ho : oc (kdO k) c i = true) (L : Nat → Int) : lx c n i L = lx c n (kdE c n i k) (setL L (kdL k) (i : Int) ((kdE c n i k : Nat) : Int)) := by
  rw [lx_one hC hi]
  unfold nxE nxL
  rw [kd_at hk h ho, if_pos hk, if_pos hk]
theorem cL_shift (a m : List Int) : (fun j => cL (a ++ m) (a.length + j)) = cL m := funext fun j => cL_right a m j
theorem oc_mid (t a m : List Int) (i : Nat) : oc t (cL (a ++ m)) (a.length + i) = oc t (cL m) i := by
  rw [← oc_shift, cL_shift]
theorem oc_pre : ∀ (t m : List Int), oc t (cL (t ++ m)) 0 = true
  | [], _ => rfl
  | x :: t, m => by
    show ((cL (x :: (t ++ m)) 0 == x) && oc t (cL ([x] ++ (t ++ m))) ([x].length + 0)) = true
    rw [oc_mid, oc_pre t m]
    simp [cL]
def rem (t : List Int) : List Int := [60, 33, 45, 45] ++ t ++ [45, 45, 62]
theorem rem_len (t : List Int) : (rem t).length = t.length + 7 := by simp [rem]
theorem plain_all {l : List Int} (hl : Byt l) (h : ∀ x ∈ l, x ≠ 60) : lxA (cL l) l.length = fun _ => 1 := by
  unfold lxA
  rw [lx_skip (cL_ch hl) _ _ 0 l.length rfl (Nat.zero_le _) (Nat.le_refl _) (fun j _ hj => h _ (cL_mem hj)), lx_end (Nat.le_refl _)]
theorem rem_all {a t b : List Int} (hl : Byt (a ++ (rem t ++ b))) (ha : ∀ x ∈ a, x ≠ 60) (hb : ∀ x ∈ b, x ≠ 60) (ht : ∀ x ∈ t, x ≠ 45) :
    lxA (cL (a ++ (rem t ++ b))) (a ++ (rem t ++ b)).length = setL (fun _ => 1) 3 (a.length : Int) ((a.length + (t.length + 7) : Nat) : Int) := by
  have hC := cL_ch hl
  have hlen : (a ++ (rem t ++ b)).length = a.length + ((t.length + 7) + b.length) := by rw [List.length_append, List.length_append, rem_len]
  obtain ⟨c, hc⟩ : ∃ c, cL (a ++ (rem t ++ b)) = c := ⟨_, rfl⟩
  obtain ⟨n, hn⟩ : ∃ n, (a ++ (rem t ++ b)).length = n := ⟨_, rfl⟩
  have c1 : ∀ j, j < a.length → c j ≠ 60 := fun j hj => by
    rw [← hc, cL_left _ _ hj]
    exact ha _ (cL_mem hj)
  have c2 : ∀ s i, oc s c (a.length + i) = oc s (cL (rem t ++ b)) i := fun s i => by rw [← hc]; exact oc_mid s _ _ i
  have c3 : ∀ j, j < t.length → c (a.length + (4 + j)) ≠ 45 := fun j hj => by
    rw [← hc, cL_right, show rem t ++ b = [60, 33, 45, 45] ++ (t ++ ([45, 45, 62] ++ b)) by simp [rem], show 4 + j = [60, 33, 45, (45 : Int)].length + j from rfl, cL_right, cL_left _ _ hj]
    exact ht _ (cL_mem hj)
  have c4 : oc [45, 45, 62] c (a.length + (4 + t.length)) = true := by
    rw [c2, show rem t ++ b = ([60, 33, 45, 45] ++ t) ++ ([45, 45, 62] ++ b) by simp [rem], show 4 + t.length = ([60, 33, 45, 45] ++ t).length + 0 by simp; omega, oc_mid]
    exact oc_pre _ _
  have c5 : oc (kdO 0) c (a.length + 0) = true := by
    rw [c2, show rem t ++ b = [60, 33, 45, 45] ++ (t ++ ([45, 45, 62] ++ b)) by simp [rem]]
    exact oc_pre _ _
  have c6 : ∀ j, a.length + (t.length + 7) ≤ j → j < n → c j ≠ 60 := fun j h1 h2 => by
    rw [← hc, show a ++ (rem t ++ b) = (a ++ rem t) ++ b by simp, show j = (a ++ rem t).length + (j - (a ++ rem t).length) by rw [List.length_append, rem_len]; omega, cL_right]
    exact hb _ (cL_mem (by rw [List.length_append, rem_len]; omega))
  rw [hc, hn] at hC ⊢
  rw [hn] at hlen
  unfold lxA
  rw [lx_skip hC _ _ 0 a.length rfl (Nat.zero_le _) (by omega) (fun j _ hj => c1 j hj)]
  rw [Nat.add_zero] at c5
  rw [lx_kd hC (by omega) (k := 0) (by omega) (fun j hj => absurd hj (Nat.not_lt_zero _)) c5]
  have hE : kdE c n a.length 0 = a.length + (t.length + 7) := by
    show bh [45, 45, 62] c n (a.length + 4) = _
    unfold bh
    have hf : fs (oc [45, 45, 62] c) n (a.length + 4) = a.length + (4 + t.length) := by
      refine fs_is (by omega) (by omega) (fun k h1 h2 => ?_) (fun _ => c4)
      have := c3 (k - (a.length + 4)) (by omega)
      rw [show a.length + (4 + (k - (a.length + 4))) = k by omega] at this
      show ((c k == 45) && _) = false
      have h0 : (c k == 45) = false := by simpa using this
      rw [h0]
      rfl
    rw [hf, if_pos (by omega)]
    show a.length + (4 + t.length) + 3 = _
    omega
  rw [hE, lx_skip hC _ _ (a.length + (t.length + 7)) n rfl (by omega) (Nat.le_refl _) c6, lx_end (Nat.le_refl _)]
  rfl
end Go.Proofs.YtodjfeheagnnpaaDoor
