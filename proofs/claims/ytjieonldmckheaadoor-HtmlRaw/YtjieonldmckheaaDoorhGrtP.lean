/- Great letters in the place of small ones: the same labels; no program's function in this text. -/
import Derived.Test.YtjieonldmckheaaDoorhLexP
namespace Go.Proofs.YtjieonldmckheaaDoor
set_option linter.unusedVariables false
/-- The same sign, or the same letter in its other case. -/
def LwE (x y : Int) : Prop := x = y ∨ (65 ≤ x ∧ x ≤ 90 ∧ y = x + 32) ∨ (65 ≤ y ∧ y ≤ 90 ∧ x = y + 32)
theorem lw_eq {x y : Int} (h : LwE x y) : lw x = lw y := by
  have a : ∀ z : Int, 65 ≤ z → z ≤ 90 → lw z = z + 32 ∧ lw (z + 32) = z + 32 := fun z h1 h2 => by
    unfold lw
    have e1 : grB z = true := by simp [grB, h1, h2]
    have e2 : ¬ grB (z + 32) = true := by simp [grB]; omega
    rw [if_pos e1, if_neg e2]
    exact ⟨rfl, rfl⟩
  rcases h with rfl | ⟨h1, h2, rfl⟩ | ⟨h1, h2, rfl⟩
  · rfl
  · rw [(a x h1 h2).1, (a x h1 h2).2]
  · rw [(a y h1 h2).1, (a y h1 h2).2]
/-- A sign that is no letter. -/
def NoL (k : Int) : Prop := ¬ (65 ≤ k ∧ k ≤ 90) ∧ ¬ (97 ≤ k ∧ k ≤ 122)
theorem eqk {x y k : Int} (h : LwE x y) (hk : NoL k) : x = k ↔ y = k := by
  obtain ⟨h1, h2⟩ := hk
  rcases h with rfl | ⟨a, b, rfl⟩ | ⟨a, b, rfl⟩
  · exact Iff.rfl
  · omega
  · omega
theorem eqb {x y k : Int} (h : LwE x y) (hk : NoL k) : (x == k) = (y == k) := by
  rw [Bool.eq_iff_iff]
  simp only [beq_iff_eq]
  exact eqk h hk
theorem bk_eq {x y : Int} (h : LwE x y) : bkB x = bkB y := by
  unfold bkB
  rw [eqb h (k := 32) (by unfold NoL; omega), eqb h (k := 9) (by unfold NoL; omega), eqb h (k := 10) (by unfold NoL; omega), eqb h (k := 13) (by unfold NoL; omega), eqb h (k := 12) (by unfold NoL; omega)]
theorem lt_eq {x y : Int} (h : LwE x y) : ltB x = ltB y := by
  rw [Bool.eq_iff_iff]
  simp only [ltB, grB, Bool.or_eq_true, Bool.and_eq_true, decide_eq_true_eq]
  rcases h with rfl | ⟨a, b, rfl⟩ | ⟨a, b, rfl⟩ <;> omega
theorem dig_eq {x y : Int} (h : LwE x y) : (decide (48 ≤ x) && decide (x ≤ 57)) = (decide (48 ≤ y) && decide (y ≤ 57)) := by
  rw [Bool.eq_iff_iff]
  simp only [Bool.and_eq_true, decide_eq_true_eq]
  rcases h with rfl | ⟨a, b, rfl⟩ | ⟨a, b, rfl⟩ <;> omega
theorem nm_eq {x y : Int} (h : LwE x y) : nmB x = nmB y := by
  unfold nmB
  rw [lt_eq h, dig_eq h, eqb h (k := 45) (by unfold NoL; omega)]
theorem neb {x y k : Int} (h : LwE x y) (hk : NoL k) : (x != k) = (y != k) := by
  show (!(x == k)) = (!(y == k))
  rw [eqb h hk]
theorem at_eq {x y : Int} (h : LwE x y) : atB x = atB y := by
  unfold atB
  rw [bk_eq h, neb h (k := 47) (by unfold NoL; omega), neb h (k := 62) (by unfold NoL; omega), neb h (k := 61) (by unfold NoL; omega)]
theorem vl_eq {x y : Int} (h : LwE x y) : vlB x = vlB y := by
  unfold vlB
  rw [bk_eq h, neb h (k := 62) (by unfold NoL; omega)]
theorem qu_eq {x y : Int} (h : LwE x y) : quB x = quB y := by
  unfold quB
  rw [eqb h (k := 34) (by unfold NoL; omega), eqb h (k := 39) (by unfold NoL; omega)]
def CE (c d : Nat → Int) : Prop := ∀ i, LwE (c i) (d i)
theorem fs_eq {P Q : Nat → Bool} (h : ∀ j, P j = Q j) (n i : Nat) : fs P n i = fs Q n i := by
  have : P = Q := funext h
  rw [this]
theorem ps_eq {c d : Nat → Int} (h : CE c d) {p : Int → Bool} (hp : ∀ {x y : Int}, LwE x y → p x = p y) (n i : Nat) : ps p c n i = ps p d n i :=
  fs_eq (fun j => by rw [hp (h j)]) n i
theorem nms_eq {c d : Nat → Int} (h : CE c d) (i e : Nat) : nm c i e = nm d i e := by
  unfold nm
  refine List.map_congr_left fun j _ => ?_
  rw [lw_eq (h (i + j))]
theorem a1_eq {c d : Nat → Int} (h : CE c d) (n i : Nat) : a1 c n i = a1 d n i := ps_eq h at_eq n _
theorem a2_eq {c d : Nat → Int} (h : CE c d) (n i : Nat) : a2 c n i = a2 d n i := by
  unfold a2
  rw [a1_eq h, ps_eq h bk_eq]
theorem a3_eq {c d : Nat → Int} (h : CE c d) (n i : Nat) : a3 c n i = a3 d n i := by
  unfold a3
  rw [a2_eq h, ps_eq h bk_eq]
theorem qu_same {x y : Int} (h : LwE x y) (hq : quB x = true) : x = y := by
  have hx : x = 34 ∨ x = 39 := by simpa [quB] using hq
  rcases h with rfl | ⟨a, b, rfl⟩ | ⟨a, b, rfl⟩ <;> omega
theorem a4_eq {c d : Nat → Int} (h : CE c d) (n e : Nat) (hq : quB (c e) = true) : a4 c n e = a4 d n e := by
  unfold a4
  refine fs_eq (fun j => ?_) n _
  have hs := qu_same (h e) hq
  have hx : c e = 34 ∨ c e = 39 := by simpa [quB] using hq
  rw [← hs]
  exact eqb (h j) (by unfold NoL; omega)
theorem vlE_eq {c d : Nat → Int} (h : CE c d) (n e : Nat) : vlE c n e = vlE d n e := by
  unfold vlE
  rw [← qu_eq (h e)]
  by_cases hq : quB (c e) = true
  · rw [if_pos hq, if_pos hq, a4_eq h n e hq]
  · rw [if_neg hq, if_neg hq, ps_eq h vl_eq]
theorem vlP_eq {c d : Nat → Int} (h : CE c d) (n e : Nat) : vlP c n e = vlP d n e := by
  unfold vlP
  rw [← qu_eq (h e)]
  by_cases hq : quB (c e) = true
  · rw [if_pos hq, if_pos hq, a4_eq h n e hq]
  · rw [if_neg hq, if_neg hq]
theorem ifk {α : Type} {x y k : Int} (h : LwE x y) (hk : NoL k) (a b : α) : (if x = k then a else b) = (if y = k then a else b) := by
  by_cases e : x = k
  · rw [if_pos e, if_pos ((eqk h hk).1 e)]
  · rw [if_neg e, if_neg (fun e' => e ((eqk h hk).2 e'))]
theorem atE_eq {c d : Nat → Int} (h : CE c d) (n i : Nat) : atE c n i = atE d n i := by
  unfold atE
  rw [ifk (h (a2 c n i)) (k := 61) (by unfold NoL; omega), a3_eq h, vlE_eq h, a2_eq h]
theorem atP_eq {c d : Nat → Int} (h : CE c d) (n i : Nat) : atP c n i = atP d n i := by
  unfold atP
  rw [ifk (h (a2 c n i)) (k := 61) (by unfold NoL; omega), a3_eq h, vlP_eq h, a2_eq h, a1_eq h, nms_eq h]
theorem rdG_eq {c d : Nat → Int} (h : CE c d) (n : Nat) : ∀ k i l, rdG c n k i l = rdG d n k i l
  | 0, i, l => rfl
  | k + 1, i, l => by
    show (if n ≤ i then none else if c i = 62 then some (i + 1, l) else if c i = 47 ∨ bkB (c i) = true then rdG c n k (i + 1) l else rdG c n k (atE c n i) (l ++ prL (atP c n i))) = (if n ≤ i then none else if d i = 62 then some (i + 1, l) else if d i = 47 ∨ bkB (d i) = true then rdG d n k (i + 1) l else rdG d n k (atE d n i) (l ++ prL (atP d n i)))
    have e1 : (c i = 47 ∨ bkB (c i) = true) = (d i = 47 ∨ bkB (d i) = true) := by
      rw [bk_eq (h i)]
      exact propext (or_congr (eqk (h i) (by unfold NoL; omega)) Iff.rfl)
    have e2 : (c i = 62) = (d i = 62) := propext (eqk (h i) (by unfold NoL; omega))
    simp only [rdG_eq h n k, atE_eq h, atP_eq h, e1, e2]
theorem tgF_eq {c d : Nat → Int} (h : CE c d) (i : Nat) : tgF c i = tgF d i := ifk (h (i + 1)) (by unfold NoL; omega) _ _
theorem bg_eq {c d : Nat → Int} (h : CE c d) (i : Nat) : bg c i = bg d i := by
  unfold bg
  rw [eqb (h i) (k := 60) (by unfold NoL; omega), tgF_eq h, lt_eq (h _)]
theorem tg_eq {c d : Nat → Int} (h : CE c d) (n i : Nat) : tg c n i = tg d n i := by
  unfold tg rd
  rw [bg_eq h, tgF_eq h, ps_eq h nm_eq, rdG_eq h, nms_eq h, eqb (h (i + 1)) (k := 47) (by unfold NoL; omega)]
theorem oc_eq {c d : Nat → Int} (h : CE c d) : ∀ (t : List Int) (ht : ∀ x ∈ t, NoL x) (i : Nat), oc t c i = oc t d i
  | [], _, _ => rfl
  | x :: t, ht, i => by
    show ((c i == x) && oc t c (i + 1)) = ((d i == x) && oc t d (i + 1))
    rw [eqb (h i) (ht x List.mem_cons_self), oc_eq h t (fun y hy => ht y (List.mem_cons_of_mem _ hy)) (i + 1)]
theorem bh_eq {c d : Nat → Int} (h : CE c d) (t : List Int) (ht : ∀ x ∈ t, NoL x) (n i : Nat) : bh t c n i = bh t d n i := by
  unfold bh
  rw [fs_eq (oc_eq h t ht) n i]
theorem shB_eq {c d : Nat → Int} (h : CE c d) (l : List Int) (n j : Nat) : shB l c n j = shB l d n j := by
  unfold shB shK
  rw [oc_eq h [60, 47] (by intro x hx; simp at hx; unfold NoL; omega), nms_eq h, eqb (h _) (k := 47) (by unfold NoL; omega), eqb (h _) (k := 62) (by unfold NoL; omega), bk_eq (h _)]
theorem inE_eq {c d : Nat → Int} (h : CE c d) (n : Nat) (t : Tg) : inE c n t = inE d n t := by
  unfold inE
  rw [fs_eq (shB_eq h t.nm n) n t.e]
theorem inL_eq {c d : Nat → Int} (h : CE c d) (L : Nat → Int) (n : Nat) (t : Tg) : inL L c n t = inL L d n t := by
  unfold inL
  rw [fs_eq (shB_eq h t.nm n) n t.e]
/-- There is no [ in it. -/
def No91 (c : Nat → Int) : Prop := ∀ i, c i ≠ 91
theorem k1_no {c : Nat → Int} (h : No91 c) (i : Nat) : oc (kdO 1) c i = false := by
  show ((c i == 60) && ((c (i + 1) == 33) && ((c (i + 1 + 1) == 91) && oc [67, 68, 65, 84, 65, 91] c (i + 1 + 1 + 1)))) = false
  have : (c (i + 1 + 1) == 91) = false := by simpa using h (i + 1 + 1)
  rw [this]
  simp
theorem kd_eq {c d : Nat → Int} (h : CE c d) (hc : No91 c) (hd : No91 d) (i : Nat) : kd c i = kd d i := by
  unfold kd
  rw [k1_no hc, k1_no hd, oc_eq h (kdO 0) (by intro x hx; simp [kdO] at hx; unfold NoL; omega), oc_eq h (kdO 2) (by intro x hx; simp [kdO] at hx; unfold NoL; omega), oc_eq h (kdO 3) (by intro x hx; simp [kdO] at hx; unfold NoL; omega)]
theorem kdE_eq {c d : Nat → Int} (h : CE c d) (n i k : Nat) : kdE c n i k = kdE d n i k := by
  unfold kdE
  refine bh_eq h _ ?_ n _
  intro x hx
  unfold kdS at hx
  split at hx <;> (simp at hx; unfold NoL; omega)
theorem nxE_eq {c d : Nat → Int} (h : CE c d) (hc : No91 c) (hd : No91 d) (n i : Nat) : nxE c n i = nxE d n i := by
  unfold nxE tgE
  rw [kd_eq h hc hd, kdE_eq h, tg_eq h, bg_eq h]
  cases tg d n i with
  | none => rfl
  | some t => dsimp only; rw [inE_eq h]
theorem nxL_eq {c d : Nat → Int} (h : CE c d) (hc : No91 c) (hd : No91 d) (L : Nat → Int) (n i : Nat) : nxL L c n i = nxL L d n i := by
  unfold nxL tgL
  rw [kd_eq h hc hd, kdE_eq h, tg_eq h, bg_eq h]
  cases tg d n i with
  | none => rfl
  | some t => dsimp only; rw [inL_eq h]
theorem lxG_eq {c d : Nat → Int} (h : CE c d) (hc : No91 c) (hd : No91 d) (n : Nat) : ∀ k i L, lxG c n k i L = lxG d n k i L
  | 0, i, L => rfl
  | k + 1, i, L => by
    show (if n ≤ i then L else lxG c n k (nxE c n i) (nxL L c n i)) = (if n ≤ i then L else lxG d n k (nxE d n i) (nxL L d n i))
    rw [nxE_eq h hc hd, nxL_eq h hc hd, lxG_eq h hc hd n k]
theorem lxA_eq {c d : Nat → Int} (h : CE c d) (hc : No91 c) (hd : No91 d) (n : Nat) : lxA c n = lxA d n := by
  unfold lxA lx
  exact lxG_eq h hc hd n _ _ _
end Go.Proofs.YtjieonldmckheaaDoor
