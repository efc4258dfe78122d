/- tex: an environment that is no prose; math; plainly. -/
import Derived.Test.YtlgfmhhhecaddaaDoorxLawP
namespace Go.Proofs.YtlgfmhhhecaddaaDoor
set_option linter.unusedVariables false
open Go.RowKit Go.ChangeShapes
theorem br_skip {o s : Int} {c : Nat → Int} {n : Nat} (d : Nat) (e : Nat) (he : e ≤ n) : ∀ k i, e - i = k → i ≤ e → (∀ j, i ≤ j → j < e → c j ≠ 92 ∧ c j ≠ o ∧ c j ≠ s) → br o s c n i d = br o s c n e d
  | 0, i, hk, hi, h => by obtain rfl : i = e := by omega
                          rfl
  | k + 1, i, hk, hi, h => by
    have h1 := h i (Nat.le_refl _) (by omega)
    rw [br_one (by omega), if_neg h1.1, if_neg h1.2.1, if_neg h1.2.2]
    exact br_skip d e he k (i + 1) (by omega) (by omega) (fun j a b => h j (by omega) b)
theorem wh_ne {l : List Int} (h : whB l = true) : ∀ x ∈ l, x ≠ 92 ∧ x ≠ 123 ∧ x ≠ 125 := by
  unfold whB at h
  simp only [Bool.or_eq_true, beq_iff_eq] at h
  rcases h with ((((h | h) | h) | h) | h) | h <;> (rw [h]; decide)
theorem wh_byt {l : List Int} (h : whB l = true) : Byt l := by
  unfold whB at h
  simp only [Bool.or_eq_true, beq_iff_eq] at h
  rcases h with ((((h | h) | h) | h) | h) | h <;> (rw [h]; exact byt_lit _ rfl)
theorem cl_is {c : Nat → Int} {m : Nat} {l : List Int} (hm : m = l.length) (h : ∀ j, j < m → c j = cL l j) : cl c m = l := by
  subst hm
  apply List.ext_getElem?
  intro i
  rcases Nat.lt_or_ge i l.length with h1 | h1
  · rw [cl_at _ _ _ h1, h i h1, List.getElem?_eq_getElem h1, cL_in (List.getElem?_eq_getElem h1)]
  · rw [List.getElem?_eq_none (by rw [cl_len]; exact h1), List.getElem?_eq_none h1]
theorem oc_of : ∀ {t : List Int} {c : Nat → Int} {i : Nat}, (∀ j, j < t.length → c (i + j) = cL t j) → oc t c i = true
  | [], _, _, _ => rfl
  | x :: t, c, i, h => by
    have h0 : c i = x := h 0 (by simp)
    have h1 : oc t c (i + 1) = true := oc_of (fun j hj => by
      have := h (j + 1) (by simp; omega)
      rw [cL_cons] at this
      rw [← this]
      congr 1
      omega)
    show ((c i == x) && oc t c (i + 1)) = true
    rw [h0, h1]
    simp
/-- The labels ahead of what isn't read, and of it. -/
def verH (p tt : Nat) : Nat → Int := setL (setL (setL (fun _ => 1) 2 0 6) 2 6 ((8 + p : Nat) : Int)) 4 ((8 + p : Nat) : Int) (tt : Int)
theorem ver_step {c : Nat → Int} {n p tt : Nat} {nm : List Int} (hC : Ch c n) (hw : whB nm = true) (hp : nm.length = p) (f0 : c 0 = 92) (f1 : c 1 = 98) (f2 : c 2 = 101) (f3 : c 3 = 103) (f4 : c 4 = 105) (f5 : c 5 = 110) (f6 : c 6 = 123)
    (f7 : ∀ j, j < p → c (7 + j) = cL nm j) (f8 : c (7 + p) = 125) (hto : 8 + p ≤ tt) (hton : tt ≤ n) (hZ : ∀ j, 8 + p ≤ j → j < tt → c j ≠ 92) (hg : c (8 + p) ≠ 123 ∧ c (8 + p) ≠ 91) (hend : tt < n → oc (enT nm) c tt = true) :
    lxA c n = if tt < n then lx c n (tt + (p + 6)) (setL (verH p tt) 2 (tt : Int) ((tt + (p + 6) : Nat) : Int)) else verH p tt := by
  have hn8 : 8 + p ≤ n := by omega
  have hK := lx_cmd (K := 6) hC (i := 0) (by omega) f0 (by omega) (by omega) (fun j h1 h2 => by
    rcases (show j = 1 ∨ j = 2 ∨ j = 3 ∨ j = 4 ∨ j = 5 by omega) with rfl | rfl | rfl | rfl | rfl
    · rw [f1]; rfl
    · rw [f2]; rfl
    · rw [f3]; rfl
    · rw [f4]; rfl
    · rw [f5]; rfl) (fun _ => by rw [f6]; rfl)
  have hN : cmN c n 0 = [98, 101, 103, 105, 110] := by
    unfold cmN
    rw [hK.1]
    show [c 1, c 2, c 3, c 4, c 5] = _
    rw [f1, f2, f3, f4, f5]
  have hgr : grp c n 6 = 8 + p := by
    unfold grp
    rw [if_pos f6, br_skip 1 (7 + p) (by omega) _ 7 rfl (by omega) (fun j h1 h2 => by
      obtain ⟨q, hq⟩ : ∃ q, j = 7 + q := ⟨j - 7, by omega⟩
      rw [hq, f7 q (by omega)]
      exact wh_ne hw _ (cL_mem (by omega))), br_one (by omega), f8]
    show 7 + p + 1 = 8 + p
    omega
  have hgn : grp c n (8 + p) = 0 := by unfold grp; rw [if_neg hg.1, if_neg hg.2]
  have hgs : gps c n 6 = 8 + p := by rw [gps_one (by omega), hgr, gps_no hgn]
  have hbc : bcd c n 6 = nm := by
    unfold bcd
    rw [hgr, if_neg (by rw [f6]; omega)]
    exact cl_is (by omega) (fun j hj => f7 j (by omega))
  have hnx := nx_cmd (n := n) f0 hK.2 (fun _ => 1)
  have eE : cmE c n 0 = unE c n (8 + p) (enT nm) := by
    unfold cmE
    rw [hN, hK.1]
    show bgE c n 6 = _
    unfold bgE
    rw [hbc, hw, hgs]
    rfl
  have eL : cmL (fun _ => 1) c n 0 = unL (setL (setL (fun _ => 1) 2 0 6) 2 6 ((8 + p : Nat) : Int)) c n (8 + p) (enT nm) := by
    unfold cmL cm1
    rw [hN, hK.1]
    show bgL (setL (fun _ => 1) 2 0 6) c n 6 = _
    unfold bgL gpL
    rw [hbc, hw, hgs]
    rfl
  have hlt : (enT nm).length = p + 6 := by simp [enT, hp]
  have hocn : ∀ j, 8 + p ≤ j → j < tt → oc (enT nm) c j = false := fun j h1 h2 => by
    show ((c j == 92) && _) = false
    rw [show (c j == 92) = false by simpa using hZ j h1 h2]
    rfl
  have hfs : fs (oc (enT nm) c) n (8 + p) = tt := fs_is hto hton hocn hend
  unfold lxA
  rw [lx_one hC (i := 0) (by omega), hnx.1, hnx.2, eE, eL]
  unfold unE unL bh verH
  rw [hfs, hlt]
  by_cases h : tt < n
  · rw [if_pos h, if_pos h, if_pos h]
  · obtain rfl : tt = n := by omega
    rw [if_neg h, if_neg h, if_neg h, lx_end (Nat.le_refl _)]
theorem ver_no {nm Z : List Int} (hw : whB nm = true) (hZB : Byt Z) (hZ : ∀ x ∈ Z, x ≠ 92 ∧ x ≠ 91 ∧ x ≠ 123) {p z : Nat} (hp : nm.length = p) (hz : Z.length = z) (k : Nat) (hk : k < 8 + p + z) :
    lxA (cL ([92, 98, 101, 103, 105, 110, 123] ++ nm ++ [125] ++ Z)) (8 + p + z) k = if 8 + p ≤ k then 4 else 2 := by
  obtain ⟨c, hc⟩ : ∃ c, cL ([92, 98, 101, 103, 105, 110, 123] ++ nm ++ [125] ++ Z) = c := ⟨_, rfl⟩
  rw [hc]
  have hc' : cL ([92, 98, 101, 103, 105, 110, 123] ++ (nm ++ ([125] ++ Z))) = c := by rw [← hc]; simp
  have hby : Byt ([92, 98, 101, 103, 105, 110, 123] ++ nm ++ [125] ++ Z) := byt_app (byt_app (byt_app (byt_lit _ rfl) (wh_byt hw)) (byt_lit _ rfl)) hZB
  have hlen : ([92, 98, 101, 103, 105, 110, 123] ++ nm ++ [125] ++ Z).length = 8 + p + z := by simp [hp, hz]; omega
  have hC : Ch c (8 + p + z) := by
    have := cL_ch hby
    rw [hc, hlen] at this
    exact this
  have f7 : ∀ j, j < p → c (7 + j) = cL nm j := fun j hj => by rw [← hc', cL_app (j := j) (by simp), cL_left _ _ (by omega)]
  have f8 : c (7 + p) = 125 := by rw [← hc', cL_app (j := p) (by simp), cL_app (a := nm) (j := 0) (by omega)]; rfl
  have f9 : ∀ j, j < z → c (8 + p + j) = cL Z j := fun j hj => by rw [← hc', cL_app (j := 1 + p + j) (by simp; omega), cL_app (a := nm) (j := 1 + j) (by omega), cL_app (a := [125]) (j := j) (by simp)]
  have hst := ver_step (tt := 8 + p + z) hC hw hp (by rw [← hc']; rfl) (by rw [← hc']; rfl) (by rw [← hc']; rfl) (by rw [← hc']; rfl) (by rw [← hc']; rfl) (by rw [← hc']; rfl) (by rw [← hc']; rfl) f7 f8 (by omega) (Nat.le_refl _) (fun j h1 h2 => by
    obtain ⟨q, hq⟩ : ∃ q, j = 8 + p + q := ⟨j - (8 + p), by omega⟩
    rw [hq, f9 q (by omega)]
    exact (hZ _ (cL_mem (by omega))).1) (by
      rcases Nat.eq_zero_or_pos z with h | h
      · rw [hC.2 (8 + p) (by omega)]; decide
      · have := f9 0 h
        rw [Nat.add_zero] at this
        rw [this]
        have := hZ _ (cL_mem (show 0 < Z.length by omega))
        exact ⟨this.2.2, this.2.1⟩) (fun h => absurd h (Nat.lt_irrefl _))
  rw [hst, if_neg (Nat.lt_irrefl _)]
  unfold verH
  by_cases h1 : 8 + p ≤ k
  · rw [if_pos h1, setL_in (by omega)]
  · rw [if_neg h1, setL_out (by omega)]
    by_cases h2 : 6 ≤ k
    · rw [setL_in (by omega)]
    · rw [setL_out (by omega), setL_in (by omega)]
theorem ver_yes {nm Z : List Int} (hw : whB nm = true) (hZB : Byt Z) (hZ : ∀ x ∈ Z, x ≠ 92 ∧ x ≠ 91 ∧ x ≠ 123) {p z : Nat} (hp : nm.length = p) (hz : Z.length = z) (k : Nat) (hk : k < 8 + p + z + (p + 7)) :
    lxA (cL ([92, 98, 101, 103, 105, 110, 123] ++ nm ++ [125] ++ Z ++ ([92, 101, 110, 100, 123] ++ nm ++ [125, 120]))) (8 + p + z + (p + 7)) k = if k = 8 + p + z + (p + 6) then 1 else if 8 + p ≤ k ∧ k < 8 + p + z then 4 else 2 := by
  obtain ⟨c, hc⟩ : ∃ c, cL ([92, 98, 101, 103, 105, 110, 123] ++ nm ++ [125] ++ Z ++ ([92, 101, 110, 100, 123] ++ nm ++ [125, 120])) = c := ⟨_, rfl⟩
  rw [hc]
  have hc' : cL ([92, 98, 101, 103, 105, 110, 123] ++ (nm ++ ([125] ++ (Z ++ (enT nm ++ [120]))))) = c := by rw [← hc]; simp [enT]
  have hby : Byt ([92, 98, 101, 103, 105, 110, 123] ++ nm ++ [125] ++ Z ++ ([92, 101, 110, 100, 123] ++ nm ++ [125, 120])) := byt_app (byt_app (byt_app (byt_app (byt_lit _ rfl) (wh_byt hw)) (byt_lit _ rfl)) hZB) (byt_app (byt_app (byt_lit _ rfl) (wh_byt hw)) (byt_lit _ rfl))
  have hlen : ([92, 98, 101, 103, 105, 110, 123] ++ nm ++ [125] ++ Z ++ ([92, 101, 110, 100, 123] ++ nm ++ [125, 120])).length = 8 + p + z + (p + 7) := by simp [hp, hz]; omega
  have hlt : (enT nm).length = p + 6 := by simp [enT, hp]
  have hC : Ch c (8 + p + z + (p + 7)) := by
    have := cL_ch hby
    rw [hc, hlen] at this
    exact this
  have f7 : ∀ j, j < p → c (7 + j) = cL nm j := fun j hj => by rw [← hc', cL_app (j := j) (by simp), cL_left _ _ (by omega)]
  have f8 : c (7 + p) = 125 := by rw [← hc', cL_app (j := p) (by simp), cL_app (a := nm) (j := 0) (by omega)]; rfl
  have f9 : ∀ j, j < z → c (8 + p + j) = cL Z j := fun j hj => by rw [← hc', cL_app (j := 1 + p + j) (by simp; omega), cL_app (a := nm) (j := 1 + j) (by omega), cL_app (a := [125]) (j := j) (by simp), cL_left _ _ (by omega)]
  have f10 : ∀ j, j < p + 6 → c (8 + p + z + j) = cL (enT nm) j := fun j hj => by rw [← hc', cL_app (j := 1 + p + z + j) (by simp; omega), cL_app (a := nm) (j := 1 + z + j) (by omega), cL_app (a := [125]) (j := z + j) (by simp; omega), cL_app (a := Z) (j := j) (by omega), cL_left _ _ (by omega)]
  have f11 : c (8 + p + z + (p + 6)) = 120 := by rw [← hc', cL_app (j := 1 + p + z + (p + 6)) (by simp; omega), cL_app (a := nm) (j := 1 + z + (p + 6)) (by omega), cL_app (a := [125]) (j := z + (p + 6)) (by simp; omega), cL_app (a := Z) (j := p + 6) (by omega), cL_app (a := enT nm) (j := 0) (by omega)]; rfl
  have hoc : oc (enT nm) c (8 + p + z) = true := oc_of (fun j hj => f10 j (by omega))
  have f12 : c (8 + p + z) = 92 := by
    have := f10 0 (by omega)
    rw [Nat.add_zero] at this
    rw [this]; rfl
  have hst := ver_step (tt := 8 + p + z) hC hw hp (by rw [← hc']; rfl) (by rw [← hc']; rfl) (by rw [← hc']; rfl) (by rw [← hc']; rfl) (by rw [← hc']; rfl) (by rw [← hc']; rfl) (by rw [← hc']; rfl) f7 f8 (by omega) (by omega) (fun j h1 h2 => by
    obtain ⟨q, hq⟩ : ∃ q, j = 8 + p + q := ⟨j - (8 + p), by omega⟩
    rw [hq, f9 q (by omega)]
    exact (hZ _ (cL_mem (by omega))).1) (by
      rcases Nat.eq_zero_or_pos z with h | h
      · subst h
        have := f12
        rw [Nat.add_zero] at this
        rw [this]; decide
      · have := f9 0 h
        rw [Nat.add_zero] at this
        rw [this]
        have := hZ _ (cL_mem (show 0 < Z.length by omega))
        exact ⟨this.2.2, this.2.1⟩) (fun _ => hoc)
  rw [hst, if_pos (by omega), lx_by hC (8 + p + z + (p + 7)) (Nat.le_refl _) _ _ _ rfl (by omega) (fun j h1 h2 => by rw [show j = 8 + p + z + (p + 6) by omega, f11]; rfl), lx_end (Nat.le_refl _)]
  by_cases h0 : k = 8 + p + z + (p + 6)
  · rw [if_pos h0, byL_in (by omega), h0, f11]; rfl
  · rw [if_neg h0, byL_out (by omega)]
    by_cases h1 : 8 + p ≤ k ∧ k < 8 + p + z
    · rw [if_pos h1, setL_out (by omega)]
      unfold verH
      rw [setL_in (by omega)]
    · rw [if_neg h1]
      by_cases h3 : 8 + p + z ≤ k
      · rw [setL_in (by omega)]
      · rw [setL_out (by omega)]
        unfold verH
        rw [setL_out (by omega)]
        by_cases h2 : 6 ≤ k
        · rw [setL_in (by omega)]
        · rw [setL_out (by omega), setL_in (by omega)]
/-- Math's texts: what is gone over within. -/
def Bd (B : List Int) : Prop := (∀ x ∈ B, x ≠ 36 ∧ x ≠ 41 ∧ x ≠ 93) ∧ ∀ (P : Nat → Bool) (c : Nat → Int) (n s : Nat), (∀ j, j < B.length → c (s + j) = cL B j) → s + B.length ≤ n → (∀ j, j < B.length → P (s + j) = false) → sk P c n s = sk P c n (s + B.length)
theorem Bd.nil : Bd [] := ⟨fun x hx => (by cases hx), fun P c n s _ _ _ => rfl⟩
theorem Bd.app {A B : List Int} (ha : Bd A) (hb : Bd B) : Bd (A ++ B) := by
  refine ⟨fun x hx => ?_, fun P c n s h1 h2 h3 => ?_⟩
  · rcases List.mem_append.1 hx with h | h
    · exact ha.1 x h
    · exact hb.1 x h
  · rw [List.length_append] at h1 h2 h3 ⊢
    rw [ha.2 P c n s (fun j hj => by rw [h1 j (by omega), cL_left _ _ hj]) (by omega) (fun j hj => h3 j (by omega)),
      hb.2 P c n (s + A.length) (fun j hj => by rw [Nat.add_assoc, h1 _ (by omega), cL_right]) (by omega) (fun j hj => by rw [Nat.add_assoc]; exact h3 _ (by omega)), Nat.add_assoc]
theorem Bd.one {x : Int} (h : x ≠ 36 ∧ x ≠ 41 ∧ x ≠ 93 ∧ x ≠ 92) : Bd [x] := by
  refine ⟨fun y hy => ?_, fun P c n s h1 h2 h3 => ?_⟩
  · rw [List.mem_singleton] at hy; subst hy; exact ⟨h.1, h.2.1, h.2.2.1⟩
  · have hc : c s = x := h1 0 (by simp)
    rw [sk_no (show s < n from h2) (h3 0 (by simp)), hc]
    unfold tkn
    rw [if_neg h.2.2.2]
    rfl
theorem Bd.esc {x : Int} (h : x ≠ 36 ∧ x ≠ 41 ∧ x ≠ 93) : Bd [92, x] := by
  refine ⟨fun y hy => ?_, fun P c n s h1 h2 h3 => ?_⟩
  · simp at hy
    rcases hy with rfl | rfl
    · decide
    · exact h
  · have hc : c s = 92 := h1 0 (by simp)
    have h2' : s + 2 ≤ n := h2
    rw [sk_no (show s < n by omega) (h3 0 (by simp)), hc]
    rfl
end Go.Proofs.YtlgfmhhhecaddaaDoor
