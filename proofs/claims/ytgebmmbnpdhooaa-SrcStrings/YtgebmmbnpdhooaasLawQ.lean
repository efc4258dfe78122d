/- src: strings with escapes, plainly. -/
import Derived.Test.YtgebmmbnpdhooaasLawP
namespace Go.Proofs.Ytgebmmbnpdhooaa
set_option linter.unusedVariables false
open Go.RowKit Go.ChangeShapes
def escQ (x : Int) (l : Bool) : Qt := ⟨[x], 5, true, false, l⟩
theorem escQ_gd (x : Int) (h : 0 ≤ x ∧ x < 256) (l : Bool) : GdQ (escQ x l) := ⟨byt1 x h, Nat.le_refl _, by show 1 ≤ 3; omega⟩
/-- Bytes that are gone over within a string. -/
def St (x : Int) (P : List Int) : Prop := ∀ (l : Bool) (c : Nat → Int) (n a : Nat), (∀ j, j < P.length → c (a + j) = cL P j) → a + P.length ≤ n → lnE (escQ x l) c n a = lnE (escQ x l) c n (a + P.length)
theorem St.nil (x : Int) : St x [] := fun l c n a _ _ => rfl
theorem St.app {x : Int} {P t : List Int} (h : St x P) (h1 : St x t) : St x (P ++ t) := fun l c n a hc hn => by
  rw [List.length_append] at hn
  rw [h l c n a (fun j hj => by rw [hc j (by rw [List.length_append]; omega), cL_left _ _ hj]) (by omega), h1 l c n (a + P.length) (fun j hj => by rw [Nat.add_assoc, hc _ (by rw [List.length_append]; omega), cL_right]) (by omega), List.length_append, Nat.add_assoc]
theorem esc_one {x : Int} {l : Bool} {c : Nat → Int} {j : Nat} (h1 : c j ≠ x) (h2 : c j ≠ 10) (h3 : c j ≠ 92) : enB (escQ x l) c j = false ∧ tkN (escQ x l) c j = 1 := by
  have k1 : (c j == x) = false := by simpa using h1
  have k2 : (c j == 10) = false := by simpa using h2
  have k3 : (c j == 92) = false := by simpa using h3
  unfold enB tkN esB prB escQ
  simp [oc, k1, k2, k3]
theorem esc_two {x : Int} {l : Bool} {c : Nat → Int} {j : Nat} (h1 : c j = 92) (hx : x ≠ 92) (h2 : c (j + 1) ≠ 10) : enB (escQ x l) c j = false ∧ tkN (escQ x l) c j = 2 := by
  have k1 : ((92 : Int) == x) = false := by simp; exact fun e => hx e.symm
  have k2 : (c (j + 1) == 10) = false := by simpa using h2
  unfold enB tkN esB prB escQ
  simp [oc, k1, k2, h1]
theorem esc_end {x : Int} {l : Bool} {c : Nat → Int} {j : Nat} (h1 : c j = x) : enB (escQ x l) c j = true := by
  unfold enB prB escQ
  simp [oc, h1]
theorem St.plain {x : Int} (hx : 0 ≤ x ∧ x < 256) {t : List Int} (h : ∀ y ∈ t, y ≠ x ∧ y ≠ 10 ∧ y ≠ 92) : St x t := fun l c n a hc hn => by
  refine lnE_run (escQ_gd x hx l) hn t.length a (by omega) (by omega) (fun j h1 h2 => ?_)
  obtain ⟨k, rfl⟩ : ∃ k, j = a + k := ⟨j - a, by omega⟩
  have h3 := h (cL t k) (cL_mem (by omega))
  rw [← hc k (by omega)] at h3
  exact esc_one h3.1 h3.2.1 h3.2.2
theorem St.pair {x : Int} (hx : 0 ≤ x ∧ x < 256) (hx2 : x ≠ 92) {y : Int} (hy : y ≠ 10) : St x [92, y] := fun l c n a hc hn => by
  have h0 := hc 0 (by show 0 < 2; omega)
  have h1 := hc 1 (by show 1 < 2; omega)
  have h2 := esc_two (l := l) (x := x) (c := c) (j := a) h0 hx2 (by rw [h1]; exact hy)
  exact lnE_two (escQ_gd x hx l) hn h2.1 h2.2
/-- The pieces. -/
def spP (x : Int) : List (List Int) := [[97], [92, x], [47, 47], [47, 42], [35], [92, 92], [32], [92, 110]]
theorem spP_ok {x : Int} (hx : x = 34 ∨ x = 39) : ∀ r, r < 8 → ∃ t, (spP x)[r]? = some t ∧ St x t ∧ Byt t ∧ t.length ≤ 2 := fun r hr => by
  have hb : 0 ≤ x ∧ x < 256 := by omega
  have h92 : x ≠ 92 := by omega
  have h8 : r = 0 ∨ r = 1 ∨ r = 2 ∨ r = 3 ∨ r = 4 ∨ r = 5 ∨ r = 6 ∨ r = 7 := by omega
  have hpl : ∀ t : List Int, (t.all fun y => y != 34 && y != 39 && y != 10 && y != 92) = true → St x t := fun t ht => St.plain hb fun y hy => by
    have := List.all_eq_true.1 ht y hy
    simp only [Bool.and_eq_true, bne_iff_ne, ne_eq] at this
    rcases hx with rfl | rfl
    · exact ⟨this.1.1.1, this.1.2, this.2⟩
    · exact ⟨this.1.1.2, this.1.2, this.2⟩
  have hbp : ∀ y : Int, 0 ≤ y ∧ y < 256 → Byt [92, y] := fun y hy z hz => by
    simp only [List.mem_cons, List.not_mem_nil, or_false] at hz
    rcases hz with rfl | rfl
    · decide
    · exact hy
  rcases h8 with rfl | rfl | rfl | rfl | rfl | rfl | rfl | rfl
  · exact ⟨_, rfl, hpl _ rfl, byt_lit _ rfl, by decide⟩
  · exact ⟨_, rfl, St.pair hb h92 (by omega), hbp x hb, Nat.le_refl _⟩
  · exact ⟨_, rfl, hpl _ rfl, byt_lit _ rfl, by decide⟩
  · exact ⟨_, rfl, hpl _ rfl, byt_lit _ rfl, by decide⟩
  · exact ⟨_, rfl, hpl _ rfl, byt_lit _ rfl, by decide⟩
  · exact ⟨_, rfl, St.pair hb h92 (by decide), hbp 92 (by decide), by decide⟩
  · exact ⟨_, rfl, hpl _ rfl, byt_lit _ rfl, by decide⟩
  · exact ⟨_, rfl, St.pair hb h92 (by decide), hbp 110 (by decide), by decide⟩
theorem nx_str {r : Nat} (hr : r < 4) {x : Int} (hx : x = 34 ∨ (x = 39 ∧ r ≠ 3)) {c : Nat → Int} {n i : Nat} (h : c i = x) (h1 : c (i + 1) = 113) : nx (fam (4 + (r : Int))) c n i = ahd 4 (i + 1) (txR (escQ x (r == 3)) c n (i + 1)) := by
  have h4 : r = 0 ∨ r = 1 ∨ r = 2 ∨ r = 3 := by omega
  rcases hx with rfl | ⟨rfl, h3⟩
  · rcases h4 with rfl | rfl | rfl | rfl <;> simp [nx, ntB, opB, fq, fam, qD, qS, oc, h, h1, tqR, escQ]
  · rcases h4 with rfl | rfl | rfl | rfl
    · simp [nx, ntB, opB, fq, fam, qD, qS, oc, h, h1, tqR, escQ]
    · simp [nx, ntB, opB, fq, fam, qD, qS, oc, h, h1, tqR, escQ]
    · simp [nx, ntB, opB, fq, fam, qD, qS, oc, h, h1, tqR, escQ]
    · exact absurd rfl h3
theorem str_lab {r : Nat} (hr : r < 4) {x : Int} (hx : x = 34 ∨ (x = 39 ∧ r ≠ 3)) {P : List Int} (hP : Byt P) (hS : St x P) (j : Nat) (hj : j < ([120, 32, x, 113] ++ P ++ [x, 32, 121]).length) :
    lxA (fam (4 + (r : Int))) (cL ([120, 32, x, 113] ++ P ++ [x, 32, 121])) ([120, 32, x, 113] ++ P ++ [x, 32, 121]).length j = if 3 ≤ j ∧ j < 4 + P.length then 5 else 4 := by
  have hm : 0 ≤ x ∧ x < 256 := by omega
  have hk : 4 ≤ 4 + (r : Int) ∧ 4 + (r : Int) ≤ 8 := by omega
  obtain ⟨c, hc⟩ : ∃ c, cL ([120, 32, x, 113] ++ P ++ [x, 32, 121]) = c := ⟨_, rfl⟩
  obtain ⟨n, hn⟩ : ∃ n, ([120, 32, x, 113] ++ P ++ [x, 32, 121]).length = n := ⟨_, rfl⟩
  have hby : Byt ([120, 32, x, 113] ++ P ++ [x, 32, 121]) := by
    refine byt_app (byt_app (fun y hy => ?_) hP) (fun y hy => ?_)
    · simp only [List.mem_cons, List.not_mem_nil, or_false] at hy
      omega
    · simp only [List.mem_cons, List.not_mem_nil, or_false] at hy
      omega
  have hC : Ch c n := by
    have := cL_ch hby
    rw [hc, hn] at this
    exact this
  have hl : n = 4 + P.length + 3 := by rw [← hn]; simp; omega
  have c0 : c 0 = 120 := by rw [← hc]; rfl
  have c1 : c 1 = 32 := by rw [← hc]; rfl
  have c2 : c 2 = x := by rw [← hc]; rfl
  have c3 : c 3 = 113 := by rw [← hc]; rfl
  have cP : ∀ k, k < P.length → c (4 + k) = cL P k := fun k h2 => by
    rw [← hc, cL_left _ _ (by simp; omega), cL_app (a := [120, 32, x, 113]) (k := 4 + k) (j := k) rfl]
  have e0 : c (4 + P.length) = x := by rw [← hc, cL_app (j := 0) (by simp; omega)]; rfl
  have e1 : c (4 + P.length + 1) = 32 := by rw [← hc, cL_app (j := 1) (by simp; omega)]; rfl
  have e2 : c (4 + P.length + 2) = 121 := by rw [← hc, cL_app (j := 2) (by simp; omega)]; rfl
  rw [hc, hn]
  rw [hn] at hj
  unfold lxA
  rw [lx_code hk hC (e := 2) (by omega) 2 0 rfl (by omega) (fun k h1 h2 => by
    have h3 : k = 0 ∨ k = 1 := by omega
    rcases h3 with rfl | rfl
    · rw [c0]; rfl
    · rw [c1]; rfl) j (Nat.zero_le _)]
  by_cases hj2 : j < 2
  · rw [if_pos hj2, if_neg (by omega)]
  rw [if_neg hj2]
  have hgd := escQ_gd x hm (r == 3)
  have hE : lnE (escQ x (r == 3)) c n 3 = 4 + P.length := by
    have h1 := esc_one (l := (r == 3)) (x := x) (c := c) (j := 3) (by rw [c3]; omega) (by rw [c3]; decide) (by rw [c3]; decide)
    rw [lnE_no hgd (by omega) h1.1, h1.2, Nat.min_eq_left (by omega), hS (r == 3) c n 4 cP (by omega)]
    exact lnE_yes (esc_end e0)
  rw [lx_at (gd_fam _) hC (by omega), nx_str hr hx c2 c3]
  show (if j < (txR (escQ x (r == 3)) c n 3).1 then (if j < 3 then 4 else (txR (escQ x (r == 3)) c n 3).2 j) else lx (fam (4 + (r : Int))) c n (txR (escQ x (r == 3)) c n 3).1 j) = _
  have h1 : (txR (escQ x (r == 3)) c n 3).1 = 4 + P.length + 1 := by
    unfold txR ahd
    rw [hE]
    dsimp only
    have : oc (escQ x (r == 3)).mark c (4 + P.length) = true := by
      show ((c (4 + P.length) == x) && true) = true
      rw [e0]
      simp
    rw [if_pos this]
    rfl
  have hlab : (txR (escQ x (r == 3)) c n 3).2 j = if j < 4 + P.length then 5 else 4 := by
    unfold txR ahd
    rw [hE]
    rfl
  rw [hlab, h1]
  by_cases h6 : j < 4 + P.length + 1
  · rw [if_pos h6]
    by_cases h4 : j < 3
    · rw [if_pos h4, if_neg (by omega)]
    · rw [if_neg h4]
      by_cases h5 : j < 4 + P.length
      · rw [if_pos h5, if_pos (by omega)]
      · rw [if_neg h5, if_neg (by omega)]
  · rw [if_neg h6, lx_code hk hC (e := n) (Nat.le_refl _) 2 (4 + P.length + 1) (by omega) (by omega) (fun k h7 h8 => by
      have h9 : k = 4 + P.length + 1 ∨ k = 4 + P.length + 2 := by omega
      rcases h9 with rfl | rfl
      · rw [e1]; rfl
      · rw [e2]; rfl) j (by omega), if_pos hj, if_neg (by omega)]
end Go.Proofs.Ytgebmmbnpdhooaa
