/- src: remarks to the line's end; what is behind a place, plainly. -/
import Derived.Test.YtgebmmbnpdhooaasLawP
namespace Go.Proofs.Ytgebmmbnpdhooaa
set_option linter.unusedVariables false
open Go.RowKit Go.ChangeShapes
def lineM (r : Nat) : List Int := if r < 2 then [47, 47] else if r < 4 then [35] else [45, 45]
theorem line_is {r : Nat} (hr : r < 5) : (fam (4 + (r : Int))).line = lineM r ∧ Byt (lineM r) ∧ 1 ≤ (lineM r).length ∧ (lineM r).length ≤ 2 ∧ (4 ≤ 4 + (r : Int) ∧ 4 + (r : Int) ≤ 8) := by
  have h5 : r = 0 ∨ r = 1 ∨ r = 2 ∨ r = 3 ∨ r = 4 := by omega
  rcases h5 with rfl | rfl | rfl | rfl | rfl <;> exact ⟨rfl, byt_lit _ rfl, by decide, by decide, by decide, by decide⟩
theorem oc_of {t : List Int} : ∀ {c : Nat → Int} {i : Nat}, (∀ j, j < t.length → c (i + j) = cL t j) → oc t c i = true := by
  induction t with
  | nil => intro c i h; rfl
  | cons x t ih =>
    intro c i h
    have h0 := h 0 (by simp)
    rw [Nat.add_zero, cL_zero] at h0
    have h1 := ih (c := c) (i := i + 1) (fun j hj => by rw [Nat.add_assoc, Nat.add_comm 1 j, h (j + 1) (by simp <;> omega), cL_cons])
    show ((c i == x) && oc t c (i + 1)) = true
    rw [h1, h0]
    simp
theorem nx_line {r : Nat} (hr : r < 5) {c : Nat → Int} {n i e : Nat} (hm : ∀ j, j < (lineM r).length → c (i + j) = cL (lineM r) j) (hs : i = 0 ∨ c (i - 1) = 32) (hie : i + (lineM r).length ≤ e) (hen : e ≤ n) (hN : ∀ j, i + (lineM r).length ≤ j → j < e → c j ≠ 10) (he : e < n → c e = 10) : nx (fam (4 + (r : Int))) c n i = ahd 3 (i + (lineM r).length) (e, fun _ => 1) := by
  obtain ⟨h1, h2, h3, h4, h5⟩ := line_is hr
  have hnt : ntB (fam (4 + (r : Int))) c i = true := by
    unfold ntB frB
    rw [h1, oc_of hm]
    rcases hs with rfl | hs
    · simp
    · rw [hs]
      simp [spB]
  have hfs : fs (oc [10] c) n (i + (lineM r).length) = e := fs_is hie hen (fun k a b => by
    rw [oc1]
    simpa using hN k a b) (fun h => by rw [oc1, he h]; rfl)
  unfold nx
  rw [if_pos hnt, h1, hfs]
/-- Programs without marks; with a remark behind them. -/
theorem code_lab {f : Int} (hf : 4 ≤ f ∧ f ≤ 8) {B : List Int} (hB : Byt B) (hp : ∀ x ∈ B, plB x = true) (j : Nat) (hj : j < B.length) : lxA (fam f) (cL B) B.length j = 4 := by
  unfold lxA
  rw [lx_code hf (cL_ch hB) (e := B.length) (Nat.le_refl _) B.length 0 rfl (Nat.zero_le _) (fun k h1 h2 => cL_all hp h2) j (Nat.zero_le _), if_pos hj]
theorem rem_lab {r : Nat} (hr : r < 5) {B N : List Int} (hB : Byt B) (hp : ∀ x ∈ B, plB x = true) (hN : Byt N) (hN10 : ∀ x ∈ N, x ≠ 10) (j : Nat) (hj : j < (B ++ [32] ++ lineM r ++ N).length) :
    lxA (fam (4 + (r : Int))) (cL (B ++ [32] ++ lineM r ++ N)) (B ++ [32] ++ lineM r ++ N).length j = if j < B.length + 1 then 4 else if j < B.length + 1 + (lineM r).length then 3 else 1 := by
  obtain ⟨h1, h2, h3, h4, h5⟩ := line_is hr
  obtain ⟨c, hc⟩ : ∃ c, cL (B ++ [32] ++ lineM r ++ N) = c := ⟨_, rfl⟩
  obtain ⟨n, hn⟩ : ∃ n, (B ++ [32] ++ lineM r ++ N).length = n := ⟨_, rfl⟩
  obtain ⟨m, hm⟩ : ∃ m, (lineM r).length = m := ⟨_, rfl⟩
  have hby : Byt (B ++ [32] ++ lineM r ++ N) := byt_app (byt_app (byt_app hB (byt_lit _ rfl)) h2) hN
  have hC : Ch c n := by
    have := cL_ch hby
    rw [hc, hn] at this
    exact this
  have hl : n = B.length + 1 + m + N.length := by rw [← hn, ← hm]; simp; omega
  have cB : ∀ k, k < B.length → c k = cL B k := fun k hk => by
    rw [← hc, cL_left _ _ (by simp <;> omega), cL_left _ _ (by simp <;> omega), cL_left _ _ hk]
  have c32 : c B.length = 32 := by
    rw [← hc, cL_left _ _ (by simp <;> omega), cL_left _ _ (by simp), cL_app (j := 0) (by omega)]
    rfl
  have cm : ∀ k, k < m → c (B.length + 1 + k) = cL (lineM r) k := fun k hk => by
    rw [← hc, cL_left _ _ (by simp <;> omega), cL_app (j := k) (by simp)]
  have cN : ∀ k, k < N.length → c (B.length + 1 + m + k) ≠ 10 := fun k hk => by
    rw [← hc, cL_app (j := k) (by simp <;> omega)]
    exact hN10 _ (cL_mem hk)
  rw [hc, hn, hm]
  rw [hn] at hj
  unfold lxA
  rw [lx_code h5 hC (e := B.length + 1) (by omega) (B.length + 1) 0 (by omega) (by omega) (fun k h1 h2 => by
    by_cases hk : k < B.length
    · rw [cB k hk]
      exact cL_all hp hk
    · obtain rfl : k = B.length := by omega
      rw [c32]
      rfl) j (Nat.zero_le _)]
  by_cases h6 : j < B.length + 1
  · rw [if_pos h6, if_pos h6]
  rw [if_neg h6, if_neg h6]
  have hnx := nx_line hr (c := c) (n := n) (i := B.length + 1) (e := n) (fun j hj => by rw [hm] at hj; exact cm j hj) (Or.inr (by rw [Nat.add_sub_cancel]; exact c32)) (by rw [hm]; omega) (Nat.le_refl _) (fun k a b => by
    rw [hm] at a
    obtain ⟨k2, rfl⟩ : ∃ k2, k = B.length + 1 + m + k2 := ⟨k - (B.length + 1 + m), by omega⟩
    exact cN k2 (by omega)) (fun h => absurd h (Nat.lt_irrefl _))
  rw [lx_at (gd_fam _) hC (by omega), hnx, hm]
  show (if j < n then (if j < B.length + 1 + m then 3 else 1) else _) = _
  rw [if_pos hj]
/-- What is behind a place is as it is by itself. -/
theorem fs_sh (P : Nat → Bool) {N s : Nat} (hs : s ≤ N) {i : Nat} (hi : s + i ≤ N) : fs P N (s + i) = s + fs (fun j => P (s + j)) (N - s) i := by
  rw [fs_shift P N (s + i) hi, fs_shift (fun j => P (s + j)) (N - s) i (by omega), show N - s - i = N - (s + i) by omega, Nat.add_assoc]
  simp only [Nat.add_assoc]
section
variable {F : Fm} {c : Nat → Int} {N s : Nat}
theorem lnE_sh (q : Qt) (hs : s ≤ N) (i : Nat) : lnE q c N (s + i) = s + lnE q (fun j => c (s + j)) (N - s) i := by
  unfold lnE
  rw [lnG_shift q c N s hs, show N - s - i = N - (s + i) by omega]
/-- Two answers, one of them so many places further on. -/
def Far (s : Nat) (a b : Nat × (Nat → Int)) : Prop := a.1 = s + b.1 ∧ ∀ j, a.2 (s + j) = b.2 j
theorem Far.ahd {a b : Nat × (Nat → Int)} (h : Far s a b) (x : Int) (k : Nat) : Far s (ahd x (s + k) a) (ahd x k b) := ⟨h.1, fun j => by
  show (if s + j < s + k then x else a.2 (s + j)) = if j < k then x else b.2 j
  rw [h.2 j]
  by_cases h1 : j < k
  · rw [if_pos h1, if_pos (by omega)]
  · rw [if_neg h1, if_neg (by omega)]⟩
theorem txR_sh (q : Qt) (hs : s ≤ N) (i : Nat) : Far s (txR q c N (s + i)) (txR q (fun j => c (s + j)) (N - s) i) := by
  unfold txR
  rw [lnE_sh q hs i]
  refine Far.ahd ⟨?_, fun j => rfl⟩ q.inn _
  dsimp only
  rw [oc_shift]
  by_cases h : oc q.mark c (s + lnE q (fun j => c (s + j)) (N - s) i) = true
  · rw [if_pos h, if_pos h, Nat.add_assoc]
  · rw [if_neg h, if_neg h]
theorem rmG_sh (hs : s ≤ N) : ∀ f d i, Far s (rmG F c N f d (s + i)) (rmG F (fun j => c (s + j)) (N - s) f d i)
  | 0, d, i => ⟨rfl, fun j => rfl⟩
  | f + 1, d, i => by
    show Far s (if d = 0 ∨ N ≤ s + i then (s + i, fun _ => (1 : Int)) else if oc F.sht c (s + i) = true then ahd 3 (s + i + F.sht.length) (rmG F c N f (d - 1) (s + i + F.sht.length)) else if (!F.nst || !oc F.opn c (s + i)) = true then ahd 1 (s + i + 1) (rmG F c N f d (s + i + 1)) else if d = 32 then (N, fun _ => 6) else ahd 3 (s + i + F.opn.length) (rmG F c N f (d + 1) (s + i + F.opn.length))) (if d = 0 ∨ N - s ≤ i then (i, fun _ => (1 : Int)) else if oc F.sht (fun j => c (s + j)) i = true then ahd 3 (i + F.sht.length) (rmG F (fun j => c (s + j)) (N - s) f (d - 1) (i + F.sht.length)) else if (!F.nst || !oc F.opn (fun j => c (s + j)) i) = true then ahd 1 (i + 1) (rmG F (fun j => c (s + j)) (N - s) f d (i + 1)) else if d = 32 then (N - s, fun _ => 6) else ahd 3 (i + F.opn.length) (rmG F (fun j => c (s + j)) (N - s) f (d + 1) (i + F.opn.length)))
    rw [oc_shift, oc_shift]
    by_cases h0 : d = 0 ∨ N ≤ s + i
    · rw [if_pos h0, if_pos (show d = 0 ∨ N - s ≤ i by omega)]
      exact ⟨rfl, fun j => rfl⟩
    rw [if_neg h0, if_neg (show ¬ (d = 0 ∨ N - s ≤ i) by omega)]
    by_cases h1 : oc F.sht c (s + i) = true
    · rw [if_pos h1, if_pos h1, Nat.add_assoc]
      exact (rmG_sh hs f _ _).ahd _ _
    rw [if_neg h1, if_neg h1]
    by_cases h2 : (!F.nst || !oc F.opn c (s + i)) = true
    · rw [if_pos h2, if_pos h2, Nat.add_assoc]
      exact (rmG_sh hs f _ _).ahd _ _
    rw [if_neg h2, if_neg h2]
    by_cases h3 : d = 32
    · rw [if_pos h3, if_pos h3]
      exact ⟨by show N = s + (N - s); omega, fun j => rfl⟩
    · rw [if_neg h3, if_neg h3, Nat.add_assoc]
      exact (rmG_sh hs f _ _).ahd _ _
theorem rm_sh (hs : s ≤ N) (d i : Nat) : Far s (rm F c N d (s + i)) (rm F (fun j => c (s + j)) (N - s) d i) := by
  unfold rm
  rw [show N - (s + i) = N - s - i by omega]
  exact rmG_sh hs _ d i
theorem nx_sh (hs : s ≤ N) {i : Nat} (hi : s + i < N) (h1 : 1 ≤ i) (hl : oc F.line c (s + i) = true → s + i + F.line.length ≤ N) : Far s (nx F c N (s + i)) (nx F (fun j => c (s + j)) (N - s) i) := by
  have hfr : frB F (fun j => c (s + j)) i = frB F c (s + i) := by
    unfold frB
    have e1 : (i == 0) = false := by simp; omega
    have e2 : (s + i == 0) = false := by simp; omega
    rw [e1, e2, show s + i - 1 = s + (i - 1) by omega]
  have hnt : ntB F (fun j => c (s + j)) i = ntB F c (s + i) := by
    unfold ntB
    rw [oc_shift, hfr]
  have hop : opB F (fun j => c (s + j)) i = opB F c (s + i) := by
    unfold opB
    rw [oc_shift]
  have hfq : fq F.qs (fun j => c (s + j)) i = fq F.qs c (s + i) := by
    unfold fq
    congr 1
    funext q
    rw [oc_shift]
  unfold nx
  rw [hnt, hop, hfq]
  by_cases h2 : ntB F c (s + i) = true
  · rw [if_pos h2, if_pos h2]
    have h3 := hl (by revert h2; unfold ntB; cases oc F.line c (s + i) <;> simp)
    rw [Nat.add_assoc]
    refine Far.ahd ⟨?_, fun j => rfl⟩ _ _
    dsimp only
    rw [fs_sh _ hs (by omega)]
    have e : (fun j => oc [10] c (s + j)) = oc [10] (fun j => c (s + j)) := by
      funext j
      rw [oc_shift]
    rw [e]
  rw [if_neg h2, if_neg h2]
  by_cases h3 : opB F c (s + i) = true
  · rw [if_pos h3, if_pos h3, Nat.add_assoc]
    exact (rm_sh hs _ _).ahd _ _
  rw [if_neg h3, if_neg h3]
  cases fq F.qs c (s + i) with
  | none => exact ⟨by show s + i + 1 = s + (i + 1); omega, fun j => rfl⟩
  | some q =>
    show Far s (ahd 4 (s + i + q.mark.length) (txR q c N (s + i + q.mark.length))) (ahd 4 (i + q.mark.length) (txR q (fun j => c (s + j)) (N - s) (i + q.mark.length)))
    rw [Nat.add_assoc]
    exact (txR_sh q hs _).ahd _ _
theorem lxG_sh (hF : GdF F) (hC : Ch c N) (hs : s ≤ N) : ∀ f i j, 1 ≤ i → lxG F c N f (s + i) (s + j) = lxG F (fun j => c (s + j)) (N - s) f i j
  | 0, i, j, h => rfl
  | f + 1, i, j, h => by
    show (if N ≤ s + i then (4 : Int) else if s + j < (nx F c N (s + i)).1 then (nx F c N (s + i)).2 (s + j) else lxG F c N f (nx F c N (s + i)).1 (s + j)) = (if N - s ≤ i then 4 else if j < (nx F (fun j => c (s + j)) (N - s) i).1 then (nx F (fun j => c (s + j)) (N - s) i).2 j else lxG F (fun j => c (s + j)) (N - s) f (nx F (fun j => c (s + j)) (N - s) i).1 j)
    by_cases h0 : N ≤ s + i
    · rw [if_pos h0, if_pos (show N - s ≤ i by omega)]
    rw [if_neg h0, if_neg (show ¬ (N - s ≤ i) by omega)]
    have hl := hF.l1
    have h1 := nx_sh (F := F) (c := c) hs (i := i) (by omega) h (fun h2 => oc_len hC.2 F.line hF.lb _ (by intro e; rw [e] at hl; exact absurd hl (by decide)) h2)
    have h2 := nx_le hF (hC.from s hs) (i := i) (by omega)
    rw [h1.1, h1.2 j]
    by_cases h3 : j < (nx F (fun j => c (s + j)) (N - s) i).1
    · rw [if_pos h3, if_pos (by omega)]
    · rw [if_neg h3, if_neg (by omega)]
      exact lxG_sh hF hC hs f _ j (by omega)
theorem lx_sh (hF : GdF F) (hC : Ch c N) (hs : s ≤ N) {i : Nat} (hi : 1 ≤ i) (j : Nat) : lx F c N (s + i) (s + j) = lx F (fun j => c (s + j)) (N - s) i j := by
  unfold lx
  rw [lxG_sh hF hC hs _ i j hi, show N - (s + i) = N - s - i by omega]
end
/-- A remark to the line's end, and what is behind it. -/
theorem line_lab {r : Nat} (hr : r < 5) {N H : List Int} (hN : Byt N) (hN10 : ∀ x ∈ N, x ≠ 10) (hH : Byt H) (j : Nat) (hj : j < (lineM r ++ N ++ [10] ++ H).length) :
    lxA (fam (4 + (r : Int))) (cL (lineM r ++ N ++ [10] ++ H)) (lineM r ++ N ++ [10] ++ H).length j = if j < (lineM r).length then 3 else if j < (lineM r).length + N.length then 1 else lxA (fam (4 + (r : Int))) (cL ([10] ++ H)) ([10] ++ H).length (j - ((lineM r).length + N.length)) := by
  obtain ⟨h1, h2, h3, h4, h5⟩ := line_is hr
  obtain ⟨c, hc⟩ : ∃ c, cL (lineM r ++ N ++ [10] ++ H) = c := ⟨_, rfl⟩
  obtain ⟨n, hn⟩ : ∃ n, (lineM r ++ N ++ [10] ++ H).length = n := ⟨_, rfl⟩
  obtain ⟨m, hm⟩ : ∃ m, (lineM r).length = m := ⟨_, rfl⟩
  have hby : Byt (lineM r ++ N ++ [10] ++ H) := byt_app (byt_app (byt_app h2 hN) (byt_lit _ rfl)) hH
  have hC : Ch c n := by
    have := cL_ch hby
    rw [hc, hn] at this
    exact this
  have hl : n = m + N.length + 1 + H.length := by rw [← hn, ← hm]; simp; omega
  have cm : ∀ k, k < m → c (0 + k) = cL (lineM r) k := fun k hk => by
    rw [Nat.zero_add, ← hc, cL_left _ _ (by simp <;> omega), cL_left _ _ (by simp <;> omega), cL_left _ _ (by omega)]
  have cN : ∀ k, k < N.length → c (m + k) ≠ 10 := fun k hk => by
    rw [← hc, cL_left _ _ (by simp <;> omega), cL_left _ _ (by simp <;> omega), cL_app (j := k) (by omega)]
    exact hN10 _ (cL_mem hk)
  have c10 : c (m + N.length) = 10 := by
    rw [← hc, cL_left _ _ (by simp <;> omega), cL_app (j := 0) (by simp <;> omega)]
    rfl
  have csh : (fun k => c (m + N.length + k)) = cL ([10] ++ H) := by
    funext k
    rw [← hc, List.append_assoc, cL_app (j := k) (by simp <;> omega)]
  rw [hc, hn, hm]
  rw [hn] at hj
  unfold lxA
  have hnx := nx_line hr (c := c) (n := n) (i := 0) (e := m + N.length) (fun j hj => by rw [hm] at hj; exact cm j hj) (Or.inl rfl) (by rw [hm]; omega) (by omega) (fun k a b => by
    rw [hm] at a
    obtain ⟨k2, rfl⟩ : ∃ k2, k = m + k2 := ⟨k - m, by omega⟩
    exact cN k2 (by omega)) (fun h => c10)
  rw [lx_at (gd_fam _) hC (by omega), hnx, hm]
  show (if j < m + N.length then (if j < 0 + m then 3 else 1) else lx (fam (4 + (r : Int))) c n (m + N.length) j) = _
  rw [Nat.zero_add]
  by_cases h6 : j < m + N.length
  · rw [if_pos h6]
    by_cases h7 : j < m
    · rw [if_pos h7, if_pos h7]
    · rw [if_neg h7, if_neg h7, if_pos h6]
  rw [if_neg h6, if_neg (by omega), if_neg h6]
  obtain ⟨k, rfl⟩ : ∃ k, j = m + N.length + k := ⟨j - (m + N.length), by omega⟩
  rw [Nat.add_sub_cancel_left]
  have hlen : ([10] ++ H).length = n - (m + N.length) := by simp; omega
  have hC2 : Ch (cL ([10] ++ H)) (n - (m + N.length)) := by
    rw [← hlen]
    exact cL_ch (byt_app (byt_lit _ rfl) hH)
  rw [hlen]
  have e1 := lx_code h5 hC (e := m + N.length + 1) (by omega) 1 (m + N.length) (by omega) (by omega) (fun q a b => by
    obtain rfl : q = m + N.length := by omega
    rw [c10]
    rfl) (m + N.length + k) (by omega)
  have e2 := lx_code h5 hC2 (e := 1) (by omega) 1 0 rfl (by omega) (fun q a b => by
    obtain rfl : q = 0 := by omega
    rfl) k (Nat.zero_le _)
  rw [e1, e2]
  by_cases h7 : k < 1
  · rw [if_pos h7, if_pos (by omega)]
  · rw [if_neg h7, if_neg (by omega), lx_sh (gd_fam _) hC (by omega) (Nat.le_refl _), csh]
end Go.Proofs.Ytgebmmbnpdhooaa
