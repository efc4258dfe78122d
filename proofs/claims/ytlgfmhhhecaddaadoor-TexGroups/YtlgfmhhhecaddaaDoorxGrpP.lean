/- tex: groups in one another, plainly. -/
import Derived.Test.YtlgfmhhhecaddaaDoorxVerP
namespace Go.Proofs.YtlgfmhhhecaddaaDoor
set_option linter.unusedVariables false
open Go.RowKit Go.ChangeShapes
/-- Brackets that open, one behind the other. -/
theorem br_opens {o s : Int} {c : Nat → Int} {n : Nat} (ho : o ≠ 92) : ∀ m i d, (∀ j, j < m → c (i + j) = o) → i + m ≤ n → br o s c n i d = if d + m ≤ 32 ∨ m = 0 then br o s c n (i + m) (d + m) else 0
  | 0, i, d, _, _ => by rw [if_pos (Or.inr rfl)]; rfl
  | m + 1, i, d, h, hn => by
    have h0 : c i = o := h 0 (by omega)
    rw [br_one (by omega), h0, if_neg ho, if_pos rfl]
    by_cases h32 : 32 < d + 1
    · rw [if_pos h32, if_neg (by omega)]
    · rw [if_neg h32, br_opens ho m (i + 1) (d + 1) (fun j hj => by rw [show i + 1 + j = i + (j + 1) by omega]; exact h _ (by omega)) (by omega)]
      rw [show i + 1 + m = i + (m + 1) by omega, show d + 1 + m = d + (m + 1) by omega]
      by_cases h1 : d + (m + 1) ≤ 32
      · rw [if_pos (Or.inl h1), if_pos (Or.inl h1)]
      · rcases Nat.eq_zero_or_pos m with h2 | h2
        · subst h2; omega
        · rw [if_neg (by omega), if_neg (by omega)]
/-- Brackets that shut, as many as are open. -/
theorem br_shuts {o s : Int} {c : Nat → Int} {n : Nat} (hs : s ≠ 92) (hos : s ≠ o) : ∀ m i, 0 < m → (∀ j, j < m → c (i + j) = s) → i + m ≤ n → br o s c n i m = i + m
  | m + 1, i, _, h, hn => by
    have h0 : c i = s := h 0 (by omega)
    rw [br_one (by omega), h0, if_neg hs, if_neg hos, if_pos rfl]
    by_cases h1 : m + 1 = 1
    · rw [if_pos h1]; omega
    · rw [if_neg h1, show m + 1 - 1 = m by omega, br_shuts hs hos m (i + 1) (by omega) (fun j hj => by rw [show i + 1 + j = i + (j + 1) by omega]; exact h _ (by omega)) (by omega)]
      omega
/-- One group: so many brackets, a letter, as many again. -/
def oneG (o s : Int) (m : Nat) : List Int := List.replicate m o ++ [119] ++ List.replicate m s
theorem oneG_len (o s : Int) (m : Nat) : (oneG o s m).length = m + 1 + m := by simp [oneG]; omega
theorem cL_rep {x : Int} {m j : Nat} (h : j < m) : cL (List.replicate m x) j = x := cL_in (by simp [h])
theorem oneG_at {o s : Int} {m j : Nat} (hj : j < m + 1 + m) : cL (oneG o s m) j = if j < m then o else if j = m then 119 else s := by
  unfold oneG
  by_cases h1 : j < m
  · rw [if_pos h1, List.append_assoc, cL_left _ _ (by simpa using h1), cL_rep h1]
  · rw [if_neg h1]
    by_cases h2 : j = m
    · subst h2
      rw [if_pos rfl, List.append_assoc, cL_app (j := 0) (by simp)]
      rfl
    · rw [if_neg h2, List.append_assoc, cL_app (j := j - m) (by simp; omega), cL_app (a := [119]) (j := j - m - 1) (by simp; omega), cL_rep (by omega)]
/-- The two kinds of brackets. -/
def Kd (o s : Int) : Prop := (o = 123 ∧ s = 125) ∨ (o = 91 ∧ s = 93)
theorem grp_one {c : Nat → Int} {n i m : Nat} {o s : Int} (hk : Kd o s) (hm : 0 < m) (h : ∀ j, j < m + 1 + m → c (i + j) = cL (oneG o s m) j) (hn : i + (m + 1 + m) ≤ n) : grp c n i = if m ≤ 32 then i + (m + 1 + m) else 0 := by
  have h0 : c i = o := by
    have := h 0 (by omega)
    rw [Nat.add_zero, oneG_at (by omega), if_pos hm] at this
    exact this
  have key : o ≠ 92 → s ≠ 92 → s ≠ o → o ≠ 119 → s ≠ 119 → br o s c n (i + 1) 1 = if m ≤ 32 then i + (m + 1 + m) else 0 := fun a1 a2 a3 a4 a5 => by
    rw [br_opens a1 (m - 1) (i + 1) 1 (fun j hj => by rw [show i + 1 + j = i + (j + 1) by omega, h _ (by omega), oneG_at (by omega), if_pos (by omega)]) (by omega)]
    by_cases h32 : m ≤ 32
    · rw [if_pos (by omega), if_pos h32, show i + 1 + (m - 1) = i + m by omega, show 1 + (m - 1) = m by omega]
      have hw : c (i + m) = 119 := by rw [h _ (by omega), oneG_at (by omega), if_neg (by omega), if_pos rfl]
      rw [br_one (by omega), hw, if_neg (by decide), if_neg (Ne.symm a4), if_neg (Ne.symm a5), br_shuts a2 a3 m (i + m + 1) hm (fun j hj => by rw [show i + m + 1 + j = i + (m + 1 + j) by omega, h _ (by omega), oneG_at (by omega), if_neg (by omega), if_neg (by omega)]) (by omega)]
      omega
    · rw [if_neg (by omega), if_neg h32]
  unfold grp
  rcases hk with ⟨rfl, rfl⟩ | ⟨rfl, rfl⟩
  · rw [if_pos h0]
    exact key (by decide) (by decide) (by decide) (by decide) (by decide)
  · rw [if_neg (by rw [h0]; decide), if_pos h0]
    exact key (by decide) (by decide) (by decide) (by decide) (by decide)
/-- Several of them. -/
def reps (o s : Int) (m : Nat) : Nat → List Int
  | 0 => []
  | q + 1 => reps o s m q ++ oneG o s m
theorem reps_len (o s : Int) (m : Nat) : ∀ q, (reps o s m q).length = q * (m + 1 + m)
  | 0 => by simp [reps]
  | q + 1 => by rw [reps, List.length_append, reps_len o s m q, oneG_len]; rw [Nat.add_mul]; omega
theorem reps_at {o s : Int} {m : Nat} : ∀ q p j, p < q → j < m + 1 + m → cL (reps o s m q) (p * (m + 1 + m) + j) = cL (oneG o s m) j
  | q + 1, p, j, hp, hj => by
    rw [reps]
    by_cases h : p = q
    · subst h
      rw [cL_app (j := j) (by rw [reps_len])]
    · have hl : p * (m + 1 + m) + j < q * (m + 1 + m) := by
        have : (p + 1) * (m + 1 + m) ≤ q * (m + 1 + m) := Nat.mul_le_mul_right _ (by omega)
        rw [Nat.add_mul] at this
        omega
      rw [cL_left _ _ (by rw [reps_len]; exact hl)]
      exact reps_at q p j (by omega) hj
theorem gps_reps {c : Nat → Int} {n i m : Nat} {o s : Int} (hk : Kd o s) (hm : 0 < m) (hm32 : m ≤ 32) (q : Nat) (h : ∀ p j, p < q → j < m + 1 + m → c (i + (p * (m + 1 + m) + j)) = cL (oneG o s m) j) (hn : i + q * (m + 1 + m) ≤ n) (he : grp c n (i + q * (m + 1 + m)) = 0) : ∀ d p, q - p = d → p ≤ q → gps c n (i + p * (m + 1 + m)) = i + q * (m + 1 + m)
  | 0, p, hd, hp => by
    obtain rfl : p = q := by omega
    exact gps_no he
  | d + 1, p, hd, hp => by
    have hle : (p + 1) * (m + 1 + m) ≤ q * (m + 1 + m) := Nat.mul_le_mul_right _ (by omega)
    rw [Nat.add_mul, Nat.one_mul] at hle
    have hg : grp c n (i + p * (m + 1 + m)) = i + (p + 1) * (m + 1 + m) := by
      rw [grp_one hk hm (fun j hj => by rw [Nat.add_assoc]; exact h p j (by omega) hj) (by omega), if_pos hm32, Nat.add_mul, Nat.one_mul]
      omega
    have hpos : 0 < (p + 1) * (m + 1 + m) := Nat.mul_pos (by omega) (by omega)
    rw [gps_one (by rw [hg]; omega), hg]
    exact gps_reps hk hm hm32 q h hn he d (p + 1) (by omega) (by omega)
/-- The names, and which of them have arguments that aren't read. -/
def gnT : List (List Int) := [[99, 105, 116, 101], [114, 101, 102], [108, 97, 98, 101, 108], [105, 110, 112, 117, 116], [117, 115, 101, 112, 97, 99, 107, 97, 103, 101], [101, 109, 112, 104], [99, 105, 116, 101, 115]]
theorem gn_ok : ∀ r, r < 7 → ∃ t, gnT[r]? = some t ∧ t.length ≤ 10 ∧ 1 ≤ t.length ∧ t.all ltB = true ∧ t.all (fun x => decide (0 ≤ x) && decide (x < 256)) = true ∧ isV t = false ∧ isBg t = false ∧ bareB t = decide (r < 5) := by decide
/-- Behind its name, byte by byte. -/
theorem one_nu {o s : Int} (hk : Kd o s) {m j : Nat} (hj : j < m + 1 + m) : nuB (cL (oneG o s m) j) = true ∧ (mk1 (cL (oneG o s m) j) = 2 ↔ ¬ (cL (oneG o s m) j = 119 ∨ cL (oneG o s m) j = 91 ∨ cL (oneG o s m) j = 93)) := by
  rw [oneG_at hj]
  rcases hk with ⟨rfl, rfl⟩ | ⟨rfl, rfl⟩
  · split
    · decide
    · split <;> decide
  · split
    · decide
    · split <;> decide
theorem reps_in {o s : Int} {m q j : Nat} (hj : j < q * (m + 1 + m)) : ∃ p k, p < q ∧ k < m + 1 + m ∧ j = p * (m + 1 + m) + k := by
  have hpos : 0 < m + 1 + m := by omega
  refine ⟨j / (m + 1 + m), j % (m + 1 + m), ?_, Nat.mod_lt _ hpos, ?_⟩
  · exact Nat.div_lt_of_lt_mul (by rw [Nat.mul_comm]; exact hj)
  · rw [Nat.mul_comm]; exact (Nat.div_add_mod j (m + 1 + m)).symm
theorem groups_lab {r m q : Nat} {t : List Int} {o s : Int} (hk : Kd o s) (hm : 0 < m) (hr : r < 7) (ht : gnT[r]? = some t) :
    let G := reps o s m q
    let n := 1 + t.length + G.length + 2
    let A := lxA (cL ([92] ++ t ++ G ++ [32, 118])) n
    A 0 = 2 ∧ A (n - 1) = 1 ∧ ∀ j, j < G.length → (A (1 + t.length + j) = 2 ↔ ¬ ((cL G j = 119 ∨ cL G j = 91 ∨ cL G j = 93) ∧ ¬ (r < 5 ∧ m ≤ 32))) := by
  intro G n A
  obtain ⟨t', ht', h10, h1, hall, hbyt, hv, hb, hbare⟩ := gn_ok r hr
  rw [ht] at ht'
  injection ht' with ht'
  subst ht'
  have htl : ∀ x ∈ t, ltB x = true := by simpa [List.all_eq_true] using hall
  have htB : Byt t := byt_lit t hbyt
  have hGl : G.length = q * (m + 1 + m) := reps_len o s m q
  have hGB : Byt G := fun x hx => by
    obtain ⟨j, hj, rfl⟩ := List.mem_iff_getElem.1 hx
    obtain ⟨p, k, hp, hk', e⟩ := reps_in (o := o) (s := s) (by rw [hGl] at hj; exact hj)
    have h2 : cL G j = G[j] := cL_in (List.getElem?_eq_getElem hj)
    rw [← h2, e, reps_at q p k hp hk', oneG_at hk']
    rcases hk with ⟨rfl, rfl⟩ | ⟨rfl, rfl⟩
    · split
      · decide
      · split <;> decide
    · split
      · decide
      · split <;> decide
  obtain ⟨c, hc⟩ : ∃ c, cL ([92] ++ t ++ G ++ [32, 118]) = c := ⟨_, rfl⟩
  have hA : A = lxA c n := by show lxA (cL _) n = _; rw [hc]
  rw [hA]
  have hc' : cL ([92] ++ (t ++ (G ++ [32, 118]))) = c := by rw [← hc]; simp
  have hby : Byt ([92] ++ t ++ G ++ [32, 118]) := byt_app (byt_app (byt_app (byt_lit _ rfl) htB) hGB) (byt_lit _ rfl)
  have hlen : ([92] ++ t ++ G ++ [32, 118]).length = n := by show _ = 1 + t.length + G.length + 2; simp; omega
  have hC : Ch c n := by
    have := cL_ch hby
    rw [hc, hlen] at this
    exact this
  have f0 : c 0 = 92 := by rw [← hc']; rfl
  have f1 : ∀ j, j < t.length → c (1 + j) = cL t j := fun j hj => by rw [← hc', cL_app (j := j) (by simp), cL_left _ _ hj]
  have f2 : ∀ j, j < G.length → c (1 + t.length + j) = cL G j := fun j hj => by rw [← hc', cL_app (j := t.length + j) (by simp; omega), cL_app (a := t) (j := j) rfl, cL_left _ _ hj]
  have f3 : c (1 + t.length + G.length) = 32 := by rw [← hc', cL_app (j := t.length + G.length) (by simp; omega), cL_app (a := t) (j := G.length) rfl, cL_app (a := G) (j := 0) (by omega)]; rfl
  have f4 : c (1 + t.length + G.length + 1) = 118 := by rw [← hc', cL_app (j := t.length + G.length + 1) (by simp; omega), cL_app (a := t) (j := G.length + 1) (by omega), cL_app (a := G) (j := 1) (by omega)]; rfl
  have hn : n = 1 + t.length + G.length + 2 := rfl
  obtain ⟨K, hK⟩ : ∃ K, 1 + t.length = K := ⟨_, rfl⟩
  rw [hK] at f2 f3 f4 hn ⊢
  have fG : ∀ p j, p < q → j < m + 1 + m → c (K + (p * (m + 1 + m) + j)) = cL (oneG o s m) j := fun p j hp hj => by
    have hl : p * (m + 1 + m) + j < q * (m + 1 + m) := by
      have : (p + 1) * (m + 1 + m) ≤ q * (m + 1 + m) := Nat.mul_le_mul_right _ (by omega)
      rw [Nat.add_mul] at this
      omega
    rw [f2 _ (by rw [hGl]; exact hl)]
    exact reps_at q p j hp hj
  have hKb : ltB (c K) = false := by
    rcases Nat.eq_zero_or_pos q with h | h
    · have : G.length = 0 := by rw [hGl, h]; simp
      rw [this, Nat.add_zero] at f3
      rw [f3]; rfl
    · have := fG 0 0 h (by omega)
      rw [Nat.zero_mul, Nat.add_zero, oneG_at (by omega), if_pos hm] at this
      rw [this]
      rcases hk with ⟨rfl, rfl⟩ | ⟨rfl, rfl⟩ <;> rfl
  have hKK := lx_cmd (K := K) hC (i := 0) (by omega) f0 (by omega) (by omega) (fun j h1 h2 => by
    obtain ⟨p, hp⟩ : ∃ p, j = 1 + p := ⟨j - 1, by omega⟩
    rw [hp, f1 p (by omega)]
    exact htl _ (cL_mem (by omega))) (fun _ => hKb)
  have hN : cmN c n 0 = t := by
    unfold cmN
    rw [hKK.1]
    exact cl_is (by omega) (fun j hj => f1 j (by omega))
  have hnx := nx_cmd (n := n) f0 hKK.2 (fun _ => 1)
  have hnu : ∀ j, K ≤ j → j < n → nuB (c j) = true := fun j h1 h2 => by
    by_cases h3 : j < K + G.length
    · obtain ⟨p, k, hp, hk', e⟩ := reps_in (o := o) (s := s) (m := m) (q := q) (j := j - K) (by omega)
      rw [show j = K + (p * (m + 1 + m) + k) by omega, fG p k hp hk']
      exact (one_nu hk hk').1
    · rcases (show j = K + G.length ∨ j = K + G.length + 1 by omega) with e | e
      · rw [e, f3]; rfl
      · rw [e, f4]; rfl
  have hle : K + q * (m + 1 + m) ≤ n := by omega
  have hge : grp c n (K + q * (m + 1 + m)) = 0 := by
    unfold grp
    rw [← hGl, f3]
    rfl
  have plain : ∀ L, (∀ i, i < K → L i = 2) → lx c n K L = byL L c K n := fun L _ => by rw [lx_by hC n (Nat.le_refl _) _ K L rfl (by omega) hnu, lx_end (Nat.le_refl _)]
  have eE0 : cmE c n 0 = if r < 5 then gps c n K else K := by
    unfold cmE
    rw [hN, hv, hb, hbare, hKK.1]
    by_cases h : r < 5
    · rw [if_pos h, decide_eq_true h]; rfl
    · rw [if_neg h, decide_eq_false h]; rfl
  have eL0 : cmL (fun _ => 1) c n 0 = if r < 5 then setL (setL (fun _ => 1) 2 0 (K : Int)) 2 (K : Int) ((gps c n K : Nat) : Int) else setL (fun _ => 1) 2 0 (K : Int) := by
    unfold cmL cm1 gpL
    rw [hN, hv, hb, hbare, hKK.1]
    by_cases h : r < 5
    · rw [if_pos h, decide_eq_true h]; rfl
    · rw [if_neg h, decide_eq_false h]; rfl
  have hall0 : lxA c n = lx c n (cmE c n 0) (cmL (fun _ => 1) c n 0) := by
    unfold lxA
    rw [lx_one hC (i := 0) (by omega), hnx.1, hnx.2]
  by_cases hbr : r < 5 ∧ m ≤ 32
  · have hgp : gps c n K = K + G.length := by
      have := gps_reps hk hm hbr.2 q fG hle hge q 0 (by omega) (by omega)
      rw [Nat.zero_mul, Nat.add_zero] at this
      rw [this, hGl]
    rw [hall0, eE0, eL0, if_pos hbr.1, if_pos hbr.1, hgp]
    rw [lx_by hC n (Nat.le_refl _) _ (K + G.length) _ rfl (by omega) (fun j h1 h2 => hnu j (by omega) h2), lx_end (Nat.le_refl _)]
    refine ⟨?_, ?_, fun j hj => ?_⟩
    · rw [byL_out (by omega), setL_out (by omega), setL_in (by omega)]
    · rw [byL_in (by omega), show n - 1 = K + G.length + 1 by omega, f4]; rfl
    · rw [byL_out (by omega), setL_in (by omega)]
      exact ⟨fun _ h => h.2 hbr, fun _ => rfl⟩
  · have hEL : cmE c n 0 = K ∧ cmL (fun _ => 1) c n 0 = setL (fun _ => 1) 2 0 (K : Int) := by
      rw [eE0, eL0]
      by_cases h5 : r < 5
      · have hgp : gps c n K = K := by
          apply gps_no
          rcases Nat.eq_zero_or_pos q with h | h
          · rw [h, Nat.zero_mul, Nat.add_zero] at hge
            exact hge
          · have h33 : ¬ m ≤ 32 := fun h => hbr ⟨h5, h⟩
            have hlq : 1 * (m + 1 + m) ≤ q * (m + 1 + m) := Nat.mul_le_mul_right _ h
            rw [Nat.one_mul] at hlq
            have := grp_one (i := K) (n := n) hk hm (fun j hj => by have := fG 0 j h hj; rw [Nat.zero_mul, Nat.zero_add] at this; exact this) (by omega)
            rw [this, if_neg h33]
        rw [if_pos h5, if_pos h5, hgp]
        refine ⟨rfl, ?_⟩
        funext j
        exact setL_none _ 2 _ _ (Int.le_refl _) j
      · rw [if_neg h5, if_neg h5]
        exact ⟨rfl, rfl⟩
    rw [hall0, hEL.1, hEL.2, lx_by hC n (Nat.le_refl _) _ K _ rfl (by omega) hnu, lx_end (Nat.le_refl _)]
    refine ⟨?_, ?_, fun j hj => ?_⟩
    · rw [byL_out (by omega), setL_in (by omega)]
    · rw [byL_in (by omega), show n - 1 = K + G.length + 1 by omega, f4]; rfl
    · obtain ⟨p, k, hp, hk', e⟩ := reps_in (o := o) (s := s) (m := m) (q := q) (j := j) (by omega)
      have h9 : cL G j = cL (oneG o s m) k := by rw [e]; exact reps_at q p k hp hk'
      rw [byL_in (by omega), f2 j hj, h9]
      have := (one_nu hk hk').2
      rw [this]
      constructor
      · intro h h'; exact h h'.1
      · intro h h'; exact h ⟨h', hbr⟩
end Go.Proofs.YtlgfmhhhecaddaaDoor
