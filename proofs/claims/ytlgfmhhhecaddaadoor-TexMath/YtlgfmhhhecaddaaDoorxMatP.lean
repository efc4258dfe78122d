/- tex: math's texts, plainly. -/
import Derived.Test.YtlgfmhhhecaddaaDoorxVerP
namespace Go.Proofs.YtlgfmhhhecaddaaDoor
set_option linter.unusedVariables false
open Go.RowKit Go.ChangeShapes
theorem math_fin {c : Nat → Int} {n tq : Nat} (hC : Ch c n) (f0 : c 0 = 97) (f1 : c 1 = 32) (h2 : 2 < tq) (hn : tq ≤ n) (hE : nxE c n 2 = tq) (hL : ∀ L, nxL L c n 2 = setL L 4 2 (tq : Int)) (hz : ∀ j, tq ≤ j → j < n → nuB (c j) = true ∧ mkB (c j) = false) (k : Nat) (hk : k < n) : lxA c n k = if 2 ≤ k ∧ k < tq then 4 else 1 := by
  unfold lxA
  rw [lx_by hC 2 (by omega) _ 0 _ rfl (by omega) (fun j _ hj => by
    rcases (show j = 0 ∨ j = 1 by omega) with rfl | rfl
    · rw [f0]; rfl
    · rw [f1]; rfl), lx_one hC (i := 2) (by omega), hE, hL, lx_by hC n (Nat.le_refl _) _ tq _ rfl hn (fun j h1 h2 => (hz j h1 h2).1), lx_end (Nat.le_refl _)]
  by_cases h : tq ≤ k
  · rw [if_neg (by omega), byL_in (by omega)]
    unfold mk1
    rw [(hz k h hk).2]
    rfl
  · rw [byL_out (by omega)]
    by_cases h3 : 2 ≤ k
    · rw [if_pos (by omega), setL_in (by omega)]
    · rw [if_neg (by omega), setL_out (by omega), byL_in (by omega)]
      rcases (show k = 0 ∨ k = 1 by omega) with rfl | rfl
      · rw [f0]; rfl
      · rw [f1]; rfl
theorem math_dol {c : Nat → Int} {n e : Nat} {t B : List Int} (hC : Ch c n) (hB : Bd B) (ht : t = [36] ∨ t = [36, 36]) (f2 : ∀ j, j < t.length → c (2 + j) = cL t j) (f3 : ∀ j, j < B.length → c (2 + t.length + j) = cL B j) (h3 : t = [36] → c 3 ≠ 36) (he : 2 + t.length + B.length = e) (hen : e ≤ n) (hend : e < n → oc t c e = true) :
    mtE c n 2 = min (e + t.length) n ∧ c 2 = 36 := by
  have c2 : c 2 = 36 := by
    have := f2 0 (by rcases ht with h | h <;> (rw [h]; decide))
    rw [Nat.add_zero] at this
    rw [this]
    rcases ht with h | h <;> (rw [h]; rfl)
  have hmq : mqS c 2 = t := by
    unfold mqS
    rcases ht with h | h
    · subst h
      have : oc [36, 36] c 2 = false := by
        show ((c 2 == 36) && ((c 3 == 36) && true)) = false
        rw [show (c 3 == 36) = false by simpa using h3 rfl]
        simp
      rw [this]
      rfl
    · subst h
      have c3 : c 3 = 36 := f2 1 (by decide)
      have : oc [36, 36] c 2 = true := by
        show ((c 2 == 36) && ((c 3 == 36) && true)) = true
        rw [c2, c3]
        rfl
      rw [this]
      rfl
  refine ⟨?_, c2⟩
  have hhd : ∀ j, c j ≠ 36 → oc t c j = false := fun j hj => by
    rcases ht with h | h
    · subst h
      show ((c j == 36) && true) = false
      rw [show (c j == 36) = false by simpa using hj]
      rfl
    · subst h
      show ((c j == 36) && _) = false
      rw [show (c j == 36) = false by simpa using hj]
      rfl
  unfold mtE mtK
  rw [hmq, hB.2 (oc t c) c n (2 + t.length) f3 (by omega) (fun j hj => hhd _ (by rw [f3 j hj]; exact (hB.1 _ (cL_mem hj)).1)), he]
  by_cases h : e < n
  · rw [sk_yes h (hend h)]
  · rw [sk_end _ _ (by omega)]
theorem math_par {c : Nat → Int} {n e : Nat} {y : Int} {B : List Int} (hC : Ch c n) (hy : y = 41 ∨ y = 93) (hB : Bd B) (f2 : c 2 = 92) (f3 : ∀ j, j < B.length → c (4 + j) = cL B j) (he : 4 + B.length = e) (hen : e ≤ n) (hend : e < n → oc [92, y] c e = true) :
    bh [92, y] c n 4 = if e < n then e + 2 else n := by
  have hfs : fs (oc [92, y] c) n 4 = e := by
    refine fs_is (by omega) hen (fun j h1 h2 => ?_) hend
    show ((c j == 92) && ((c (j + 1) == y) && true)) = false
    have hne : c (j + 1) ≠ y := by
      by_cases h : j + 1 < e
      · obtain ⟨q, hq⟩ : ∃ q, j + 1 = 4 + q := ⟨j + 1 - 4, by omega⟩
        rw [hq, f3 q (by omega)]
        have := hB.1 _ (cL_mem (show q < B.length by omega))
        rcases hy with rfl | rfl
        · exact this.2.1
        · exact this.2.2
      · rw [show j + 1 = e by omega]
        rcases Nat.lt_or_ge e n with h4 | h4
        · have := hend h4
          have h5 : ((c e == 92) && ((c (e + 1) == y) && true)) = true := this
          rw [Bool.and_eq_true, beq_iff_eq] at h5
          rw [h5.1]
          rcases hy with rfl | rfl <;> decide
        · rw [hC.2 e h4]
          rcases hy with rfl | rfl <;> decide
    rw [show (c (j + 1) == y) = false by simpa using hne]
    simp
  unfold bh
  rw [hfs]
  rfl
def opT : List (List Int) := [[36], [36, 36], [92, 40], [92, 91]]
def shT : List (List Int) := [[36], [36, 36], [92, 41], [92, 93]]
theorem math_yes {r : Nat} {a s B : List Int} (ha : opT[r]? = some a) (hs : shT[r]? = some s) (hB : Bd B) (hBy : Byt B) (h0 : r = 0 → B ≠ []) (k : Nat) (hk : k < 2 + a.length + B.length + s.length + 1) :
    lxA (cL ([97, 32] ++ a ++ B ++ s ++ [122])) (2 + a.length + B.length + s.length + 1) k = if 2 ≤ k ∧ k < 2 + a.length + B.length + s.length then 4 else 1 := by
  have hr : r < 4 := (List.getElem?_eq_some_iff.1 ha).1
  have hab : Byt a ∧ Byt s ∧ 1 ≤ a.length ∧ 1 ≤ s.length := by
    rcases (show r = 0 ∨ r = 1 ∨ r = 2 ∨ r = 3 by omega) with rfl | rfl | rfl | rfl <;> (injection ha with ha; injection hs with hs; subst ha hs; exact ⟨byt_lit _ rfl, byt_lit _ rfl, by decide, by decide⟩)
  obtain ⟨c, hc⟩ : ∃ c, cL ([97, 32] ++ a ++ B ++ s ++ [122]) = c := ⟨_, rfl⟩
  rw [hc]
  have hc' : cL ([97, 32] ++ (a ++ (B ++ (s ++ [122])))) = c := by rw [← hc]; simp
  have hby : Byt ([97, 32] ++ a ++ B ++ s ++ [122]) := byt_app (byt_app (byt_app (byt_app (byt_lit _ rfl) hab.1) hBy) hab.2.1) (byt_lit _ rfl)
  have hlen : ([97, 32] ++ a ++ B ++ s ++ [122]).length = 2 + a.length + B.length + s.length + 1 := by simp; omega
  have hC : Ch c (2 + a.length + B.length + s.length + 1) := by
    have := cL_ch hby
    rw [hc, hlen] at this
    exact this
  have f0 : c 0 = 97 := by rw [← hc']; rfl
  have f1 : c 1 = 32 := by rw [← hc']; rfl
  have f2 : ∀ j, j < a.length → c (2 + j) = cL a j := fun j hj => by rw [← hc', cL_app (j := j) (by simp), cL_left _ _ hj]
  have f3 : ∀ j, j < B.length → c (2 + a.length + j) = cL B j := fun j hj => by rw [← hc', cL_app (j := a.length + j) (by simp; omega), cL_app (a := a) (j := j) rfl, cL_left _ _ hj]
  have f4 : ∀ j, j < s.length → c (2 + a.length + B.length + j) = cL s j := fun j hj => by rw [← hc', cL_app (j := a.length + B.length + j) (by simp; omega), cL_app (a := a) (j := B.length + j) (by omega), cL_app (a := B) (j := j) rfl, cL_left _ _ hj]
  have f5 : c (2 + a.length + B.length + s.length) = 122 := by rw [← hc', cL_app (j := a.length + B.length + s.length) (by simp; omega), cL_app (a := a) (j := B.length + s.length) (by omega), cL_app (a := B) (j := s.length) rfl, cL_app (a := s) (j := 0) (by omega)]; rfl
  have hoc : oc s c (2 + a.length + B.length) = true := oc_of f4
  obtain ⟨n, hn⟩ : ∃ n, 2 + a.length + B.length + s.length + 1 = n := ⟨_, rfl⟩
  rw [hn] at hC hk ⊢
  refine math_fin hC f0 f1 (by omega) (by omega) ?_ ?_ (fun j h1 h2 => by rw [show j = 2 + a.length + B.length + s.length by omega, f5]; decide) k hk
  · unfold nxE
    rcases (show r = 0 ∨ r = 1 ∨ r = 2 ∨ r = 3 by omega) with rfl | rfl | rfl | rfl
    · injection ha with ha; injection hs with hs; subst ha hs
      have h9 : c 3 ≠ 36 := by
        cases B with
        | nil => exact absurd rfl (h0 rfl)
        | cons x B' =>
          have := f3 0 (by simp)
          rw [show c 3 = x from this]
          exact (hB.1 x (by simp)).1
      have := math_dol (t := [36]) hC hB (Or.inl rfl) f2 f3 (fun _ => h9) rfl (by omega) (fun _ => hoc)
      rw [if_neg (by rw [this.2]; decide), if_pos this.2, this.1]
      simp at hn ⊢
      omega
    · injection ha with ha; injection hs with hs; subst ha hs
      have := math_dol (t := [36, 36]) hC hB (Or.inr rfl) f2 f3 (fun h => absurd h (by decide)) rfl (by omega) (fun _ => hoc)
      rw [if_neg (by rw [this.2]; decide), if_pos this.2, this.1]
      simp at hn ⊢
      omega
    · injection ha with ha; injection hs with hs; subst ha hs
      have c2 : c 2 = 92 := f2 0 (by decide)
      have c3 : c 3 = 40 := f2 1 (by decide)
      rw [if_neg (by rw [c2]; decide), if_neg (by rw [c2]; decide), if_pos c2]
      unfold bkE
      rw [if_pos c3, math_par hC (Or.inl rfl) hB c2 f3 rfl (by simp at hn; omega) (fun _ => hoc), if_pos (by simp at hn; omega)]
      rfl
    · injection ha with ha; injection hs with hs; subst ha hs
      have c2 : c 2 = 92 := f2 0 (by decide)
      have c3 : c 3 = 91 := f2 1 (by decide)
      rw [if_neg (by rw [c2]; decide), if_neg (by rw [c2]; decide), if_pos c2]
      unfold bkE
      rw [if_neg (by rw [c3]; decide), if_pos c3, math_par hC (Or.inr rfl) hB c2 f3 rfl (by simp at hn; omega) (fun _ => hoc), if_pos (by simp at hn; omega)]
      rfl
  · intro L
    unfold nxL
    rcases (show r = 0 ∨ r = 1 ∨ r = 2 ∨ r = 3 by omega) with rfl | rfl | rfl | rfl
    · injection ha with ha; injection hs with hs; subst ha hs
      have h9 : c 3 ≠ 36 := by
        cases B with
        | nil => exact absurd rfl (h0 rfl)
        | cons x B' =>
          have := f3 0 (by simp)
          rw [show c 3 = x from this]
          exact (hB.1 x (by simp)).1
      have := math_dol (t := [36]) hC hB (Or.inl rfl) f2 f3 (fun _ => h9) rfl (by omega) (fun _ => hoc)
      rw [if_neg (by rw [this.2]; decide), if_pos this.2, this.1]
      congr 1
      simp at hn ⊢
      omega
    · injection ha with ha; injection hs with hs; subst ha hs
      have := math_dol (t := [36, 36]) hC hB (Or.inr rfl) f2 f3 (fun h => absurd h (by decide)) rfl (by omega) (fun _ => hoc)
      rw [if_neg (by rw [this.2]; decide), if_pos this.2, this.1]
      congr 1
      simp at hn ⊢
      omega
    · injection ha with ha; injection hs with hs; subst ha hs
      have c2 : c 2 = 92 := f2 0 (by decide)
      have c3 : c 3 = 40 := f2 1 (by decide)
      rw [if_neg (by rw [c2]; decide), if_neg (by rw [c2]; decide), if_pos c2]
      unfold bkL
      rw [if_pos c3, math_par hC (Or.inl rfl) hB c2 f3 rfl (by simp at hn; omega) (fun _ => hoc), if_pos (by simp at hn; omega)]
      rfl
    · injection ha with ha; injection hs with hs; subst ha hs
      have c2 : c 2 = 92 := f2 0 (by decide)
      have c3 : c 3 = 91 := f2 1 (by decide)
      rw [if_neg (by rw [c2]; decide), if_neg (by rw [c2]; decide), if_pos c2]
      unfold bkL
      rw [if_neg (by rw [c3]; decide), if_pos c3, math_par hC (Or.inr rfl) hB c2 f3 rfl (by simp at hn; omega) (fun _ => hoc), if_pos (by simp at hn; omega)]
      rfl
theorem math_no {r : Nat} {a B : List Int} (ha : opT[r]? = some a) (hB : Bd B) (hBy : Byt B) (h0 : r = 0 → B ≠ []) (k : Nat) (hk : k < 2 + a.length + B.length) :
    lxA (cL ([97, 32] ++ a ++ B)) (2 + a.length + B.length) k = if 2 ≤ k ∧ k < 2 + a.length + B.length then 4 else 1 := by
  have hr : r < 4 := (List.getElem?_eq_some_iff.1 ha).1
  have hab : Byt a ∧ 1 ≤ a.length := by
    rcases (show r = 0 ∨ r = 1 ∨ r = 2 ∨ r = 3 by omega) with rfl | rfl | rfl | rfl <;> (injection ha with ha; subst ha; exact ⟨byt_lit _ rfl, by decide⟩)
  obtain ⟨c, hc⟩ : ∃ c, cL ([97, 32] ++ a ++ B) = c := ⟨_, rfl⟩
  rw [hc]
  have hc' : cL ([97, 32] ++ (a ++ B)) = c := by rw [← hc]; simp
  have hby : Byt ([97, 32] ++ a ++ B) := byt_app (byt_app (byt_lit _ rfl) hab.1) hBy
  have hlen : ([97, 32] ++ a ++ B).length = 2 + a.length + B.length := by simp; omega
  have hC : Ch c (2 + a.length + B.length) := by
    have := cL_ch hby
    rw [hc, hlen] at this
    exact this
  have f0 : c 0 = 97 := by rw [← hc']; rfl
  have f1 : c 1 = 32 := by rw [← hc']; rfl
  have f2 : ∀ j, j < a.length → c (2 + j) = cL a j := fun j hj => by rw [← hc', cL_app (j := j) (by simp), cL_left _ _ hj]
  have f3 : ∀ j, j < B.length → c (2 + a.length + j) = cL B j := fun j hj => by rw [← hc', cL_app (j := a.length + j) (by simp; omega), cL_app (a := a) (j := j) rfl]
  obtain ⟨n, hn⟩ : ∃ n, 2 + a.length + B.length = n := ⟨_, rfl⟩
  rw [hn] at hC hk ⊢
  have hmin : ∀ m, min (n + m) n = n := fun m => by omega
  have hE : nxE c n 2 = n ∧ ∀ L, nxL L c n 2 = setL L 4 2 (n : Int) := by
    unfold nxE nxL
    rcases (show r = 0 ∨ r = 1 ∨ r = 2 ∨ r = 3 by omega) with rfl | rfl | rfl | rfl
    · injection ha with ha; subst ha
      have h9 : c 3 ≠ 36 := by
        cases B with
        | nil => exact absurd rfl (h0 rfl)
        | cons x B' =>
          have := f3 0 (by simp)
          rw [show c 3 = x from this]
          exact (hB.1 x (by simp)).1
      have := math_dol (t := [36]) hC hB (Or.inl rfl) f2 f3 (fun _ => h9) hn (Nat.le_refl _) (fun h => absurd h (Nat.lt_irrefl _))
      rw [if_neg (by rw [this.2]; decide), if_pos this.2, this.1, hmin]
      refine ⟨rfl, fun L => ?_⟩
      rw [if_neg (by rw [this.2]; decide), if_pos this.2]
      rfl
    · injection ha with ha; subst ha
      have := math_dol (t := [36, 36]) hC hB (Or.inr rfl) f2 f3 (fun h => absurd h (by decide)) hn (Nat.le_refl _) (fun h => absurd h (Nat.lt_irrefl _))
      rw [if_neg (by rw [this.2]; decide), if_pos this.2, this.1, hmin]
      refine ⟨rfl, fun L => ?_⟩
      rw [if_neg (by rw [this.2]; decide), if_pos this.2]
      rfl
    · injection ha with ha; subst ha
      have c2 : c 2 = 92 := f2 0 (by decide)
      have c3 : c 3 = 40 := f2 1 (by decide)
      have hm := math_par (y := 41) hC (Or.inl rfl) hB c2 f3 hn (Nat.le_refl _) (fun h => absurd h (Nat.lt_irrefl _))
      rw [if_neg (Nat.lt_irrefl _)] at hm
      rw [if_neg (by rw [c2]; decide), if_neg (by rw [c2]; decide), if_pos c2]
      unfold bkE bkL
      rw [if_pos c3, hm]
      refine ⟨rfl, fun L => ?_⟩
      rw [if_neg (by rw [c2]; decide), if_neg (by rw [c2]; decide), if_pos c2, if_pos c3]
      rfl
    · injection ha with ha; subst ha
      have c2 : c 2 = 92 := f2 0 (by decide)
      have c3 : c 3 = 91 := f2 1 (by decide)
      have hm := math_par (y := 93) hC (Or.inr rfl) hB c2 f3 hn (Nat.le_refl _) (fun h => absurd h (Nat.lt_irrefl _))
      rw [if_neg (Nat.lt_irrefl _)] at hm
      rw [if_neg (by rw [c2]; decide), if_neg (by rw [c2]; decide), if_pos c2]
      unfold bkE bkL
      rw [if_neg (by rw [c3]; decide), if_pos c3, hm]
      refine ⟨rfl, fun L => ?_⟩
      rw [if_neg (by rw [c2]; decide), if_neg (by rw [c2]; decide), if_pos c2, if_neg (by rw [c3]; decide), if_pos c3]
      rfl
  have h1 : 2 < n := by
    rcases (show r = 0 ∨ r ≠ 0 by omega) with h | h
    · omega
    · omega
  exact math_fin hC f0 f1 h1 (Nat.le_refl _) hE.1 hE.2 (fun j a b => by omega) k hk
end Go.Proofs.YtlgfmhhhecaddaaDoor
