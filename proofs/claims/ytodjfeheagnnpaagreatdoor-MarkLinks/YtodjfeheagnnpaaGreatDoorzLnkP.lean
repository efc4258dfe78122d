/- mark: a link whose place holds brackets, plainly; no program in this text. -/
import Derived.Test.YtodjfeheagnnpaaGreatDoormSpnP
namespace Go.Proofs.YtodjfeheagnnpaaGreatDoor
set_option linter.unusedVariables false
open Go.RowKit Go.ChangeShapes
/-- A line that begins with a link. -/
structure Lk (c : Nat → Int) (n : Nat) : Prop where
  ch : Ch c n
  n5 : 5 < n
  nb : n ≤ 1000
  c0 : c 0 = 91
  c1 : c 1 = 120
  c2 : c 2 = 93
  c3 : c 3 = 40
  ce : c (n - 1) = 121
  px : ∀ i, i < n → i ≠ 2 → pxB (c i) = true
  nl : ∀ i, i < n → c i ≠ 10
variable {c : Nat → Int} {n : Nat}
theorem lk_tm {c : Nat → Int} (h0 : blB (c 0) = false) : ∀ k, 0 < k → tmN c k ≠ 0
  | 0, h => absurd h (Nat.lt_irrefl _)
  | k + 1, _ => by
    show (if blB (c k) = true then tmN c k else k + 1) ≠ 0
    rcases Nat.eq_zero_or_pos k with h1 | h1
    · subst h1
      rw [h0, if_neg (by decide)]
      decide
    · split
      · exact lk_tm h0 k h1
      · omega
theorem Lk.txt (h : Lk c n) : mkA c n = tx c n 0 (fun _ => 1) := by
  have h5 := h.n5
  have h0 : 0 < n := by omega
  have hf : frP c n = 0 := fr_none h0 (by rw [h.c0]; decide)
  have hn : fs (fun j => c j == 10) n 0 = n := fs_is (Nat.zero_le _) (Nat.le_refl _) (fun k _ hk => by have := h.nl k hk; simpa using this) (fun hh => absurd hh (Nat.lt_irrefl _))
  have he : lnE c n 0 = n := by unfold lnE; rw [hn, if_neg (Nat.lt_irrefl _)]
  have hl : ln c 0 n = c := by
    funext i
    unfold ln tr sf
    rw [Nat.sub_zero, Nat.zero_add]
    by_cases hi : i < n
    · rw [if_pos hi]
    · rw [if_neg hi, h.ch.2 i (by omega)]
  have ht : tr c n = c := by
    funext i
    unfold tr
    by_cases hi : i < n
    · rw [if_pos hi]
    · rw [if_neg hi, h.ch.2 i (by omega)]
  have hL : setL (fun _ => (1 : Int)) 4 0 ((0 : Nat) : Int) = fun _ => 1 := funext fun i => setL_none _ 4 0 _ (by simp) i
  have hi0 : indP c n = 0 := by
    have : rwP 32 c n = 0 := rwP_zero (by rw [h.c0]; decide)
    unfold indP
    rw [this]
    show (if c 0 = 9 then 4 else 0) = 0
    rw [if_neg (by rw [h.c0]; decide)]
  have hbc : bdC c n = c := by
    unfold bdC
    rw [hi0, if_neg (by decide)]
    funext i
    show c (0 + i) = c i
    rw [Nat.zero_add]
  have hbn : bdN c n = n := by unfold bdN; rw [hi0, if_neg (by decide), Nat.sub_zero]
  have ho : opOk c n = false := by unfold opOk; rw [hbc, h.c0]; simp
  have hd : dfP c n = false := by
    have hj : dfJ c n = 2 := by
      unfold dfJ
      rw [hbc, hbn]
      exact fs_is (by omega) (by omega) (fun k h1 h2 => by obtain rfl : k = 1 := by omega
                                                           rw [h.c1]; rfl) (fun _ => by rw [h.c2]; rfl)
    unfold dfP
    rw [hj, hbc]
    show (c 0 == 91 && decide (1 < 2) && decide (2 < bdN c n) && (c 3 == 58)) = false
    rw [h.c3]
    simp
  have htm : tmN c n ≠ 0 := lk_tm (by rw [h.c0]; rfl) n h0
  unfold mkA
  rw [hf, hL, mk_one h0, he]
  rw [mk_end (Nat.le_refl _)]
  unfold lnL
  rw [if_neg (by decide), Nat.sub_zero, hl, if_neg htm, hi0, ho, hd, ht]
  rfl
/-- The labels, by where the bracket is shut. -/
def lkL (o : Option Nat) : Nat → Int := match o with
  | some q => setL (fun _ => 1) 2 3 (q : Int)
  | none => fun _ => 1
theorem Lk.lab (h : Lk c n) : mkA c n = lkL (shP c n 4 1) := by
  have h5 := h.n5
  have hs : shP c n 3 0 = shP c n 4 1 := by
    rw [sh_one (by omega), if_neg (by rw [h.c3]; decide), if_pos h.c3, if_neg (by decide)]
  have ho : tgO c n 3 = shP c n 4 1 := by unfold tgO; rw [if_pos h.c3, hs]
  rw [h.txt, tx_skip h.ch _ 2 0 2 (by omega) (by omega) (by omega) (fun j _ hj => h.px j (by omega) (by omega)), tx_one h.ch (by omega)]
  have hE : txE c n 2 = taE c n 3 := by unfold txE; rw [if_neg (by rw [h.c2]; decide), if_neg (by rw [h.c2]; decide), if_pos h.c2]
  have hL : txL (fun _ => 1) c n 2 = taL (fun _ => 1) c n 3 := by unfold txL; rw [if_neg (by rw [h.c2]; decide), if_neg (by rw [h.c2]; decide), if_pos h.c2]
  rw [hE, hL]
  have hle := taE_le c (n := n) (i := 3) (by omega)
  rw [tx_skip h.ch _ _ (taE c n 3) n (Nat.le_refl _) hle.2 (Nat.le_refl _) (fun j h1 h2 => h.px j h2 (by omega)), tx_end (Nat.le_refl _)]
  unfold taL
  rw [ho]
  cases shP c n 4 1 <;> rfl
/-- Brackets, counted. -/
theorem sh_plain {c : Nat → Int} {n : Nat} : ∀ d p q o, q - p ≤ d → p ≤ q → q ≤ n → (∀ j, p ≤ j → j < q → c j ≠ 92 ∧ c j ≠ 40 ∧ c j ≠ 41) → shP c n p o = shP c n q o
  | 0, p, q, o, hd, h1, h2, h => by rw [show p = q by omega]
  | d + 1, p, q, o, hd, h1, h2, h => by
    rcases Nat.lt_or_ge p q with h3 | h3
    · have hp := h p (Nat.le_refl _) h3
      rw [sh_one (by omega), if_neg hp.1, if_neg hp.2.1, if_neg hp.2.2]
      exact sh_plain d (p + 1) q o (by omega) (by omega) h2 (fun j hj => h j (by omega))
    · rw [show p = q by omega]
theorem sh_opens {c : Nat → Int} {n : Nat} : ∀ k p o, p + k ≤ n → (∀ j, p ≤ j → j < p + k → c j = 40) → o + k ≤ 32 → shP c n p o = shP c n (p + k) (o + k)
  | 0, p, o, _, _, _ => rfl
  | k + 1, p, o, h1, h2, h3 => by
    have hp := h2 p (Nat.le_refl _) (by omega)
    rw [sh_one (by omega), if_neg (by rw [hp]; decide), if_pos hp, if_neg (by omega), sh_opens k (p + 1) (o + 1) (by omega) (fun j hj hk => h2 j (by omega) (by omega)) (by omega), show p + 1 + k = p + (k + 1) by omega, show o + 1 + k = o + (k + 1) by omega]
theorem sh_deep {c : Nat → Int} {n : Nat} : ∀ k p o, p + k ≤ n → (∀ j, p ≤ j → j < p + k → c j = 40) → 32 < o + k → o ≤ 32 → shP c n p o = none
  | 0, p, o, _, _, h3, h4 => by omega
  | k + 1, p, o, h1, h2, h3, h4 => by
    have hp := h2 p (Nat.le_refl _) (by omega)
    rw [sh_one (by omega), if_neg (by rw [hp]; decide), if_pos hp]
    by_cases h5 : 32 < o + 1
    · rw [if_pos h5]
    · rw [if_neg h5]
      exact sh_deep k (p + 1) (o + 1) (by omega) (fun j hj hk => h2 j (by omega) (by omega)) (by omega) (by omega)
theorem sh_shuts {c : Nat → Int} {n : Nat} : ∀ k p o, p + k ≤ n → (∀ j, p ≤ j → j < p + k → c j = 41) → 0 < o → shP c n p (o + k) = shP c n (p + k) o
  | 0, p, o, _, _, _ => rfl
  | k + 1, p, o, h1, h2, h3 => by
    have hp := h2 p (Nat.le_refl _) (by omega)
    rw [sh_one (by omega), if_neg (by rw [hp]; decide), if_neg (by rw [hp]; decide), if_pos hp, if_neg (by omega), show o + (k + 1) - 1 = o + k by omega, sh_shuts k (p + 1) o (by omega) (fun j hj hk => h2 j (by omega) (by omega)) h3, show p + 1 + k = p + (k + 1) by omega]
/-- The text, as it is put together. -/
def lkO (k : Nat) : List Int := List.replicate k 40
def lkC (k : Nat) : List Int := List.replicate k 41
def lkB (x : Int) : Bool := x == 97 || x == 98 || x == 46 || x == 47
theorem lkB_ok {x : Int} (h : lkB x = true) : pxB x = true ∧ x ≠ 10 ∧ x ≠ 92 ∧ x ≠ 40 ∧ x ≠ 41 ∧ 0 ≤ x ∧ x < 256 := by
  unfold lkB at h
  simp only [Bool.or_eq_true, beq_iff_eq] at h
  rcases h with ((rfl | rfl) | rfl) | rfl <;> decide
def lkT (k : Nat) (I Z : List Int) : List Int := [91, 120, 93, 40] ++ (lkO k ++ (I ++ (lkC k ++ (Z ++ [32, 121]))))
theorem lkT_len (k : Nat) (I Z : List Int) : (lkT k I Z).length = 4 + k + I.length + k + Z.length + 2 := by
  simp only [lkT, lkO, lkC, List.length_append, List.length_replicate, List.length_cons, List.length_nil]
  omega
theorem lkT_lk {k : Nat} {I Z : List Int} (hk : k < 40) (hI : ∀ a ∈ I, lkB a = true) (hIl : I.length ≤ 9) (hZ : Z = [] ∨ Z = [41]) : Lk (cL (lkT k I Z)) (lkT k I Z).length := by
  have hlen := lkT_len k I Z
  have hZl : Z.length ≤ 1 := by rcases hZ with rfl | rfl <;> decide
  have hall : ∀ a ∈ lkT k I Z, (a = 91 ∨ a = 120 ∨ a = 93 ∨ a = 40 ∨ a = 41 ∨ lkB a = true ∨ a = 32 ∨ a = 121) := fun a ha => by
    unfold lkT at ha
    simp only [List.mem_append] at ha
    rcases ha with h | h | h | h | h | h
    · simp at h; rcases h with rfl | rfl | rfl | rfl <;> simp
    · rw [List.eq_of_mem_replicate h]; simp
    · simp [hI a h]
    · rw [List.eq_of_mem_replicate h]; simp
    · rcases hZ with rfl | rfl
      · cases h
      · simp at h; subst h; simp
    · simp at h; rcases h with rfl | rfl <;> simp
  have hb : ∀ a ∈ lkT k I Z, (0 ≤ a ∧ a < 256) ∧ a ≠ 10 := fun a ha => by
    rcases hall a ha with rfl | rfl | rfl | rfl | rfl | h | rfl | rfl
    all_goals first | decide | exact ⟨(lkB_ok h).2.2.2.2.2, (lkB_ok h).2.1⟩
  have hrest : ∀ a ∈ (lkO k ++ (I ++ (lkC k ++ (Z ++ [32, 121])))), pxB a = true := fun a ha => by
    simp only [List.mem_append] at ha
    rcases ha with h | h | h | h | h
    · rw [List.eq_of_mem_replicate h]; rfl
    · exact (lkB_ok (hI a h)).1
    · rw [List.eq_of_mem_replicate h]; rfl
    · rcases hZ with rfl | rfl
      · cases h
      · simp at h; subst h; rfl
    · simp at h; rcases h with rfl | rfl <;> rfl
  refine ⟨cL_ch fun a ha => (hb a ha).1, by omega, by omega, rfl, rfl, rfl, rfl, ?_, fun i hi h2 => ?_, fun i hi => ?_⟩
  · have e : lkT k I Z = ([91, 120, 93, 40] ++ (lkO k ++ (I ++ (lkC k ++ (Z ++ [32]))))) ++ [121] := by simp [lkT]
    have f : ([91, 120, 93, 40] ++ (lkO k ++ (I ++ (lkC k ++ (Z ++ [32])))) : List Int).length = (lkT k I Z).length - 1 := by have h9 := congrArg List.length e; rw [List.length_append (bs := [121]), List.length_singleton] at h9; omega
    rw [← f, e]
    have := cL_right ([91, 120, 93, 40] ++ (lkO k ++ (I ++ (lkC k ++ (Z ++ [32]))))) [121] 0
    rw [Nat.add_zero] at this
    rw [this]
    rfl
  · rcases Nat.lt_or_ge i 4 with h4 | h4
    · rcases (show i = 0 ∨ i = 1 ∨ i = 3 by omega) with rfl | rfl | rfl <;> rfl
    · have := seg_at (P := fun a => pxB a = true) [91, 120, 93, 40] (lkO k ++ (I ++ (lkC k ++ (Z ++ [32, 121])))) [] hrest i h4 (by have h9 : (lkT k I Z).length = ([91, 120, 93, 40] : List Int).length + (lkO k ++ (I ++ (lkC k ++ (Z ++ [32, 121])))).length := List.length_append; rw [← h9]; exact hi)
      rw [List.append_nil] at this
      exact this
  · rw [cL_in (List.getElem?_eq_getElem hi)]
    exact (hb _ (List.getElem_mem hi)).2
theorem lkT_sh {k : Nat} {I Z : List Int} (hk : k < 40) (hI : ∀ a ∈ I, lkB a = true) : shP (cL (lkT k I Z)) (lkT k I Z).length 4 1 = if k < 32 then shP (cL (lkT k I Z)) (lkT k I Z).length (4 + k + I.length + k) 1 else none := by
  have hlen := lkT_len k I Z
  have s1 := seg_at (P := fun a => a = 40) [91, 120, 93, 40] (lkO k) (I ++ (lkC k ++ (Z ++ [32, 121]))) (fun a ha => List.eq_of_mem_replicate ha)
  have s2 := seg_at (P := fun a => a ≠ 92 ∧ a ≠ 40 ∧ a ≠ 41) ([91, 120, 93, 40] ++ lkO k) I (lkC k ++ (Z ++ [32, 121])) (fun a ha => ⟨(lkB_ok (hI a ha)).2.2.1, (lkB_ok (hI a ha)).2.2.2.1, (lkB_ok (hI a ha)).2.2.2.2.1⟩)
  have s3 := seg_at (P := fun a => a = 41) ([91, 120, 93, 40] ++ lkO k ++ I) (lkC k) (Z ++ [32, 121]) (fun a ha => List.eq_of_mem_replicate ha)
  have e2 : ([91, 120, 93, 40] ++ lkO k) ++ (I ++ (lkC k ++ (Z ++ [32, 121]))) = lkT k I Z := by simp [lkT]
  have e3 : ([91, 120, 93, 40] ++ lkO k ++ I) ++ (lkC k ++ (Z ++ [32, 121])) = lkT k I Z := by simp [lkT]
  have f1 : (lkO k).length = k := List.length_replicate ..
  have f2 : ([91, 120, 93, 40] ++ lkO k : List Int).length = 4 + k := by rw [List.length_append, f1]; rfl
  have f3 : ([91, 120, 93, 40] ++ lkO k ++ I : List Int).length = 4 + k + I.length := by rw [List.length_append, f2]
  have f4 : (lkC k).length = k := List.length_replicate ..
  rw [f1] at s1
  rw [e2, f2] at s2
  rw [e3, f3, f4] at s3
  change ∀ j, 4 ≤ j → j < 4 + k → cL (lkT k I Z) j = 40 at s1
  by_cases h : k < 32
  · rw [if_pos h, sh_opens k 4 1 (by omega) s1 (by omega), sh_plain _ (4 + k) (4 + k + I.length) _ (Nat.le_refl _) (by omega) (by omega) s2]
    exact sh_shuts k (4 + k + I.length) 1 (by omega) s3 (by omega)
  · rw [if_neg h]
    exact sh_deep k 4 1 (by omega) s1 (by omega) (by omega)
theorem lkT_yes {k : Nat} {I : List Int} (hk : k < 40) (hI : ∀ a ∈ I, lkB a = true) : shP (cL (lkT k I [41])) (lkT k I [41]).length 4 1 = if k < 32 then some ((lkT k I [41]).length - 2) else none := by
  have hlen := lkT_len k I [41]
  rw [lkT_sh hk hI]
  by_cases h : k < 32
  · rw [if_pos h, if_pos h]
    have s := seg_at (P := fun a => a = 41) ([91, 120, 93, 40] ++ lkO k ++ I ++ lkC k) [41] [32, 121] (by simp)
    have e : ([91, 120, 93, 40] ++ lkO k ++ I ++ lkC k) ++ ([41] ++ [32, 121]) = lkT k I [41] := by simp [lkT]
    have f : ([91, 120, 93, 40] ++ lkO k ++ I ++ lkC k : List Int).length = 4 + k + I.length + k := by simp only [lkO, lkC, List.length_append, List.length_replicate, List.length_cons, List.length_nil]
    rw [e, f] at s
    have s0 := s (4 + k + I.length + k) (Nat.le_refl _) (by simp)
    simp only [List.length_cons, List.length_nil] at hlen
    rw [sh_one (by omega), if_neg (by rw [s0]; decide), if_neg (by rw [s0]; decide), if_pos s0, if_pos rfl]
    congr 1
    omega
  · rw [if_neg h, if_neg h]
theorem lkT_no {k : Nat} {I : List Int} (hk : k < 40) (hI : ∀ a ∈ I, lkB a = true) : shP (cL (lkT k I [])) (lkT k I []).length 4 1 = none := by
  have hlen := lkT_len k I []
  rw [lkT_sh hk hI]
  by_cases h : k < 32
  · rw [if_pos h]
    have s := seg_at (P := fun a => a ≠ 92 ∧ a ≠ 40 ∧ a ≠ 41) ([91, 120, 93, 40] ++ lkO k ++ I ++ lkC k) [32, 121] [] (by simp)
    have e : ([91, 120, 93, 40] ++ lkO k ++ I ++ lkC k) ++ ([32, 121] ++ []) = lkT k I [] := by simp [lkT]
    have f : ([91, 120, 93, 40] ++ lkO k ++ I ++ lkC k : List Int).length = 4 + k + I.length + k := by simp only [lkO, lkC, List.length_append, List.length_replicate, List.length_cons, List.length_nil]
    rw [e, f] at s
    simp only [List.length_nil] at hlen
    rw [sh_plain _ (4 + k + I.length + k) (lkT k I []).length 1 (Nat.le_refl _) (by omega) (Nat.le_refl _) (fun j h1 h2 => s j h1 (by simp; omega))]
    exact sh_end (Nat.le_refl _) _
  · rw [if_neg h]
end Go.Proofs.YtodjfeheagnnpaaGreatDoor
