/- Rows of lines that are put together; what hangs on rows alone. -/
import Derived.Test.YtgijihfijoiafaaGreatDoorQPLLPureBSplL
import Derived.Test.YtgijihfijoiafaaGreatDoorQPRTrSRRow
namespace Go.Proofs.YtgijihfijoiafaaGreatDoor
set_option linter.unusedVariables false
open Go.RowKit Go.ChangeShapes
theorem idx_none (c : UInt8) : ∀ l : List UInt8, c ∉ l → Lib.indexByte l c = -1
  | [], _ => rfl
  | b :: l, h => by
    have hb : ¬ b = c := fun e => h (by simp [e])
    have ih := idx_none c l (fun hm => h (List.mem_cons_of_mem _ hm))
    unfold Lib.indexByte
    rw [ih]
    simp [hb]
theorem idx_at (c : UInt8) : ∀ (a r : List UInt8), c ∉ a → Lib.indexByte (a ++ c :: r) c = a.length
  | [], r, _ => by
    show Lib.indexByte (c :: r) c = _
    unfold Lib.indexByte
    simp
  | b :: a, r, h => by
    have hb : ¬ b = c := fun e => h (by simp [e])
    have ih := idx_at c a r (fun hm => h (List.mem_cons_of_mem _ hm))
    show Lib.indexByte (b :: (a ++ c :: r)) c = _
    unfold Lib.indexByte
    rw [ih]
    have h1 : ((a.length : Int) == -1) = false := by simp only [beq_eq_false_iff_ne]; omega
    simp [hb, h1]
theorem cut_none (c : UInt8) (l : List UInt8) (h : c ∉ l) : Lib.cut l [c] = (l, [], false) := by
  unfold Lib.cut
  rw [Lib.index_one, idx_none c l h]
  rfl
theorem cut_here (c : UInt8) (a r : List UInt8) (h : c ∉ a) : Lib.cut (a ++ c :: r) [c] = (a, r, true) := by
  unfold Lib.cut
  rw [Lib.index_one, idx_at c a r h, if_pos (by omega)]
  simp
theorem trim_rt (l : List UInt8) : Lib.trimS l [32, 9, 13, 10] = (rt (pB true) l).dropWhile (pB true) := by
  rw [← trimS_T, trim_swap]
theorem trim_snoc (l : List UInt8) (a : UInt8) (h : pB true a = true) : Lib.trimS (l ++ [a]) [32, 9, 13, 10] = Lib.trimS l [32, 9, 13, 10] := by
  rw [trim_rt, trim_rt, rt_snoc, if_pos h]
/-- A line's row: what stands ahead of a remark, and of blanks. -/
theorem row_remark (x r : List UInt8) (h : (35 : UInt8) ∉ x) : rowL (x ++ 35 :: r) = Lib.trimS x [32, 9, 13, 10] := by
  unfold rowL
  rw [cut_here 35 x r h]
theorem row_plain (x : List UInt8) (h : (35 : UInt8) ∉ x) : rowL x = Lib.trimS x [32, 9, 13, 10] := by
  unfold rowL
  rw [cut_none 35 x h]
theorem row_nl (x : List UInt8) (h : (35 : UInt8) ∉ x) : rowL (x ++ [10]) = Lib.trimS x [32, 9, 13, 10] := by
  rw [row_plain _ (by simpa using h), trim_snoc _ _ (by decide)]
theorem rowB_bA (t : List UInt8) : rowB (bA t) = bA (rowL t) := by
  unfold rowB
  rw [bA_list]
  rfl
theorem runR_rows {σ : Type} (step : σ → ByteArray → σ × Int) : ∀ (l l' : List ByteArray) (j : Nat) (st : σ), l.map rowB = l'.map rowB → runR step l j st = runR step l' j st
  | [], [], _, _, _ => rfl
  | [], _ :: _, _, _, h => by simp at h
  | _ :: _, [], _, _, h => by simp at h
  | r :: l, r' :: l', j, st, h => by
    rw [List.map_cons, List.map_cons] at h
    injection h with h1 h2
    have ih := fun st => runR_rows step l l' (j + 1) st h2
    unfold runR
    rw [h1, ih, ih]
theorem longL_none : ∀ (l : List ByteArray) (j : Nat), (∀ t ∈ l, t.size ≤ 4096) → longL l j = 0
  | [], _, _ => rfl
  | t :: l, j, h => by
    unfold longL
    rw [if_neg (by have := h t (by simp); omega), longL_none l (j + 1) (fun u hu => h u (List.mem_cons_of_mem _ hu))]
theorem runR_keeps {σ : Type} (step : σ → ByteArray → σ × Int) (P : σ → Prop) (hP : ∀ st r, P st → P (step st r).1) : ∀ (l : List ByteArray) (j : Nat) (st : σ), P st → P (runR step l j st).1
  | [], _, _, h => h
  | r :: l, j, st, h => by
    unfold runR
    split
    · exact runR_keeps step P hP l (j + 1) st h
    · split
      · exact runR_keeps step P hP l (j + 1) _ (hP st _ h)
      · exact hP st _ h
/-- What ListsEnds does to a byte; to bytes. -/
def fE (x : UInt8) : UInt8 := if x = 13 ∨ x = 35 then 32 else x
def sfE : List UInt8 := [32, 9, 35, 32, 97, 32, 45, 62, 32, 98, 13]
def cE1 (x : UInt8) : List UInt8 := if fE x = 10 then sfE ++ [10] else [fE x]
def cE (l : List UInt8) : List UInt8 := l.flatMap cE1
def dE (l : List UInt8) : List UInt8 := l.map fE
theorem fE_ten (x : UInt8) : fE x = 10 ↔ x = 10 := by
  unfold fE
  split
  · rename_i h
    rcases h with rfl | rfl <;> decide
  · exact Iff.rfl
theorem fE_hash (x : UInt8) : fE x ≠ 35 := by
  unfold fE
  split
  · decide
  · rename_i h
    exact fun e => h (Or.inr e)
theorem dE_hash (l : List UInt8) : (35 : UInt8) ∉ dE l := fun h => by
  obtain ⟨x, _, e⟩ := List.mem_map.1 h
  exact fE_hash x e
theorem dE_ten {l : List UInt8} (h : (10 : UInt8) ∉ l) : (10 : UInt8) ∉ dE l := fun hm => by
  obtain ⟨x, hx, e⟩ := List.mem_map.1 hm
  exact h (by rw [← (fE_ten x).1 e]; exact hx)
theorem cE_plain : ∀ {l : List UInt8}, (10 : UInt8) ∉ l → cE l = dE l
  | [], _ => rfl
  | x :: l, h => by
    have hx : ¬ fE x = 10 := fun e => h (by rw [(fE_ten x).1 e]; simp)
    have ih := cE_plain (l := l) (fun hm => h (List.mem_cons_of_mem _ hm))
    show cE1 x ++ cE l = fE x :: dE l
    rw [ih]
    unfold cE1
    rw [if_neg hx]
    rfl
theorem cE_app (a b : List UInt8) : cE (a ++ b) = cE a ++ cE b := by simp [cE]
theorem ends_rows : ∀ (n : Nat) (l : List UInt8), l.length ≤ n → (spl (cE l)).map rowL = (spl (dE l)).map rowL ∧ (∀ t ∈ spl (cE l), t.length ≤ l.length + 12) ∧ (∀ t ∈ spl (dE l), t.length ≤ l.length + 12)
  | 0, l, h => by
    obtain rfl : l = [] := List.eq_nil_of_length_eq_zero (by omega)
    exact ⟨rfl, (fun t ht => by cases ht), (fun t ht => by cases ht)⟩
  | n + 1, l, h => by
    by_cases hm : (10 : UInt8) ∈ l
    · obtain ⟨x, r, rfl, hx⟩ := List.eq_append_cons_of_mem hm
      obtain ⟨i1, i2, i3⟩ := ends_rows n r (by simp at h; omega)
      have hd : dE (x ++ 10 :: r) = dE x ++ 10 :: dE r := by simp [dE]; rfl
      have hc : cE (x ++ 10 :: r) = (dE x ++ sfE) ++ 10 :: cE r := by
        rw [cE_app, cE_plain hx]
        show dE x ++ (cE1 10 ++ cE r) = _
        have : cE1 10 = sfE ++ [10] := by decide
        rw [this]
        simp
      have hs : (10 : UInt8) ∉ sfE := by decide
      rw [hd, hc, spl_line _ _ (dE_ten hx), spl_line _ _ (fun h => (List.mem_append.1 h).elim (dE_ten hx) hs)]
      have hl : (dE x).length = x.length := by simp [dE]
      refine ⟨?_, fun t ht => ?_, fun t ht => ?_⟩
      · rw [List.map_cons, List.map_cons, i1]
        congr 1
        rw [row_nl _ (dE_hash x)]
        have e : dE x ++ sfE ++ [10] = (dE x ++ [32, 9]) ++ 35 :: [32, 97, 32, 45, 62, 32, 98, 13, 10] := by simp [sfE]
        rw [e, row_remark _ _ (by simp [dE_hash x]), show dE x ++ [32, 9] = (dE x ++ [32]) ++ [9] by simp, trim_snoc _ _ (by decide), trim_snoc _ _ (by decide)]
      · rcases List.mem_cons.1 ht with rfl | ht
        · simp [hl, sfE]
        · have := i2 t ht
          simp
          omega
      · rcases List.mem_cons.1 ht with rfl | ht
        · simp [hl]; omega
        · have := i3 t ht
          simp
          omega
    · rw [cE_plain hm]
      refine ⟨rfl, ?_⟩
      have key : ∀ t ∈ spl (dE l), t.length ≤ l.length + 12 := fun t ht => by
        by_cases h0 : dE l = []
        · rw [h0] at ht
          cases ht
        · rw [spl_last _ (dE_ten hm) h0] at ht
          rw [List.mem_singleton.1 ht]
          simp [dE]
      exact ⟨key, key⟩
theorem ends_lines (l : List UInt8) (h : l.length ≤ 1000) : (linesL (bA (cE l))).map rowB = (linesL (bA (dE l))).map rowB ∧ longL (linesL (bA (cE l))) 0 = 0 ∧ longL (linesL (bA (dE l))) 0 = 0 := by
  obtain ⟨h1, h2, h3⟩ := ends_rows l.length l (Nat.le_refl _)
  rw [linesL_bA, linesL_bA]
  refine ⟨?_, longL_none _ _ ?_, longL_none _ _ ?_⟩
  · have := congrArg (List.map bA) h1
    rw [List.map_map, List.map_map] at this
    rw [List.map_map, List.map_map]
    have e : rowB ∘ bA = bA ∘ rowL := funext rowB_bA
    rw [e]
    exact this
  · intro t ht
    obtain ⟨u, hu, rfl⟩ := List.mem_map.1 ht
    rw [bA_size]
    have := h2 u hu
    omega
  · intro t ht
    obtain ⟨u, hu, rfl⟩ := List.mem_map.1 ht
    rw [bA_size]
    have := h3 u hu
    omega
theorem cE_len (l : List UInt8) : (cE l).length ≤ 12 * l.length := by
  induction l with
  | nil => exact Nat.le_refl _
  | cons x l ih =>
    show (cE1 x ++ cE l).length ≤ _
    rw [List.length_append, List.length_cons]
    have : (cE1 x).length ≤ 12 := by
      unfold cE1
      split
      · decide
      · simp
    omega
end Go.Proofs.YtgijihfijoiafaaGreatDoor
