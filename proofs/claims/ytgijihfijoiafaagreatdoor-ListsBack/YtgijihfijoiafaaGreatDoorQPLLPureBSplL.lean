/- Lines of texts that are joined behind a newline. -/
import Derived.Test.YtgijihfijoiafaaGreatDoorQPLWalksFLLKit
import Derived.Test.YtgijihfijoiafaaGreatDoorQPLWalksULWalksW
import Derived.Test.YtgijihfijoiafaaGreatDoorQPEchWds
import Derived.Test.YtgijihfijoiafaaGreatDoorQOBy
namespace Go.Proofs.YtgijihfijoiafaaGreatDoor.Lns
set_option linter.unusedVariables false
open Go.Lib
theorem lst_left (t b : ByteArray) : ∀ i, i ≤ t.size → lst (t ++ b) i = lst t i
  | 0, _ => rfl
  | i + 1, h => by
    rw [lst_succ, lst_succ, lst_left t b i (by omega)]
    have : isSt (t ++ b) i = isSt t i := by
      cases i with
      | zero => rfl
      | succ j => rw [isSt_succ, isSt_succ]; unfold bt; rw [join_get_left t b j (by omega)]
    rw [this]
theorem isSt_right (t b : ByteArray) (ht : 0 < t.size) (hn : bt t (t.size - 1) = 10) (i : Nat) : isSt (t ++ b) (t.size + i) = isSt b i := by
  cases i with
  | zero =>
    rw [Nat.add_zero, show t.size = (t.size - 1) + 1 by omega, isSt_succ, isSt_zero]
    unfold bt at hn ⊢
    rw [join_get_left t b _ (by omega), hn]
    rfl
  | succ j =>
    rw [← Nat.add_assoc, isSt_succ, isSt_succ]
    unfold bt
    rw [join_get_right]
theorem lst_right (t b : ByteArray) (ht : 0 < t.size) (hn : bt t (t.size - 1) = 10) : ∀ i, lst (t ++ b) (t.size + i) = starts t ++ (lst b i).map (t.size + ·)
  | 0 => by rw [Nat.add_zero, lst_left t b t.size (Nat.le_refl _)]; simp [starts, lst]
  | i + 1 => by
    rw [← Nat.add_assoc, lst_succ, lst_right t b ht hn i, isSt_right t b ht hn i, lst_succ, List.map_append, List.append_assoc]
    congr 2
    split <;> simp
theorem starts_join (t b : ByteArray) (ht : 0 < t.size) (hn : bt t (t.size - 1) = 10) : starts (t ++ b) = starts t ++ (starts b).map (t.size + ·) := by
  have h := lst_right t b ht hn b.size
  unfold starts at h ⊢
  rw [join_size]
  exact h
theorem nL_join (t b : ByteArray) (ht : 0 < t.size) (hn : bt t (t.size - 1) = 10) : nL (t ++ b) = nL t + nL b := by
  unfold nL
  rw [starts_join t b ht hn, List.length_append, List.length_map]
theorem S_join_right (t b : ByteArray) (ht : 0 < t.size) (hn : bt t (t.size - 1) = 10) (j : Nat) : S (t ++ b) (nL t + j) = t.size + S b j := by
  by_cases h : j < nL b
  · have h1 := S_at (s := t ++ b) (j := nL t + j) (by rw [nL_join t b ht hn]; omega)
    rw [starts_join t b ht hn, List.getElem?_append_right (by show nL t ≤ _; omega)] at h1
    rw [show nL t + j - (starts t).length = j by show nL t + j - nL t = j; omega, List.getElem?_map, S_at h] at h1
    simpa using h1.symm
  · rw [S_big (by rw [nL_join t b ht hn]; omega), S_big (by omega), join_size]
theorem S_join_left (t b : ByteArray) (ht : 0 < t.size) (hn : bt t (t.size - 1) = 10) (j : Nat) (hj : j ≤ nL t) : S (t ++ b) j = S t j := by
  by_cases h : j < nL t
  · have h1 := S_at (s := t ++ b) (j := j) (by rw [nL_join t b ht hn]; omega)
    rw [starts_join t b ht hn, List.getElem?_append_left (by exact h), S_at h] at h1
    exact (Option.some.inj h1).symm
  · obtain rfl : j = nL t := by omega
    have := S_join_right t b ht hn 0
    rw [Nat.add_zero, S_zero] at this
    rw [this, S_big (Nat.le_refl _)]
    rfl
theorem sub_left (t b : ByteArray) (p q : Nat) (h : q ≤ t.size) : sub (t ++ b) p q = sub t p q := by
  apply ByteArray.ext
  show (t ++ b).data.extract p q = t.data.extract p q
  have h' : q ≤ t.data.size := h
  rw [ByteArray.data_append]
  apply Array.ext_getElem?
  intro i
  rw [Array.getElem?_extract, Array.getElem?_extract]
  by_cases h1 : p + i < q
  · rw [if_pos (by rw [Array.size_append]; omega), if_pos (by omega), Array.getElem?_append_left (by omega)]
  · rw [if_neg (by rw [Array.size_append]; omega), if_neg (by omega)]
theorem sub_right (t b : ByteArray) (p q : Nat) : sub (t ++ b) (t.size + p) (t.size + q) = sub b p q := by
  apply ByteArray.ext
  show (t ++ b).data.extract (t.size + p) (t.size + q) = b.data.extract p q
  rw [ByteArray.data_append, show t.size = t.data.size from rfl]
  apply Array.ext_getElem?
  intro i
  rw [Array.getElem?_extract, Array.getElem?_extract]
  by_cases h1 : i < min q b.data.size - p
  · rw [if_pos (by rw [Array.size_append]; omega), if_pos h1, Array.getElem?_append_right (by omega)]
    congr 1; omega
  · rw [if_neg (by rw [Array.size_append]; omega), if_neg h1]
theorem line_join_left (t b : ByteArray) (ht : 0 < t.size) (hn : bt t (t.size - 1) = 10) (j : Nat) (hj : j < nL t) : line (t ++ b) j = line t j := by
  unfold line
  rw [S_join_left t b ht hn j (by omega), S_join_left t b ht hn (j + 1) hj, sub_left t b _ _ (S_le t _)]
theorem line_join_right (t b : ByteArray) (ht : 0 < t.size) (hn : bt t (t.size - 1) = 10) (j : Nat) : line (t ++ b) (nL t + j) = line b j := by
  unfold line
  rw [S_join_right t b ht hn j, Nat.add_assoc, S_join_right t b ht hn (j + 1), sub_right]
theorem tcells_join (t b : ByteArray) (ht : 0 < t.size) (hn : bt t (t.size - 1) = 10) : tcells (line t) (nL t) ++ tcells (line b) (nL b) = tcells (line (t ++ b)) (nL (t ++ b)) := by
  rw [nL_join t b ht hn]
  apply List.ext_getElem?
  intro j
  by_cases h : j < nL t
  · rw [List.getElem?_append_left (by rw [tcells_len]; exact h), tcells_at _ _ j h, tcells_at _ _ j (by omega), line_join_left t b ht hn j h]
  · by_cases h2 : j < nL t + nL b
    · obtain ⟨i, rfl⟩ : ∃ i, j = nL t + i := ⟨j - nL t, by omega⟩
      rw [List.getElem?_append_right (by rw [tcells_len]; omega), tcells_len, show nL t + i - nL t = i by omega, tcells_at _ _ i (by omega), tcells_at _ _ _ h2, line_join_right t b ht hn i]
    · rw [List.getElem?_eq_none (by rw [List.length_append, tcells_len, tcells_len]; omega), List.getElem?_eq_none (by rw [tcells_len]; omega)]
theorem sub_add (s : ByteArray) (p q : Nat) (hpq : p ≤ q) (hq : q ≤ s.size) : sub s 0 p ++ sub s p q = sub s 0 q := by
  apply ByteArray.ext
  have hq' : q ≤ s.data.size := hq
  show (sub s 0 p ++ sub s p q).data = s.data.extract 0 q
  rw [ByteArray.data_append]
  show s.data.extract 0 p ++ s.data.extract p q = s.data.extract 0 q
  apply Array.ext_getElem?
  intro i
  have hz : (s.data.extract 0 p).size = p := by simp; omega
  by_cases h1 : i < p
  · rw [Array.getElem?_append_left (by omega), Array.getElem?_extract, Array.getElem?_extract, if_pos (by omega), if_pos (by omega)]
  · rw [Array.getElem?_append_right (by omega), hz, Array.getElem?_extract, Array.getElem?_extract]
    by_cases h2 : i < q
    · rw [if_pos (by omega), if_pos (by omega)]; congr 1; omega
    · rw [if_neg (by omega), if_neg (by omega)]
theorem sub_all (s : ByteArray) : sub s 0 s.size = s := by
  apply ByteArray.ext
  show s.data.extract 0 s.data.size = s.data
  simp
end Go.Proofs.YtgijihfijoiafaaGreatDoor.Lns
/- A text's lines, as lists of bytes. -/
namespace Go.Proofs.YtgijihfijoiafaaGreatDoor
set_option linter.unusedVariables false
open Go.RowKit Go.ChangeShapes
/-- Bytes, cut behind each newline. -/
def spl : List UInt8 → List (List UInt8)
  | [] => []
  | b :: l => if b = 10 then [b] :: spl l else match spl l with
    | [] => [[b]]
    | x :: xs => (b :: x) :: xs
theorem spl_line : ∀ (x r : List UInt8), (10 : UInt8) ∉ x → spl (x ++ 10 :: r) = (x ++ [10]) :: spl r
  | [], r, _ => by simp [spl]
  | b :: x, r, h => by
    have hb : ¬ b = 10 := fun e => h (by simp [e])
    have ih := spl_line x r (fun hm => h (List.mem_cons_of_mem _ hm))
    show (if b = 10 then _ else match spl (x ++ 10 :: r) with
      | [] => [[b]]
      | x :: xs => (b :: x) :: xs) = _
    rw [if_neg hb, ih]
    rfl
theorem spl_last : ∀ (x : List UInt8), (10 : UInt8) ∉ x → x ≠ [] → spl x = [x]
  | [], _, h => absurd rfl h
  | [b], h, _ => by
    have hb : ¬ b = 10 := fun e => h (by simp [e])
    simp [spl, hb]
  | b :: c :: x, h, _ => by
    have hb : ¬ b = 10 := fun e => h (by simp [e])
    have ih := spl_last (c :: x) (fun hm => h (List.mem_cons_of_mem _ hm)) (by simp)
    show (if b = 10 then _ else _) = _
    rw [if_neg hb, ih]
theorem bA_app (a b : List UInt8) : bA (a ++ b) = bA a ++ bA b := by
  apply ByteArray.ext
  rw [ByteArray.data_append]
  simp [bA]
theorem bt_bA (l : List UInt8) (i : Nat) (h : i < l.length) : bt (bA l) i = l[i].toNat := by
  unfold bt
  show ((bA l).data[i]!).toNat = _
  have h' : i < (bA l).data.size := by simpa [bA] using h
  rw [getElem!_pos (bA l).data i h']
  simp [bA]
theorem bt_end (x : List UInt8) : bt (bA (x ++ [10])) ((bA (x ++ [10])).size - 1) = 10 := by
  rw [bA_size, bt_bA _ _ (by simp)]
  simp
/-- A text without a newline but at its end is one line. -/
theorem one_line (l : List UInt8) (h0 : l ≠ []) (h : ∀ i, (hi : i + 1 < l.length) → l[i] ≠ 10) : linesL (bA l) = [bA l] := by
  have hs : 0 < (bA l).size := by rw [bA_size]; exact List.length_pos_iff.2 h0
  have hst : ∀ i, i ≤ (bA l).size → Lns.lst (bA l) i = if i = 0 then [] else [0] := by
    intro i
    induction i with
    | zero => intro _; rfl
    | succ i ih =>
      intro hi
      rw [Lns.lst_succ, ih (by omega)]
      cases i with
      | zero => simp [Lns.isSt_zero]
      | succ j =>
        have hb : bt (bA l) j ≠ 10 := by
          rw [bA_size] at hi
          rw [bt_bA l j (by omega)]
          intro e
          exact h j (by omega) (UInt8.toNat_inj.1 e)
        rw [Lns.isSt_succ]
        simp [hb]
  have hstarts : Lns.starts (bA l) = [0] := by
    have := hst (bA l).size (Nat.le_refl _)
    rw [if_neg (by omega)] at this
    exact this
  have hn : Lns.nL (bA l) = 1 := by unfold Lns.nL; rw [hstarts]; rfl
  unfold linesL
  rw [hn]
  show [Lns.line (bA l) 0] = _
  congr 1
  unfold Lns.line
  rw [Lns.S_zero, Lns.S_big (by rw [hn]; exact Nat.le_refl _), Lns.sub_all]
theorem lines_join (t b : ByteArray) (ht : 0 < t.size) (hn : bt t (t.size - 1) = 10) : linesL (t ++ b) = linesL t ++ linesL b := by
  unfold linesL
  rw [Lns.nL_join t b ht hn]
  apply List.ext_getElem
  · simp
  · intro i h1 h2
    simp only [List.length_map, List.length_range] at h1
    by_cases h : i < Lns.nL t
    · rw [List.getElem_append_left (by simpa using h)]
      simp only [List.getElem_map, List.getElem_range]
      unfold Lns.line
      rw [Lns.S_join_left t b ht hn i (by omega), Lns.S_join_left t b ht hn (i + 1) (by omega), Lns.sub_left _ _ _ _ (Lns.S_le t _)]
    · obtain ⟨k, rfl⟩ : ∃ k, i = Lns.nL t + k := ⟨i - Lns.nL t, by omega⟩
      rw [List.getElem_append_right (by simp)]
      simp only [List.getElem_map, List.getElem_range, List.length_map, List.length_range]
      unfold Lns.line
      rw [show Lns.nL t + k - Lns.nL t = k by omega, Lns.S_join_right t b ht hn k, show Lns.nL t + k + 1 = Lns.nL t + (k + 1) by omega, Lns.S_join_right t b ht hn (k + 1), Lns.sub_right]
theorem lines_zero : linesL (bA []) = [] := by
  unfold linesL
  rw [Lns.nL_zero (by rw [bA_size]; rfl)]
  rfl
theorem linesL_spl : ∀ (n : Nat) (l : List UInt8), l.length ≤ n → linesL (bA l) = (spl l).map bA
  | 0, l, h => by
    obtain rfl : l = [] := List.eq_nil_of_length_eq_zero (by omega)
    rw [lines_zero]
    rfl
  | n + 1, l, h => by
    by_cases hm : (10 : UInt8) ∈ l
    · obtain ⟨x, r, rfl, hx⟩ := List.eq_append_cons_of_mem hm
      have ih := linesL_spl n r (by simp at h; omega)
      rw [spl_line x r hx, List.map_cons, ← ih, show x ++ 10 :: r = (x ++ [10]) ++ r by simp, bA_app]
      rw [lines_join _ _ (by rw [bA_size]; simp) (bt_end x), one_line (x ++ [10]) (by simp) (fun i hi => by
        simp at hi
        rw [List.getElem_append_left hi]
        intro e
        exact hx (by rw [← e]; exact List.getElem_mem hi))]
      rfl
    · by_cases h0 : l = []
      · subst h0
        rw [lines_zero]
        rfl
      · rw [spl_last l hm h0, one_line l h0 (fun i hi e => hm (by rw [← e]; exact List.getElem_mem (by omega)))]
        rfl
theorem linesL_bA (l : List UInt8) : linesL (bA l) = (spl l).map bA := linesL_spl l.length l (Nat.le_refl _)
end Go.Proofs.YtgijihfijoiafaaGreatDoor
