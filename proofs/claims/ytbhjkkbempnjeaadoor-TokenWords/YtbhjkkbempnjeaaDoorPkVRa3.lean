/- A text's bytes. -/
import Derived.Test.YtbhjkkbempnjeaaDoorvCL
import Derived.Test.YtbhjkkbempnjeaaDoorvPure
namespace Go.Proofs.YtbhjkkbempnjeaaDoor
set_option linter.unusedVariables false
open Go.RowKit Go.ChangeShapes
/-- A text's bytes. -/
def SC (s : ByteArray) (c : Nat → Int) (n : Nat) : Prop := s.size = n ∧ Ch c n ∧ (∀ i (h : i < s.size), ((s[i]'h).toNat : Int) = c i) ∧ s = strOfNums (cl c n)
theorem sc_nums {c : Nat → Int} {n : Nat} (hC : Ch c n) : SC (strOfNums (cl c n)) c n := by
  refine ⟨by rw [strOfNums_size, cl_len], hC, fun i h => ?_, rfl⟩
  have hi : i < n := by rw [strOfNums_size, cl_len] at h; exact h
  have hb := hC.1 i hi
  show ((((strOfNums (cl c n)).data[i]'h).toNat : Nat) : Int) = c i
  have e : (strOfNums (cl c n)).data[i]'h = UInt8.ofNat (c i).toNat := by simp [strOfNums, cl]
  rw [e, UInt8.toNat_ofNat', Nat.mod_eq_of_lt (by omega)]
  omega
theorem ext_nums (l : List Int) (i j : Nat) : (strOfNums l).extract i j = strOfNums ((l.drop i).take (j - i)) := by
  apply ByteArray.ext
  apply Array.ext'
  rw [ByteArray.data_extract, strOfNums_data, Array.toList_extract, strOfNums_data, List.map_take, List.map_drop]
theorem cl_sub (c : Nat → Int) (n i m : Nat) (h : i + m ≤ n) : ((cl c n).drop i).take m = cl (fun j => c (i + j)) m := by
  apply List.ext_getElem?
  intro j
  rcases Nat.lt_or_ge j m with hj | hj
  · rw [List.getElem?_take, if_pos hj, List.getElem?_drop, cl_at _ _ _ (by omega), cl_at _ _ _ hj]
  · rw [List.getElem?_eq_none (by rw [List.length_take]; omega), List.getElem?_eq_none (by rw [cl_len]; exact hj)]
theorem cl_succ (c : Nat → Int) (m : Nat) : cl c (m + 1) = c 0 :: cl (fun j => c (1 + j)) m := by
  unfold cl
  rw [List.range_succ_eq_map, List.map_cons, List.map_map]
  congr 1
  refine List.map_congr_left fun j _ => ?_
  show c (j + 1) = c (1 + j)
  rw [Nat.add_comm]
theorem cl_oc : ∀ (t : List Int) (c : Nat → Int) (i : Nat), (cl (fun j => c (i + j)) t.length == t) = oc t c i
  | [], c, i => rfl
  | x :: t, c, i => by
    rw [List.length_cons, cl_succ]
    show ((c (i + 0) == x) && (cl (fun j => c (i + (1 + j))) t.length == t)) = ((c i == x) && oc t c (i + 1))
    have := cl_oc t c (i + 1)
    rw [← this, Nat.add_zero]
    congr 3
    funext j
    rw [Nat.add_assoc]
theorem sc_sub {s : ByteArray} {c : Nat → Int} {n : Nat} (h : SC s c n) (i e : Nat) (hie : i ≤ e) (he : e ≤ n) : s.extract i e = strOfNums (cl (fun j => c (i + j)) (e - i)) := by
  rw [h.2.2.2, ext_nums, cl_sub c n i (e - i) (by omega)]
theorem cl_byt2 {c : Nat → Int} {m : Nat} (h : ∀ j, j < m → 0 ≤ c j ∧ c j < 256) : Byt (cl c m) := fun x hx => by
  obtain ⟨j, hj, rfl⟩ := List.mem_map.1 hx
  exact h j (List.mem_range.1 hj)
end Go.Proofs.YtbhjkkbempnjeaaDoor
/- The reference: valid, number. -/
namespace Go.Proofs.YtbhjkkbempnjeaaDoor
set_option linter.unusedVariables false
open Go.RowKit Go.ChangeShapes
theorem sc_list {m : List Int} (hm : Byt m) {s : ByteArray} (hs : strOfNums m = s) : SC s (cL m) m.length := by
  have := sc_nums (cL_ch hm)
  rw [cl_cL, hs] at this
  exact this
theorem ext_drop {m : List Int} {s : ByteArray} (hs : strOfNums m = s) (i : Nat) : strOfNums (m.drop i) = s.extract i s.size := by
  rw [← hs, ext_nums, strOfNums_size, List.take_of_length_le (by rw [List.length_drop]; omega)]
end Go.Proofs.YtbhjkkbempnjeaaDoor
/- decode, the program's numbers, plainly: digits up to 2^32 - 1; no program in this text. -/
namespace Go.Proofs.YtbhjkkbempnjeaaDoor
set_option linter.unusedVariables false
open Go.RowKit
/-- The number that digits write, as far as 32 bits bear it; none: they are none, or it is greater. -/
def pG (b : Int) : List Int → Int → Option Int
  | [], a => some a
  | x :: l, a => if dgt x < 0 ∨ b ≤ dgt x then none else if 4294967295 < a * b + dgt x then none else pG b l (a * b + dgt x)
def pU (b : Int) (l : List Int) : Option Int := if l = [] then none else pG b l 0
theorem numG_big {b : Int} : ∀ (l : List Int) (a : Int), 1114111 < a → numG b l a = -1 ∨ numG b l a = a
  | [], a, _ => Or.inr rfl
  | x :: l, a, h => by
    by_cases hd : dgt x < 0 ∨ b ≤ dgt x
    · simp only [numG, if_pos hd]
      exact Or.inl trivial
    · simp only [numG, if_neg hd]
      rw [if_neg (by omega)]
      exact numG_big l a h
theorem pG_le {b : Int} (hb : b = 10 ∨ b = 16) : ∀ (l : List Int) (a n : Int), 0 ≤ a → pG b l a = some n → a ≤ n
  | [], a, n, _, h => by
    have e : a = n := Option.some.inj h
    omega
  | x :: l, a, n, h0, h => by
    by_cases hd : dgt x < 0 ∨ b ≤ dgt x
    · simp only [pG, if_pos hd] at h; cases h
    · by_cases ho : 4294967295 < a * b + dgt x
      · simp only [pG, if_neg hd, if_pos ho] at h; cases h
      · simp only [pG, if_neg hd, if_neg ho] at h
        have hge : a ≤ a * b + dgt x := by rcases hb with rfl | rfl <;> omega
        have := pG_le hb l (a * b + dgt x) n (by omega) h
        omega
theorem pG_top {b : Int} : ∀ (l : List Int) (a n : Int), a ≤ 4294967295 → pG b l a = some n → n ≤ 4294967295
  | [], a, n, h0, h => by
    have e : a = n := Option.some.inj h
    omega
  | x :: l, a, n, h0, h => by
    by_cases hd : dgt x < 0 ∨ b ≤ dgt x
    · simp only [pG, if_pos hd] at h; cases h
    · by_cases ho : 4294967295 < a * b + dgt x
      · simp only [pG, if_neg hd, if_pos ho] at h; cases h
      · simp only [pG, if_neg hd, if_neg ho] at h
        exact pG_top l (a * b + dgt x) n (by omega) h
theorem okN_big {x : Int} (h : 1114111 < x) : okN x = false := by
  unfold okN
  rw [decide_eq_false (show ¬ x ≤ 1114111 by omega)]
  simp
theorem pG_none {b : Int} (hb : b = 10 ∨ b = 16) : ∀ (l : List Int) (a : Int), 0 ≤ a → a ≤ 1114111 → pG b l a = none → okN (numG b l a) = false
  | [], a, _, _, h => by cases h
  | x :: l, a, h0, h1, h => by
    by_cases hd : dgt x < 0 ∨ b ≤ dgt x
    · simp only [numG, if_pos hd]
      rfl
    · have hx := dgt_le x
      have hs : a * b + dgt x ≤ 17825791 := by rcases hb with rfl | rfl <;> omega
      simp only [pG, if_neg hd] at h
      rw [if_neg (by omega)] at h
      simp only [numG, if_neg hd]
      rw [if_pos h1]
      by_cases hk : a * b + dgt x ≤ 1114111
      · exact pG_none hb l _ (by rcases hb with rfl | rfl <;> omega) hk h
      · rcases numG_big (b := b) l (a * b + dgt x) (by omega) with e | e
        · rw [e]; rfl
        · rw [e]; exact okN_big (by omega)
theorem pG_some {b : Int} (hb : b = 10 ∨ b = 16) : ∀ (l : List Int) (a n : Int), 0 ≤ a → a ≤ 1114111 → pG b l a = some n → okN (numG b l a) = okN n ∧ (okN n = true → numG b l a = n)
  | [], a, n, _, _, h => by
    have e : a = n := Option.some.inj h
    subst e
    exact ⟨rfl, fun _ => rfl⟩
  | x :: l, a, n, h0, h1, h => by
    by_cases hd : dgt x < 0 ∨ b ≤ dgt x
    · simp only [pG, if_pos hd] at h; cases h
    · have hx := dgt_le x
      have hs : a * b + dgt x ≤ 17825791 := by rcases hb with rfl | rfl <;> omega
      have h0' : 0 ≤ a * b + dgt x := by rcases hb with rfl | rfl <;> omega
      simp only [pG, if_neg hd] at h
      rw [if_neg (by omega)] at h
      simp only [numG, if_neg hd]
      rw [if_pos h1]
      by_cases hk : a * b + dgt x ≤ 1114111
      · exact pG_some hb l _ n h0' hk h
      · have hn := pG_le hb l _ n h0' h
        have hf : okN n = false := okN_big (by omega)
        refine ⟨?_, fun e => by rw [hf] at e; cases e⟩
        rw [hf]
        rcases numG_big (b := b) l (a * b + dgt x) (by omega) with e | e
        · rw [e]; rfl
        · rw [e]; exact okN_big (by omega)
theorem pU_none {b : Int} (hb : b = 10 ∨ b = 16) {l : List Int} (h : pU b l = none) : okN (num b l) = false := by
  unfold pU at h
  unfold num
  by_cases h0 : l = []
  · rw [if_pos h0]; rfl
  · rw [if_neg h0] at h
    rw [if_neg h0]
    exact pG_none hb l 0 (by omega) (by omega) h
theorem pU_some {b n : Int} (hb : b = 10 ∨ b = 16) {l : List Int} (h : pU b l = some n) : okN (num b l) = okN n ∧ (okN n = true → num b l = n) := by
  unfold pU at h
  unfold num
  by_cases h0 : l = []
  · rw [if_pos h0] at h; cases h
  · rw [if_neg h0] at h
    rw [if_neg h0]
    exact pG_some hb l 0 n (by omega) (by omega) h
theorem pU_le {b n : Int} (hb : b = 10 ∨ b = 16) {l : List Int} (h : pU b l = some n) : 0 ≤ n ∧ n ≤ 4294967295 := by
  unfold pU at h
  by_cases h0 : l = []
  · rw [if_pos h0] at h; cases h
  · rw [if_neg h0] at h
    exact ⟨pG_le hb l 0 n (by omega) h, pG_top l 0 n (by omega) h⟩
theorem pG_no {b a : Int} {c : Nat → Int} {n j : Nat} (h : j < n) (hd : dgt (c j) < 0 ∨ b ≤ dgt (c j)) : pG b (cl (fun k => c (j + k)) (n - j)) a = none := by
  rw [cl_step c h]
  show (if dgt (c j) < 0 ∨ b ≤ dgt (c j) then none else _) = _
  rw [if_pos hd]
theorem pG_over {b a : Int} {c : Nat → Int} {n j : Nat} (h : j < n) (hd : ¬ (dgt (c j) < 0 ∨ b ≤ dgt (c j))) (ho : 4294967295 < a * b + dgt (c j)) : pG b (cl (fun k => c (j + k)) (n - j)) a = none := by
  rw [cl_step c h]
  show (if dgt (c j) < 0 ∨ b ≤ dgt (c j) then none else if 4294967295 < a * b + dgt (c j) then none else _) = _
  rw [if_neg hd, if_pos ho]
theorem pG_yes {b a : Int} {c : Nat → Int} {n j : Nat} (h : j < n) (hd : ¬ (dgt (c j) < 0 ∨ b ≤ dgt (c j))) (ho : ¬ 4294967295 < a * b + dgt (c j)) : pG b (cl (fun k => c (j + k)) (n - j)) a = pG b (cl (fun k => c (j + 1 + k)) (n - (j + 1))) (a * b + dgt (c j)) := by
  rw [cl_step c h]
  show (if dgt (c j) < 0 ∨ b ≤ dgt (c j) then none else if 4294967295 < a * b + dgt (c j) then none else _) = _
  rw [if_neg hd, if_neg ho]
theorem pG_end {b a : Int} {c : Nat → Int} {n j : Nat} (h : n ≤ j) : pG b (cl (fun k => c (j + k)) (n - j)) a = some a := by
  rw [cl_none c h]
  rfl
theorem pU_cl {b : Int} {c : Nat → Int} {n : Nat} (h : 0 < n) : pU b (cl c n) = pG b (cl (fun k => c (0 + k)) (n - 0)) 0 := by
  unfold pU
  rw [if_neg (fun e => by have := congrArg List.length e; rw [cl_len] at this; exact absurd this (by simp; omega))]
  simp
/-- A sign by its number, as the program answers it. -/
def sgn (x : Int) : Value := if okN x = true then .tuple #[.int .i32 x, .bool true] else .tuple #[.int .i32 0, .bool false]
theorem sgn_yes {x : Int} (h : okN x = true) : sgn x = .tuple #[.int .i32 x, .bool true] := if_pos h
theorem sgn_no {x : Int} (h : okN x = false) : sgn x = .tuple #[.int .i32 0, .bool false] := if_neg (by rw [h]; decide)
theorem wrap_rune {x : Int} (h0 : 0 ≤ x) (h1 : x ≤ 1114111) : IntKind.i32.wrap x = x := by
  rw [IntKind.wrap_i32]; omega
end Go.Proofs.YtbhjkkbempnjeaaDoor
