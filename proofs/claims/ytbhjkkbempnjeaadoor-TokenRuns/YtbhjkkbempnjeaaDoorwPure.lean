/- decode, the program's numbers, plainly: digits up to 2^32 - 1; no program in this text. -/
import Derived.Test.YtbhjkkbempnjeaaDoorvPure
namespace Go.Proofs.YtbhjkkbempnjeaaDoor
set_option linter.unusedVariables false
open Go.RowKit
/-- The number that digits write, as far as 32 bits bear it; none: they are none, or it is greater. -/
def pG (b : Int) : List Int → Int → Option Int
  | [], a => some a
  | x :: l, a => if dgt x < 0 ∨ b ≤ dgt x then none else if 4294967295 < a * b + dgt x then none else pG b l (a * b + dgt x)
def pU (b : Int) (l : List Int) : Option Int := if l = [] then none else pG b l 0
theorem numG_big {b : Int} : ∀ (l : List Int) (a : Int), 1114111 < a → numG b l a = -1 ∨ numG b l a = a
  | [], a, _ => Or.inr rfl
  | x :: l, a, h => by
    by_cases hd : dgt x < 0 ∨ b ≤ dgt x
    · simp only [numG, if_pos hd]
      exact Or.inl trivial
    · simp only [numG, if_neg hd]
      rw [if_neg (by omega)]
      exact numG_big l a h
theorem pG_le {b : Int} (hb : b = 10 ∨ b = 16) : ∀ (l : List Int) (a n : Int), 0 ≤ a → pG b l a = some n → a ≤ n
  | [], a, n, _, h => by
    have e : a = n := Option.some.inj h
    omega
  | x :: l, a, n, h0, h => by
    by_cases hd : dgt x < 0 ∨ b ≤ dgt x
    · simp only [pG, if_pos hd] at h; cases h
    · by_cases ho : 4294967295 < a * b + dgt x
      · simp only [pG, if_neg hd, if_pos ho] at h; cases h
      · simp only [pG, if_neg hd, if_neg ho] at h
        have hge : a ≤ a * b + dgt x := by rcases hb with rfl | rfl <;> omega
        have := pG_le hb l (a * b + dgt x) n (by omega) h
        omega
theorem pG_top {b : Int} : ∀ (l : List Int) (a n : Int), a ≤ 4294967295 → pG b l a = some n → n ≤ 4294967295
  | [], a, n, h0, h => by
    have e : a = n := Option.some.inj h
    omega
  | x :: l, a, n, h0, h => by
    by_cases hd : dgt x < 0 ∨ b ≤ dgt x
    · simp only [pG, if_pos hd] at h; cases h
    · by_cases ho : 4294967295 < a * b + dgt x
      · simp only [pG, if_neg hd, if_pos ho] at h; cases h
      · simp only [pG, if_neg hd, if_neg ho] at h
        exact pG_top l (a * b + dgt x) n (by omega) h
theorem okN_big {x : Int} (h : 1114111 < x) : okN x = false := by
  unfold okN
  rw [decide_eq_false (show ¬ x ≤ 1114111 by omega)]
  simp
theorem pG_none {b : Int} (hb : b = 10 ∨ b = 16) : ∀ (l : List Int) (a : Int), 0 ≤ a → a ≤ 1114111 → pG b l a = none → okN (numG b l a) = false
  | [], a, _, _, h => by cases h
  | x :: l, a, h0, h1, h => by
    by_cases hd : dgt x < 0 ∨ b ≤ dgt x
    · simp only [numG, if_pos hd]
      rfl
    · have hx := dgt_le x
      have hs : a * b + dgt x ≤ 17825791 := by rcases hb with rfl | rfl <;> omega
      simp only [pG, if_neg hd] at h
      rw [if_neg (by omega)] at h
      simp only [numG, if_neg hd]
      rw [if_pos h1]
      by_cases hk : a * b + dgt x ≤ 1114111
      · exact pG_none hb l _ (by rcases hb with rfl | rfl <;> omega) hk h
      · rcases numG_big (b := b) l (a * b + dgt x) (by omega) with e | e
        · rw [e]; rfl
        · rw [e]; exact okN_big (by omega)
theorem pG_some {b : Int} (hb : b = 10 ∨ b = 16) : ∀ (l : List Int) (a n : Int), 0 ≤ a → a ≤ 1114111 → pG b l a = some n → okN (numG b l a) = okN n ∧ (okN n = true → numG b l a = n)
  | [], a, n, _, _, h => by
    have e : a = n := Option.some.inj h
    subst e
    exact ⟨rfl, fun _ => rfl⟩
  | x :: l, a, n, h0, h1, h => by
    by_cases hd : dgt x < 0 ∨ b ≤ dgt x
    · simp only [pG, if_pos hd] at h; cases h
    · have hx := dgt_le x
      have hs : a * b + dgt x ≤ 17825791 := by rcases hb with rfl | rfl <;> omega
      have h0' : 0 ≤ a * b + dgt x := by rcases hb with rfl | rfl <;> omega
      simp only [pG, if_neg hd] at h
      rw [if_neg (by omega)] at h
      simp only [numG, if_neg hd]
      rw [if_pos h1]
      by_cases hk : a * b + dgt x ≤ 1114111
      · exact pG_some hb l _ n h0' hk h
      · have hn := pG_le hb l _ n h0' h
        have hf : okN n = false := okN_big (by omega)
        refine ⟨?_, fun e => by rw [hf] at e; cases e⟩
        rw [hf]
        rcases numG_big (b := b) l (a * b + dgt x) (by omega) with e | e
        · rw [e]; rfl
        · rw [e]; exact okN_big (by omega)
theorem pU_none {b : Int} (hb : b = 10 ∨ b = 16) {l : List Int} (h : pU b l = none) : okN (num b l) = false := by
  unfold pU at h
  unfold num
  by_cases h0 : l = []
  · rw [if_pos h0]; rfl
  · rw [if_neg h0] at h
    rw [if_neg h0]
    exact pG_none hb l 0 (by omega) (by omega) h
theorem pU_some {b n : Int} (hb : b = 10 ∨ b = 16) {l : List Int} (h : pU b l = some n) : okN (num b l) = okN n ∧ (okN n = true → num b l = n) := by
  unfold pU at h
  unfold num
  by_cases h0 : l = []
  · rw [if_pos h0] at h; cases h
  · rw [if_neg h0] at h
    rw [if_neg h0]
    exact pG_some hb l 0 n (by omega) (by omega) h
theorem pU_le {b n : Int} (hb : b = 10 ∨ b = 16) {l : List Int} (h : pU b l = some n) : 0 ≤ n ∧ n ≤ 4294967295 := by
  unfold pU at h
  by_cases h0 : l = []
  · rw [if_pos h0] at h; cases h
  · rw [if_neg h0] at h
    exact ⟨pG_le hb l 0 n (by omega) h, pG_top l 0 n (by omega) h⟩
theorem pG_no {b a : Int} {c : Nat → Int} {n j : Nat} (h : j < n) (hd : dgt (c j) < 0 ∨ b ≤ dgt (c j)) : pG b (cl (fun k => c (j + k)) (n - j)) a = none := by
  rw [cl_step c h]
  show (if dgt (c j) < 0 ∨ b ≤ dgt (c j) then none else _) = _
  rw [if_pos hd]
theorem pG_over {b a : Int} {c : Nat → Int} {n j : Nat} (h : j < n) (hd : ¬ (dgt (c j) < 0 ∨ b ≤ dgt (c j))) (ho : 4294967295 < a * b + dgt (c j)) : pG b (cl (fun k => c (j + k)) (n - j)) a = none := by
  rw [cl_step c h]
  show (if dgt (c j) < 0 ∨ b ≤ dgt (c j) then none else if 4294967295 < a * b + dgt (c j) then none else _) = _
  rw [if_neg hd, if_pos ho]
theorem pG_yes {b a : Int} {c : Nat → Int} {n j : Nat} (h : j < n) (hd : ¬ (dgt (c j) < 0 ∨ b ≤ dgt (c j))) (ho : ¬ 4294967295 < a * b + dgt (c j)) : pG b (cl (fun k => c (j + k)) (n - j)) a = pG b (cl (fun k => c (j + 1 + k)) (n - (j + 1))) (a * b + dgt (c j)) := by
  rw [cl_step c h]
  show (if dgt (c j) < 0 ∨ b ≤ dgt (c j) then none else if 4294967295 < a * b + dgt (c j) then none else _) = _
  rw [if_neg hd, if_neg ho]
theorem pG_end {b a : Int} {c : Nat → Int} {n j : Nat} (h : n ≤ j) : pG b (cl (fun k => c (j + k)) (n - j)) a = some a := by
  rw [cl_none c h]
  rfl
theorem pU_cl {b : Int} {c : Nat → Int} {n : Nat} (h : 0 < n) : pU b (cl c n) = pG b (cl (fun k => c (0 + k)) (n - 0)) 0 := by
  unfold pU
  rw [if_neg (fun e => by have := congrArg List.length e; rw [cl_len] at this; exact absurd this (by simp; omega))]
  simp
/-- A sign by its number, as the program answers it. -/
def sgn (x : Int) : Value := if okN x = true then .tuple #[.int .i32 x, .bool true] else .tuple #[.int .i32 0, .bool false]
theorem sgn_yes {x : Int} (h : okN x = true) : sgn x = .tuple #[.int .i32 x, .bool true] := if_pos h
theorem sgn_no {x : Int} (h : okN x = false) : sgn x = .tuple #[.int .i32 0, .bool false] := if_neg (by rw [h]; decide)
theorem wrap_rune {x : Int} (h0 : 0 ≤ x) (h1 : x ≤ 1114111) : IntKind.i32.wrap x = x := by
  rw [IntKind.wrap_i32]; omega
end Go.Proofs.YtbhjkkbempnjeaaDoor
