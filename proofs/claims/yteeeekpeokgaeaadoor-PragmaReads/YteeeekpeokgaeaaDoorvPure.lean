/- decode: numbers, entities, escapes, plainly: no program in this text. -/
import Derived.Test.YteeeekpeokgaeaaDoorvByt
namespace Go.Proofs.YteeeekpeokgaeaaDoor
set_option linter.unusedVariables false
open Go.RowKit
/-- A digit's number; -1: it is none. -/
def dgt (x : Int) : Int := if 48 ≤ x ∧ x ≤ 57 then x - 48 else if 97 ≤ x ∧ x ≤ 102 then x - 87 else if 65 ≤ x ∧ x ≤ 70 then x - 55 else -1
theorem dgt_le (x : Int) : -1 ≤ dgt x ∧ dgt x ≤ 15 := by
  unfold dgt
  split
  · omega
  · split
    · omega
    · split <;> omega
def numG (b : Int) : List Int → Int → Int
  | [], a => a
  | x :: l, a => if dgt x < 0 ∨ b ≤ dgt x then -1 else numG b l (if a ≤ 1114111 then a * b + dgt x else a)
/-- The number that digits write; -1: they are none; if it is too great, some number that is. -/
def num (b : Int) (l : List Int) : Int := if l = [] then -1 else numG b l 0
/-- May a number be a sign? -/
def okN (x : Int) : Bool := decide (1 ≤ x) && decide (x ≤ 1114111) && (decide (x < 55296) || decide (57343 < x))
def lk (s : List Int) : Option Int :=
  if s = [97, 109, 112] then some 38 else if s = [97, 112, 111, 115] then some 39 else if s = [103, 116] then some 62 else if s = [108, 116] then some 60 else if s = [110, 98, 115, 112] then some 160 else if s = [113, 117, 111, 116] then some 34 else none
def enN (s : List Int) : Int := if s.getD 0 0 = 35 ∧ 1 < s.length then (if s.getD 1 0 = 120 ∨ s.getD 1 0 = 88 then num 16 (s.drop 2) else num 10 (s.drop 1)) else -1
def enV (s : List Int) : Option Int := match lk s with
  | some r => some r
  | none => if okN (enN s) = true then some (enN s) else none
/-- Where the first semicolon stands, among the first thirteen bytes. -/
def sc (c : Nat → Int) (n : Nat) : Nat := fs (fun j => c j == 59) (min n 13) 1
def nv (c : Nat → Int) (n : Nat) : Option (Int × Nat) := if c 0 = 38 ∧ 1 ≤ n ∧ sc c n < min n 13 then (enV (cl (fun j => c (1 + j)) (sc c n - 1))).map fun r => (r, sc c n + 1) else none
/-- An answer of Entity and Escape. -/
def ans (o : Option (Int × Nat)) : Value := match o with
  | some (r, k) => .tuple #[.int .i32 r, .int .i64 k, .bool true]
  | none => .tuple #[.int .i32 0, .int .i64 0, .bool false]
/-- How many digits an escape has. -/
def wdt (x : Int) : Nat := if x = 120 then 2 else if x = 117 then 4 else if x = 85 then 8 else 0
def shB (x : Int) : Bool := x == 34 || x == 92 || x == 36 || x == 96
def evN (c : Nat → Int) (n k : Nat) : Option (Int × Nat) := if 2 + k ≤ n ∧ okN (num 16 (cl (fun j => c (2 + j)) k)) = true then some (num 16 (cl (fun j => c (2 + j)) k), 2 + k) else none
def evI (f : Int) (c : Nat → Int) (n : Nat) (x : Int) : Option (Int × Nat) :=
  if f = 7 then (if shB x = true then some (x, 2) else none)
  else if x = 110 then some (10, 2) else if x = 114 then some (13, 2) else if x = 116 then some (9, 2)
  else if wdt x = 0 then some (x, 2) else evN c n (wdt x)
def ev (f : Int) (c : Nat → Int) (n : Nat) : Option (Int × Nat) := if 2 ≤ n ∧ c 0 = 92 ∧ c 1 ≤ 127 then evI f c n (c 1) else none
theorem ev_no {f : Int} {c : Nat → Int} {n : Nat} (h : ¬ (2 ≤ n ∧ c 0 = 92 ∧ c 1 ≤ 127)) : ev f c n = none := if_neg h
theorem ev_in {f : Int} {c : Nat → Int} {n : Nat} {x : Int} (hn : 2 ≤ n) (h0 : c 0 = 92) (h1 : c 1 = x) (hx : x ≤ 127) : ev f c n = evI f c n x := by
  unfold ev
  rw [if_pos ⟨hn, h0, by omega⟩, h1]
theorem evI_w {f : Int} (hf : f ≠ 7) (c : Nat → Int) (n : Nat) {x : Int} {k : Nat} (h : wdt x = k) (hk : k ≠ 0) : evI f c n x = evN c n k := by
  subst h
  unfold evI
  rw [if_neg hf, if_neg, if_neg, if_neg, if_neg hk]
  · intro e; rw [e] at hk; exact hk rfl
  · intro e; rw [e] at hk; exact hk rfl
  · intro e; rw [e] at hk; exact hk rfl
theorem evI_d {f : Int} (hf : f ≠ 7) (c : Nat → Int) (n : Nat) {x : Int} (h : x ≠ 110 ∧ x ≠ 114 ∧ x ≠ 116 ∧ x ≠ 120 ∧ x ≠ 117 ∧ x ≠ 85) : evI f c n x = some (x, 2) := by
  have hw : wdt x = 0 := by
    unfold wdt
    rw [if_neg h.2.2.2.1, if_neg h.2.2.2.2.1, if_neg h.2.2.2.2.2]
  unfold evI
  rw [if_neg hf, if_neg h.1, if_neg h.2.1, if_neg h.2.2.1, if_pos hw]
theorem evN_long {c : Nat → Int} {n k : Nat} (h : n < 2 + k) : evN c n k = none := by
  unfold evN
  rw [if_neg (by omega)]
theorem evN_yes {c : Nat → Int} {n k : Nat} (h : 2 + k ≤ n) (ho : okN (num 16 (cl (fun j => c (2 + j)) k)) = true) : evN c n k = some (num 16 (cl (fun j => c (2 + j)) k), 2 + k) := if_pos ⟨h, ho⟩
theorem evN_bad {c : Nat → Int} {n k : Nat} (ho : ¬ okN (num 16 (cl (fun j => c (2 + j)) k)) = true) : evN c n k = none := if_neg fun h => ho h.2
theorem numG_le {b : Int} (hb : b = 10 ∨ b = 16) : ∀ (l : List Int) (a : Int), 0 ≤ a → a ≤ 17825791 → -1 ≤ numG b l a ∧ numG b l a ≤ 17825791
  | [], a, h1, h2 => ⟨by show -1 ≤ a; omega, h2⟩
  | x :: l, a, h1, h2 => by
    by_cases hd : dgt x < 0 ∨ b ≤ dgt x
    · simp only [numG, if_pos hd]
      omega
    · simp only [numG, if_neg hd]
      have hx := dgt_le x
      by_cases ha : a ≤ 1114111
      · rw [if_pos ha]
        rcases hb with rfl | rfl
        · exact numG_le (Or.inl rfl) l _ (by omega) (by omega)
        · exact numG_le (Or.inr rfl) l _ (by omega) (by omega)
      · rw [if_neg ha]
        exact numG_le hb l a h1 h2
theorem num_le {b : Int} (hb : b = 10 ∨ b = 16) (l : List Int) : -1 ≤ num b l ∧ num b l ≤ 17825791 := by
  unfold num
  split
  · omega
  · exact numG_le hb l 0 (by decide) (by decide)
theorem cl_step (c : Nat → Int) {n j : Nat} (h : j < n) : cl (fun k => c (j + k)) (n - j) = c j :: cl (fun k => c (j + 1 + k)) (n - (j + 1)) := by
  obtain ⟨m, rfl⟩ : ∃ m, n = j + m + 1 := ⟨n - j - 1, by omega⟩
  rw [show j + m + 1 - j = m + 1 by omega, show j + m + 1 - (j + 1) = m by omega]
  unfold cl
  rw [List.range_succ_eq_map, List.map_cons, List.map_map]
  congr 1
  refine List.map_congr_left fun k _ => ?_
  show c (j + (k + 1)) = c (j + 1 + k)
  rw [Nat.add_assoc, Nat.add_comm 1 k]
theorem cl_none (c : Nat → Int) {n j : Nat} (h : n ≤ j) : cl (fun k => c (j + k)) (n - j) = [] := by
  rw [Nat.sub_eq_zero_of_le h]
  rfl
theorem numG_no {b a : Int} {c : Nat → Int} {n j : Nat} (h : j < n) (hd : dgt (c j) < 0 ∨ b ≤ dgt (c j)) : numG b (cl (fun k => c (j + k)) (n - j)) a = -1 := by
  rw [cl_step c h]
  show (if dgt (c j) < 0 ∨ b ≤ dgt (c j) then -1 else _) = _
  rw [if_pos hd]
theorem numG_yes {b a : Int} {c : Nat → Int} {n j : Nat} (h : j < n) (hd : ¬ (dgt (c j) < 0 ∨ b ≤ dgt (c j))) : numG b (cl (fun k => c (j + k)) (n - j)) a = numG b (cl (fun k => c (j + 1 + k)) (n - (j + 1))) (if a ≤ 1114111 then a * b + dgt (c j) else a) := by
  rw [cl_step c h]
  show (if dgt (c j) < 0 ∨ b ≤ dgt (c j) then -1 else _) = _
  rw [if_neg hd]
theorem numG_end {b a : Int} {c : Nat → Int} {n j : Nat} (h : n ≤ j) : numG b (cl (fun k => c (j + k)) (n - j)) a = a := by
  rw [cl_none c h]
  rfl
theorem num_cl {b : Int} {c : Nat → Int} {n : Nat} (h : 0 < n) : num b (cl c n) = numG b (cl (fun k => c (0 + k)) (n - 0)) 0 := by
  unfold num
  rw [if_neg (fun e => by have := congrArg List.length e; rw [cl_len] at this; exact absurd this (by simp; omega))]
  simp
theorem cl_drop (c : Nat → Int) {n i : Nat} (h : i ≤ n) : (cl c n).drop i = cl (fun j => c (i + j)) (n - i) := by
  apply List.ext_getElem?
  intro k
  rw [List.getElem?_drop]
  by_cases hk : k < n - i
  · rw [cl_at _ _ _ (by omega), cl_at _ _ _ hk]
  · rw [List.getElem?_eq_none (by rw [cl_len]; omega), List.getElem?_eq_none (by rw [cl_len]; omega)]
theorem nv_first {c : Nat → Int} {n : Nat} (h : n = 0 ∨ c 0 ≠ 38) : nv c n = none := by
  unfold nv
  rw [if_neg (by omega)]
theorem nv_out {c : Nat → Int} {n : Nat} (h : ∀ k, 1 ≤ k → k < min n 13 → c k ≠ 59) : nv c n = none := by
  unfold nv
  rw [if_neg]
  rintro ⟨-, h1, h2⟩
  have h3 : (c (sc c n) == 59) = true := fs_hit (P := fun j => c j == 59) h2
  exact h (sc c n) (fs_ge _ _ _) h2 (by simpa using h3)
theorem nv_hit {c : Nat → Int} {n i : Nat} (h0 : c 0 = 38) (h1 : 1 ≤ i) (hi : i < min n 13) (hc : c i = 59) (h : ∀ k, 1 ≤ k → k < i → c k ≠ 59) : nv c n = (enV (cl (fun j => c (1 + j)) (i - 1))).map fun r => (r, i + 1) := by
  have hs : sc c n = i := fs_is h1 (by omega) (fun k k1 k2 => by have := h k k1 k2; simpa using this) (fun _ => by simpa using hc)
  unfold nv
  rw [hs, if_pos ⟨h0, by omega, hi⟩]
theorem lk_no {l : List Int} (h : l ≠ [97, 109, 112] ∧ l ≠ [97, 112, 111, 115] ∧ l ≠ [103, 116] ∧ l ≠ [108, 116] ∧ l ≠ [110, 98, 115, 112] ∧ l ≠ [113, 117, 111, 116]) : enV l = if okN (enN l) = true then some (enN l) else none := by
  have : lk l = none := by
    unfold lk
    rw [if_neg h.1, if_neg h.2.1, if_neg h.2.2.1, if_neg h.2.2.2.1, if_neg h.2.2.2.2.1, if_neg h.2.2.2.2.2]
  unfold enV
  rw [this]
theorem enN_no {l : List Int} (h : l.getD 0 0 ≠ 35 ∨ l.length ≤ 1) : enN l = -1 := by
  unfold enN
  rw [if_neg (by omega)]
theorem enN_x {l : List Int} (h0 : l.getD 0 0 = 35) (h1 : 1 < l.length) (h : l.getD 1 0 = 120 ∨ l.getD 1 0 = 88) : enN l = num 16 (l.drop 2) := by
  unfold enN
  rw [if_pos ⟨h0, h1⟩, if_pos h]
theorem enN_d {l : List Int} (h0 : l.getD 0 0 = 35) (h1 : 1 < l.length) (h : ¬ (l.getD 1 0 = 120 ∨ l.getD 1 0 = 88)) : enN l = num 10 (l.drop 1) := by
  unfold enN
  rw [if_pos ⟨h0, h1⟩, if_neg h]
theorem byt_drop {l : List Int} (h : Byt l) (i : Nat) : Byt (l.drop i) := fun x hx => h x (List.mem_of_mem_drop hx)
theorem okN_le {x : Int} (h : okN x = true) : 1 ≤ x ∧ x ≤ 1114111 := by
  unfold okN at h
  simp only [Bool.and_eq_true, decide_eq_true_eq] at h
  exact h.1
end Go.Proofs.YteeeekpeokgaeaaDoor
