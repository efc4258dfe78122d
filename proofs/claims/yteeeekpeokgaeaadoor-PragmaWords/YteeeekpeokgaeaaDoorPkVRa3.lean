/- A text's bytes. -/
import Derived.Test.YteeeekpeokgaeaaDoorPkVCL2
import Derived.Test.YteeeekpeokgaeaaDoorgPure
namespace Go.Proofs.YteeeekpeokgaeaaDoor
set_option linter.unusedVariables false
open Go.RowKit Go.ChangeShapes
/-- A text's bytes. -/
def SC (s : ByteArray) (c : Nat → Int) (n : Nat) : Prop := s.size = n ∧ Ch c n ∧ (∀ i (h : i < s.size), ((s[i]'h).toNat : Int) = c i) ∧ s = strOfNums (cl c n)
theorem sc_nums {c : Nat → Int} {n : Nat} (hC : Ch c n) : SC (strOfNums (cl c n)) c n := by
  refine ⟨by rw [strOfNums_size, cl_len], hC, fun i h => ?_, rfl⟩
  have hi : i < n := by rw [strOfNums_size, cl_len] at h; exact h
  have hb := hC.1 i hi
  show ((((strOfNums (cl c n)).data[i]'h).toNat : Nat) : Int) = c i
  have e : (strOfNums (cl c n)).data[i]'h = UInt8.ofNat (c i).toNat := by simp [strOfNums, cl]
  rw [e, UInt8.toNat_ofNat', Nat.mod_eq_of_lt (by omega)]
  omega
theorem ext_nums (l : List Int) (i j : Nat) : (strOfNums l).extract i j = strOfNums ((l.drop i).take (j - i)) := by
  apply ByteArray.ext
  apply Array.ext'
  rw [ByteArray.data_extract, strOfNums_data, Array.toList_extract, strOfNums_data, List.map_take, List.map_drop]
theorem cl_sub (c : Nat → Int) (n i m : Nat) (h : i + m ≤ n) : ((cl c n).drop i).take m = cl (fun j => c (i + j)) m := by
  apply List.ext_getElem?
  intro j
  rcases Nat.lt_or_ge j m with hj | hj
  · rw [List.getElem?_take, if_pos hj, List.getElem?_drop, cl_at _ _ _ (by omega), cl_at _ _ _ hj]
  · rw [List.getElem?_eq_none (by rw [List.length_take]; omega), List.getElem?_eq_none (by rw [cl_len]; exact hj)]
theorem cl_succ (c : Nat → Int) (m : Nat) : cl c (m + 1) = c 0 :: cl (fun j => c (1 + j)) m := by
  unfold cl
  rw [List.range_succ_eq_map, List.map_cons, List.map_map]
  congr 1
  refine List.map_congr_left fun j _ => ?_
  show c (j + 1) = c (1 + j)
  rw [Nat.add_comm]
theorem cl_oc : ∀ (t : List Int) (c : Nat → Int) (i : Nat), (cl (fun j => c (i + j)) t.length == t) = oc t c i
  | [], c, i => rfl
  | x :: t, c, i => by
    rw [List.length_cons, cl_succ]
    show ((c (i + 0) == x) && (cl (fun j => c (i + (1 + j))) t.length == t)) = ((c i == x) && oc t c (i + 1))
    have := cl_oc t c (i + 1)
    rw [← this, Nat.add_zero]
    congr 3
    funext j
    rw [Nat.add_assoc]
theorem sc_sub {s : ByteArray} {c : Nat → Int} {n : Nat} (h : SC s c n) (i e : Nat) (hie : i ≤ e) (he : e ≤ n) : s.extract i e = strOfNums (cl (fun j => c (i + j)) (e - i)) := by
  rw [h.2.2.2, ext_nums, cl_sub c n i (e - i) (by omega)]
theorem cl_byt2 {c : Nat → Int} {m : Nat} (h : ∀ j, j < m → 0 ≤ c j ∧ c j < 256) : Byt (cl c m) := fun x hx => by
  obtain ⟨j, hj, rfl⟩ := List.mem_map.1 hx
  exact h j (List.mem_range.1 hj)
end Go.Proofs.YteeeekpeokgaeaaDoor
/- The reference: valid, number. -/
namespace Go.Proofs.YteeeekpeokgaeaaDoor
set_option linter.unusedVariables false
open Go.RowKit Go.ChangeShapes
theorem sc_list {m : List Int} (hm : Byt m) {s : ByteArray} (hs : strOfNums m = s) : SC s (cL m) m.length := by
  have := sc_nums (cL_ch hm)
  rw [cl_cL, hs] at this
  exact this
theorem ext_drop {m : List Int} {s : ByteArray} (hs : strOfNums m = s) (i : Nat) : strOfNums (m.drop i) = s.extract i s.size := by
  rw [← hs, ext_nums, strOfNums_size, List.take_of_length_le (by rw [List.length_drop]; omega)]
end Go.Proofs.YteeeekpeokgaeaaDoor
/- decode: the signs of a part, plainly. -/
namespace Go.Proofs.YteeeekpeokgaeaaDoor
set_option linter.unusedVariables false
open Go.RowKit
/-- A sign and where it stands. -/
structure U3 where
  r : Int
  a : Int
  n : Int
def U3.cs (u : U3) : List Value := [.int .i32 u.r, .int .i64 u.a, .int .i64 u.n]
def uC (l : List U3) : List Value := l.flatMap U3.cs
theorem uC_app (l m : List U3) : uC (l ++ m) = uC l ++ uC m := by simp [uC]
theorem uC_len : ∀ l : List U3, (uC l).length = l.length * 3
  | [] => rfl
  | u :: l => by
    show (u.cs ++ uC l).length = _
    rw [List.length_append, uC_len l, List.length_cons]
    show 3 + _ = _
    omega
theorem uC_at : ∀ (l : List U3) (i : Nat) (u : U3), l[i]? = some u → (uC l)[i * 3]? = some (.int .i32 u.r) ∧ (uC l)[i * 3 + 1]? = some (.int .i64 u.a) ∧ (uC l)[i * 3 + 2]? = some (.int .i64 u.n)
  | [], i, u, h => by simp at h
  | x :: l, 0, u, h => by
    obtain rfl : x = u := by simpa using h
    exact ⟨rfl, rfl, rfl⟩
  | x :: l, i + 1, u, h => by
    have h' : l[i]? = some u := by simpa using h
    obtain ⟨h1, h2, h3⟩ := uC_at l i u h'
    have e : ∀ j, (uC (x :: l))[(i * 3 + j) + 3]? = (uC l)[i * 3 + j]? := fun j => by
      show (x.cs ++ uC l)[(i * 3 + j) + 3]? = _
      rw [List.getElem?_append_right (by show 3 ≤ _; omega)]
      congr 1
    exact ⟨by rw [← h1, show (i + 1) * 3 = i * 3 + 0 + 3 by omega, e 0]; rfl, by rw [← h2, show (i + 1) * 3 + 1 = i * 3 + 1 + 3 by omega, e 1], by rw [← h3, show (i + 1) * 3 + 2 = i * 3 + 2 + 3 by omega, e 2]⟩
/-- The next sign of bytes. -/
def nx (c : Nat → Int) (n : Nat) : Int × Nat := (rn (strOfNums (cl c n)) 0, wd (strOfNums (cl c n)) 0)
theorem nx_le {c : Nat → Int} {n : Nat} (h : 0 < n) : 1 ≤ (nx c n).2 ∧ (nx c n).2 ≤ n ∧ -1 ≤ (nx c n).1 ∧ (nx c n).1 ≤ 1114111 := by
  have hs : (strOfNums (cl c n)).size = n := by rw [strOfNums_size, cl_len]
  have h1 := wd_pos (strOfNums (cl c n)) 0 (by omega)
  have h2 := rn_range (strOfNums (cl c n)) 0 (by omega)
  refine ⟨h1.1, by have := h1.2.1; rw [hs] at this; show wd _ 0 ≤ n; omega, ?_, ?_⟩
  · rcases h2 with h2 | h2
    · show -1 ≤ rn _ 0; omega
    · have := (okR_iff _).1 h2; show -1 ≤ rn _ 0; omega
  · rcases h2 with h2 | h2
    · show rn _ 0 ≤ _; omega
    · have := (okR_iff _).1 h2; show rn _ 0 ≤ _; omega
/-- An ASCII sign, neither letter nor digit. -/
def sgB (x : Int) : Bool := decide (33 ≤ x) && decide (x ≤ 126) && !(decide (97 ≤ x) && decide (x ≤ 122)) && !(decide (65 ≤ x) && decide (x ≤ 90)) && !(decide (48 ≤ x) && decide (x ≤ 57))
def bsB (c : Nat → Int) (n : Nat) : Bool := decide (2 ≤ n) && c 0 == 92 && sgB (c 1)
def dqB (c : Nat → Int) (n : Nat) : Bool := decide (2 ≤ n) && c 0 == 39 && c 1 == 39
def oN (o : Option (Int × Nat)) (d : Int × Nat) : Int × Nat := match o with
  | some x => x
  | none => d
theorem oN_none (d : Int × Nat) : oN none d = d := rfl
theorem oN_some (x d : Int × Nat) : oN (some x) d = x := rfl
/-- The sign with which what is left of a part begins. -/
def u1 (f l : Int) (c : Nat → Int) (n : Nat) : Int × Nat :=
  if l = 1 ∧ (f = 1 ∨ f = 2) then oN (nv c n) (if f = 2 ∧ bsB c n = true then (c 1, 2) else nx c n)
  else if l = 5 ∧ f = 8 then (if dqB c n = true then (39, 2) else nx c n)
  else if l = 5 ∧ 4 ≤ f ∧ f ≤ 7 then oN (ev f c n) (nx c n)
  else nx c n
theorem nv_le {c : Nat → Int} {n : Nat} {x : Int × Nat} (h : nv c n = some x) : 2 ≤ x.2 ∧ x.2 ≤ n ∧ 1 ≤ x.1 ∧ x.1 ≤ 1114111 := by
  unfold nv at h
  by_cases h0 : c 0 = 38 ∧ 1 ≤ n ∧ sc c n < min n 13
  · rw [if_pos h0] at h
    obtain ⟨r, hr, rfl⟩ := Option.map_eq_some_iff.1 h
    have h1 : 1 ≤ sc c n := fs_ge _ _ _
    refine ⟨by show 2 ≤ sc c n + 1; omega, by show sc c n + 1 ≤ n; omega, ?_⟩
    show 1 ≤ r ∧ r ≤ 1114111
    unfold enV at hr
    cases hl : lk (cl (fun j => c (1 + j)) (sc c n - 1)) with
    | some y =>
      rw [hl] at hr
      obtain rfl : y = r := by simpa using hr
      unfold lk at hl
      repeat' split at hl
      all_goals first | (injection hl with hl; omega) | (cases hl)
    | none =>
      rw [hl] at hr
      dsimp only at hr
      split at hr
      · rename_i ho
        injection hr with hr
        subst hr
        exact okN_le ho
      · cases hr
  · rw [if_neg h0] at h
    cases h
theorem ev_le {f : Int} {c : Nat → Int} {n : Nat} {x : Int × Nat} (hc : 2 ≤ n → 0 ≤ c 1) (h : ev f c n = some x) : 2 ≤ x.2 ∧ x.2 ≤ n ∧ 0 ≤ x.1 ∧ x.1 ≤ 1114111 := by
  unfold ev at h
  by_cases h0 : 2 ≤ n ∧ c 0 = 92 ∧ c 1 ≤ 127
  · rw [if_pos h0] at h
    have h1 := hc h0.1
    have hn := h0.1
    have h7 := h0.2.2
    unfold evI evN at h
    repeat' split at h
    all_goals first
      | (cases h; done)
      | (injection h with h; subst h; exact ⟨Nat.le_refl 2, by show 2 ≤ n; omega, by dsimp only; omega, by dsimp only; omega⟩)
      | (rename_i ho; injection h with h; subst h; have hk := okN_le ho.2; exact ⟨by dsimp only; omega, by dsimp only; omega, by dsimp only; omega, by dsimp only; omega⟩)
  · rw [if_neg h0] at h
    cases h
theorem u1_le {f l : Int} {c : Nat → Int} {n : Nat} (hn : 0 < n) (hc : 2 ≤ n → 0 ≤ c 1 ∧ c 1 ≤ 255) : 1 ≤ (u1 f l c n).2 ∧ (u1 f l c n).2 ≤ n ∧ -1 ≤ (u1 f l c n).1 ∧ (u1 f l c n).1 ≤ 1114111 := by
  have hx := nx_le (c := c) hn
  unfold u1
  split
  · cases h : nv c n with
    | some x =>
      have := nv_le h
      show 1 ≤ x.2 ∧ x.2 ≤ n ∧ -1 ≤ x.1 ∧ x.1 ≤ 1114111
      omega
    | none =>
      show 1 ≤ (if f = 2 ∧ bsB c n = true then (c 1, 2) else nx c n).2 ∧ (if f = 2 ∧ bsB c n = true then (c 1, 2) else nx c n).2 ≤ n ∧ -1 ≤ (if f = 2 ∧ bsB c n = true then (c 1, 2) else nx c n).1 ∧ (if f = 2 ∧ bsB c n = true then (c 1, 2) else nx c n).1 ≤ 1114111
      split
      · rename_i hb
        have h2 : 2 ≤ n := by
          have := hb.2
          unfold bsB at this
          simp only [Bool.and_eq_true, decide_eq_true_eq] at this
          exact this.1.1
        have := hc h2
        exact ⟨by show 1 ≤ 2; decide, h2, by show -1 ≤ c 1; omega, by show c 1 ≤ _; omega⟩
      · exact hx
  · split
    · split
      · rename_i hb
        have h2 : 2 ≤ n := by
          unfold dqB at hb
          simp only [Bool.and_eq_true, decide_eq_true_eq] at hb
          exact hb.1.1
        exact ⟨by decide, h2, by decide, by decide⟩
      · exact hx
    · split
      · cases h : ev f c n with
        | some x =>
          have := ev_le (fun h => (hc h).1) h
          show 1 ≤ x.2 ∧ x.2 ≤ n ∧ -1 ≤ x.1 ∧ x.1 ≤ 1114111
          omega
        | none => exact hx
      · exact hx
def unG (f l : Int) (c : Nat → Int) (e : Nat) : Nat → Nat → List U3
  | 0, _ => []
  | k + 1, i => if e ≤ i then [] else ⟨(u1 f l (fun j => c (i + j)) (e - i)).1, (i : Int), ((u1 f l (fun j => c (i + j)) (e - i)).2 : Int)⟩ :: unG f l c e k (i + (u1 f l (fun j => c (i + j)) (e - i)).2)
/-- The signs of a part from a place on, up to its end. -/
def un (f l : Int) (c : Nat → Int) (e i : Nat) : List U3 := unG f l c e (e - i) i
theorem unG_more {f l : Int} {c : Nat → Int} {e : Nat} (hc : ∀ j, j < e → 0 ≤ c j ∧ c j ≤ 255) : ∀ k m i, e - i ≤ k → e - i ≤ m → unG f l c e k i = unG f l c e m i
  | 0, 0, i, _, _ => rfl
  | 0, m + 1, i, h, _ => by show [] = (if e ≤ i then _ else _); rw [if_pos (by omega)]
  | k + 1, 0, i, _, h => by show (if e ≤ i then _ else _) = []; rw [if_pos (by omega)]
  | k + 1, m + 1, i, h1, h2 => by
    show (if e ≤ i then _ else _) = (if e ≤ i then _ else _)
    by_cases h : e ≤ i
    · rw [if_pos h, if_pos h]
    · rw [if_neg h, if_neg h]
      have := u1_le (f := f) (l := l) (c := fun j => c (i + j)) (n := e - i) (by omega) (fun h => hc _ (by omega))
      rw [unG_more hc k m _ (by omega) (by omega)]
theorem un_end {f l : Int} {c : Nat → Int} {e i : Nat} (h : e ≤ i) : un f l c e i = [] := by
  unfold un
  rw [Nat.sub_eq_zero_of_le h]
  rfl
theorem un_step {f l : Int} {c : Nat → Int} {e i : Nat} (hc : ∀ j, j < e → 0 ≤ c j ∧ c j ≤ 255) (h : i < e) {r : Int} {k : Nat} (hu : u1 f l (fun j => c (i + j)) (e - i) = (r, k)) : un f l c e i = ⟨r, (i : Int), (k : Int)⟩ :: un f l c e (i + k) := by
  have h1 := u1_le (f := f) (l := l) (c := fun j => c (i + j)) (n := e - i) (by omega) (fun h => hc _ (by omega))
  rw [hu] at h1
  obtain ⟨d, hd⟩ : ∃ d, e - i = d + 1 := ⟨e - i - 1, by omega⟩
  unfold un
  rw [hd]
  show (if e ≤ i then _ else _) = _
  rw [if_neg (by omega), hu]
  show _ :: unG f l c e d (i + k) = _ :: unG f l c e (e - (i + k)) (i + k)
  rw [unG_more hc d (e - (i + k)) (i + k) (by have := h1.1; dsimp only at this; omega) (Nat.le_refl _)]
theorem un_len {f l : Int} {c : Nat → Int} {e : Nat} (hc : ∀ j, j < e → 0 ≤ c j ∧ c j ≤ 255) : ∀ d i, e - i = d → (un f l c e i).length ≤ e - i := by
  intro d
  induction d using Nat.strongRecOn with
  | ind d ih =>
    intro i hd
    rcases Nat.lt_or_ge i e with h | h
    · obtain ⟨⟨r, k⟩, hu⟩ : ∃ x, u1 f l (fun j => c (i + j)) (e - i) = x := ⟨_, rfl⟩
      have h1 := u1_le (f := f) (l := l) (c := fun j => c (i + j)) (n := e - i) (by omega) (fun h => hc _ (by omega))
      rw [hu] at h1
      dsimp only at h1
      rw [un_step hc h hu, List.length_cons]
      have := ih (e - (i + k)) (by omega) (i + k) rfl
      omega
    · rw [un_end h]
      exact Nat.zero_le _
end Go.Proofs.YteeeekpeokgaeaaDoor
