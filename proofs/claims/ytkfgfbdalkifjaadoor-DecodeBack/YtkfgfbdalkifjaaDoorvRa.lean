/- A text's bytes. -/
import Derived.Test.YtkfgfbdalkifjaaDoorvCL
import Derived.Test.YtkfgfbdalkifjaaDoorvPure
namespace Go.Proofs.YtkfgfbdalkifjaaDoor
set_option linter.unusedVariables false
open Go.RowKit Go.ChangeShapes
/-- A text's bytes. -/
def SC (s : ByteArray) (c : Nat → Int) (n : Nat) : Prop := s.size = n ∧ Ch c n ∧ (∀ i (h : i < s.size), ((s[i]'h).toNat : Int) = c i) ∧ s = strOfNums (cl c n)
theorem sc_nums {c : Nat → Int} {n : Nat} (hC : Ch c n) : SC (strOfNums (cl c n)) c n := by
  refine ⟨by rw [strOfNums_size, cl_len], hC, fun i h => ?_, rfl⟩
  have hi : i < n := by rw [strOfNums_size, cl_len] at h; exact h
  have hb := hC.1 i hi
  show ((((strOfNums (cl c n)).data[i]'h).toNat : Nat) : Int) = c i
  have e : (strOfNums (cl c n)).data[i]'h = UInt8.ofNat (c i).toNat := by simp [strOfNums, cl]
  rw [e, UInt8.toNat_ofNat', Nat.mod_eq_of_lt (by omega)]
  omega
theorem ext_nums (l : List Int) (i j : Nat) : (strOfNums l).extract i j = strOfNums ((l.drop i).take (j - i)) := by
  apply ByteArray.ext
  apply Array.ext'
  rw [ByteArray.data_extract, strOfNums_data, Array.toList_extract, strOfNums_data, List.map_take, List.map_drop]
theorem cl_sub (c : Nat → Int) (n i m : Nat) (h : i + m ≤ n) : ((cl c n).drop i).take m = cl (fun j => c (i + j)) m := by
  apply List.ext_getElem?
  intro j
  rcases Nat.lt_or_ge j m with hj | hj
  · rw [List.getElem?_take, if_pos hj, List.getElem?_drop, cl_at _ _ _ (by omega), cl_at _ _ _ hj]
  · rw [List.getElem?_eq_none (by rw [List.length_take]; omega), List.getElem?_eq_none (by rw [cl_len]; exact hj)]
theorem cl_succ (c : Nat → Int) (m : Nat) : cl c (m + 1) = c 0 :: cl (fun j => c (1 + j)) m := by
  unfold cl
  rw [List.range_succ_eq_map, List.map_cons, List.map_map]
  congr 1
  refine List.map_congr_left fun j _ => ?_
  show c (j + 1) = c (1 + j)
  rw [Nat.add_comm]
theorem cl_oc : ∀ (t : List Int) (c : Nat → Int) (i : Nat), (cl (fun j => c (i + j)) t.length == t) = oc t c i
  | [], c, i => rfl
  | x :: t, c, i => by
    rw [List.length_cons, cl_succ]
    show ((c (i + 0) == x) && (cl (fun j => c (i + (1 + j))) t.length == t)) = ((c i == x) && oc t c (i + 1))
    have := cl_oc t c (i + 1)
    rw [← this, Nat.add_zero]
    congr 3
    funext j
    rw [Nat.add_assoc]
theorem sc_sub {s : ByteArray} {c : Nat → Int} {n : Nat} (h : SC s c n) (i e : Nat) (hie : i ≤ e) (he : e ≤ n) : s.extract i e = strOfNums (cl (fun j => c (i + j)) (e - i)) := by
  rw [h.2.2.2, ext_nums, cl_sub c n i (e - i) (by omega)]
theorem cl_byt2 {c : Nat → Int} {m : Nat} (h : ∀ j, j < m → 0 ≤ c j ∧ c j < 256) : Byt (cl c m) := fun x hx => by
  obtain ⟨j, hj, rfl⟩ := List.mem_map.1 hx
  exact h j (List.mem_range.1 hj)
end Go.Proofs.YtkfgfbdalkifjaaDoor
