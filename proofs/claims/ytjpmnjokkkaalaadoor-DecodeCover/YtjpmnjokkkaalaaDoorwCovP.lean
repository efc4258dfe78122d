/- Plain bytes' signs are those of chapter 2; a part's signs lie at places that are there. -/
import Derived.Test.YtjpmnjokkkaalaaDoorwCovQ
import Derived.Test.YtjpmnjokkkaalaaDoorvCov
import Derived.Test.YtjpmnjokkkaalaaDoorvLLit
namespace Go.Proofs.YtjpmnjokkkaalaaDoor
set_option linter.unusedVariables false
open Go.RowKit
theorem get_nums (l : List Int) (i : Nat) : (strOfNums l).get! i = UInt8.ofNat (l.getD i 0).toNat := by
  show (strOfNums l).data[i]! = _
  rw [← Array.getElem!_toList, strOfNums_data]
  by_cases h : i < l.length
  · simp [h, List.getD]
  · simp only [List.getElem!_eq_getElem?_getD, List.getD, List.getElem?_map]
    rw [List.getElem?_eq_none (by omega)]
    rfl
theorem cl_getD2 (c : Nat → Int) (n p k : Nat) (hp : p ≤ n) : (cl (fun j => c (p + j)) (n - p)).getD k 0 = (cl c n).getD (p + k) 0 := by
  by_cases h : k < n - p
  · rw [cl_getD _ _ _ h, cl_getD _ _ _ (by omega)]
  · rw [List.getD_eq_getElem?_getD, List.getD_eq_getElem?_getD, List.getElem?_eq_none (by rw [cl_len]; omega), List.getElem?_eq_none (by rw [cl_len]; omega)]
theorem rest_dec (c : Nat → Int) {n p : Nat} (hp : p ≤ n) : Utf8.decode (strOfNums (cl (fun j => c (p + j)) (n - p))) 0 = Utf8.decode (strOfNums (cl c n)) p := by
  rw [Lib.decode_at, Lib.decode_at, strOfNums_size, strOfNums_size, cl_len, cl_len]
  simp only [get_nums, cl_getD2 c n p _ hp, Nat.sub_zero, Nat.zero_add, Nat.add_zero]
theorem nx_rest (c : Nat → Int) {n p : Nat} (hp : p ≤ n) : nx (fun j => c (p + j)) (n - p) = (rn (strOfNums (cl c n)) p, wd (strOfNums (cl c n)) p) := by
  unfold nx rn wd
  rw [rest_dec c hp]
/-- No byte of an entity, an escape or a quote. -/
def plB (x : Int) : Bool := x != 38 && x != 92 && x != 39
theorem plB_is {x : Int} (h : plB x = true) : x ≠ 38 ∧ x ≠ 92 ∧ x ≠ 39 := by
  unfold plB at h
  simpa [and_assoc] using h
theorem sp_plain {f l : Int} {c : Nat → Int} {n : Nat} (h : plB (c 0) = true) : sp f l c n = none := by
  obtain ⟨h1, h2, h3⟩ := plB_is h
  have e1 : nv c n = none := nv_first (Or.inr h1)
  have e2 : bsB c n = false := by
    unfold bsB
    rw [show (c 0 == 92) = false from beq_eq_false_iff_ne.2 h2]
    simp
  have e3 : dqB c n = false := by
    unfold dqB
    rw [show (c 0 == 39) = false from beq_eq_false_iff_ne.2 h3]
    simp
  have e4 : ev f c n = none := ev_no (fun h => h2 h.2.1)
  unfold sp
  rw [e1, e2, e3, e4]
  split
  · rfl
  · split
    · rfl
    · split
      · rfl
      · split <;> rfl
theorem un_plain {f l : Int} {c : Nat → Int} {n k : Nat} (hc : ∀ j, j < n → 0 ≤ c j ∧ c j ≤ 255) (hp : ∀ j, j < n → plB (c j) = true) (he : Ends (strOfNums (cl c n)) k) : ∀ d j, k - j = d → j ≤ k → un f l c n (pos (strOfNums (cl c n)) j) = (unS (strOfNums (cl c n)) k).drop j := by
  have hsz : (strOfNums (cl c n)).size = n := by rw [strOfNums_size, cl_len]
  intro d
  induction d with
  | zero =>
    intro j hd hj
    obtain rfl : j = k := by omega
    have h1 := he.1
    rw [un_end (by rw [h1, hsz]; exact Nat.le_refl _), List.drop_of_length_le (by rw [unS_len]; exact Nat.le_refl _)]
  | succ d ih =>
    intro j hd hj
    have hlt := he.2 j (by omega)
    rw [hsz] at hlt
    have hu : u1 f l (fun i => c (pos (strOfNums (cl c n)) j + i)) (n - pos (strOfNums (cl c n)) j) = (rn (strOfNums (cl c n)) (pos (strOfNums (cl c n)) j), wd (strOfNums (cl c n)) (pos (strOfNums (cl c n)) j)) := by
      rw [u1_sp, sp_plain (by rw [Nat.add_zero]; exact hp _ hlt), oN_none]
      exact nx_rest c (Nat.le_of_lt hlt)
    rw [un_step hc hlt hu]
    have hd2 : (unS (strOfNums (cl c n)) k).drop j = ⟨rn (strOfNums (cl c n)) (pos (strOfNums (cl c n)) j), (pos (strOfNums (cl c n)) j : Int), (wd (strOfNums (cl c n)) (pos (strOfNums (cl c n)) j) : Int)⟩ :: (unS (strOfNums (cl c n)) k).drop (j + 1) := by
      rw [List.drop_eq_getElem_cons (by rw [unS_len]; omega)]
      congr 1
      have := unS_at (strOfNums (cl c n)) k j (by omega)
      exact Option.some.inj ((List.getElem?_eq_getElem (by rw [unS_len]; omega)).symm.trans this)
    rw [hd2, ← ih (j + 1) (by omega) (by omega)]
    rfl
theorem un_all {f l : Int} {c : Nat → Int} {n k : Nat} (hc : ∀ j, j < n → 0 ≤ c j ∧ c j ≤ 255) (hp : ∀ j, j < n → plB (c j) = true) (he : Ends (strOfNums (cl c n)) k) : un f l c n 0 = unS (strOfNums (cl c n)) k := un_plain hc hp he k 0 rfl (Nat.zero_le _)
end Go.Proofs.YtjpmnjokkkaalaaDoor
