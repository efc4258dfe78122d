/- A text's bytes. -/
import Derived.Test.YtbhjkkbempnjeaaDoorvCL
import Derived.Test.YtbhjkkbempnjeaaDoorvPure
import Derived.Test.YtbhjkkbempnjeaaDoorvE
import Derived.Test.YtbhjkkbempnjeaaDoorvUn
import Derived.Laws.AppendOwn
namespace Go.Proofs.YtbhjkkbempnjeaaDoor
set_option linter.unusedVariables false
open Go.RowKit Go.ChangeShapes
/-- A text's bytes. -/
def SC (s : ByteArray) (c : Nat → Int) (n : Nat) : Prop := s.size = n ∧ Ch c n ∧ (∀ i (h : i < s.size), ((s[i]'h).toNat : Int) = c i) ∧ s = strOfNums (cl c n)
theorem sc_nums {c : Nat → Int} {n : Nat} (hC : Ch c n) : SC (strOfNums (cl c n)) c n := by
  refine ⟨by rw [strOfNums_size, cl_len], hC, fun i h => ?_, rfl⟩
  have hi : i < n := by rw [strOfNums_size, cl_len] at h; exact h
  have hb := hC.1 i hi
  show ((((strOfNums (cl c n)).data[i]'h).toNat : Nat) : Int) = c i
  have e : (strOfNums (cl c n)).data[i]'h = UInt8.ofNat (c i).toNat := by simp [strOfNums, cl]
  rw [e, UInt8.toNat_ofNat', Nat.mod_eq_of_lt (by omega)]
  omega
theorem ext_nums (l : List Int) (i j : Nat) : (strOfNums l).extract i j = strOfNums ((l.drop i).take (j - i)) := by
  apply ByteArray.ext
  apply Array.ext'
  rw [ByteArray.data_extract, strOfNums_data, Array.toList_extract, strOfNums_data, List.map_take, List.map_drop]
theorem cl_sub (c : Nat → Int) (n i m : Nat) (h : i + m ≤ n) : ((cl c n).drop i).take m = cl (fun j => c (i + j)) m := by
  apply List.ext_getElem?
  intro j
  rcases Nat.lt_or_ge j m with hj | hj
  · rw [List.getElem?_take, if_pos hj, List.getElem?_drop, cl_at _ _ _ (by omega), cl_at _ _ _ hj]
  · rw [List.getElem?_eq_none (by rw [List.length_take]; omega), List.getElem?_eq_none (by rw [cl_len]; exact hj)]
theorem cl_succ (c : Nat → Int) (m : Nat) : cl c (m + 1) = c 0 :: cl (fun j => c (1 + j)) m := by
  unfold cl
  rw [List.range_succ_eq_map, List.map_cons, List.map_map]
  congr 1
  refine List.map_congr_left fun j _ => ?_
  show c (j + 1) = c (1 + j)
  rw [Nat.add_comm]
theorem cl_oc : ∀ (t : List Int) (c : Nat → Int) (i : Nat), (cl (fun j => c (i + j)) t.length == t) = oc t c i
  | [], c, i => rfl
  | x :: t, c, i => by
    rw [List.length_cons, cl_succ]
    show ((c (i + 0) == x) && (cl (fun j => c (i + (1 + j))) t.length == t)) = ((c i == x) && oc t c (i + 1))
    have := cl_oc t c (i + 1)
    rw [← this, Nat.add_zero]
    congr 3
    funext j
    rw [Nat.add_assoc]
theorem sc_sub {s : ByteArray} {c : Nat → Int} {n : Nat} (h : SC s c n) (i e : Nat) (hie : i ≤ e) (he : e ≤ n) : s.extract i e = strOfNums (cl (fun j => c (i + j)) (e - i)) := by
  rw [h.2.2.2, ext_nums, cl_sub c n i (e - i) (by omega)]
theorem cl_byt2 {c : Nat → Int} {m : Nat} (h : ∀ j, j < m → 0 ≤ c j ∧ c j < 256) : Byt (cl c m) := fun x hx => by
  obtain ⟨j, hj, rfl⟩ := List.mem_map.1 hx
  exact h j (List.mem_range.1 hj)
end Go.Proofs.YtbhjkkbempnjeaaDoor
/- The reference: valid, number. -/
namespace Go.Proofs.YtbhjkkbempnjeaaDoor
set_option linter.unusedVariables false
open Go.RowKit Go.ChangeShapes
theorem sc_list {m : List Int} (hm : Byt m) {s : ByteArray} (hs : strOfNums m = s) : SC s (cL m) m.length := by
  have := sc_nums (cL_ch hm)
  rw [cl_cL, hs] at this
  exact this
theorem ext_drop {m : List Int} {s : ByteArray} (hs : strOfNums m = s) (i : Nat) : strOfNums (m.drop i) = s.extract i s.size := by
  rw [← hs, ext_nums, strOfNums_size, List.take_of_length_le (by rw [List.length_drop]; omega)]
end Go.Proofs.YtbhjkkbempnjeaaDoor
/- utf.Next and the reference's, of bytes wherever they lie; In, sign. -/
namespace Go.Proofs.YtbhjkkbempnjeaaDoor
set_option linter.unusedVariables false
open Go.RowKit Go.ChangeShapes
theorem bc_by {w : World} {b off n : Nat} {c : Nat → Int} (hC : ∀ j, j < n → 0 ≤ c j ∧ c j < 256) (h : BC w (some ⟨b, off, none⟩) n c) : Lns.By w b off (strOfNums (cl c n)) := fun j hj => by
  have hj' : j < n := by rw [strOfNums_size, cl_len] at hj; exact hj
  obtain ⟨b', off', e, hc⟩ := h j hj'
  injection e with e
  injection e with e1 e2 _
  subst e1 e2
  rw [hc]
  have hs := (sc_list (m := cl c n) (cl_byt2 hC) rfl).2.2.1 j hj
  have hx : cL (cl c n) j = c j := cL_in (cl_at c n j hj')
  rw [hx] at hs
  rw [← hs]
  have hg : (strOfNums (cl c n)).get! j = (strOfNums (cl c n))[j]'hj := by
    show (strOfNums (cl c n)).data[j]! = (strOfNums (cl c n)).data[j]'hj
    exact getElem!_pos (strOfNums (cl c n)).data j hj
  rw [hg]
theorem unx_any {w : World} {b off n cap : Nat} {c : Nat → Int} (hT : Lns.Tabs w) (hC : ∀ j, j < n → 0 ≤ c j ∧ c j < 256) (h : BC w (some ⟨b, off, none⟩) n c) (hn : 0 < n) :
    Calls Tryd.prog 25 #[.slice (some ⟨b, off, none⟩) n cap] w fun e w' => e = .returned (.tuple #[.int .i32 (nx c n).1, .int .i64 (nx c n).2]) ∧ Below w.heap.size w w' := by
  have hs : (strOfNums (cl c n)).size = n := by rw [strOfNums_size, cl_len]
  have := Lns.next_at (strOfNums (cl c n)) 0 b off cap w (by omega) hT (bc_by hC h)
  rw [Nat.add_zero, Nat.sub_zero, hs] at this
  exact this
/-- Does a span lie in so many bytes? -/
def inB (a m : Int) (n : Nat) : Bool := decide (0 ≤ a) && decide (0 ≤ m) && decide (a ≤ (n : Int)) && decide (m ≤ (n : Int) - a)
end Go.Proofs.YtbhjkkbempnjeaaDoor
/- The reference: Units. -/
namespace Go.Proofs.YtbhjkkbempnjeaaDoor
set_option linter.unusedVariables false
open Go.RowKit Go.ChangeShapes
/-- Signs in a row of their own. -/
def UR (w : World) (base : Nat) (v : Value) (l : List U3) : Prop := w.ownsRow base 56 3 v l.length (uC l)
theorem UR.stay {w w' : World} {base : Nat} {v : Value} {l : List U3} (h : UR w base v l) (hb : Below w.heap.size w w') : UR w' base v l := own_stay h hb
theorem infoU : (Tryd.prog.info? 56).map (fun i => (i.zero, i.size, i.bytes)) = some (some (.agg #[.int .i32 0, .int .i64 0, .int .i64 0]), 3, 24) := by kernel_rfl
theorem nv_amp {c : Nat → Int} {n : Nat} {x : Int × Nat} (h : nv c n = some x) : c 0 = 38 := by
  rcases Int.decEq (c 0) 38 with h0 | h0
  · rw [nv_first (Or.inr h0)] at h; cases h
  · exact h0
/-- What Units leaves. -/
def UnP (w : World) (l : List U3) (ev : Ending) (w' : World) : Prop := ∃ v, ev = .returned (.tuple #[v, .bool true]) ∧ UR w' w.heap.size v l ∧ Below w.heap.size w w'
end Go.Proofs.YtbhjkkbempnjeaaDoor
