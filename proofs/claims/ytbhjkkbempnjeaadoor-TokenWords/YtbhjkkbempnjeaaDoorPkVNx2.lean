/- utf.Next and the reference's, of bytes wherever they lie; In, sign. -/
import Derived.Test.YtbhjkkbempnjeaaDoorvE
import Derived.Test.YtbhjkkbempnjeaaDoorPkVRa3
import Derived.Test.YtbhjkkbempnjeaaDoorvUn
import Derived.Test.YtbhjkkbempnjeaaDoorgPure
import Derived.Laws.BytesArg
namespace Go.Proofs.YtbhjkkbempnjeaaDoor
set_option linter.unusedVariables false
open Go.RowKit Go.ChangeShapes
theorem bc_by {w : World} {b off n : Nat} {c : Nat → Int} (hC : ∀ j, j < n → 0 ≤ c j ∧ c j < 256) (h : BC w (some ⟨b, off, none⟩) n c) : Lns.By w b off (strOfNums (cl c n)) := fun j hj => by
  have hj' : j < n := by rw [strOfNums_size, cl_len] at hj; exact hj
  obtain ⟨b', off', e, hc⟩ := h j hj'
  injection e with e
  injection e with e1 e2 _
  subst e1 e2
  rw [hc]
  have hs := (sc_list (m := cl c n) (cl_byt2 hC) rfl).2.2.1 j hj
  have hx : cL (cl c n) j = c j := cL_in (cl_at c n j hj')
  rw [hx] at hs
  rw [← hs]
  have hg : (strOfNums (cl c n)).get! j = (strOfNums (cl c n))[j]'hj := by
    show (strOfNums (cl c n)).data[j]! = (strOfNums (cl c n)).data[j]'hj
    exact getElem!_pos (strOfNums (cl c n)).data j hj
  rw [hg]
theorem unx_any {w : World} {b off n cap : Nat} {c : Nat → Int} (hT : Lns.Tabs w) (hC : ∀ j, j < n → 0 ≤ c j ∧ c j < 256) (h : BC w (some ⟨b, off, none⟩) n c) (hn : 0 < n) :
    Calls Tryd.prog 25 #[.slice (some ⟨b, off, none⟩) n cap] w fun e w' => e = .returned (.tuple #[.int .i32 (nx c n).1, .int .i64 (nx c n).2]) ∧ Below w.heap.size w w' := by
  have hs : (strOfNums (cl c n)).size = n := by rw [strOfNums_size, cl_len]
  have := Lns.next_at (strOfNums (cl c n)) 0 b off cap w (by omega) hT (bc_by hC h)
  rw [Nat.add_zero, Nat.sub_zero, hs] at this
  exact this
/-- Does a span lie in so many bytes? -/
def inB (a m : Int) (n : Nat) : Bool := decide (0 ≤ a) && decide (0 ≤ m) && decide (a ≤ (n : Int)) && decide (m ≤ (n : Int) - a)
end Go.Proofs.YtbhjkkbempnjeaaDoor
/- Runes put and read again: no program in this text. -/
namespace Go.Proofs.YtbhjkkbempnjeaaDoor
set_option linter.unusedVariables false
open Go.Lib
theorem enc_one {r : Int} (h0 : 0 ≤ r) (h1 : r < 128) : enc r = [r] := by
  have ho := (okR_iff r).2 (by omega)
  unfold enc; rw [if_neg (by simp [ho]), if_pos h1]
theorem enc_two {r : Int} (h0 : 128 ≤ r) (h1 : r < 2048) : enc r = [192 + r / 64, 128 + r % 64] := by
  have ho := (okR_iff r).2 (by omega)
  unfold enc; rw [if_neg (by simp [ho]), if_neg (by omega), if_pos h1]
theorem enc_three {r : Int} (h0 : 2048 ≤ r) (h1 : r < 65536) (ho : okR r = true) : enc r = [224 + r / 4096, 128 + r / 64 % 64, 128 + r % 64] := by
  unfold enc; rw [if_neg (by simp [ho]), if_neg (by omega), if_neg (by omega), if_pos h1]
theorem enc_four {r : Int} (h0 : 65536 ≤ r) (ho : okR r = true) : enc r = [240 + r / 262144, 128 + r / 4096 % 64, 128 + r / 64 % 64, 128 + r % 64] := by
  unfold enc; rw [if_neg (by simp [ho]), if_neg (by omega), if_neg (by omega), if_neg (by omega)]
def txt (R : Nat → Int) (k : Nat) : List Int := (List.range k).flatMap fun j => enc (R j)
theorem txt_succ (R : Nat → Int) (k : Nat) : txt R (k + 1) = txt R k ++ enc (R k) := by simp [txt, List.range_succ]
theorem enc_le (r : Int) : (enc r).length ≤ 4 := by
  cases ho : okR r
  · rw [enc_bad r ho]; simp
  · rw [enc_len r ho]; exact (lenR_pos r).2
theorem txt_le (R : Nat → Int) : ∀ k, (txt R k).length ≤ 4 * k
  | 0 => Nat.zero_le _
  | k + 1 => by rw [txt_succ, List.length_append]; have := txt_le R k; have := enc_le (R k); omega
theorem Sign.of {s t : ByteArray} {i j : Nat} {r : Int} (h : Sign s i r) (hn : j + lenR r ≤ t.size) (hb : ∀ m, m < lenR r → bt t (j + m) = bt s (i + m)) : Sign t j r := by
  refine ⟨h.1, hn, fun m x hx => ?_⟩
  have hm : m < lenR r := by rw [← enc_len r h.1]; exact (List.getElem?_eq_some_iff.1 hx).1
  rw [hb m hm]
  exact h.2.2 m x hx

/-! ### joined -/
def Whole (s : ByteArray) (k : Nat) : Prop := ∀ j, j < k → Sign s (pos s j) (rn s (pos s j))
theorem enc_range {r x : Int} (h : x ∈ enc r) : 0 ≤ x ∧ x < 256 := by
  cases ho : okR r
  · rw [enc_bad r ho] at h; cases h
  · have hv := (okR_iff r).1 ho
    by_cases h1 : r < 128
    · rw [enc_one (by omega) h1] at h; simp at h; omega
    by_cases h2 : r < 2048
    · rw [enc_two (by omega) h2] at h; simp at h; omega
    by_cases h3 : r < 65536
    · rw [enc_three (by omega) h3 ho] at h; simp at h; omega
    · rw [enc_four (by omega) ho] at h; simp at h; omega
theorem nums_bt {l : List Int} {i : Nat} {x : Int} (hx : l[i]? = some x) (h : 0 ≤ x ∧ x < 256) : (bt (strOfNums l) i : Int) = x := by
  obtain ⟨hi, rfl⟩ := List.getElem?_eq_some_iff.1 hx
  unfold bt
  show (((strOfNums l).data[i]!).toNat : Int) = _
  have his : i < (strOfNums l).data.size := by show i < (strOfNums l).size; rw [strOfNums_size]; exact hi
  rw [getElem!_pos _ i his]
  simp only [strOfNums, List.getElem_toArray, List.getElem_map, UInt8.toNat_ofNat']
  rw [Nat.mod_eq_of_lt (by omega)]
  omega
theorem sign_in (p q : List Int) {r : Int} (ho : okR r = true) : Sign (strOfNums (p ++ enc r ++ q)) p.length r := by
  refine ⟨ho, ?_, fun j x hx => ?_⟩
  · rw [strOfNums_size, List.length_append, List.length_append, enc_len r ho]; omega
  · have hj : j < (enc r).length := (List.getElem?_eq_some_iff.1 hx).1
    refine nums_bt ?_ (enc_range (List.mem_of_getElem? hx))
    rw [List.getElem?_append_left (by rw [List.length_append]; omega), List.getElem?_append_right (by omega)]
    rw [show p.length + j - p.length = j by omega]
    exact hx
theorem put_all (l : List Int) (hl : ∀ r, r ∈ l → okR r = true) : ∀ j, j ≤ l.length → pos (strOfNums (l.flatMap enc)) j = ((l.take j).flatMap enc).length ∧ (∀ i, i < j → Sign (strOfNums (l.flatMap enc)) (pos (strOfNums (l.flatMap enc)) i) (rn (strOfNums (l.flatMap enc)) (pos (strOfNums (l.flatMap enc)) i)))
  | 0, _ => ⟨rfl, fun i hi => absurd hi (Nat.not_lt_zero i)⟩
  | j + 1, h => by
    obtain ⟨ih, ih2⟩ := put_all l hl j (by omega)
    have hj : j < l.length := by omega
    have hok := hl l[j] (List.getElem_mem hj)
    have hs : Sign (strOfNums (l.flatMap enc)) (pos (strOfNums (l.flatMap enc)) j) l[j] := by
      rw [ih]
      have := sign_in ((l.take j).flatMap enc) ((l.drop (j + 1)).flatMap enc) hok
      have he : l.flatMap enc = (l.take j).flatMap enc ++ enc l[j] ++ (l.drop (j + 1)).flatMap enc := by
        rw [List.append_assoc, ← List.flatMap_cons, ← List.flatMap_append, ← List.drop_eq_getElem_cons hj, List.take_append_drop]
      rw [he]
      exact this
    refine ⟨?_, fun i hi => ?_⟩
    · show pos _ j + wd _ (pos _ j) = _
      rw [hs.wd, ih, ← List.take_append_getElem hj, List.flatMap_append, List.length_append]
      simp [enc_len _ hok]
    · by_cases h1 : i < j
      · exact ih2 i h1
      · obtain rfl : i = j := by omega
        rw [hs.rn]; exact hs
theorem flat_lt (l : List Int) (hl : ∀ r, r ∈ l → okR r = true) (j : Nat) (h : j < l.length) : ((l.take j).flatMap enc).length < (l.flatMap enc).length := by
  have hok := hl l[j] (List.getElem_mem h)
  have he : l.flatMap enc = (l.take j).flatMap enc ++ (enc l[j] ++ (l.drop (j + 1)).flatMap enc) := by
    rw [← List.flatMap_cons, ← List.flatMap_append, ← List.drop_eq_getElem_cons h, List.take_append_drop]
  rw [he, List.length_append, List.length_append, enc_len _ hok]
  have := (lenR_pos l[j]).1
  omega
end Go.Proofs.YtbhjkkbempnjeaaDoor
