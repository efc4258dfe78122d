/- Words of small letters, and what Make tells of them: no program in this text. -/
import Derived.Test.YtfikkkodepfdkaaDoortMake
namespace Go.Proofs.YtfikkkodepfdkaaDoor
set_option linter.unusedVariables false
/-- Small letters. -/
def SmL (l : List Int) : Prop := ∀ b ∈ l, 97 ≤ b ∧ b ≤ 122
theorem bt_nums (l : List Int) (h : SmL l) (i : Nat) (hi : i < l.length) : (bt (strOfNums l) i : Int) = l[i] := by
  have hb := h _ (List.getElem_mem hi)
  unfold bt
  show ((((strOfNums l).data[i]!).toNat : Nat) : Int) = _
  have h' : i < (strOfNums l).data.size := by
    have := strOfNums_size l
    show i < (strOfNums l).size
    omega
  rw [getElem!_pos (strOfNums l).data i h']
  have e : (strOfNums l).data[i] = UInt8.ofNat l[i].toNat := by
    have h3 : (strOfNums l).data.toList[i]? = some (UInt8.ofNat l[i].toNat) := by
      rw [strOfNums_data, List.getElem?_map, List.getElem?_eq_getElem hi]; rfl
    rw [Array.getElem?_toList, Array.getElem?_eq_getElem h'] at h3
    exact Option.some.inj h3
  rw [e, UInt8.toNat_ofNat']
  omega
open Go.Lib in
theorem sm_dec (l : List Int) (h : SmL l) (i : Nat) (hi : i < l.length) : Utf8.decode (strOfNums l) i = (l[i].toNat, 1) := by
  have hb := h _ (List.getElem_mem hi)
  have e := bt_nums l h i hi
  rw [decode_at]
  have h0 : ((strOfNums l).get! i).toNat = l[i].toNat := by unfold bt at e; omega
  unfold decodeN
  rw [if_pos (by omega), h0]
theorem sm_pos (l : List Int) (h : SmL l) : ∀ j, j ≤ l.length → pos (strOfNums l) j = j
  | 0, _ => rfl
  | j + 1, hj => by
    show pos (strOfNums l) j + wd (strOfNums l) (pos (strOfNums l) j) = _
    rw [sm_pos l h j (by omega)]
    unfold wd
    rw [sm_dec l h j (by omega)]
theorem sm_ends (l : List Int) (h : SmL l) : Ends (strOfNums l) l.length := by
  refine ⟨by rw [sm_pos l h _ (Nat.le_refl _), strOfNums_size], fun j hj => ?_⟩
  rw [sm_pos l h j (by omega), strOfNums_size]
  exact hj
theorem sm_rs (l : List Int) (h : SmL l) : rs (strOfNums l) = l := by
  unfold rs
  rw [kS_is (sm_ends l h)]
  apply List.ext_getElem
  · simp [rl]
  · intro i h1 h2
    have hb := h _ (List.getElem_mem h2)
    simp only [rl, List.getElem_map, List.getElem_range]
    rw [sm_pos l h i (by omega)]
    unfold rn
    rw [sm_dec l h i h2]
    unfold kn
    rw [if_neg (by simp; omega)]
    show ((l[i].toNat : Nat) : Int) = _
    omega
theorem sm_no (l : List Int) (h : SmL l) : (-1 : Int) ∉ rs (strOfNums l) := by
  rw [sm_rs l h]
  intro hm
  have := h _ hm
  omega
theorem lw_empty (s : ByteArray) (h : 0 < s.size) : lw ⟨#[]⟩ s = true := by
  unfold lw Sort.ltStr
  rw [decide_eq_true_eq]
  show ([] : List UInt8) < s.data.toList
  cases hs : s.data.toList with
  | nil =>
    have : s.size = s.data.toList.length := by simp
    rw [hs] at this
    simp only [List.length_nil] at this
    omega
  | cons a l => exact List.nil_lt_cons a l
/-- One word. -/
theorem make_one (l : List Int) (h : SmL l) : ((makeP [strOfNums l]).1 = 0) ↔ (0 < l.length ∧ l.length ≤ 64) := by
  have hs := strOfNums_size l
  have hc : chkP 0 (strOfNums l) ⟨#[]⟩ (rs (strOfNums l)) = if l.length = 0 then 5 else if 64 < l.length then 3 else 0 := by
    unfold chkP
    rw [hs]
    by_cases h0 : l.length = 0
    · rw [if_pos h0, if_pos h0]
    · rw [if_neg h0, if_neg h0, if_neg (by rw [lw_empty _ (by omega)]; decide), if_neg (by decide : ¬ 4096 ≤ 0), if_neg (sm_no l h)]
  unfold makeP
  simp only [makeG]
  rw [hc]
  by_cases h0 : l.length = 0
  · rw [if_pos h0]; simp; omega
  · by_cases h1 : 64 < l.length
    · rw [if_neg h0, if_pos h1]; simp; omega
    · rw [if_neg h0, if_neg h1]; simp; omega
/-- The i-th word of three letters. -/
def wT (i : Nat) : List Int := [97 + (i : Int) / 676 % 26, 97 + (i : Int) / 26 % 26, 97 + (i : Int) % 26]
theorem wT_sm (i : Nat) : SmL (wT i) := by
  intro b hb
  simp only [wT, List.mem_cons, List.not_mem_nil, or_false] at hb
  rcases hb with rfl | rfl | rfl <;> omega
theorem three_lt (a b c a' b' c' : Nat) (h : a < a' ∨ a = a' ∧ (b < b' ∨ b = b' ∧ c < c')) (h1 : a < 256) (h2 : b < 256) (h3 : c < 256) (h4 : a' < 256) (h5 : b' < 256) (h6 : c' < 256) :
    [UInt8.ofNat a, UInt8.ofNat b, UInt8.ofNat c] < [UInt8.ofNat a', UInt8.ofNat b', UInt8.ofNat c'] := by
  have lt : ∀ x y : Nat, x < y → y < 256 → UInt8.ofNat x < UInt8.ofNat y := by
    intro x y hxy hy
    rw [UInt8.lt_iff_toNat_lt, UInt8.toNat_ofNat', UInt8.toNat_ofNat']
    omega
  rcases h with h | ⟨rfl, h⟩
  · exact List.cons_lt_cons_iff.2 (Or.inl (lt _ _ h h4))
  · refine List.cons_lt_cons_iff.2 (Or.inr ⟨rfl, ?_⟩)
    rcases h with h | ⟨rfl, h⟩
    · exact List.cons_lt_cons_iff.2 (Or.inl (lt _ _ h h5))
    · refine List.cons_lt_cons_iff.2 (Or.inr ⟨rfl, ?_⟩)
      exact List.cons_lt_cons_iff.2 (Or.inl (lt _ _ h h6))
theorem wT_lt (i : Nat) (h : i < 10000) : lw (strOfNums (wT i)) (strOfNums (wT (i + 1))) = true := by
  unfold lw Sort.ltStr
  rw [decide_eq_true_eq, strOfNums_data, strOfNums_data]
  exact three_lt _ _ _ _ _ _ (by omega) (by omega) (by omega) (by omega) (by omega) (by omega) (by omega)
theorem make_many (P : List PN) : ∀ (d i : Nat) (a : ByteArray) (P : List PN), i ≤ 4096 → i + d ≤ 9000 → lw a (strOfNums (wT i)) = true →
    (makeG i a P ((List.range' i d).map fun j => strOfNums (wT j))).1 = if i + d ≤ 4096 then 0 else 4
  | 0, i, a, P, hi, _, _ => by
    rw [if_pos (by omega)]; rfl
  | d + 1, i, a, P, hi, hd, hl => by
    have hs := strOfNums_size (wT i)
    have hs3 : (wT i).length = 3 := rfl
    rw [List.range'_succ, List.map_cons]
    simp only [makeG]
    by_cases h4 : 4096 ≤ i
    · have hc : chkP i (strOfNums (wT i)) a (rs (strOfNums (wT i))) = 4 := by
        unfold chkP
        rw [if_neg (by omega), if_neg (by rw [hl]; decide), if_neg (by omega), if_pos h4]
      rw [hc, if_neg (by decide), if_neg (by omega)]
    · have hc : chkP i (strOfNums (wT i)) a (rs (strOfNums (wT i))) = 0 := by
        unfold chkP
        rw [if_neg (by omega), if_neg (by rw [hl]; decide), if_neg (by omega), if_neg h4, if_neg (sm_no _ (wT_sm i))]
      rw [hc, if_pos rfl, make_many P d (i + 1) _ _ (by omega) (by omega) (wT_lt i (by omega))]
      rw [show i + 1 + d = i + (d + 1) by omega]
theorem make_list (n : Nat) (hn : n ≤ 9000) : (makeP ((List.range n).map fun j => strOfNums (wT j))).1 = if n ≤ 4096 then 0 else 4 := by
  unfold makeP
  rw [List.range_eq_range']
  have h := make_many [] n 0 ⟨#[]⟩ [pn0] (by omega) (by omega) (lw_empty _ (by rw [strOfNums_size]; decide))
  rw [Nat.zero_add] at h
  exact h
end Go.Proofs.YtfikkkodepfdkaaDoor
