/- PragmaWords: words of plain letters. -/
import Derived.Test.YteeeekpeokgaeaaDoorPkYPcs3
import Derived.Test.YteeeekpeokgaeaaDooryWd
namespace Go.Proofs.YteeeekpeokgaeaaDoor
set_option linter.unusedVariables false
open Go.RowKit Go.ChangeShapes Tns
theorem asc_rn {t : ByteArray} {p : Nat} (h : bt t p < 128) : rn t p = (bt t p : Int) ∧ wd t p = 1 := by
  have e := Lns.low_sign t p h
  refine ⟨?_, ?_⟩
  · unfold rn
    rw [e]
    unfold kn
    simp
    try omega
  · unfold wd
    rw [e]
theorem we_go {t : ByteArray} {m : Nat} (hm : m ≤ t.size) (hl : ∀ i, i < m → bt t i < 128 ∧ wsB (bt t i : Int) = true) (he : m = t.size ∨ (bt t m < 128 ∧ wsB (bt t m : Int) = false)) : ∀ d i, i + d = m → ∀ f, d ≤ f → weF t f i = m
  | 0, i, hi, f, hf => by
    obtain rfl : i = m := by omega
    rcases he with h | ⟨h1, h2⟩
    · exact weF_out (Or.inl (by omega))
    · exact weF_out (Or.inr (by rw [(asc_rn h1).1]; exact h2))
  | d + 1, i, hi, f, hf => by
    obtain ⟨f, rfl⟩ : ∃ g, f = g + 1 := ⟨f - 1, by omega⟩
    obtain ⟨h1, h2⟩ := hl i (by omega)
    rw [weF_on (by omega) (by rw [(asc_rn h1).1]; exact h2), (asc_rn h1).2]
    exact we_go hm hl he d (i + 1) (by omega) f (by omega)
theorem we_word {t : ByteArray} {m : Nat} (hm : m ≤ t.size) (hl : ∀ i, i < m → bt t i < 128 ∧ wsB (bt t i : Int) = true) (he : m = t.size ∨ (bt t m < 128 ∧ wsB (bt t m : Int) = false)) : we t = m := we_go hm hl he m 0 (by omega) t.size hm
theorem sk_go {s : ByteArray} {k : Nat} (hk : k ≤ s.size) (hb : ∀ i, i < k → blB (bt s i) = true) (he : k = s.size ∨ blB (bt s k) = false) : ∀ d i, i + d = k → sk s i = k
  | 0, i, hi => by
    obtain rfl : i = k := by omega
    rcases he with h | h
    · exact sk_end (by omega)
    · exact sk_no h
  | d + 1, i, hi => by
    rw [sk_on (by omega) (hb i (by omega))]
    exact sk_go hk hb he d (i + 1) (by omega)
theorem asc_pos {s : ByteArray} (h : ∀ i, i < s.size → bt s i < 128) : ∀ i, i ≤ s.size → pos s i = i
  | 0, _ => rfl
  | i + 1, hi => by
    have ih := asc_pos h i (by omega)
    show pos s i + wd s (pos s i) = i + 1
    rw [ih, (asc_rn (h i (by omega))).2]
theorem asc_ends {s : ByteArray} (h : ∀ i, i < s.size → bt s i < 128) : Ends s s.size := ⟨asc_pos h _ (Nat.le_refl _), fun j hj => by rw [asc_pos h j (by omega)]; exact hj⟩
theorem asc_rl {s : ByteArray} (h : ∀ i, i < s.size → bt s i < 128) : rl s s.size = (List.range s.size).map fun i => (bt s i : Int) := by
  unfold rl
  apply List.map_congr_left
  intro i hi
  have hi' := List.mem_range.1 hi
  rw [asc_pos h i (by omega), (asc_rn (h i hi')).1]
theorem okw_lets : ∀ (L : List Int) (b : Bool), (∀ r ∈ L, lB r = true) → okw b L = (b || !L.isEmpty)
  | [], b, _ => by simp [okw]
  | r :: L, b, h => by
    rw [okw, h r (List.mem_cons_self ..)]
    show okw true L = _
    rw [okw_lets L true (fun q hq => h q (List.mem_cons_of_mem _ hq))]
    simp
/-- Words of small letters are listed words, and folded. -/
theorem asc_chk {s : ByteArray} (h : ∀ i, i < s.size → bt s i < 128 ∧ lB (bt s i : Int) = true ∧ gB (bt s i : Int) = false) (h0 : 0 < s.size) (h64 : s.size ≤ 64) : chk s = 0 := by
  have ha : ∀ i, i < s.size → bt s i < 128 := fun i hi => (h i hi).1
  unfold chk chkL
  rw [kS_is (asc_ends ha), if_neg (by omega), asc_rl ha, okw_lets _ _ (fun r hr => by
    obtain ⟨i, hi, rfl⟩ := List.mem_map.1 hr
    exact (h i (List.mem_range.1 hi)).2.1)]
  have : ((List.range s.size).map fun i => (bt s i : Int)).isEmpty = false := by
    rw [List.isEmpty_map]
    cases hs : s.size with
    | zero => omega
    | succ n => rw [List.range_succ]; simp
  rw [this]
  rfl
theorem flat_one : ∀ (L : List Int), (∀ r ∈ L, 0 ≤ r ∧ r < 128) → L.flatMap enc = L
  | [], _ => rfl
  | r :: L, h => by
    obtain ⟨h1, h2⟩ := h r (List.mem_cons_self ..)
    rw [List.flatMap_cons, enc_one h1 h2, flat_one L (fun q hq => h q (List.mem_cons_of_mem _ hq))]
    rfl
theorem asc_fld {s : ByteArray} (h : ∀ i, i < s.size → bt s i < 128 ∧ lB (bt s i : Int) = true ∧ gB (bt s i : Int) = false) : fld s = s := by
  have ha : ∀ i, i < s.size → bt s i < 128 := fun i hi => (h i hi).1
  rw [fld_tx, kS_is (asc_ends ha), asc_rl ha, wrL_map]
  have e1 : ((List.range s.size).map fun i => (bt s i : Int)).map dn = (List.range s.size).map fun i => (bt s i : Int) := by
    rw [List.map_map]
    apply List.map_congr_left
    intro i hi
    exact dn_id (h i (List.mem_range.1 hi)).2.2
  rw [e1]
  unfold tx
  rw [flat_one _ (fun r hr => by
    obtain ⟨i, hi, rfl⟩ := List.mem_map.1 hr
    have := ha i (List.mem_range.1 hi)
    omega)]
  exact Lns.nums_of s
theorem frm_right (a x : ByteArray) : frm (a ++ x) a.size = x := by
  unfold frm
  rw [ext_sub, Lns.join_size]
  have e := Lns.sub_right a x 0 x.size
  rw [Nat.add_zero] at e
  rw [e, Lns.sub_all]
theorem ext_left (w r : ByteArray) : (w ++ r).extract 0 w.size = w := by
  rw [ext_sub, Lns.sub_left w r 0 w.size (Nat.le_refl _), Lns.sub_all]
theorem bt_left {a x : ByteArray} {i : Nat} (h : i < a.size) : bt (a ++ x) i = bt a i := by
  unfold bt
  rw [Lns.join_get_left a x i h]
theorem bt_right (a x : ByteArray) (i : Nat) : bt (a ++ x) (a.size + i) = bt x i := by
  unfold bt
  rw [Lns.join_get_right]
theorem knF_word (f : Nat) {a w r : ByteArray} (ha : ∀ i, i < a.size → blB (bt a i) = true) (hw : ∀ i, i < w.size → bt w i < 128 ∧ lB (bt w i : Int) = true ∧ gB (bt w i : Int) = false ∧ blB (bt w i) = false) (h0 : 0 < w.size) (h64 : w.size ≤ 64) (hr : r.size = 0 ∨ (bt r 0 < 128 ∧ wsB (bt r 0 : Int) = false)) : knF (f + 1) (a ++ (w ++ r)) = w :: knF f r := by
  have e0 : bt (a ++ (w ++ r)) a.size = bt w 0 := by
    have e1 := bt_right a (w ++ r) 0
    rw [Nat.add_zero] at e1
    rw [e1, bt_left h0]
  have hs : sk (a ++ (w ++ r)) 0 = a.size := sk_go (by rw [Lns.join_size]; omega) (fun i hi => by rw [bt_left hi]; exact ha i hi) (Or.inr (by rw [e0]; exact (hw 0 h0).2.2.2)) a.size 0 (by omega)
  have ht : frm (a ++ (w ++ r)) (sk (a ++ (w ++ r)) 0) = w ++ r := by rw [hs, frm_right]
  have hwe : we (w ++ r) = w.size := by
    refine we_word (by rw [Lns.join_size]; omega) (fun i hi => ?_) ?_
    · rw [bt_left hi]
      exact ⟨(hw i hi).1, by unfold wsB; rw [(hw i hi).2.1]; rfl⟩
    · rcases hr with h | h
      · exact Or.inl (by rw [Lns.join_size]; omega)
      · refine Or.inr ?_
        have e1 := bt_right w r 0
        rw [Nat.add_zero] at e1
        rw [e1]
        exact h
  have hl : ∀ i, i < w.size → bt w i < 128 ∧ lB (bt w i : Int) = true ∧ gB (bt w i : Int) = false := fun i hi => ⟨(hw i hi).1, (hw i hi).2.1, (hw i hi).2.2.1⟩
  rw [knF_yes ht (by rw [hwe, ext_left]; exact asc_chk hl h0 h64), hwe, ext_left, asc_fld hl, frm_right]
/-- What is no word ends them. -/
theorem knF_stop (f : Nat) {a r : ByteArray} (ha : ∀ i, i < a.size → blB (bt a i) = true) (hr : r.size = 0 ∨ (bt r 0 < 128 ∧ wsB (bt r 0 : Int) = false ∧ blB (bt r 0) = false)) : knF (f + 1) (a ++ r) = [] := by
  have hs : sk (a ++ r) 0 = a.size := by
    refine sk_go (by rw [Lns.join_size]; omega) (fun i hi => by rw [bt_left hi]; exact ha i hi) ?_ a.size 0 (by omega)
    rcases hr with h | h
    · exact Or.inl (by rw [Lns.join_size]; omega)
    · refine Or.inr ?_
      have e1 := bt_right a r 0
      rw [Nat.add_zero] at e1
      rw [e1]
      exact h.2.2
  have ht : frm (a ++ r) (sk (a ++ r) 0) = r := by rw [hs, frm_right]
  have hwe : we r = 0 := by
    refine we_word (Nat.zero_le _) (fun i hi => absurd hi (Nat.not_lt_zero _)) ?_
    rcases hr with h | h
    · exact Or.inl h.symm
    · exact Or.inr ⟨h.1, h.2.1⟩
  exact knF_no ht (by rw [hwe]; exact chk_empty (by rw [ByteArray.size_extract]; omega))
end Go.Proofs.YteeeekpeokgaeaaDoor
