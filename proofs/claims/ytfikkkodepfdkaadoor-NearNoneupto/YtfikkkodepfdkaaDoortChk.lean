/- slices.Index, slices.Contains over runes; trie.check. -/
import Derived.Test.YtfikkkodepfdkaaDoortAdd
import Derived.Test.YtfikkkodepfdkaaDoorRis
import Derived.Laws.Cover1
namespace Go.Proofs.YtfikkkodepfdkaaDoor
set_option linter.unusedVariables false
open Go.RowKit Go.ChangeShapes
def IdxIs (L : List Int) (x z : Int) : Prop := (x ∈ L → 0 ≤ z) ∧ (x ∉ L → z = -1)
set_option maxRecDepth 100000 in
theorem index_any {w : World} {b : Nat} {v : Value} (L : List Int) (h : w.ownsRow b 21 1 v L.length (L.map i32c)) (hL : L.length ≤ 100000) (x : Int) :
    Calls Tryd.prog 61 #[v, .int .i32 x] w fun e w' => ∃ z : Int, e = .returned (.int .i64 z) ∧ IdxIs L x z ∧ w' = w := by
  have H : Hid (w.ownsRow b 21 1 v L.length (L.map i32c)) := h
  clear h
  obtain ⟨ad, cv, rfl⟩ : ∃ ad cv, v = .slice ad L.length cv := by
    obtain ⟨_, ⟨e, h0⟩ | ⟨g, cap, _, e, _⟩⟩ := H.out
    · exact ⟨_, _, by rw [h0]; exact e⟩
    · exact ⟨_, _, e⟩
  generalize hk : L.length = k at *
  have HK : Hid (L.length = k) := hk
  clear hk
  go_enter Tryd.func61, Tryd.ntmps61
  go_wp2
  go_loopg [8] k (fun g ix wr => ∃ (j : Nat), j ≤ k ∧ g = k - j ∧ ix = .int .i64 j ∧ Hid (x ∉ L.take j) ∧ Hid (wr = w))
  case atStart => exact ⟨0, Nat.zero_le _, rfl, rfl, (by simp : x ∉ L.take 0), rfl⟩
  case round =>
    obtain ⟨j, hj, hg, rfl, HN, HW⟩ := hrel
    obtain rfl := HW.out
    by_cases hlt : j < k
    · obtain ⟨g1, rfl⟩ : ∃ g1, ad = some ⟨g1, 0, none⟩ := by
        obtain ⟨g1, cap, e, _⟩ := H.out.form (by omega)
        injection e with e1 _ _
        exact ⟨g1, e1⟩
      obtain ⟨y, hy⟩ : ∃ y, L[j]? = some y := ⟨_, List.getElem?_eq_getElem (by rw [HK.out]; exact hlt)⟩
      have hc : wr.cell? ⟨g1, j, none⟩ = some (.int .i32 y) := by
        rw [H.out.cellAt j (by omega), List.getElem?_map, hy]; rfl
      have z1 : ((j : Nat) : Int) < (k : Int) := by omega
      have z2 : (0 : Int) ≤ (j : Int) := by omega
      have HY : Hid (L[j]? = some y) := hy
      clear hy
      by_cases hxy : x = y
      · subst hxy
        go_wp2
        go_ret
        exact ⟨_, rfl, ⟨fun _ => z2, fun hno => absurd (List.mem_of_getElem? HY.out) hno⟩, rfl⟩
      · have hxy' : (x == y) = false := by simpa using hxy
        go_wp2
        go_roundg (k - (j + 1))
        case measure => omega
        case rel =>
          refine ⟨j + 1, by omega, rfl, by go_num, ?_, rfl⟩
          show x ∉ L.take (j + 1)
          rw [List.take_add_one, HY.out]
          simp only [Option.toList_some, List.mem_append, List.mem_singleton, not_or]
          exact ⟨HN.out, hxy⟩
    · obtain rfl : j = k := by omega
      have hnot : x ∉ L := by
        have := HN.out
        rwa [List.take_of_length_le (by rw [HK.out]; exact Nat.le_refl _)] at this
      go_wp2
      go_ret
      exact ⟨_, rfl, ⟨fun hx => absurd hx hnot, fun _ => rfl⟩, rfl⟩
theorem contains_any {w : World} {b : Nat} {v : Value} (L : List Int) (h : w.ownsRow b 21 1 v L.length (L.map i32c)) (hL : L.length ≤ 100000) (x : Int) :
    Calls Tryd.prog 46 #[v, .int .i32 x] w fun e w' => e = .returned (.bool (decide (x ∈ L))) ∧ w' = w := by
  have ct := index_any L h hL x
  clear h
  go_enter Tryd.func46, Tryd.ntmps46
  go_wp2_with fail
  refine ct.mono ?_
  rintro e w2 ⟨z, rfl, hz, rfl⟩
  by_cases hx : x ∈ L
  · replace hz := hz.1 hx
    go_wp2
    go_ret
    exact ⟨by simp [hx], rfl⟩
  · replace hz := hz.2 hx
    subst hz
    go_wp2
    go_ret
    exact ⟨by simp [hx], rfl⟩
/-- May a word, the one at i, stand behind the one ahead? -/
def chkP (i : Nat) (s a : ByteArray) (L : List Int) : Int :=
  if s.size = 0 then 5 else if lw a s = false then 8 else if 64 < s.size then 3 else if 4096 ≤ i then 4 else if (-1 : Int) ∈ L then 5 else 0
theorem le_lw (s a : ByteArray) : (Op.bytesLess s.toList a.toList || s.toList == a.toList) = !lw a s := by
  rw [Lib.toList_data, Lib.toList_data, bytesLess_eq]
  unfold lw Sort.ltStr
  rw [Bool.eq_iff_iff]
  simp only [Bool.or_eq_true, decide_eq_true_eq, beq_iff_eq, Bool.not_eq_true', decide_eq_false_iff_not, List.not_lt]
  constructor
  · intro h
    rcases h with h | h
    · exact List.le_of_lt h
    · rw [h]; exact List.le_refl _
  · intro h
    by_cases e : s.data.toList = a.data.toList
    · exact Or.inr e
    · left
      by_cases h1 : s.data.toList < a.data.toList
      · exact h1
      · exact absurd (List.le_antisymm h (List.not_lt.1 h1)) e
theorem empty_size (s : ByteArray) : s.toList.isEmpty = decide (s.size = 0) := by
  rw [Lib.toList_data]
  have h : s.size = s.data.toList.length := by simp
  rw [h]
  cases s.data.toList <;> rfl
theorem ends_unique (s : ByteArray) {k k' : Nat} (h : Ends s k) (h' : Ends s k') : k = k' := by
  rcases Nat.lt_trichotomy k k' with e | e | e
  · have := h'.2 k e
    have := h.1
    omega
  · exact e
  · have := h.2 k' e
    have := h'.1
    omega
theorem check_any (w : World) (hT : Tabs w) (i : Nat) (s a : ByteArray) (k : Nat) (hk : Ends s k) (hi : i ≤ 1000000) (hs : s.size ≤ 1000000) :
    Calls Tryd.prog 26 #[.int .i64 (i : Int), .string s, .string a] w fun e w' => e = .returned (.int .i64 (chkP i s a (rl s k))) ∧ Below w.heap.size w w' := by
  have HT : Hid (Tabs w) := hT
  have HE : Hid (Ends s k) := hk
  clear hT hk
  by_cases h1 : s.size = 0
  · have hz : chkP i s a (rl s k) = 5 := by unfold chkP; rw [if_pos h1]
    have he : s.toList.isEmpty = true := by rw [empty_size]; simpa using h1
    rw [hz]
    clear h1 hz
    go_enter Tryd.func26, Tryd.ntmps26
    go_wp2
    go_ret
    exact ⟨rfl, Below.refl _ _⟩
  · have he : s.toList.isEmpty = false := by rw [empty_size]; simpa using h1
    have hle := le_lw s a
    cases hl : lw a s
    · have hz : chkP i s a (rl s k) = 8 := by unfold chkP; rw [if_neg h1, if_pos hl]
      rw [hz]
      rw [hl, Bool.not_false] at hle
      clear h1 hz
      go_enter Tryd.func26, Tryd.ntmps26
      go_wp2
      go_ret
      exact ⟨rfl, Below.refl _ _⟩
    · rw [hl, Bool.not_true] at hle
      have hl' : ¬ lw a s = false := by rw [hl]; decide
      by_cases h2 : 64 < s.size
      · have hz : chkP i s a (rl s k) = 3 := by unfold chkP; rw [if_neg h1, if_neg hl', if_pos h2]
        rw [hz]
        have z1 : (64 : Int) < (s.size : Int) := by omega
        clear h1 hz hl hl'
        go_enter Tryd.func26, Tryd.ntmps26
        go_wp2
        go_ret
        exact ⟨rfl, Below.refl _ _⟩
      · have z1 : ¬ (64 : Int) < (s.size : Int) := by omega
        by_cases h3 : 4096 ≤ i
        · have hz : chkP i s a (rl s k) = 4 := by unfold chkP; rw [if_neg h1, if_neg hl', if_neg h2, if_pos h3]
          rw [hz]
          have z2 : (4096 : Int) ≤ (i : Int) := by omega
          clear h1 hz hl hl'
          go_enter Tryd.func26, Tryd.ntmps26
          go_wp2
          go_ret
          exact ⟨rfl, Below.refl _ _⟩
        · have hz : chkP i s a (rl s k) = if (-1 : Int) ∈ rl s k then 5 else 0 := by unfold chkP; rw [if_neg h1, if_neg hl', if_neg h2, if_neg h3]
          rw [hz]
          have z2 : ¬ (4096 : Int) ≤ (i : Int) := by omega
          clear h1 hz hl hl'
          by_cases hm : (-1 : Int) ∈ rl s k
          · rw [if_pos hm]
            have HM : Hid (decide ((-1 : Int) ∈ rl s k) = true) := decide_eq_true hm
            clear hm
            have cr := runes_any s w (by omega) HT.out
            go_enter Tryd.func26, Tryd.ntmps26
            go_wp2_with fail
            refine cr.mono ?_
            rintro e w1 ⟨k', v, rfl, hE, hown, hb⟩
            obtain rfl : k' = k := ends_unique s hE HE.out
            have hlen : (rl s k').length = k' := by simp [rl]
            have hown' : w1.ownsRow w.heap.size 21 1 v (rl s k').length ((rl s k').map i32c) := by
              rw [hlen]
              have : (rl s k').map i32c = rcells s k' := by simp [rl, rcells, i32c]
              rw [this]; exact hown
            have hk64 : k' ≤ 64 := by
              have := pos_ge s k' hE.2
              have := hE.1
              omega
            have cc := contains_any (rl s k') hown' (by rw [hlen]; omega) (-1)
            rw [HM.out] at cc
            have HB : Hid (Below w.heap.size w w1) := hb
            clear hown hown' cr hE hb hlen
            go_wp2_with fail
            refine cc.mono ?_
            rintro e w2 ⟨rfl, hw2⟩
            subst w2
            clear cc
            go_wp2
            go_ret
            exact ⟨rfl, HB.out⟩
          · rw [if_neg hm]
            have HM : Hid (decide ((-1 : Int) ∈ rl s k) = false) := decide_eq_false hm
            clear hm
            have cr := runes_any s w (by omega) HT.out
            go_enter Tryd.func26, Tryd.ntmps26
            go_wp2_with fail
            refine cr.mono ?_
            rintro e w1 ⟨k', v, rfl, hE, hown, hb⟩
            obtain rfl : k' = k := ends_unique s hE HE.out
            have hlen : (rl s k').length = k' := by simp [rl]
            have hown' : w1.ownsRow w.heap.size 21 1 v (rl s k').length ((rl s k').map i32c) := by
              rw [hlen]
              have : (rl s k').map i32c = rcells s k' := by simp [rl, rcells, i32c]
              rw [this]; exact hown
            have hk64 : k' ≤ 64 := by
              have := pos_ge s k' hE.2
              have := hE.1
              omega
            have cc := contains_any (rl s k') hown' (by rw [hlen]; omega) (-1)
            rw [HM.out] at cc
            have HB : Hid (Below w.heap.size w w1) := hb
            clear hown hown' cr hE hb hlen
            go_wp2_with fail
            refine cc.mono ?_
            rintro e w2 ⟨rfl, hw2⟩
            subst w2
            clear cc
            go_wp2
            go_ret
            exact ⟨rfl, HB.out⟩
end Go.Proofs.YtfikkkodepfdkaaDoor
