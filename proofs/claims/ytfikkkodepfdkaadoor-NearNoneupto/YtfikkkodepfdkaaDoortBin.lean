/- slices.BinarySearch over runes. -/
import Derived.Test.YtfikkkodepfdkaaDoortMake
namespace Go.Proofs.YtfikkkodepfdkaaDoor
set_option linter.unusedVariables false
open Go.RowKit Go.ChangeShapes
theorem nan1_any (x : Int) (w : World) : Calls Tryd.prog 59 #[.int .i32 x] w fun e w' => e = .returned (.bool false) ∧ w' = w := by
  go_enter Tryd.func59, Tryd.ntmps59
  go_wp2
  go_ret
  exact ⟨rfl, rfl⟩
theorem nan2_any (x : Int) (w : World) : Calls Tryd.prog 69 #[.int .i32 x] w fun e w' => e = .returned (.bool false) ∧ w' = w := by
  go_enter Tryd.func69, Tryd.ntmps69
  go_wp2
  go_ret
  exact ⟨rfl, rfl⟩
theorem less_any (x y : Int) (w : World) : Calls Tryd.prog 58 #[.int .i32 x, .int .i32 y] w fun e w' => e = .returned (.bool (decide (x < y))) ∧ w' = w := by
  have c1 := nan2_any x w
  go_enter Tryd.func58, Tryd.ntmps58
  go_wp2_with fail
  refine c1.mono ?_
  rintro e w1 ⟨rfl, h1⟩
  subst w1
  clear c1
  go_wp2
  go_ret
  exact ⟨rfl, rfl⟩
/-- They rise. -/
def Up2 (R : List Int) : Prop := R.Pairwise (· < ·)
theorem Up2.lt {R : List Int} (h : Up2 R) {i j : Nat} {x y : Int} (hi : R[i]? = some x) (hj : R[j]? = some y) (hij : i < j) : x < y := by
  obtain ⟨h1, rfl⟩ := List.getElem?_eq_some_iff.1 hi
  obtain ⟨h2, rfl⟩ := List.getElem?_eq_some_iff.1 hj
  exact List.pairwise_iff_getElem.1 h i j h1 h2 hij
theorem found_no {R : List Int} (hR : Up2 R) {x : Int} {i : Nat} (h1 : ∀ (q : Nat) (y : Int), R[q]? = some y → q < i → y < x) (h2 : ∀ (q : Nat) (y : Int), R[q]? = some y → i ≤ q → x ≤ y) (h3 : R[i]? ≠ some x) : x ∉ R := by
  intro hx
  obtain ⟨q, hq⟩ := List.getElem?_of_mem hx
  rcases Nat.lt_trichotomy q i with e | e | e
  · have := h1 q x hq e; omega
  · subst e; exact h3 hq
  · have hlen := (List.getElem?_eq_some_iff.1 hq).1
    have hi : R[i]? = some R[i] := List.getElem?_eq_getElem (by omega)
    have a := h2 i _ hi (Nat.le_refl _)
    have b := hR.lt hi hq e
    omega
set_option maxHeartbeats 1000000 in
set_option maxRecDepth 100000 in
theorem search_any {w : World} {b : Nat} {v : Value} (R : List Int) (hR : Up2 R) (h : w.ownsRow b 21 1 v R.length (R.map i32c)) (hL : R.length ≤ 1000000) (x : Int) :
    Calls Tryd.prog 43 #[v, .int .i32 x] w fun e w' => ∃ z : Nat, e = .returned (.tuple #[.int .i64 (z : Int), .bool (decide (x ∈ R))]) ∧ (x ∈ R → R[z]? = some x) ∧ w' = w := by
  have H : Hid (w.ownsRow b 21 1 v R.length (R.map i32c)) := h
  have HR : Hid (Up2 R) := hR
  clear h hR
  obtain ⟨ad, cv, rfl⟩ : ∃ ad cv, v = .slice ad R.length cv := by
    obtain ⟨_, ⟨e, h0⟩ | ⟨g, cap, _, e, _⟩⟩ := H.out
    · exact ⟨_, _, by rw [h0]; exact e⟩
    · exact ⟨_, _, e⟩
  generalize hk : R.length = k at *
  have HK : Hid (R.length = k) := hk
  clear hk
  go_enter Tryd.func43, Tryd.ntmps43
  go_wp2
  go_loopg [7, 8] k (fun g lo hi wr => ∃ (i j : Nat), i ≤ j ∧ j ≤ k ∧ g = j - i ∧ lo = .int .i64 i ∧ hi = .int .i64 j ∧ Hid (∀ q y, R[q]? = some y → q < i → y < x) ∧ Hid (∀ q y, R[q]? = some y → j ≤ q → x ≤ y) ∧ Hid (wr = w))
  case atStart => exact ⟨0, k, Nat.zero_le _, Nat.le_refl _, rfl, rfl, rfl, (fun q y _ hq => absurd hq (Nat.not_lt_zero q)), (fun q y hq hk => by have := (List.getElem?_eq_some_iff.1 hq).1; have := HK.out; omega), rfl⟩
  case round =>
    obtain ⟨i, j, hij, hjk, hg, rfl, rfl, HA, HB, HW⟩ := hrel
    obtain rfl := HW.out
    by_cases hlt : i < j
    · obtain ⟨h, hh⟩ : ∃ h, h = (i + j) / 2 := ⟨_, rfl⟩
      have z1 : ((i : Nat) : Int) < (j : Int) := by omega
      have zm : ((i : Int) + (j : Int)) / 2 = (h : Int) := by omega
      have zh1 : i ≤ h := by omega
      have zh2 : h < j := by omega
      have z2 : ((h : Nat) : Int) < (k : Int) := by omega
      have z3 : (0 : Int) ≤ (h : Int) := by omega
      clear hh
      obtain ⟨g1, rfl⟩ : ∃ g1, ad = some ⟨g1, 0, none⟩ := by
        obtain ⟨g1, cap, e, _⟩ := H.out.form (by omega)
        injection e with e1 _ _
        exact ⟨g1, e1⟩
      obtain ⟨y, hy⟩ : ∃ y, R[h]? = some y := ⟨_, List.getElem?_eq_getElem (by rw [HK.out]; omega)⟩
      have hc : wr.cell? ⟨g1, h, none⟩ = some (.int .i32 y) := by
        rw [H.out.cellAt h (by omega), List.getElem?_map, hy]; rfl
      have HY : Hid (R[h]? = some y) := hy
      clear hy
      have cl := less_any y x wr
      by_cases hyx : y < x
      · rw [decide_eq_true hyx] at cl
        go_wp2_with fail
        refine cl.mono ?_
        rintro e w2 ⟨rfl, hw2⟩
        subst w2
        clear cl
        go_wp2
        go_roundg (j - (h + 1))
        case measure => omega
        case rel =>
          refine ⟨h + 1, j, by omega, hjk, rfl, by go_num, rfl, ?_, HB, rfl⟩
          intro q y' hq hlt'
          rcases Nat.lt_or_ge q h with e | e
          · have := HR.out.lt hq HY.out e; omega
          · obtain rfl : q = h := by omega
            rw [HY.out] at hq
            cases hq
            exact hyx
      · rw [decide_eq_false hyx] at cl
        go_wp2_with fail
        refine cl.mono ?_
        rintro e w2 ⟨rfl, hw2⟩
        subst w2
        clear cl
        go_wp2
        go_roundg (h - i)
        case measure => omega
        case rel =>
          refine ⟨i, h, by omega, by omega, rfl, rfl, rfl, HA, ?_, rfl⟩
          intro q y' hq hge
          rcases Nat.lt_or_ge h q with e | e
          · have := HR.out.lt HY.out hq e; omega
          · obtain rfl : q = h := by omega
            rw [HY.out] at hq
            cases hq
            omega
    · obtain rfl : i = j := by omega
      by_cases hik : i < k
      · have z2 : ((i : Nat) : Int) < (k : Int) := by omega
        have z3 : (0 : Int) ≤ (i : Int) := by omega
        obtain ⟨g1, rfl⟩ : ∃ g1, ad = some ⟨g1, 0, none⟩ := by
          obtain ⟨g1, cap, e, _⟩ := H.out.form (by omega)
          injection e with e1 _ _
          exact ⟨g1, e1⟩
        obtain ⟨y, hy⟩ : ∃ y, R[i]? = some y := ⟨_, List.getElem?_eq_getElem (by rw [HK.out]; omega)⟩
        have hc : wr.cell? ⟨g1, i, none⟩ = some (.int .i32 y) := by
          rw [H.out.cellAt i (by omega), List.getElem?_map, hy]; rfl
        have HY : Hid (R[i]? = some y) := hy
        clear hy
        have cn := nan1_any y wr
        by_cases hyx : y = x
        · subst hyx
          have HM : Hid (y ∈ R) := List.mem_of_getElem? HY.out
          go_wp2
          go_ret2
          exact ⟨i, by rw [decide_eq_true HM.out]; rfl, fun _ => HY.out, rfl⟩
        · have hyx' : (y == x) = false := by simpa using hyx
          have HM : Hid (x ∉ R) := found_no HR.out HA.out HB.out (by rw [HY.out]; simpa using hyx)
          go_wp2_with fail
          refine cn.mono ?_
          rintro e w2 ⟨rfl, hw2⟩
          subst w2
          clear cn
          go_wp2
          go_ret2
          exact ⟨i, by rw [decide_eq_false HM.out]; rfl, fun hx => absurd hx HM.out, rfl⟩
      · have z2 : ¬ ((i : Nat) : Int) < (k : Int) := by omega
        have HM : Hid (x ∉ R) := found_no HR.out HA.out HB.out (by rw [List.getElem?_eq_none (by rw [HK.out]; omega)]; simp)
        go_wp2
        go_ret2
        exact ⟨i, by rw [decide_eq_false HM.out]; rfl, fun hx => absurd hx HM.out, rfl⟩
end Go.Proofs.YtfikkkodepfdkaaDoor
