/- dist: Of. -/
import Derived.Test.YtkgabdmicpfnmaaqNxt
namespace Go.Proofs.Ytkgabdmicpfnmaa
set_option linter.unusedVariables false
open Go.RowKit Go.ChangeShapes
theorem dd_bound (A B : Nat → Int) (i k : Nat) : dd A B i k ≤ i + k := by
  have := (dd_max A B _ i k (Nat.le_refl _)).1
  omega
theorem wrap_small (x : Nat) (h : x ≤ 1000) (z : Int) (hz : z = (x : Int)) : wrap64 z = (x : Int) := by
  subst hz
  exact IntWalk.wrap64_in _ (by omega)
theorem nx_dd (A B L F : Nat → Int) (q : Bool) (p : Int) (k n : Nat) (hk : k ≤ 100) (hn : n ≤ 100) (hL : ∀ j, j ≤ k → L j = (dd A B j n : Int)) (hq : q = true ↔ 1 ≤ n) (hp : 1 ≤ n → p = B (n - 1))
    (hF : 1 ≤ n → ∀ j, j ≤ k → F j = (dd A B j (n - 1) : Int)) : ∀ j, j ≤ k → nx A L F q p (B n) j = (dd A B j (n + 1) : Int)
  | 0, h => by
    show wrap64 (L 0 + 1) = _
    rw [hL 0 h, dd_0, dd_0]
    exact wrap_small (n + 1) (by omega) _ (by omega)
  | j + 1, h => by
    have ih := nx_dd A B L F q p k n hk hn hL hq hp hF j (by omega)
    have b1 := dd_bound A B (j + 1) n
    have b2 := dd_bound A B j (n + 1)
    have b3 := dd_bound A B j n
    have b4 := dd_bound A B (j - 1) (n - 1)
    have e1 : wrap64 (L (j + 1) + 1) = ((dd A B (j + 1) n + 1 : Nat) : Int) := by
      rw [hL (j + 1) h]; exact wrap_small _ (by omega) _ (by omega)
    have e2 : wrap64 (nx A L F q p (B n) j + 1) = ((dd A B j (n + 1) + 1 : Nat) : Int) := by
      rw [ih]; exact wrap_small _ (by omega) _ (by omega)
    have e3 : wrap64 (L j + if A j = B n then 0 else 1) = ((dd A B j n + if A j = B n then 0 else 1 : Nat) : Int) := by
      rw [hL j (by omega)]
      by_cases e : A j = B n
      · rw [if_pos e, if_pos e]; exact wrap_small _ (by omega) _ (by omega)
      · rw [if_neg e, if_neg e]; exact wrap_small _ (by omega) _ (by omega)
    have hd := dd_s A B j n
    by_cases hc : 1 ≤ j ∧ 1 ≤ n ∧ A j = B (n - 1) ∧ A (j - 1) = B n
    · rw [if_pos hc] at hd
      have e4 : wrap64 (F (j - 1) + 1) = ((dd A B (j - 1) (n - 1) + 1 : Nat) : Int) := by
        rw [hF hc.2.1 (j - 1) (by omega)]; exact wrap_small _ (by omega) _ (by omega)
      rw [nx_yes ⟨hc.1, hq.2 hc.2.1, by rw [hp hc.2.1]; exact hc.2.2.1, hc.2.2.2⟩, e1, e2, e3, e4, hd]
      omega
    · rw [if_neg hc] at hd
      rw [nx_no (fun h' => hc ⟨h'.1, hq.1 h'.2.1, by rw [← hp (hq.1 h'.2.1)]; exact h'.2.2.1, h'.2.2.2⟩), e1, e2, e3, hd]
      omega
theorem of_long {w : World} {aa ab : Option Addr} {ca cb k n : Nat} (h : 64 < k ∨ 64 < n) (hk : k ≤ 1000) (hn : n ≤ 1000) :
    Calls Try.prog 10 #[.slice aa k ca, .slice ab n cb] w fun e w' => e = .returned (.int .i64 ((max k n : Nat) : Int)) ∧ w' = w := by
  obtain ⟨x, hx⟩ : ∃ x, max k n = x := ⟨_, rfl⟩
  have z1 : max (k : Int) (n : Int) = (x : Int) := by omega
  have z2 : (64 : Int) < (x : Int) := by omega
  rw [hx]
  clear hx h
  go_enter Try.func10, Try.ntmps10
  go_wp2
  go_ret
  exact ⟨rfl, rfl⟩
set_option maxHeartbeats 1000000 in
set_option maxRecDepth 100000 in
theorem of_near {w : World} {va vb : Value} {k n : Nat} {A B : Nat → Int} (hA : RSl w va k A) (hB : RSl w vb n B) (hk : k ≤ 64) (hn : n ≤ 64) :
    Calls Try.prog 10 #[va, vb] w fun e w' => e = .returned (.int .i64 (dd A B k n : Int)) ∧ Up w.heap.size w w' := by
  have HA : Hid (RSl w va k A) := hA
  have HB : Hid (RSl w vb n B) := hB
  obtain ⟨aa, ca, rfl⟩ := hA.form
  obtain ⟨ab, cb, rfl⟩ := hB.form
  clear hA hB
  obtain ⟨x, hx⟩ : ∃ x, max k n = x := ⟨_, rfl⟩
  have z1 : max (k : Int) (n : Int) = (x : Int) := by omega
  have z2 : ¬ (64 : Int) < (x : Int) := by omega
  clear hx
  have c1 := first_any (k : Int) w
  have hf : fN (k : Int) = k := by unfold fN; omega
  rw [hf] at c1
  go_enter Try.func10, Try.ntmps10
  go_wp2_with fail
  refine c1.mono ?_
  rintro e w1 ⟨rfl, hI1, hU1⟩
  have HI : Hid (Is w1 w.heap.size 0 (k + 1) fun i => (i : Int)) := hI1
  have HU : Hid (Up w.heap.size w w1) := hU1
  clear hI1 hU1 c1 hf
  go_wp2
  go_loopg [6, 7, 8, 24] n (fun g bv pv lv iv wr => ∃ i : Nat, ∃ m gl : Nat, ∃ p : Int, ∃ F : Nat → Int, i ≤ n ∧ g = n - i ∧ iv = .int .i64 i ∧ pv = .int .i32 p ∧ lv = .slice (some ⟨gl, 0, none⟩) (k + 1) (k + 1) ∧ m ≤ 100 ∧ Hid (Is wr gl 0 (k + 1) (fun j => (dd A B j i : Int))) ∧ Hid (ISl wr bv m F) ∧
    Hid ((m = k + 1 ↔ 1 ≤ i) ∧ (1 ≤ i → p = B (i - 1)) ∧ (1 ≤ i → ∀ j, j ≤ k → F j = (dd A B j (i - 1) : Int))) ∧ Hid (Up w.heap.size w wr))
  case atStart =>
    refine ⟨0, 0, w.heap.size, 0, fun _ => 0, Nat.zero_le _, rfl, rfl, rfl, rfl, by omega, ?_, Or.inl ⟨none, 0, rfl, rfl⟩, ⟨⟨fun h => by omega, fun h => by omega⟩, fun h => by omega, fun h => by omega⟩, HU.out⟩
    intro j hj
    show w1.cell? _ = some (.int .i64 (dd A B j 0 : Int))
    rw [dd_i]
    exact HI.out j hj
  case round =>
    obtain ⟨i, m, gl, p, F, hi, hg, rfl, rfl, rfl, hm, HL, HBf, HF, HU2⟩ := hrel
    by_cases hlt : i < n
    · have z3 : ((i : Nat) : Int) < (n : Int) := by omega
      have z4 : (0 : Int) ≤ (i : Int) := by omega
      have z5 : ¬ (i : Int) < 0 := by omega
      obtain ⟨bb, bo, rfl, hR⟩ := HB.out.at (by omega)
      have hcb := (hR.stay HU2.out.1) i hlt
      clear hR
      have cn := next_any (cl := k + 1) (HA.out.stay HU2.out.1) HL.out HBf.out (by omega) (by omega) p (B i)
      obtain ⟨ba, bc, rfl⟩ := HBf.out.form
      go_wp2_with fail
      refine cn.mono ?_
      rintro e w2 ⟨rfl, hI2, hU3⟩
      have HI2 : Hid (Is w2 wr.heap.size 0 (k + 1) (nx A (fun j => (dd A B j i : Int)) F (decide (m = k + 1)) p (B i))) := hI2
      have HU3 : Hid (Up wr.heap.size wr w2) := hU3
      clear hI2 hU3 cn
      go_wp2
      go_roundg (n - (i + 1))
      case measure => omega
      case rel =>
        refine ⟨i + 1, k + 1, wr.heap.size, B i, fun j => (dd A B j i : Int), by omega, rfl, by go_num, rfl, rfl, by omega, ?_, Or.inr ⟨gl, 0, k + 1, rfl, HL.out.stay HU3.out.1⟩, ⟨⟨fun _ => by omega, fun _ => rfl⟩, fun _ => by simp, fun _ j _ => by simp⟩, HU2.out.stay HU3.out.1⟩
        exact HI2.out.congr (fun j hj => nx_dd A B _ F _ p k i (by omega) (by omega) (fun _ _ => rfl) (by rw [decide_eq_true_eq]; exact HF.out.1) HF.out.2.1 HF.out.2.2 j (by omega))
    · obtain rfl : i = n := by omega
      have z3 : ¬ ((i : Nat) : Int) < (i : Int) := by omega
      have cl := last_any (c := k + 1) HL.out (by omega)
      go_wp2_with fail
      refine cl.mono ?_
      rintro e w2 ⟨rfl, h2⟩
      subst w2
      clear cl
      go_wp2
      go_ret
      exact ⟨rfl, HU2.out⟩
end Go.Proofs.Ytkgabdmicpfnmaa
