/- dist: Of. -/
import Derived.Test.YtfikkkodepfdkaaDoorzNxt
namespace Go.Proofs.YtfikkkodepfdkaaDoor.Qns
set_option linter.unusedVariables false
open Go.RowKit Go.ChangeShapes
theorem dd_bound (A B : Nat → Int) (i k : Nat) : dd A B i k ≤ i + k := by
  have := (dd_max A B _ i k (Nat.le_refl _)).1
  omega
theorem wrap_small (x : Nat) (h : x ≤ 1000) (z : Int) (hz : z = (x : Int)) : wrap64 z = (x : Int) := by
  subst hz
  exact IntWalk.wrap64_in _ (by omega)
theorem nx_dd (A B L F : Nat → Int) (q : Bool) (p : Int) (k n : Nat) (hk : k ≤ 100) (hn : n ≤ 100) (hL : ∀ j, j ≤ k → L j = (dd A B j n : Int)) (hq : q = true ↔ 1 ≤ n) (hp : 1 ≤ n → p = B (n - 1))
    (hF : 1 ≤ n → ∀ j, j ≤ k → F j = (dd A B j (n - 1) : Int)) : ∀ j, j ≤ k → nx A L F q p (B n) j = (dd A B j (n + 1) : Int)
  | 0, h => by
    show wrap64 (L 0 + 1) = _
    rw [hL 0 h, dd_0, dd_0]
    exact wrap_small (n + 1) (by omega) _ (by omega)
  | j + 1, h => by
    have ih := nx_dd A B L F q p k n hk hn hL hq hp hF j (by omega)
    have b1 := dd_bound A B (j + 1) n
    have b2 := dd_bound A B j (n + 1)
    have b3 := dd_bound A B j n
    have b4 := dd_bound A B (j - 1) (n - 1)
    have e1 : wrap64 (L (j + 1) + 1) = ((dd A B (j + 1) n + 1 : Nat) : Int) := by
      rw [hL (j + 1) h]; exact wrap_small _ (by omega) _ (by omega)
    have e2 : wrap64 (nx A L F q p (B n) j + 1) = ((dd A B j (n + 1) + 1 : Nat) : Int) := by
      rw [ih]; exact wrap_small _ (by omega) _ (by omega)
    have e3 : wrap64 (L j + if A j = B n then 0 else 1) = ((dd A B j n + if A j = B n then 0 else 1 : Nat) : Int) := by
      rw [hL j (by omega)]
      by_cases e : A j = B n
      · rw [if_pos e, if_pos e]; exact wrap_small _ (by omega) _ (by omega)
      · rw [if_neg e, if_neg e]; exact wrap_small _ (by omega) _ (by omega)
    have hd := dd_s A B j n
    by_cases hc : 1 ≤ j ∧ 1 ≤ n ∧ A j = B (n - 1) ∧ A (j - 1) = B n
    · rw [if_pos hc] at hd
      have e4 : wrap64 (F (j - 1) + 1) = ((dd A B (j - 1) (n - 1) + 1 : Nat) : Int) := by
        rw [hF hc.2.1 (j - 1) (by omega)]; exact wrap_small _ (by omega) _ (by omega)
      rw [nx_yes ⟨hc.1, hq.2 hc.2.1, by rw [hp hc.2.1]; exact hc.2.2.1, hc.2.2.2⟩, e1, e2, e3, e4, hd]
      omega
    · rw [if_neg hc] at hd
      rw [nx_no (fun h' => hc ⟨h'.1, hq.1 h'.2.1, by rw [← hp (hq.1 h'.2.1)]; exact h'.2.2.1, h'.2.2.2⟩), e1, e2, e3, hd]
      omega
end Go.Proofs.YtfikkkodepfdkaaDoor.Qns
