/- near.final. -/
import Derived.Test.YtfikkkodepfdkaaDoornMem
import Derived.Test.YtfikkkodepfdkaaDoorzNxt
import Derived.Test.YtfikkkodepfdkaaDoortSrc
import Derived.Deep.DeepCutAuto
import Derived.Deep.CutBlock
import Derived.Deep.RegionHeld3
namespace Go.Proofs.YtfikkkodepfdkaaDoor
set_option linter.unusedVariables false
open Go.RowKit Go.ChangeShapes
open Qns (dd far at_)
theorem final_any {w : World} {b : Nat} {ad : Option Addr} {c : Nat} (p : List Int) (h : w.ownsRow b 21 1 (.slice ad p.length c) p.length (p.map i32c)) (hp : p.length ≤ 100) :
    Calls Tryd.prog 74 #[.slice ad p.length c] w fun e w' => e = .returned (.int .i32 (at_ p (p.length - 1))) ∧ w' = w := by
  cases hl : p.length with
  | zero =>
    have hz : p = [] := List.eq_nil_of_length_eq_zero hl
    subst hz
    have e : at_ [] (0 - 1) = 0 := rfl
    rw [e]
    clear h hl
    go_enter Tryd.func74, Tryd.ntmps74
    go_wp2
    go_ret
    exact ⟨rfl, rfl⟩
  | succ n =>
    obtain ⟨g, rfl⟩ : ∃ g, ad = some ⟨g, 0, none⟩ := by
      obtain ⟨_, ⟨e1, e2⟩ | ⟨g', cap, _, e1, _⟩⟩ := h
      · omega
      · injection e1 with e1 _ _; exact ⟨g', e1⟩
    have hc : w.cell? ⟨g, n, none⟩ = some (.int .i32 (at_ p n)) := by
      rw [h.cellAt n (by omega), List.getElem?_map]
      unfold at_
      rw [List.getD_eq_getElem?_getD]
      have : n < p.length := by omega
      rw [List.getElem?_eq_getElem this]
      rfl
    have e : n + 1 - 1 = n := rfl
    rw [e]
    generalize at_ p n = q at *
    have z1 : ((n + 1 : Nat) : Int) - 1 = (n : Int) := by omega
    have z2 : (n : Int) < ((n + 1 : Nat) : Int) := by omega
    have z3 : (0 : Int) ≤ (n : Int) := by omega
    have z4 : ¬ ((n + 1 : Nat) : Int) = 0 := by omega
    have z5 : n + 1 ≤ 100 := by omega
    clear h hl hp e
    go_enter Tryd.func74, Tryd.ntmps74
    go_wp2
    go_ret
    exact ⟨rfl, rfl⟩
theorem tx_own {w : World} {b : Nat} {v : Value} (p : List Int) (h : w.ownsRow b 21 1 v p.length (p.map i32c)) (hp : p.length ≤ 100) :
    Calls Tryd.prog 25 #[v] w fun e w' => e = .returned (.string (tx p)) ∧ Below w.heap.size w w' := by
  have e : strOfNums (txt (at_ p) p.length) = tx p := by
    have key : ∀ k, k ≤ p.length → txt (at_ p) k = (p.take k).flatMap enc := fun k => by
      induction k with
      | zero => intro _; simp [txt]
      | succ k ih =>
        intro hk
        have h1 : p.take (k + 1) = p.take k ++ [at_ p k] := by
          rw [List.take_add_one, List.getElem?_eq_getElem (by omega : k < p.length)]
          unfold at_
          rw [List.getD_eq_getElem?_getD, List.getElem?_eq_getElem (by omega : k < p.length)]
          rfl
        rw [h1, List.flatMap_append, ← ih (by omega)]
        simp [txt, List.range_succ]
    rw [key _ (Nat.le_refl _), List.take_length]
    rfl
  rw [← e]
  refine text_any (at_ p) p.length v w (by omega) ?_
  have h0 := h
  obtain ⟨hl, ⟨rfl, h1⟩ | ⟨g, cap, cur, rfl, hg, hh, h3⟩⟩ := h
  · exact Or.inl ⟨none, 0, rfl, h1⟩
  · refine Or.inr ⟨g, 0, cap, rfl, fun q hq => ?_⟩
    rw [Nat.zero_add, h0.cellAt q (by omega), List.getElem?_map]
    unfold at_
    rw [List.getD_eq_getElem?_getD, List.getElem?_eq_getElem hq]
    rfl
end Go.Proofs.YtfikkkodepfdkaaDoor
