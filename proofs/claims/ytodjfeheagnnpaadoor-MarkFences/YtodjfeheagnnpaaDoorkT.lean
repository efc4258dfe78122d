/- (*Index).Lines, Span, Line. -/
import Derived.Test.YtodjfeheagnnpaaDoorkS
namespace Go.Proofs.YtodjfeheagnnpaaDoor.Lns
set_option linter.unusedVariables false
open Go.RowKit Go.ChangeShapes
/-- An index of bytes lies there. -/
def Idx (w : World) (v : Value) (s : ByteArray) (K : Nat) : Prop := Ends s K ∧ ∃ g vl vs, v = .pointer (some ⟨g, 0, none⟩) ∧ w.cell? ⟨g, 0, none⟩ = some (.int .i64 s.size) ∧ w.cell? ⟨g, 1, none⟩ = some vl ∧ w.cell? ⟨g, 2, none⟩ = some vs ∧ ISl w vl (nL s) (S s) ∧ ISl w vs K (pos s)
theorem cell_stay {w w' : World} {a : Addr} {v : Value} (h : w.cell? a = some v) (hb : Below w.heap.size w w') : w'.cell? a = some v := (hb.cell (World.block_lt_of_cell? w _ h)).trans h
theorem Idx.stay {w w' : World} {v : Value} {s : ByteArray} {K : Nat} (h : Idx w v s K) (hb : Below w.heap.size w w') : Idx w' v s K := by
  obtain ⟨he, g, vl, vs, rfl, h0, h1, h2, h3, h4⟩ := h
  exact ⟨he, g, vl, vs, rfl, cell_stay h0 hb, cell_stay h1 hb, cell_stay h2 hb, h3.stay hb, h4.stay hb⟩
theorem lines_nil (w : World) : Calls Tryd.prog 31 #[.pointer none] w fun e w' => e = .returned (.int .i64 0) ∧ w' = w := by
  go_enter Tryd.func31, Tryd.ntmps31
  go_wp2
  go_ret
  exact ⟨rfl, rfl⟩
theorem lines_any (s : ByteArray) (K : Nat) (v : Value) (w : World) (h : Idx w v s K) :
    Calls Tryd.prog 31 #[v] w fun e w' => e = .returned (.int .i64 (nL s)) ∧ w' = w := by
  obtain ⟨he, g, vl, vs, rfl, h0, h1, h2, h3, h4⟩ := h
  obtain ⟨ad, c, rfl⟩ := h3.form
  clear h3 h4
  go_enter Tryd.func31, Tryd.ntmps31
  go_wp2
  go_ret
  exact ⟨rfl, rfl⟩
theorem span_nil (n : Int) (w : World) : Calls Tryd.prog 44 #[.pointer none, .int .i64 n] w fun e w' => e = .returned (.tuple #[.agg #[.int .i64 0, .int .i64 0], .int .i64 1]) ∧ Below w.heap.size w w' := by
  go_enter Tryd.func44, Tryd.ntmps44
  go_wp2
  exact bodyPost_ret (v := .tuple #[.agg #[.int .i64 0, .int .i64 0], .int .i64 1]) (by simp [results, Tryd.results44, go_sem]) rfl ⟨rfl, by (repeat (first | exact Below.refl _ _ | (refine Below.alloc ?_ (by simp <;> omega) _) | (refine Below.setCell ?_ (by simp <;> omega) _) | (refine Below.drew ?_) | (refine Go.below_drewN ?_ _)))⟩
theorem span_no (s : ByteArray) (K : Nat) (v : Value) (n : Int) (w : World) (hn : n < 1 ∨ (nL s : Int) < n) (h : Idx w v s K) :
    Calls Tryd.prog 44 #[v, .int .i64 n] w fun e w' => e = .returned (.tuple #[.agg #[.int .i64 0, .int .i64 0], .int .i64 2]) ∧ Below w.heap.size w w' := by
  obtain ⟨he, g, vl, vs, rfl, h0, h1, h2, h3, h4⟩ := h
  obtain ⟨ad, c, rfl⟩ := h3.form
  have hg := World.block_lt_of_cell? w _ h1
  clear h3 h4
  by_cases h5 : n < 1
  · go_enter Tryd.func44, Tryd.ntmps44
    go_wp2
    exact bodyPost_ret (v := .tuple #[.agg #[.int .i64 0, .int .i64 0], .int .i64 2]) (by simp [results, Tryd.results44, go_sem]) rfl ⟨rfl, by (repeat (first | exact Below.refl _ _ | (refine Below.alloc ?_ (by simp <;> omega) _) | (refine Below.setCell ?_ (by simp <;> omega) _) | (refine Below.drew ?_) | (refine Go.below_drewN ?_ _)))⟩
  · have h6 : (nL s : Int) < n := by omega
    go_enter Tryd.func44, Tryd.ntmps44
    go_wp2
    exact bodyPost_ret (v := .tuple #[.agg #[.int .i64 0, .int .i64 0], .int .i64 2]) (by simp [results, Tryd.results44, go_sem]) rfl ⟨rfl, by (repeat (first | exact Below.refl _ _ | (refine Below.alloc ?_ (by simp <;> omega) _) | (refine Below.setCell ?_ (by simp <;> omega) _) | (refine Below.drew ?_) | (refine Go.below_drewN ?_ _)))⟩
set_option maxHeartbeats 1000000 in
theorem span_ok (s : ByteArray) (K : Nat) (v : Value) (j : Nat) (w : World) (hs : s.size ≤ 40000) (hj : j < nL s) (h : Idx w v s K) :
    Calls Tryd.prog 44 #[v, .int .i64 ((j : Int) + 1)] w fun e w' => e = .returned (.tuple #[.agg #[.int .i64 (S s j), .int .i64 ((S s (j + 1) : Int) - S s j)], .int .i64 0]) ∧ Below w.heap.size w w' := by
  obtain ⟨he, g, vl, vs, rfl, h0, h1, h2, h3, h4⟩ := h
  have hg := World.block_lt_of_cell? w _ h1
  rcases h3 with ⟨ad, c, rfl, h5⟩ | ⟨b, c, rfl, h3⟩
  · omega
  have hnl := nL_le s
  have hc := h3 j hj
  have hl := S_lt hj
  have z1 : ¬ (j : Int) + 1 < 1 := by omega
  have z2 : ¬ (nL s : Int) < (j : Int) + 1 := by omega
  have z3 : (0 : Int) ≤ (j : Int) := by omega
  have z4 : (j : Int) < (nL s : Int) := by omega
  have hm := S_mono_le s (show j ≤ j + 1 by omega)
  have hm2 := S_le s (j + 1)
  have up : ∀ {a : Addr} {u : Value}, w.cell? a = some u → (w.alloc (.cells #[.int .i64 0, .int .i64 0] 29)).cell? a = some u := fun h => cell_stay h ((Up.refl w).alloc _).1
  have h0' := up h0
  have h1' := up h1
  have hc' := up hc
  by_cases hn : j + 1 < nL s
  · have hc2 := h3 (j + 1) hn
    have hc2' := up hc2
    clear up
    have z5 : (j : Int) + 1 < (nL s : Int) := by omega
    have z6 : (0 : Int) ≤ (j : Int) + 1 := by omega
    generalize S s j = p at *
    generalize S s (j + 1) = q at *
    clear h3 h4
    go_enter Tryd.func44, Tryd.ntmps44
    go_wp2_with fail
    go_quiet (fail)
    go_wp2
    exact bodyPost_ret (v := .tuple #[.agg #[.int .i64 p, .int .i64 ((q : Int) - p)], .int .i64 0]) (by simp [results, Tryd.results44, go_sem]) rfl ⟨rfl, by (repeat (first | exact Below.refl _ _ | (refine Below.alloc ?_ (by simp <;> omega) _) | (refine Below.setCell ?_ (by simp <;> omega) _) | (refine Below.drew ?_) | (refine Go.below_drewN ?_ _)))⟩
  · have z5 : ¬ (j : Int) + 1 < (nL s : Int) := by omega
    clear up
    rw [S_big (show nL s ≤ j + 1 by omega)] at *
    generalize S s j = p at *
    clear h3 h4
    go_enter Tryd.func44, Tryd.ntmps44
    go_wp2_with fail
    go_quiet (fail)
    go_wp2
    exact bodyPost_ret (v := .tuple #[.agg #[.int .i64 p, .int .i64 ((s.size : Int) - p)], .int .i64 0]) (by simp [results, Tryd.results44, go_sem]) rfl ⟨rfl, by (repeat (first | exact Below.refl _ _ | (refine Below.alloc ?_ (by simp <;> omega) _) | (refine Below.setCell ?_ (by simp <;> omega) _) | (refine Below.drew ?_) | (refine Go.below_drewN ?_ _)))⟩
end Go.Proofs.YtodjfeheagnnpaaDoor.Lns
