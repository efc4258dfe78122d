/- sort.Search over rising places; lines.ahead. -/
import Derived.Test.YteeeekpeokgaeaaDoorPkKA3
import Derived.Test.YteeeekpeokgaeaaDoorkPure
namespace Go.Proofs.YteeeekpeokgaeaaDoor.Lns
set_option linter.unusedVariables false
open Go.RowKit Go.ChangeShapes

/-- A slice of places, wherever. -/
def ISl (w : World) (v : Value) (k : Nat) (P : Nat → Nat) : Prop := (∃ ad c, v = .slice ad 0 c ∧ k = 0) ∨ ∃ b c, v = .slice (some ⟨b, 0, none⟩) k c ∧ ∀ i, i < k → w.cell? ⟨b, i, none⟩ = some (.int .i64 (P i))
theorem ISl.stay {w w' : World} {v : Value} {k : Nat} {P : Nat → Nat} (h : ISl w v k P) (hb : Below w.heap.size w w') : ISl w' v k P := by
  rcases h with h | ⟨b, c, rfl, h⟩
  · exact Or.inl h
  · exact Or.inr ⟨b, c, rfl, fun j hj => (hb.cell (World.block_lt_of_cell? w _ (h j hj))).trans (h j hj)⟩
theorem ISl.form {w : World} {v : Value} {k : Nat} {P : Nat → Nat} (h : ISl w v k P) : ∃ ad c, v = .slice ad k c := by
  rcases h with ⟨ad, c, rfl, rfl⟩ | ⟨b, c, rfl, _⟩
  · exact ⟨ad, c, rfl⟩
  · exact ⟨_, c, rfl⟩
end Go.Proofs.YteeeekpeokgaeaaDoor.Lns
/- (*Index).Lines, Span, Line. -/
namespace Go.Proofs.YteeeekpeokgaeaaDoor.Lns
set_option linter.unusedVariables false
open Go.RowKit Go.ChangeShapes
/-- An index of bytes lies there. -/
def Idx (w : World) (v : Value) (s : ByteArray) (K : Nat) : Prop := Ends s K ∧ ∃ g vl vs, v = .pointer (some ⟨g, 0, none⟩) ∧ w.cell? ⟨g, 0, none⟩ = some (.int .i64 s.size) ∧ w.cell? ⟨g, 1, none⟩ = some vl ∧ w.cell? ⟨g, 2, none⟩ = some vs ∧ ISl w vl (nL s) (S s) ∧ ISl w vs K (pos s)
theorem cell_stay {w w' : World} {a : Addr} {v : Value} (h : w.cell? a = some v) (hb : Below w.heap.size w w') : w'.cell? a = some v := (hb.cell (World.block_lt_of_cell? w _ h)).trans h
theorem Idx.stay {w w' : World} {v : Value} {s : ByteArray} {K : Nat} (h : Idx w v s K) (hb : Below w.heap.size w w') : Idx w' v s K := by
  obtain ⟨he, g, vl, vs, rfl, h0, h1, h2, h3, h4⟩ := h
  exact ⟨he, g, vl, vs, rfl, cell_stay h0 hb, cell_stay h1 hb, cell_stay h2 hb, h3.stay hb, h4.stay hb⟩
theorem lines_nil (w : World) : Calls Tryd.prog 28 #[.pointer none] w fun e w' => e = .returned (.int .i64 0) ∧ w' = w := by
  go_enter Tryd.func28, Tryd.ntmps28
  go_wp2
  go_ret
  exact ⟨rfl, rfl⟩
theorem lines_any (s : ByteArray) (K : Nat) (v : Value) (w : World) (h : Idx w v s K) :
    Calls Tryd.prog 28 #[v] w fun e w' => e = .returned (.int .i64 (nL s)) ∧ w' = w := by
  obtain ⟨he, g, vl, vs, rfl, h0, h1, h2, h3, h4⟩ := h
  obtain ⟨ad, c, rfl⟩ := h3.form
  clear h3 h4
  go_enter Tryd.func28, Tryd.ntmps28
  go_wp2
  go_ret
  exact ⟨rfl, rfl⟩
theorem span_nil (n : Int) (w : World) : Calls Tryd.prog 29 #[.pointer none, .int .i64 n] w fun e w' => e = .returned (.tuple #[.agg #[.int .i64 0, .int .i64 0], .int .i64 1]) ∧ Below w.heap.size w w' := by
  go_enter Tryd.func29, Tryd.ntmps29
  go_wp2
  exact bodyPost_ret (v := .tuple #[.agg #[.int .i64 0, .int .i64 0], .int .i64 1]) (by simp [results, Tryd.results29, go_sem]) rfl ⟨rfl, by (repeat (first | exact Below.refl _ _ | (refine Below.alloc ?_ (by simp <;> omega) _) | (refine Below.setCell ?_ (by simp <;> omega) _) | (refine Below.drew ?_) | (refine Go.below_drewN ?_ _)))⟩
theorem span_no (s : ByteArray) (K : Nat) (v : Value) (n : Int) (w : World) (hn : n < 1 ∨ (nL s : Int) < n) (h : Idx w v s K) :
    Calls Tryd.prog 29 #[v, .int .i64 n] w fun e w' => e = .returned (.tuple #[.agg #[.int .i64 0, .int .i64 0], .int .i64 2]) ∧ Below w.heap.size w w' := by
  obtain ⟨he, g, vl, vs, rfl, h0, h1, h2, h3, h4⟩ := h
  obtain ⟨ad, c, rfl⟩ := h3.form
  have hg := World.block_lt_of_cell? w _ h1
  clear h3 h4
  by_cases h5 : n < 1
  · go_enter Tryd.func29, Tryd.ntmps29
    go_wp2
    exact bodyPost_ret (v := .tuple #[.agg #[.int .i64 0, .int .i64 0], .int .i64 2]) (by simp [results, Tryd.results29, go_sem]) rfl ⟨rfl, by (repeat (first | exact Below.refl _ _ | (refine Below.alloc ?_ (by simp <;> omega) _) | (refine Below.setCell ?_ (by simp <;> omega) _) | (refine Below.drew ?_) | (refine Go.below_drewN ?_ _)))⟩
  · have h6 : (nL s : Int) < n := by omega
    go_enter Tryd.func29, Tryd.ntmps29
    go_wp2
    exact bodyPost_ret (v := .tuple #[.agg #[.int .i64 0, .int .i64 0], .int .i64 2]) (by simp [results, Tryd.results29, go_sem]) rfl ⟨rfl, by (repeat (first | exact Below.refl _ _ | (refine Below.alloc ?_ (by simp <;> omega) _) | (refine Below.setCell ?_ (by simp <;> omega) _) | (refine Below.drew ?_) | (refine Go.below_drewN ?_ _)))⟩
set_option maxHeartbeats 1000000 in
theorem span_ok (s : ByteArray) (K : Nat) (v : Value) (j : Nat) (w : World) (hs : s.size ≤ 40000) (hj : j < nL s) (h : Idx w v s K) :
    Calls Tryd.prog 29 #[v, .int .i64 ((j : Int) + 1)] w fun e w' => e = .returned (.tuple #[.agg #[.int .i64 (S s j), .int .i64 ((S s (j + 1) : Int) - S s j)], .int .i64 0]) ∧ Below w.heap.size w w' := by
  obtain ⟨he, g, vl, vs, rfl, h0, h1, h2, h3, h4⟩ := h
  have hg := World.block_lt_of_cell? w _ h1
  rcases h3 with ⟨ad, c, rfl, h5⟩ | ⟨b, c, rfl, h3⟩
  · omega
  have hnl := nL_le s
  have hc := h3 j hj
  have hl := S_lt hj
  have z1 : ¬ (j : Int) + 1 < 1 := by omega
  have z2 : ¬ (nL s : Int) < (j : Int) + 1 := by omega
  have z3 : (0 : Int) ≤ (j : Int) := by omega
  have z4 : (j : Int) < (nL s : Int) := by omega
  have hm := S_mono_le s (show j ≤ j + 1 by omega)
  have hm2 := S_le s (j + 1)
  have up : ∀ {a : Addr} {u : Value}, w.cell? a = some u → (w.alloc (.cells #[.int .i64 0, .int .i64 0] 36)).cell? a = some u := fun h => cell_stay h ((Up.refl w).alloc _).1
  have h0' := up h0
  have h1' := up h1
  have hc' := up hc
  by_cases hn : j + 1 < nL s
  · have hc2 := h3 (j + 1) hn
    have hc2' := up hc2
    clear up
    have z5 : (j : Int) + 1 < (nL s : Int) := by omega
    have z6 : (0 : Int) ≤ (j : Int) + 1 := by omega
    generalize S s j = p at *
    generalize S s (j + 1) = q at *
    clear h3 h4
    go_enter Tryd.func29, Tryd.ntmps29
    go_wp2_with fail
    go_quiet (fail)
    go_wp2
    exact bodyPost_ret (v := .tuple #[.agg #[.int .i64 p, .int .i64 ((q : Int) - p)], .int .i64 0]) (by simp [results, Tryd.results29, go_sem]) rfl ⟨rfl, by (repeat (first | exact Below.refl _ _ | (refine Below.alloc ?_ (by simp <;> omega) _) | (refine Below.setCell ?_ (by simp <;> omega) _) | (refine Below.drew ?_) | (refine Go.below_drewN ?_ _)))⟩
  · have z5 : ¬ (j : Int) + 1 < (nL s : Int) := by omega
    clear up
    rw [S_big (show nL s ≤ j + 1 by omega)] at *
    generalize S s j = p at *
    clear h3 h4
    go_enter Tryd.func29, Tryd.ntmps29
    go_wp2_with fail
    go_quiet (fail)
    go_wp2
    exact bodyPost_ret (v := .tuple #[.agg #[.int .i64 p, .int .i64 ((s.size : Int) - p)], .int .i64 0]) (by simp [results, Tryd.results29, go_sem]) rfl ⟨rfl, by (repeat (first | exact Below.refl _ _ | (refine Below.alloc ?_ (by simp <;> omega) _) | (refine Below.setCell ?_ (by simp <;> omega) _) | (refine Below.drew ?_) | (refine Go.below_drewN ?_ _)))⟩
end Go.Proofs.YteeeekpeokgaeaaDoor.Lns
/- ref.Units; signs as runes. -/
namespace Go.Proofs.YteeeekpeokgaeaaDoor.Lns
set_option linter.unusedVariables false
open Go.RowKit Go.ChangeShapes
theorem units_zero (ad : Option Addr) (cap : Nat) (w : World) :
    Calls Tryd.prog 41 #[.slice ad 0 cap] w fun e w' => e = .returned (.slice none 0 0) ∧ w' = w := by
  go_enter Tryd.func41, Tryd.ntmps41
  go_wp2
  go_loopg [3, 4] (0) (fun g l i wr => l = .slice none 0 0 ∧ i = .int .i64 0 ∧ wr = w)
  case atStart => exact ⟨rfl, rfl, rfl⟩
  case round =>
    obtain ⟨rfl, rfl, rfl⟩ := hrel
    go_wp2_with fail
    go_ret
    exact ⟨rfl, rfl⟩
theorem slow_zero (ad : Option Addr) (c : Nat) (w : World) :
    Calls Tryd.prog 81 #[.slice ad 0 c] w fun e w' => e = .returned (.tuple #[.int .i32 65533, .int .i64 0]) ∧ w' = w := by
  go_enter Tryd.func81, Tryd.ntmps81
  go_wp2
  go_ret2
  exact ⟨rfl, rfl⟩
theorem dec_zero (ad : Option Addr) (c : Nat) (w : World) :
    Calls Tryd.prog 68 #[.slice ad 0 c] w fun e w' => e = .returned (.tuple #[.int .i32 65533, .int .i64 0]) ∧ w' = w := by
  go_enter Tryd.func68, Tryd.ntmps68
  go_wp2
  go_loop [8] (fun i => i = .int .i64 0) (fun _ => 0)
  case atStart => rfl
  case round =>
    subst hrel
    go_wp2_with fail
    refine (slow_zero ad c _).mono ?_
    rintro e w' ⟨rfl, rfl⟩
    go_wp2
    go_ret2
    exact ⟨rfl, rfl⟩
theorem next_zero (ad : Option Addr) (c : Nat) (w : World) :
    Calls Tryd.prog 53 #[.slice ad 0 c] w fun e w' => e = .returned (.tuple #[.int .i32 (-1), .int .i64 0]) ∧ w' = w := by
  go_enter Tryd.func53, Tryd.ntmps53
  go_wp2_with fail
  refine (dec_zero ad c _).mono ?_
  rintro e w1 ⟨rfl, rfl⟩
  go_wp2_with fail
  refine (known_any (65533, 0) _).mono ?_
  rintro e w2 ⟨rfl, rfl⟩
  go_wp2
  go_ret2
  exact ⟨rfl, rfl⟩

/-- A slice of bytes, wherever. -/
def BSl (w : World) (v : Value) (s : ByteArray) : Prop := (∃ ad c, v = .slice ad 0 c ∧ s.size = 0) ∨ ∃ b off cap, v = .slice (some ⟨b, off, none⟩) s.size cap ∧ 0 < s.size ∧ s.size ≤ cap ∧ By w b off s
theorem BSl.stay {w w' : World} {v : Value} {s : ByteArray} (h : BSl w v s) (hb : Below w.heap.size w w') : BSl w' v s := by
  rcases h with h | ⟨b, off, c, rfl, h1, h2, h⟩
  · exact Or.inl h
  · exact Or.inr ⟨b, off, c, rfl, h1, h2, h.stay hb⟩
/-- The sign with which bytes begin. -/
def nxR (s : ByteArray) : Int := if s.size = 0 then -1 else rn s 0
def nxN (s : ByteArray) : Nat := if s.size = 0 then 0 else wd s 0
theorem next_any (s : ByteArray) (v : Value) (w : World) (hT : Tabs w) (h : BSl w v s) :
    Calls Tryd.prog 53 #[v] w fun e w' => e = .returned (.tuple #[.int .i32 (nxR s), .int .i64 (nxN s)]) ∧ Below w.heap.size w w' := by
  rcases h with ⟨ad, c, rfl, h⟩ | ⟨b, off, c, rfl, h1, h2, h⟩
  · refine (next_zero ad c w).mono ?_
    rintro e w' ⟨rfl, rfl⟩
    unfold nxR nxN
    rw [if_pos h, if_pos h]
    exact ⟨rfl, Below.refl _ _⟩
  · have c := next_at s 0 b off c w h1 hT h
    unfold nxR nxN
    rw [if_neg (by omega), if_neg (by omega)]
    exact c
theorem ends_zero {s : ByteArray} (h : s.size = 0) : Ends s 0 := ⟨by rw [h]; rfl, fun j hj => absurd hj (Nat.not_lt_zero j)⟩
theorem unitsS_any (s : ByteArray) (v : Value) (w : World) (hn : s.size ≤ 40000) (hT : Tabs w) (h : BSl w v s) :
    Calls Tryd.prog 41 #[v] w fun e w' => ∃ k v, e = .returned v ∧ Ends s k ∧ w'.ownsRow w.heap.size 74 3 v k (ucells s k) ∧ Below w.heap.size w w' := by
  rcases h with ⟨ad, c, rfl, h⟩ | ⟨b, off, c, rfl, h1, h2, h⟩
  · refine (units_zero ad c w).mono ?_
    rintro e w' ⟨rfl, rfl⟩
    exact ⟨0, _, rfl, ends_zero h, World.ownsRow_nil _ _ _ _, Below.refl _ _⟩
  · exact units_any s b off c w hn h2 hT h
end Go.Proofs.YteeeekpeokgaeaaDoor.Lns
