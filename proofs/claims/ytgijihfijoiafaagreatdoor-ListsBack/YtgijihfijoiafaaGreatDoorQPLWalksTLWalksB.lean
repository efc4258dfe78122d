/- (*Index).Lines, Span, Line. -/
import Derived.Test.YtgijihfijoiafaaGreatDoorQPLLPureLWalksS
import Derived.Test.YtgijihfijoiafaaGreatDoorQPGPureLWalksA
namespace Go.Proofs.YtgijihfijoiafaaGreatDoor.Lns
set_option linter.unusedVariables false
open Go.RowKit Go.ChangeShapes
/-- An index of bytes lies there. -/
def Idx (w : World) (v : Value) (s : ByteArray) (K : Nat) : Prop := Ends s K ∧ ∃ g vl vs, v = .pointer (some ⟨g, 0, none⟩) ∧ w.cell? ⟨g, 0, none⟩ = some (.int .i64 s.size) ∧ w.cell? ⟨g, 1, none⟩ = some vl ∧ w.cell? ⟨g, 2, none⟩ = some vs ∧ ISl w vl (nL s) (S s) ∧ ISl w vs K (pos s)
theorem cell_stay {w w' : World} {a : Addr} {v : Value} (h : w.cell? a = some v) (hb : Below w.heap.size w w') : w'.cell? a = some v := (hb.cell (World.block_lt_of_cell? w _ h)).trans h
theorem Idx.stay {w w' : World} {v : Value} {s : ByteArray} {K : Nat} (h : Idx w v s K) (hb : Below w.heap.size w w') : Idx w' v s K := by
  obtain ⟨he, g, vl, vs, rfl, h0, h1, h2, h3, h4⟩ := h
  exact ⟨he, g, vl, vs, rfl, cell_stay h0 hb, cell_stay h1 hb, cell_stay h2 hb, h3.stay hb, h4.stay hb⟩
theorem lines_nil (w : World) : Calls Tryz.prog 89 #[.pointer none] w fun e w' => e = .returned (.int .i64 0) ∧ w' = w := by
  go_enter Tryz.func89, Tryz.ntmps89
  go_wp2
  go_ret
  exact ⟨rfl, rfl⟩
theorem lines_any (s : ByteArray) (K : Nat) (v : Value) (w : World) (h : Idx w v s K) :
    Calls Tryz.prog 89 #[v] w fun e w' => e = .returned (.int .i64 (nL s)) ∧ w' = w := by
  obtain ⟨he, g, vl, vs, rfl, h0, h1, h2, h3, h4⟩ := h
  obtain ⟨ad, c, rfl⟩ := h3.form
  clear h3 h4
  go_enter Tryz.func89, Tryz.ntmps89
  go_wp2
  go_ret
  exact ⟨rfl, rfl⟩
theorem span_nil (n : Int) (w : World) : Calls Tryz.prog 90 #[.pointer none, .int .i64 n] w fun e w' => e = .returned (.tuple #[.agg #[.int .i64 0, .int .i64 0], .int .i64 1]) ∧ Below w.heap.size w w' := by
  go_enter Tryz.func90, Tryz.ntmps90
  go_wp2
  exact bodyPost_ret (v := .tuple #[.agg #[.int .i64 0, .int .i64 0], .int .i64 1]) (by simp [results, Tryz.results90, go_sem]) rfl ⟨rfl, by (repeat (first | exact Below.refl _ _ | (refine Below.alloc ?_ (by simp <;> omega) _) | (refine Below.setCell ?_ (by simp <;> omega) _) | (refine Below.drew ?_) | (refine Go.below_drewN ?_ _)))⟩
theorem span_no (s : ByteArray) (K : Nat) (v : Value) (n : Int) (w : World) (hn : n < 1 ∨ (nL s : Int) < n) (h : Idx w v s K) :
    Calls Tryz.prog 90 #[v, .int .i64 n] w fun e w' => e = .returned (.tuple #[.agg #[.int .i64 0, .int .i64 0], .int .i64 2]) ∧ Below w.heap.size w w' := by
  obtain ⟨he, g, vl, vs, rfl, h0, h1, h2, h3, h4⟩ := h
  obtain ⟨ad, c, rfl⟩ := h3.form
  have hg := World.block_lt_of_cell? w _ h1
  clear h3 h4
  by_cases h5 : n < 1
  · go_enter Tryz.func90, Tryz.ntmps90
    go_wp2
    exact bodyPost_ret (v := .tuple #[.agg #[.int .i64 0, .int .i64 0], .int .i64 2]) (by simp [results, Tryz.results90, go_sem]) rfl ⟨rfl, by (repeat (first | exact Below.refl _ _ | (refine Below.alloc ?_ (by simp <;> omega) _) | (refine Below.setCell ?_ (by simp <;> omega) _) | (refine Below.drew ?_) | (refine Go.below_drewN ?_ _)))⟩
  · have h6 : (nL s : Int) < n := by omega
    go_enter Tryz.func90, Tryz.ntmps90
    go_wp2
    exact bodyPost_ret (v := .tuple #[.agg #[.int .i64 0, .int .i64 0], .int .i64 2]) (by simp [results, Tryz.results90, go_sem]) rfl ⟨rfl, by (repeat (first | exact Below.refl _ _ | (refine Below.alloc ?_ (by simp <;> omega) _) | (refine Below.setCell ?_ (by simp <;> omega) _) | (refine Below.drew ?_) | (refine Go.below_drewN ?_ _)))⟩
set_option maxHeartbeats 1000000 in
theorem span_ok (s : ByteArray) (K : Nat) (v : Value) (j : Nat) (w : World) (hs : s.size ≤ 40000) (hj : j < nL s) (h : Idx w v s K) :
    Calls Tryz.prog 90 #[v, .int .i64 ((j : Int) + 1)] w fun e w' => e = .returned (.tuple #[.agg #[.int .i64 (S s j), .int .i64 ((S s (j + 1) : Int) - S s j)], .int .i64 0]) ∧ Below w.heap.size w w' := by
  obtain ⟨he, g, vl, vs, rfl, h0, h1, h2, h3, h4⟩ := h
  have hg := World.block_lt_of_cell? w _ h1
  rcases h3 with ⟨ad, c, rfl, h5⟩ | ⟨b, c, rfl, h3⟩
  · omega
  have hnl := nL_le s
  have hc := h3 j hj
  have hl := S_lt hj
  have z1 : ¬ (j : Int) + 1 < 1 := by omega
  have z2 : ¬ (nL s : Int) < (j : Int) + 1 := by omega
  have z3 : (0 : Int) ≤ (j : Int) := by omega
  have z4 : (j : Int) < (nL s : Int) := by omega
  have hm := S_mono_le s (show j ≤ j + 1 by omega)
  have hm2 := S_le s (j + 1)
  have up : ∀ {a : Addr} {u : Value}, w.cell? a = some u → (w.alloc (.cells #[.int .i64 0, .int .i64 0] 96)).cell? a = some u := fun h => cell_stay h ((Up.refl w).alloc _).1
  have h0' := up h0
  have h1' := up h1
  have hc' := up hc
  by_cases hn : j + 1 < nL s
  · have hc2 := h3 (j + 1) hn
    have hc2' := up hc2
    clear up
    have z5 : (j : Int) + 1 < (nL s : Int) := by omega
    have z6 : (0 : Int) ≤ (j : Int) + 1 := by omega
    generalize S s j = p at *
    generalize S s (j + 1) = q at *
    clear h3 h4
    go_enter Tryz.func90, Tryz.ntmps90
    go_wp2_with fail
    go_quiet (fail)
    go_wp2
    exact bodyPost_ret (v := .tuple #[.agg #[.int .i64 p, .int .i64 ((q : Int) - p)], .int .i64 0]) (by simp [results, Tryz.results90, go_sem]) rfl ⟨rfl, by (repeat (first | exact Below.refl _ _ | (refine Below.alloc ?_ (by simp <;> omega) _) | (refine Below.setCell ?_ (by simp <;> omega) _) | (refine Below.drew ?_) | (refine Go.below_drewN ?_ _)))⟩
  · have z5 : ¬ (j : Int) + 1 < (nL s : Int) := by omega
    clear up
    rw [S_big (show nL s ≤ j + 1 by omega)] at *
    generalize S s j = p at *
    clear h3 h4
    go_enter Tryz.func90, Tryz.ntmps90
    go_wp2_with fail
    go_quiet (fail)
    go_wp2
    exact bodyPost_ret (v := .tuple #[.agg #[.int .i64 p, .int .i64 ((s.size : Int) - p)], .int .i64 0]) (by simp [results, Tryz.results90, go_sem]) rfl ⟨rfl, by (repeat (first | exact Below.refl _ _ | (refine Below.alloc ?_ (by simp <;> omega) _) | (refine Below.setCell ?_ (by simp <;> omega) _) | (refine Below.drew ?_) | (refine Go.below_drewN ?_ _)))⟩
end Go.Proofs.YtgijihfijoiafaaGreatDoor.Lns
/- ref.Next. -/
namespace Go.Proofs.YtgijihfijoiafaaGreatDoor.Lns
set_option linter.unusedVariables false
open Go.RowKit Go.ChangeShapes

set_option maxRecDepth 100000 in
set_option maxHeartbeats 4000000 in
theorem rnext_one (b off n cap x0 x1 x2 x3 : Nat) (w : World) (hn : (0 : Int) < (n : Int)) (c0 : w.cell? ⟨b, off, none⟩ = some (.int .u8 x0)) (c1 : 1 < n → w.cell? ⟨b, off + 1, none⟩ = some (.int .u8 x1)) (c2 : 2 < n → w.cell? ⟨b, off + 2, none⟩ = some (.int .u8 x2)) (c3 : 3 < n → w.cell? ⟨b, off + 3, none⟩ = some (.int .u8 x3)) (l0 : x0 < 256) (l1 : x1 < 256) (l2 : x2 < 256) (l3 : x3 < 256) (h : x0 < 128) :
    Calls Tryz.prog 87 #[.slice (some ⟨b, off, none⟩) n cap] w fun e w' => e = .returned (.tuple #[.int .i32 (kn (Go.Lib.decodeN n x0 x1 x2 x3)), .int .i64 (Go.Lib.decodeN n x0 x1 x2 x3).2]) ∧ Below w.heap.size w w' := by
  rw [dec_one n x0 x1 x2 x3 h, show kn (x0, 1) = x0 by unfold kn; rw [if_neg (by simp; omega)]]
  have h' : (x0 : Int) < 128 := by omega
  go_enter Tryz.func87, Tryz.ntmps87
  go_wp2
  go_ret2
  exact ⟨rfl, Below.refl _ _⟩

set_option maxRecDepth 100000 in
set_option maxHeartbeats 4000000 in
theorem rnext_bad (b off n cap x0 x1 x2 x3 : Nat) (w : World) (hn : (0 : Int) < (n : Int)) (c0 : w.cell? ⟨b, off, none⟩ = some (.int .u8 x0)) (c1 : 1 < n → w.cell? ⟨b, off + 1, none⟩ = some (.int .u8 x1)) (c2 : 2 < n → w.cell? ⟨b, off + 2, none⟩ = some (.int .u8 x2)) (c3 : 3 < n → w.cell? ⟨b, off + 3, none⟩ = some (.int .u8 x3)) (l0 : x0 < 256) (l1 : x1 < 256) (l2 : x2 < 256) (l3 : x3 < 256) (h : 128 ≤ x0) (h0 : x0 < 192 ∨ 248 ≤ x0) :
    Calls Tryz.prog 87 #[.slice (some ⟨b, off, none⟩) n cap] w fun e w' => e = .returned (.tuple #[.int .i32 (kn (Go.Lib.decodeN n x0 x1 x2 x3)), .int .i64 (Go.Lib.decodeN n x0 x1 x2 x3).2]) ∧ Below w.heap.size w w' := by
  rw [dec_bad n x0 x1 x2 x3 h h0 l0, kn_bad]
  have h' : ¬ (x0 : Int) < 128 := by omega
  rcases h0 with h0 | h0
  · have a1 : ¬ (192 : Int) ≤ x0 := by omega
    have a2 : ¬ (224 : Int) ≤ x0 := by omega
    have a3 : ¬ (240 : Int) ≤ x0 := by omega
    go_enter Tryz.func87, Tryz.ntmps87
    go_wp2
    go_ret2
    exact ⟨rfl, Below.refl _ _⟩
  · have a1 : (192 : Int) ≤ x0 := by omega
    have a2 : (224 : Int) ≤ x0 := by omega
    have a3 : (240 : Int) ≤ x0 := by omega
    have a4 : ¬ (x0 : Int) < 224 := by omega
    have a5 : ¬ (x0 : Int) < 240 := by omega
    have a6 : ¬ (x0 : Int) < 248 := by omega
    go_enter Tryz.func87, Tryz.ntmps87
    go_wp2
    go_ret2
    exact ⟨rfl, Below.refl _ _⟩

set_option maxRecDepth 100000 in
set_option maxHeartbeats 4000000 in
theorem rnext_two (b off n cap x0 x1 x2 x3 : Nat) (w : World) (hn : (0 : Int) < (n : Int)) (c0 : w.cell? ⟨b, off, none⟩ = some (.int .u8 x0)) (c1 : 1 < n → w.cell? ⟨b, off + 1, none⟩ = some (.int .u8 x1)) (c2 : 2 < n → w.cell? ⟨b, off + 2, none⟩ = some (.int .u8 x2)) (c3 : 3 < n → w.cell? ⟨b, off + 3, none⟩ = some (.int .u8 x3)) (l0 : x0 < 256) (l1 : x1 < 256) (l2 : x2 < 256) (l3 : x3 < 256) (h0 : 192 ≤ x0) (h1 : x0 < 224) :
    Calls Tryz.prog 87 #[.slice (some ⟨b, off, none⟩) n cap] w fun e w' => e = .returned (.tuple #[.int .i32 (kn (Go.Lib.decodeN n x0 x1 x2 x3)), .int .i64 (Go.Lib.decodeN n x0 x1 x2 x3).2]) ∧ Below w.heap.size w w' := by
  have b128 : ¬ (x0 : Int) < 128 := by omega
  have g192 : (192 : Int) ≤ x0 := by omega
  have g224 : ¬ (224 : Int) ≤ x0 := by omega
  have g240 : ¬ (240 : Int) ≤ x0 := by omega
  have s224 : (x0 : Int) < 224 := by omega
  have s240 : (x0 : Int) < 240 := by omega
  have s248 : (x0 : Int) < 248 := by omega
  have ct1 := tail_any b off n cap 1 x1 w c1
  cases t1 : tailB n 1 x1
  · rw [dec_two_no n x0 x1 x2 x3 h0 h1 l1 (Or.inl t1), kn_bad]
    rw [t1] at ct1
    go_enter Tryz.func87, Tryz.ntmps87
    go_wp2_with (go_at_call 129; refine ct1.mono ?_; rintro e w' ⟨rfl, rfl⟩)
    go_ret2
    exact ⟨rfl, Below.refl _ _⟩
  · have t1' := (tailB_iff _ _ _).1 t1
    have i1 : (1 : Int) < (n : Int) := by omega
    have z1 := c1 t1'.1
    have e1 : (128 : Int) ≤ x1 := by omega
    have e2 : (x1 : Int) < 192 := by omega
    rw [t1] at ct1
    by_cases hr : 128 ≤ ((x0 : Int) - 192) * 64 + x1 - 128
    · obtain ⟨r1, r2⟩ := dec_two n x0 x1 x2 x3 h0 h1 l1 t1 hr
      rw [r1, r2]
      clear r1 r2 t1
      go_enter Tryz.func87, Tryz.ntmps87
      go_wp2_with (go_at_call 129; refine ct1.mono ?_; rintro e w' ⟨rfl, rfl⟩)
      go_ret2
      exact ⟨rfl, Below.refl _ _⟩
    · rw [dec_two_no n x0 x1 x2 x3 h0 h1 l1 (Or.inr (by omega)), kn_bad]
      clear t1
      go_enter Tryz.func87, Tryz.ntmps87
      go_wp2_with (go_at_call 129; refine ct1.mono ?_; rintro e w' ⟨rfl, rfl⟩)
      go_ret2
      exact ⟨rfl, Below.refl _ _⟩
end Go.Proofs.YtgijihfijoiafaaGreatDoor.Lns
