/- ref.Next. -/
import Derived.Test.YtkfgfbdalkifjaaDoorxUA
namespace Go.Proofs.YtkfgfbdalkifjaaDoor.Lns
set_option linter.unusedVariables false
open Go.RowKit Go.ChangeShapes

set_option maxRecDepth 100000 in
set_option maxHeartbeats 4000000 in
theorem rnext_one (b off n cap x0 x1 x2 x3 : Nat) (w : World) (hn : (0 : Int) < (n : Int)) (c0 : w.cell? ⟨b, off, none⟩ = some (.int .u8 x0)) (c1 : 1 < n → w.cell? ⟨b, off + 1, none⟩ = some (.int .u8 x1)) (c2 : 2 < n → w.cell? ⟨b, off + 2, none⟩ = some (.int .u8 x2)) (c3 : 3 < n → w.cell? ⟨b, off + 3, none⟩ = some (.int .u8 x3)) (l0 : x0 < 256) (l1 : x1 < 256) (l2 : x2 < 256) (l3 : x3 < 256) (h : x0 < 128) :
    Calls Tryd.prog 39 #[.slice (some ⟨b, off, none⟩) n cap] w fun e w' => e = .returned (.tuple #[.int .i32 (kn (Go.Lib.decodeN n x0 x1 x2 x3)), .int .i64 (Go.Lib.decodeN n x0 x1 x2 x3).2]) ∧ Below w.heap.size w w' := by
  rw [dec_one n x0 x1 x2 x3 h, show kn (x0, 1) = x0 by unfold kn; rw [if_neg (by simp; omega)]]
  have h' : (x0 : Int) < 128 := by omega
  go_enter Tryd.func39, Tryd.ntmps39
  go_wp2
  go_ret2
  exact ⟨rfl, Below.refl _ _⟩

set_option maxRecDepth 100000 in
set_option maxHeartbeats 4000000 in
theorem rnext_bad (b off n cap x0 x1 x2 x3 : Nat) (w : World) (hn : (0 : Int) < (n : Int)) (c0 : w.cell? ⟨b, off, none⟩ = some (.int .u8 x0)) (c1 : 1 < n → w.cell? ⟨b, off + 1, none⟩ = some (.int .u8 x1)) (c2 : 2 < n → w.cell? ⟨b, off + 2, none⟩ = some (.int .u8 x2)) (c3 : 3 < n → w.cell? ⟨b, off + 3, none⟩ = some (.int .u8 x3)) (l0 : x0 < 256) (l1 : x1 < 256) (l2 : x2 < 256) (l3 : x3 < 256) (h : 128 ≤ x0) (h0 : x0 < 192 ∨ 248 ≤ x0) :
    Calls Tryd.prog 39 #[.slice (some ⟨b, off, none⟩) n cap] w fun e w' => e = .returned (.tuple #[.int .i32 (kn (Go.Lib.decodeN n x0 x1 x2 x3)), .int .i64 (Go.Lib.decodeN n x0 x1 x2 x3).2]) ∧ Below w.heap.size w w' := by
  rw [dec_bad n x0 x1 x2 x3 h h0 l0, kn_bad]
  have h' : ¬ (x0 : Int) < 128 := by omega
  rcases h0 with h0 | h0
  · have a1 : ¬ (192 : Int) ≤ x0 := by omega
    have a2 : ¬ (224 : Int) ≤ x0 := by omega
    have a3 : ¬ (240 : Int) ≤ x0 := by omega
    go_enter Tryd.func39, Tryd.ntmps39
    go_wp2
    go_ret2
    exact ⟨rfl, Below.refl _ _⟩
  · have a1 : (192 : Int) ≤ x0 := by omega
    have a2 : (224 : Int) ≤ x0 := by omega
    have a3 : (240 : Int) ≤ x0 := by omega
    have a4 : ¬ (x0 : Int) < 224 := by omega
    have a5 : ¬ (x0 : Int) < 240 := by omega
    have a6 : ¬ (x0 : Int) < 248 := by omega
    go_enter Tryd.func39, Tryd.ntmps39
    go_wp2
    go_ret2
    exact ⟨rfl, Below.refl _ _⟩

set_option maxRecDepth 100000 in
set_option maxHeartbeats 4000000 in
theorem rnext_two (b off n cap x0 x1 x2 x3 : Nat) (w : World) (hn : (0 : Int) < (n : Int)) (c0 : w.cell? ⟨b, off, none⟩ = some (.int .u8 x0)) (c1 : 1 < n → w.cell? ⟨b, off + 1, none⟩ = some (.int .u8 x1)) (c2 : 2 < n → w.cell? ⟨b, off + 2, none⟩ = some (.int .u8 x2)) (c3 : 3 < n → w.cell? ⟨b, off + 3, none⟩ = some (.int .u8 x3)) (l0 : x0 < 256) (l1 : x1 < 256) (l2 : x2 < 256) (l3 : x3 < 256) (h0 : 192 ≤ x0) (h1 : x0 < 224) :
    Calls Tryd.prog 39 #[.slice (some ⟨b, off, none⟩) n cap] w fun e w' => e = .returned (.tuple #[.int .i32 (kn (Go.Lib.decodeN n x0 x1 x2 x3)), .int .i64 (Go.Lib.decodeN n x0 x1 x2 x3).2]) ∧ Below w.heap.size w w' := by
  have b128 : ¬ (x0 : Int) < 128 := by omega
  have g192 : (192 : Int) ≤ x0 := by omega
  have g224 : ¬ (224 : Int) ≤ x0 := by omega
  have g240 : ¬ (240 : Int) ≤ x0 := by omega
  have s224 : (x0 : Int) < 224 := by omega
  have s240 : (x0 : Int) < 240 := by omega
  have s248 : (x0 : Int) < 248 := by omega
  have ct1 := tail_any b off n cap 1 x1 w c1
  cases t1 : tailB n 1 x1
  · rw [dec_two_no n x0 x1 x2 x3 h0 h1 l1 (Or.inl t1), kn_bad]
    rw [t1] at ct1
    go_enter Tryd.func39, Tryd.ntmps39
    go_wp2_with (go_at_call 56; refine ct1.mono ?_; rintro e w' ⟨rfl, rfl⟩)
    go_ret2
    exact ⟨rfl, Below.refl _ _⟩
  · have t1' := (tailB_iff _ _ _).1 t1
    have i1 : (1 : Int) < (n : Int) := by omega
    have z1 := c1 t1'.1
    have e1 : (128 : Int) ≤ x1 := by omega
    have e2 : (x1 : Int) < 192 := by omega
    rw [t1] at ct1
    by_cases hr : 128 ≤ ((x0 : Int) - 192) * 64 + x1 - 128
    · obtain ⟨r1, r2⟩ := dec_two n x0 x1 x2 x3 h0 h1 l1 t1 hr
      rw [r1, r2]
      clear r1 r2 t1
      go_enter Tryd.func39, Tryd.ntmps39
      go_wp2_with (go_at_call 56; refine ct1.mono ?_; rintro e w' ⟨rfl, rfl⟩)
      go_ret2
      exact ⟨rfl, Below.refl _ _⟩
    · rw [dec_two_no n x0 x1 x2 x3 h0 h1 l1 (Or.inr (by omega)), kn_bad]
      clear t1
      go_enter Tryd.func39, Tryd.ntmps39
      go_wp2_with (go_at_call 56; refine ct1.mono ?_; rintro e w' ⟨rfl, rfl⟩)
      go_ret2
      exact ⟨rfl, Below.refl _ _⟩
end Go.Proofs.YtkfgfbdalkifjaaDoor.Lns
