/- known, tail, ref.Next. ref.Next. ref.Next: three and four bytes. ref.Next: four bytes. The reference's Units. The reference's Right: as Make tells. The reference's Runes. The reference's Dist: a table. -/
import Derived.WalkKit
import Derived.Below
import Derived.WalkSmall
import Derived.Deep.QuietTactic
import Derived.BigQuiet
import Derived.Deep.LoopGhost
import Derived.Deep.DeepFit
import Derived.OwnWalk
import Derived.BigRegion
import Derived.Test.YtfikkkodepfdkaaDoorpkB
import Derived.Test.YtfikkkodepfdkaaDoorpkA
import Derived.Test.YtfikkkodepfdkaaDoorpkC
import Derived.Test.YtfikkkodepfdkaaDoorpkD2
namespace Go.Proofs.YtfikkkodepfdkaaDoor.Lns
set_option linter.unusedVariables false
open Go.RowKit Go.ChangeShapes

theorem known_any (d : Nat × Nat) (w : World) :
    Calls Tryd.prog 37 #[.int .i32 d.1, .int .i64 d.2] w fun e w' => e = .returned (.int .i32 (kn d)) ∧ w' = w := by
  obtain ⟨r, n⟩ := d
  by_cases h1 : r = 65533
  · subst h1
    by_cases h2 : n < 2
    · have hk : kn (65533, n) = -1 := by simp [kn, h2]
      have h2' : (n : Int) < 2 := by omega
      rw [hk]
      go_enter Tryd.func37, Tryd.ntmps37
      go_wp2
      go_ret
      exact ⟨rfl, rfl⟩
    · have hk : kn (65533, n) = 65533 := by simp [kn, h2]
      have h2' : ¬ (n : Int) < 2 := by omega
      rw [hk]
      go_enter Tryd.func37, Tryd.ntmps37
      go_wp2
      go_ret
      exact ⟨rfl, rfl⟩
  · have hk : kn (r, n) = r := by simp [kn, h1]
    have h1' : ¬ (r : Int) = 65533 := by omega
    rw [hk]
    go_enter Tryd.func37, Tryd.ntmps37
    go_wp2
    go_ret
    exact ⟨rfl, rfl⟩

/-- Does a byte go on? -/
def tailB (n i x : Nat) : Bool := decide (i < n) && (decide (128 ≤ x) && decide (x < 192))
theorem tail_any (b off n cap i x : Nat) (w : World) (hx : i < n → w.cell? ⟨b, off + i, none⟩ = some (.int .u8 x)) :
    Calls Tryd.prog 62 #[.slice (some ⟨b, off, none⟩) n cap, .int .i64 i] w fun e w' => e = .returned (.bool (tailB n i x)) ∧ w' = w := by
  by_cases h : i < n
  · have hc := hx h
    have h' : (i : Int) < (n : Int) := by omega
    have h0 : (0 : Int) ≤ (i : Int) := by omega
    by_cases h1 : 128 ≤ x
    · have h1' : (128 : Int) ≤ (x : Int) := by omega
      have ht : tailB n i x = decide ((x : Int) < 192) := by simp only [tailB, h, h1, decide_true, Bool.true_and]; exact decide_eq_decide.2 (by omega)
      rw [ht]
      go_enter Tryd.func62, Tryd.ntmps62
      go_wp2
      go_ret
      exact ⟨rfl, rfl⟩
    · have h1' : ¬ (128 : Int) ≤ (x : Int) := by omega
      have ht : tailB n i x = false := by simp [tailB, h1]
      rw [ht]
      go_enter Tryd.func62, Tryd.ntmps62
      go_wp2
      go_ret
      exact ⟨rfl, rfl⟩
  · have h' : ¬ (i : Int) < (n : Int) := by omega
    have ht : tailB n i x = false := by simp [tailB, h]
    rw [ht]
    go_enter Tryd.func62, Tryd.ntmps62
    go_wp2
    go_ret
    exact ⟨rfl, rfl⟩


open Go.Lib in
theorem dec_one (n x0 x1 x2 x3 : Nat) (h : x0 < 128) : decodeN n x0 x1 x2 x3 = (x0, 1) := by
  unfold decodeN; rw [if_pos h]
open Go.Lib in
theorem dec_bad (n x0 x1 x2 x3 : Nat) (h : 128 ≤ x0) (h0 : x0 < 192 ∨ 248 ≤ x0) (l0 : x0 < 256) : decodeN n x0 x1 x2 x3 = (65533, 1) := by
  unfold decodeN
  repeat' split
  all_goals first | (exfalso; omega) | rfl
theorem tailB_iff (n i x : Nat) : tailB n i x = true ↔ i < n ∧ 128 ≤ x ∧ x < 192 := by
  simp only [tailB, Bool.and_eq_true, decide_eq_true_eq]
theorem tailB_no (n i x : Nat) : tailB n i x = false ↔ ¬ (i < n ∧ 128 ≤ x ∧ x < 192) := by
  rw [← tailB_iff, Bool.not_eq_true]
open Go.Lib in
theorem dec_two (n x0 x1 x2 x3 : Nat) (h0 : 192 ≤ x0) (h1 : x0 < 224) (l1 : x1 < 256) (t1 : tailB n 1 x1 = true) (hr : 128 ≤ ((x0 : Int) - 192) * 64 + x1 - 128) :
    kn (decodeN n x0 x1 x2 x3) = ((x0 : Int) - 192) * 64 + x1 - 128 ∧ (decodeN n x0 x1 x2 x3).2 = 2 := by
  rw [tailB_iff] at t1
  have : decodeN n x0 x1 x2 x3 = (x0 % 32 * 64 + x1 % 64, 2) := by
    unfold decodeN
    repeat' split
    all_goals first | (exfalso; omega) | rfl
  rw [this]
  refine ⟨?_, rfl⟩
  unfold kn; rw [if_neg (fun h => by have h2 := h.2; simp only at h2; omega)]; simp only; omega
open Go.Lib in
theorem dec_two_no (n x0 x1 x2 x3 : Nat) (h0 : 192 ≤ x0) (h1 : x0 < 224) (l1 : x1 < 256) (hr : tailB n 1 x1 = false ∨ ((x0 : Int) - 192) * 64 + x1 - 128 < 128) :
    decodeN n x0 x1 x2 x3 = (65533, 1) := by
  rw [tailB_no] at hr
  unfold decodeN
  repeat' split
  all_goals first | (exfalso; omega) | rfl
open Go.Lib in
theorem dec_three (n x0 x1 x2 x3 : Nat) (h0 : 224 ≤ x0) (h1 : x0 < 240) (t1 : tailB n 1 x1 = true) (t2 : tailB n 2 x2 = true)
    (hr : 2048 ≤ ((x0 : Int) - 224) * 4096 + ((x1 : Int) - 128) * 64 + x2 - 128) (hs : ((x0 : Int) - 224) * 4096 + ((x1 : Int) - 128) * 64 + x2 - 128 < 55296 ∨ 57343 < ((x0 : Int) - 224) * 4096 + ((x1 : Int) - 128) * 64 + x2 - 128) :
    kn (decodeN n x0 x1 x2 x3) = ((x0 : Int) - 224) * 4096 + ((x1 : Int) - 128) * 64 + x2 - 128 ∧ (decodeN n x0 x1 x2 x3).2 = 3 := by
  rw [tailB_iff] at t1 t2
  have : decodeN n x0 x1 x2 x3 = (x0 % 16 * 4096 + x1 % 64 * 64 + x2 % 64, 3) := by
    unfold decodeN
    repeat' split
    all_goals first | (exfalso; omega) | rfl
  rw [this]
  refine ⟨?_, rfl⟩
  unfold kn; rw [if_neg (fun h => by have h2 := h.2; simp only at h2; omega)]; simp only; omega
open Go.Lib in
theorem dec_three_no (n x0 x1 x2 x3 : Nat) (h0 : 224 ≤ x0) (h1 : x0 < 240) (l1 : x1 < 256) (l2 : x2 < 256)
    (hr : tailB n 1 x1 = false ∨ tailB n 2 x2 = false ∨ ((x0 : Int) - 224) * 4096 + ((x1 : Int) - 128) * 64 + x2 - 128 < 2048 ∨ (55296 ≤ ((x0 : Int) - 224) * 4096 + ((x1 : Int) - 128) * 64 + x2 - 128 ∧ ((x0 : Int) - 224) * 4096 + ((x1 : Int) - 128) * 64 + x2 - 128 ≤ 57343)) :
    decodeN n x0 x1 x2 x3 = (65533, 1) := by
  rw [tailB_no, tailB_no] at hr
  unfold decodeN
  repeat' split
  all_goals first | (exfalso; omega) | rfl
open Go.Lib in
theorem dec_four (n x0 x1 x2 x3 : Nat) (h0 : 240 ≤ x0) (h1 : x0 < 248) (t1 : tailB n 1 x1 = true) (t2 : tailB n 2 x2 = true) (t3 : tailB n 3 x3 = true)
    (hr : 65536 ≤ ((x0 : Int) - 240) * 262144 + ((x1 : Int) - 128) * 4096 + ((x2 : Int) - 128) * 64 + x3 - 128) (hs : ((x0 : Int) - 240) * 262144 + ((x1 : Int) - 128) * 4096 + ((x2 : Int) - 128) * 64 + x3 - 128 ≤ 1114111) :
    kn (decodeN n x0 x1 x2 x3) = ((x0 : Int) - 240) * 262144 + ((x1 : Int) - 128) * 4096 + ((x2 : Int) - 128) * 64 + x3 - 128 ∧ (decodeN n x0 x1 x2 x3).2 = 4 := by
  rw [tailB_iff] at t1 t2 t3
  have : decodeN n x0 x1 x2 x3 = (x0 % 8 * 262144 + x1 % 64 * 4096 + x2 % 64 * 64 + x3 % 64, 4) := by
    unfold decodeN
    repeat' split
    all_goals first | (exfalso; omega) | rfl
  rw [this]
  refine ⟨?_, rfl⟩
  unfold kn; rw [if_neg (fun h => by have h2 := h.2; simp only at h2; omega)]; simp only; omega
open Go.Lib in
theorem dec_four_no (n x0 x1 x2 x3 : Nat) (h0 : 240 ≤ x0) (h1 : x0 < 248) (l1 : x1 < 256) (l2 : x2 < 256) (l3 : x3 < 256)
    (hr : tailB n 1 x1 = false ∨ tailB n 2 x2 = false ∨ tailB n 3 x3 = false ∨ ((x0 : Int) - 240) * 262144 + ((x1 : Int) - 128) * 4096 + ((x2 : Int) - 128) * 64 + x3 - 128 < 65536 ∨ 1114111 < ((x0 : Int) - 240) * 262144 + ((x1 : Int) - 128) * 4096 + ((x2 : Int) - 128) * 64 + x3 - 128) :
    decodeN n x0 x1 x2 x3 = (65533, 1) := by
  rw [tailB_no, tailB_no, tailB_no] at hr
  unfold decodeN
  repeat' split
  all_goals first | (exfalso; omega) | rfl
theorem kn_bad : kn (65533, 1) = -1 := rfl
end Go.Proofs.YtfikkkodepfdkaaDoor.Lns
namespace Go.Proofs.YtfikkkodepfdkaaDoor.Lns
set_option linter.unusedVariables false
open Go.RowKit Go.ChangeShapes

set_option maxRecDepth 100000 in
set_option maxHeartbeats 4000000 in
theorem rnext_one (b off n cap x0 x1 x2 x3 : Nat) (w : World) (hn : (0 : Int) < (n : Int)) (c0 : w.cell? ⟨b, off, none⟩ = some (.int .u8 x0)) (c1 : 1 < n → w.cell? ⟨b, off + 1, none⟩ = some (.int .u8 x1)) (c2 : 2 < n → w.cell? ⟨b, off + 2, none⟩ = some (.int .u8 x2)) (c3 : 3 < n → w.cell? ⟨b, off + 3, none⟩ = some (.int .u8 x3)) (l0 : x0 < 256) (l1 : x1 < 256) (l2 : x2 < 256) (l3 : x3 < 256) (h : x0 < 128) :
    Calls Tryd.prog 48 #[.slice (some ⟨b, off, none⟩) n cap] w fun e w' => e = .returned (.tuple #[.int .i32 (kn (Go.Lib.decodeN n x0 x1 x2 x3)), .int .i64 (Go.Lib.decodeN n x0 x1 x2 x3).2]) ∧ Below w.heap.size w w' := by
  rw [dec_one n x0 x1 x2 x3 h, show kn (x0, 1) = x0 by unfold kn; rw [if_neg (by simp; omega)]]
  have h' : (x0 : Int) < 128 := by omega
  go_enter Tryd.func48, Tryd.ntmps48
  go_wp2
  go_ret2
  exact ⟨rfl, Below.refl _ _⟩

set_option maxRecDepth 100000 in
set_option maxHeartbeats 4000000 in
theorem rnext_bad (b off n cap x0 x1 x2 x3 : Nat) (w : World) (hn : (0 : Int) < (n : Int)) (c0 : w.cell? ⟨b, off, none⟩ = some (.int .u8 x0)) (c1 : 1 < n → w.cell? ⟨b, off + 1, none⟩ = some (.int .u8 x1)) (c2 : 2 < n → w.cell? ⟨b, off + 2, none⟩ = some (.int .u8 x2)) (c3 : 3 < n → w.cell? ⟨b, off + 3, none⟩ = some (.int .u8 x3)) (l0 : x0 < 256) (l1 : x1 < 256) (l2 : x2 < 256) (l3 : x3 < 256) (h : 128 ≤ x0) (h0 : x0 < 192 ∨ 248 ≤ x0) :
    Calls Tryd.prog 48 #[.slice (some ⟨b, off, none⟩) n cap] w fun e w' => e = .returned (.tuple #[.int .i32 (kn (Go.Lib.decodeN n x0 x1 x2 x3)), .int .i64 (Go.Lib.decodeN n x0 x1 x2 x3).2]) ∧ Below w.heap.size w w' := by
  rw [dec_bad n x0 x1 x2 x3 h h0 l0, kn_bad]
  have h' : ¬ (x0 : Int) < 128 := by omega
  rcases h0 with h0 | h0
  · have a1 : ¬ (192 : Int) ≤ x0 := by omega
    have a2 : ¬ (224 : Int) ≤ x0 := by omega
    have a3 : ¬ (240 : Int) ≤ x0 := by omega
    go_enter Tryd.func48, Tryd.ntmps48
    go_wp2
    go_ret2
    exact ⟨rfl, Below.refl _ _⟩
  · have a1 : (192 : Int) ≤ x0 := by omega
    have a2 : (224 : Int) ≤ x0 := by omega
    have a3 : (240 : Int) ≤ x0 := by omega
    have a4 : ¬ (x0 : Int) < 224 := by omega
    have a5 : ¬ (x0 : Int) < 240 := by omega
    have a6 : ¬ (x0 : Int) < 248 := by omega
    go_enter Tryd.func48, Tryd.ntmps48
    go_wp2
    go_ret2
    exact ⟨rfl, Below.refl _ _⟩

set_option maxRecDepth 100000 in
set_option maxHeartbeats 4000000 in
theorem rnext_two (b off n cap x0 x1 x2 x3 : Nat) (w : World) (hn : (0 : Int) < (n : Int)) (c0 : w.cell? ⟨b, off, none⟩ = some (.int .u8 x0)) (c1 : 1 < n → w.cell? ⟨b, off + 1, none⟩ = some (.int .u8 x1)) (c2 : 2 < n → w.cell? ⟨b, off + 2, none⟩ = some (.int .u8 x2)) (c3 : 3 < n → w.cell? ⟨b, off + 3, none⟩ = some (.int .u8 x3)) (l0 : x0 < 256) (l1 : x1 < 256) (l2 : x2 < 256) (l3 : x3 < 256) (h0 : 192 ≤ x0) (h1 : x0 < 224) :
    Calls Tryd.prog 48 #[.slice (some ⟨b, off, none⟩) n cap] w fun e w' => e = .returned (.tuple #[.int .i32 (kn (Go.Lib.decodeN n x0 x1 x2 x3)), .int .i64 (Go.Lib.decodeN n x0 x1 x2 x3).2]) ∧ Below w.heap.size w w' := by
  have b128 : ¬ (x0 : Int) < 128 := by omega
  have g192 : (192 : Int) ≤ x0 := by omega
  have g224 : ¬ (224 : Int) ≤ x0 := by omega
  have g240 : ¬ (240 : Int) ≤ x0 := by omega
  have s224 : (x0 : Int) < 224 := by omega
  have s240 : (x0 : Int) < 240 := by omega
  have s248 : (x0 : Int) < 248 := by omega
  have ct1 := tail_any b off n cap 1 x1 w c1
  cases t1 : tailB n 1 x1
  · rw [dec_two_no n x0 x1 x2 x3 h0 h1 l1 (Or.inl t1), kn_bad]
    rw [t1] at ct1
    go_enter Tryd.func48, Tryd.ntmps48
    go_wp2_with (go_at_call 62; refine ct1.mono ?_; rintro e w' ⟨rfl, rfl⟩)
    go_ret2
    exact ⟨rfl, Below.refl _ _⟩
  · have t1' := (tailB_iff _ _ _).1 t1
    have i1 : (1 : Int) < (n : Int) := by omega
    have z1 := c1 t1'.1
    have e1 : (128 : Int) ≤ x1 := by omega
    have e2 : (x1 : Int) < 192 := by omega
    rw [t1] at ct1
    by_cases hr : 128 ≤ ((x0 : Int) - 192) * 64 + x1 - 128
    · obtain ⟨r1, r2⟩ := dec_two n x0 x1 x2 x3 h0 h1 l1 t1 hr
      rw [r1, r2]
      clear r1 r2 t1
      go_enter Tryd.func48, Tryd.ntmps48
      go_wp2_with (go_at_call 62; refine ct1.mono ?_; rintro e w' ⟨rfl, rfl⟩)
      go_ret2
      exact ⟨rfl, Below.refl _ _⟩
    · rw [dec_two_no n x0 x1 x2 x3 h0 h1 l1 (Or.inr (by omega)), kn_bad]
      clear t1
      go_enter Tryd.func48, Tryd.ntmps48
      go_wp2_with (go_at_call 62; refine ct1.mono ?_; rintro e w' ⟨rfl, rfl⟩)
      go_ret2
      exact ⟨rfl, Below.refl _ _⟩
end Go.Proofs.YtfikkkodepfdkaaDoor.Lns
namespace Go.Proofs.YtfikkkodepfdkaaDoor.Lns
set_option linter.unusedVariables false
open Go.RowKit Go.ChangeShapes
set_option maxRecDepth 100000 in
set_option maxHeartbeats 1000000 in
theorem rnext_three_a (b off n cap x0 x1 x2 x3 : Nat) (w : World) (hn : (0 : Int) < (n : Int)) (c0 : w.cell? ⟨b, off, none⟩ = some (.int .u8 x0)) (c1 : 1 < n → w.cell? ⟨b, off + 1, none⟩ = some (.int .u8 x1)) (c2 : 2 < n → w.cell? ⟨b, off + 2, none⟩ = some (.int .u8 x2)) (c3 : 3 < n → w.cell? ⟨b, off + 3, none⟩ = some (.int .u8 x3)) (l0 : x0 < 256) (l1 : x1 < 256) (l2 : x2 < 256) (l3 : x3 < 256) (h0 : 224 ≤ x0) (h1 : x0 < 240) (t1 : tailB n 1 x1 = false) :
    Calls Tryd.prog 48 #[.slice (some ⟨b, off, none⟩) n cap] w fun e w' => e = .returned (.tuple #[.int .i32 (kn (Go.Lib.decodeN n x0 x1 x2 x3)), .int .i64 (Go.Lib.decodeN n x0 x1 x2 x3).2]) ∧ Below w.heap.size w w' := by
  have b128 : ¬ (x0 : Int) < 128 := by omega
  have g192 : (192 : Int) ≤ x0 := by omega
  have g224 : (224 : Int) ≤ x0 := by omega
  have g240 : ¬ (240 : Int) ≤ x0 := by omega
  have s224 : ¬ (x0 : Int) < 224 := by omega
  have s240 : (x0 : Int) < 240 := by omega
  have s248 : (x0 : Int) < 248 := by omega
  have ct1 : Calls Tryd.prog 62 #[.slice (some ⟨b, off, none⟩) n cap, .int .i64 1] w fun e w' => e = .returned (.bool (tailB n 1 x1)) ∧ w' = w := tail_any b off n cap 1 x1 w c1
  rw [dec_three_no n x0 x1 x2 x3 h0 h1 l1 l2 (Or.inl t1), kn_bad]
  rw [t1] at ct1
  go_enter Tryd.func48, Tryd.ntmps48
  go_wp2_with fail
  refine ct1.mono ?_
  rintro e w' ⟨rfl, rfl⟩
  go_wp2
  go_ret2
  exact ⟨rfl, Below.refl _ _⟩
set_option maxRecDepth 100000 in
set_option maxHeartbeats 1000000 in
theorem rnext_three_b (b off n cap x0 x1 x2 x3 : Nat) (w : World) (hn : (0 : Int) < (n : Int)) (c0 : w.cell? ⟨b, off, none⟩ = some (.int .u8 x0)) (c1 : 1 < n → w.cell? ⟨b, off + 1, none⟩ = some (.int .u8 x1)) (c2 : 2 < n → w.cell? ⟨b, off + 2, none⟩ = some (.int .u8 x2)) (c3 : 3 < n → w.cell? ⟨b, off + 3, none⟩ = some (.int .u8 x3)) (l0 : x0 < 256) (l1 : x1 < 256) (l2 : x2 < 256) (l3 : x3 < 256) (h0 : 224 ≤ x0) (h1 : x0 < 240) (t1 : tailB n 1 x1 = true) (t2 : tailB n 2 x2 = false) :
    Calls Tryd.prog 48 #[.slice (some ⟨b, off, none⟩) n cap] w fun e w' => e = .returned (.tuple #[.int .i32 (kn (Go.Lib.decodeN n x0 x1 x2 x3)), .int .i64 (Go.Lib.decodeN n x0 x1 x2 x3).2]) ∧ Below w.heap.size w w' := by
  have b128 : ¬ (x0 : Int) < 128 := by omega
  have g192 : (192 : Int) ≤ x0 := by omega
  have g224 : (224 : Int) ≤ x0 := by omega
  have g240 : ¬ (240 : Int) ≤ x0 := by omega
  have s224 : ¬ (x0 : Int) < 224 := by omega
  have s240 : (x0 : Int) < 240 := by omega
  have s248 : (x0 : Int) < 248 := by omega
  have ct1 : Calls Tryd.prog 62 #[.slice (some ⟨b, off, none⟩) n cap, .int .i64 1] w fun e w' => e = .returned (.bool (tailB n 1 x1)) ∧ w' = w := tail_any b off n cap 1 x1 w c1
  have ct2 : Calls Tryd.prog 62 #[.slice (some ⟨b, off, none⟩) n cap, .int .i64 2] w fun e w' => e = .returned (.bool (tailB n 2 x2)) ∧ w' = w := tail_any b off n cap 2 x2 w c2
  rw [dec_three_no n x0 x1 x2 x3 h0 h1 l1 l2 (Or.inr (Or.inl t2)), kn_bad]
  rw [t1] at ct1
  rw [t2] at ct2
  go_enter Tryd.func48, Tryd.ntmps48
  go_wp2_with fail
  refine ct1.mono ?_
  rintro e w' ⟨rfl, rfl⟩
  go_wp2_with fail
  refine ct2.mono ?_
  rintro e w' ⟨rfl, rfl⟩
  go_wp2
  go_ret2
  exact ⟨rfl, Below.refl _ _⟩
set_option maxRecDepth 100000 in
set_option maxHeartbeats 1000000 in
theorem rnext_three_c (b off n cap x0 x1 x2 x3 : Nat) (w : World) (hn : (0 : Int) < (n : Int)) (c0 : w.cell? ⟨b, off, none⟩ = some (.int .u8 x0)) (c1 : 1 < n → w.cell? ⟨b, off + 1, none⟩ = some (.int .u8 x1)) (c2 : 2 < n → w.cell? ⟨b, off + 2, none⟩ = some (.int .u8 x2)) (c3 : 3 < n → w.cell? ⟨b, off + 3, none⟩ = some (.int .u8 x3)) (l0 : x0 < 256) (l1 : x1 < 256) (l2 : x2 < 256) (l3 : x3 < 256) (h0 : 224 ≤ x0) (h1 : x0 < 240) (t1 : tailB n 1 x1 = true) (t2 : tailB n 2 x2 = true) (hr : 2048 ≤ ((x0 : Int) - 224) * 4096 + ((x1 : Int) - 128) * 64 + x2 - 128) (hs : ((x0 : Int) - 224) * 4096 + ((x1 : Int) - 128) * 64 + x2 - 128 < 55296) :
    Calls Tryd.prog 48 #[.slice (some ⟨b, off, none⟩) n cap] w fun e w' => e = .returned (.tuple #[.int .i32 (kn (Go.Lib.decodeN n x0 x1 x2 x3)), .int .i64 (Go.Lib.decodeN n x0 x1 x2 x3).2]) ∧ Below w.heap.size w w' := by
  have b128 : ¬ (x0 : Int) < 128 := by omega
  have g192 : (192 : Int) ≤ x0 := by omega
  have g224 : (224 : Int) ≤ x0 := by omega
  have g240 : ¬ (240 : Int) ≤ x0 := by omega
  have s224 : ¬ (x0 : Int) < 224 := by omega
  have s240 : (x0 : Int) < 240 := by omega
  have s248 : (x0 : Int) < 248 := by omega
  have ct1 : Calls Tryd.prog 62 #[.slice (some ⟨b, off, none⟩) n cap, .int .i64 1] w fun e w' => e = .returned (.bool (tailB n 1 x1)) ∧ w' = w := tail_any b off n cap 1 x1 w c1
  have ct2 : Calls Tryd.prog 62 #[.slice (some ⟨b, off, none⟩) n cap, .int .i64 2] w fun e w' => e = .returned (.bool (tailB n 2 x2)) ∧ w' = w := tail_any b off n cap 2 x2 w c2
  have t1' := (tailB_iff _ _ _).1 t1
  have i1 : (1 : Int) < (n : Int) := by omega
  have z1 := c1 t1'.1
  have e1 : (128 : Int) ≤ x1 := by omega
  have f1 : (x1 : Int) < 192 := by omega
  have t2' := (tailB_iff _ _ _).1 t2
  have i2 : (2 : Int) < (n : Int) := by omega
  have z2 := c2 t2'.1
  have e2 : (128 : Int) ≤ x2 := by omega
  have f2 : (x2 : Int) < 192 := by omega
  obtain ⟨r1, r2⟩ := dec_three n x0 x1 x2 x3 h0 h1 t1 t2 hr (Or.inl hs)
  rw [r1, r2]
  clear r1 r2
  rw [t1] at ct1
  rw [t2] at ct2
  go_enter Tryd.func48, Tryd.ntmps48
  go_wp2_with fail
  refine ct1.mono ?_
  rintro e w' ⟨rfl, rfl⟩
  go_wp2_with fail
  refine ct2.mono ?_
  rintro e w' ⟨rfl, rfl⟩
  go_wp2
  go_quiet (fail)
  go_wp2
  go_ret2
  exact ⟨rfl, Go.below_drewN (Below.refl _ _) _⟩
set_option maxRecDepth 100000 in
set_option maxHeartbeats 1000000 in
theorem rnext_three_d (b off n cap x0 x1 x2 x3 : Nat) (w : World) (hn : (0 : Int) < (n : Int)) (c0 : w.cell? ⟨b, off, none⟩ = some (.int .u8 x0)) (c1 : 1 < n → w.cell? ⟨b, off + 1, none⟩ = some (.int .u8 x1)) (c2 : 2 < n → w.cell? ⟨b, off + 2, none⟩ = some (.int .u8 x2)) (c3 : 3 < n → w.cell? ⟨b, off + 3, none⟩ = some (.int .u8 x3)) (l0 : x0 < 256) (l1 : x1 < 256) (l2 : x2 < 256) (l3 : x3 < 256) (h0 : 224 ≤ x0) (h1 : x0 < 240) (t1 : tailB n 1 x1 = true) (t2 : tailB n 2 x2 = true) (hr : 2048 ≤ ((x0 : Int) - 224) * 4096 + ((x1 : Int) - 128) * 64 + x2 - 128) (hs : 57343 < ((x0 : Int) - 224) * 4096 + ((x1 : Int) - 128) * 64 + x2 - 128) :
    Calls Tryd.prog 48 #[.slice (some ⟨b, off, none⟩) n cap] w fun e w' => e = .returned (.tuple #[.int .i32 (kn (Go.Lib.decodeN n x0 x1 x2 x3)), .int .i64 (Go.Lib.decodeN n x0 x1 x2 x3).2]) ∧ Below w.heap.size w w' := by
  have b128 : ¬ (x0 : Int) < 128 := by omega
  have g192 : (192 : Int) ≤ x0 := by omega
  have g224 : (224 : Int) ≤ x0 := by omega
  have g240 : ¬ (240 : Int) ≤ x0 := by omega
  have s224 : ¬ (x0 : Int) < 224 := by omega
  have s240 : (x0 : Int) < 240 := by omega
  have s248 : (x0 : Int) < 248 := by omega
  have ct1 : Calls Tryd.prog 62 #[.slice (some ⟨b, off, none⟩) n cap, .int .i64 1] w fun e w' => e = .returned (.bool (tailB n 1 x1)) ∧ w' = w := tail_any b off n cap 1 x1 w c1
  have ct2 : Calls Tryd.prog 62 #[.slice (some ⟨b, off, none⟩) n cap, .int .i64 2] w fun e w' => e = .returned (.bool (tailB n 2 x2)) ∧ w' = w := tail_any b off n cap 2 x2 w c2
  have t1' := (tailB_iff _ _ _).1 t1
  have i1 : (1 : Int) < (n : Int) := by omega
  have z1 := c1 t1'.1
  have e1 : (128 : Int) ≤ x1 := by omega
  have f1 : (x1 : Int) < 192 := by omega
  have t2' := (tailB_iff _ _ _).1 t2
  have i2 : (2 : Int) < (n : Int) := by omega
  have z2 := c2 t2'.1
  have e2 : (128 : Int) ≤ x2 := by omega
  have f2 : (x2 : Int) < 192 := by omega
  obtain ⟨r1, r2⟩ := dec_three n x0 x1 x2 x3 h0 h1 t1 t2 hr (Or.inr hs)
  rw [r1, r2]
  have hs2 : ¬ ((x0 : Int) - 224) * 4096 + ((x1 : Int) - 128) * 64 + x2 - 128 < 55296 := by omega
  clear r1 r2
  rw [t1] at ct1
  rw [t2] at ct2
  go_enter Tryd.func48, Tryd.ntmps48
  go_wp2_with fail
  refine ct1.mono ?_
  rintro e w' ⟨rfl, rfl⟩
  go_wp2_with fail
  refine ct2.mono ?_
  rintro e w' ⟨rfl, rfl⟩
  go_wp2
  go_quiet (fail)
  go_wp2
  go_ret2
  exact ⟨rfl, Go.below_drewN (Below.refl _ _) _⟩
set_option maxRecDepth 100000 in
set_option maxHeartbeats 1000000 in
theorem rnext_three_e (b off n cap x0 x1 x2 x3 : Nat) (w : World) (hn : (0 : Int) < (n : Int)) (c0 : w.cell? ⟨b, off, none⟩ = some (.int .u8 x0)) (c1 : 1 < n → w.cell? ⟨b, off + 1, none⟩ = some (.int .u8 x1)) (c2 : 2 < n → w.cell? ⟨b, off + 2, none⟩ = some (.int .u8 x2)) (c3 : 3 < n → w.cell? ⟨b, off + 3, none⟩ = some (.int .u8 x3)) (l0 : x0 < 256) (l1 : x1 < 256) (l2 : x2 < 256) (l3 : x3 < 256) (h0 : 224 ≤ x0) (h1 : x0 < 240) (t1 : tailB n 1 x1 = true) (t2 : tailB n 2 x2 = true) (hr : ¬ 2048 ≤ ((x0 : Int) - 224) * 4096 + ((x1 : Int) - 128) * 64 + x2 - 128) :
    Calls Tryd.prog 48 #[.slice (some ⟨b, off, none⟩) n cap] w fun e w' => e = .returned (.tuple #[.int .i32 (kn (Go.Lib.decodeN n x0 x1 x2 x3)), .int .i64 (Go.Lib.decodeN n x0 x1 x2 x3).2]) ∧ Below w.heap.size w w' := by
  have b128 : ¬ (x0 : Int) < 128 := by omega
  have g192 : (192 : Int) ≤ x0 := by omega
  have g224 : (224 : Int) ≤ x0 := by omega
  have g240 : ¬ (240 : Int) ≤ x0 := by omega
  have s224 : ¬ (x0 : Int) < 224 := by omega
  have s240 : (x0 : Int) < 240 := by omega
  have s248 : (x0 : Int) < 248 := by omega
  have ct1 : Calls Tryd.prog 62 #[.slice (some ⟨b, off, none⟩) n cap, .int .i64 1] w fun e w' => e = .returned (.bool (tailB n 1 x1)) ∧ w' = w := tail_any b off n cap 1 x1 w c1
  have ct2 : Calls Tryd.prog 62 #[.slice (some ⟨b, off, none⟩) n cap, .int .i64 2] w fun e w' => e = .returned (.bool (tailB n 2 x2)) ∧ w' = w := tail_any b off n cap 2 x2 w c2
  have t1' := (tailB_iff _ _ _).1 t1
  have i1 : (1 : Int) < (n : Int) := by omega
  have z1 := c1 t1'.1
  have e1 : (128 : Int) ≤ x1 := by omega
  have f1 : (x1 : Int) < 192 := by omega
  have t2' := (tailB_iff _ _ _).1 t2
  have i2 : (2 : Int) < (n : Int) := by omega
  have z2 := c2 t2'.1
  have e2 : (128 : Int) ≤ x2 := by omega
  have f2 : (x2 : Int) < 192 := by omega
  rw [dec_three_no n x0 x1 x2 x3 h0 h1 l1 l2 (Or.inr (Or.inr (Or.inl (by omega)))), kn_bad]
  rw [t1] at ct1
  rw [t2] at ct2
  go_enter Tryd.func48, Tryd.ntmps48
  go_wp2_with fail
  refine ct1.mono ?_
  rintro e w' ⟨rfl, rfl⟩
  go_wp2_with fail
  refine ct2.mono ?_
  rintro e w' ⟨rfl, rfl⟩
  go_wp2
  go_quiet (fail)
  go_wp2
  go_ret2
  exact ⟨rfl, Go.below_drewN (Below.refl _ _) _⟩
set_option maxRecDepth 100000 in
set_option maxHeartbeats 1000000 in
theorem rnext_three_f (b off n cap x0 x1 x2 x3 : Nat) (w : World) (hn : (0 : Int) < (n : Int)) (c0 : w.cell? ⟨b, off, none⟩ = some (.int .u8 x0)) (c1 : 1 < n → w.cell? ⟨b, off + 1, none⟩ = some (.int .u8 x1)) (c2 : 2 < n → w.cell? ⟨b, off + 2, none⟩ = some (.int .u8 x2)) (c3 : 3 < n → w.cell? ⟨b, off + 3, none⟩ = some (.int .u8 x3)) (l0 : x0 < 256) (l1 : x1 < 256) (l2 : x2 < 256) (l3 : x3 < 256) (h0 : 224 ≤ x0) (h1 : x0 < 240) (t1 : tailB n 1 x1 = true) (t2 : tailB n 2 x2 = true) (hr : 2048 ≤ ((x0 : Int) - 224) * 4096 + ((x1 : Int) - 128) * 64 + x2 - 128) (hs : ¬ ((x0 : Int) - 224) * 4096 + ((x1 : Int) - 128) * 64 + x2 - 128 < 55296) (hs2 : ¬ 57343 < ((x0 : Int) - 224) * 4096 + ((x1 : Int) - 128) * 64 + x2 - 128) :
    Calls Tryd.prog 48 #[.slice (some ⟨b, off, none⟩) n cap] w fun e w' => e = .returned (.tuple #[.int .i32 (kn (Go.Lib.decodeN n x0 x1 x2 x3)), .int .i64 (Go.Lib.decodeN n x0 x1 x2 x3).2]) ∧ Below w.heap.size w w' := by
  have b128 : ¬ (x0 : Int) < 128 := by omega
  have g192 : (192 : Int) ≤ x0 := by omega
  have g224 : (224 : Int) ≤ x0 := by omega
  have g240 : ¬ (240 : Int) ≤ x0 := by omega
  have s224 : ¬ (x0 : Int) < 224 := by omega
  have s240 : (x0 : Int) < 240 := by omega
  have s248 : (x0 : Int) < 248 := by omega
  have ct1 : Calls Tryd.prog 62 #[.slice (some ⟨b, off, none⟩) n cap, .int .i64 1] w fun e w' => e = .returned (.bool (tailB n 1 x1)) ∧ w' = w := tail_any b off n cap 1 x1 w c1
  have ct2 : Calls Tryd.prog 62 #[.slice (some ⟨b, off, none⟩) n cap, .int .i64 2] w fun e w' => e = .returned (.bool (tailB n 2 x2)) ∧ w' = w := tail_any b off n cap 2 x2 w c2
  have t1' := (tailB_iff _ _ _).1 t1
  have i1 : (1 : Int) < (n : Int) := by omega
  have z1 := c1 t1'.1
  have e1 : (128 : Int) ≤ x1 := by omega
  have f1 : (x1 : Int) < 192 := by omega
  have t2' := (tailB_iff _ _ _).1 t2
  have i2 : (2 : Int) < (n : Int) := by omega
  have z2 := c2 t2'.1
  have e2 : (128 : Int) ≤ x2 := by omega
  have f2 : (x2 : Int) < 192 := by omega
  rw [dec_three_no n x0 x1 x2 x3 h0 h1 l1 l2 (Or.inr (Or.inr (Or.inr (by omega)))), kn_bad]
  rw [t1] at ct1
  rw [t2] at ct2
  go_enter Tryd.func48, Tryd.ntmps48
  go_wp2_with fail
  refine ct1.mono ?_
  rintro e w' ⟨rfl, rfl⟩
  go_wp2_with fail
  refine ct2.mono ?_
  rintro e w' ⟨rfl, rfl⟩
  go_wp2
  go_quiet (fail)
  go_wp2
  go_ret2
  exact ⟨rfl, Go.below_drewN (Below.refl _ _) _⟩
end Go.Proofs.YtfikkkodepfdkaaDoor.Lns
namespace Go.Proofs.YtfikkkodepfdkaaDoor.Lns
set_option linter.unusedVariables false
open Go.RowKit Go.ChangeShapes
set_option maxRecDepth 100000 in
set_option maxHeartbeats 1000000 in
theorem rnext_four_a (b off n cap x0 x1 x2 x3 : Nat) (w : World) (hn : (0 : Int) < (n : Int)) (c0 : w.cell? ⟨b, off, none⟩ = some (.int .u8 x0)) (c1 : 1 < n → w.cell? ⟨b, off + 1, none⟩ = some (.int .u8 x1)) (c2 : 2 < n → w.cell? ⟨b, off + 2, none⟩ = some (.int .u8 x2)) (c3 : 3 < n → w.cell? ⟨b, off + 3, none⟩ = some (.int .u8 x3)) (l0 : x0 < 256) (l1 : x1 < 256) (l2 : x2 < 256) (l3 : x3 < 256) (h0 : 240 ≤ x0) (h1 : x0 < 248) (t1 : tailB n 1 x1 = false) :
    Calls Tryd.prog 48 #[.slice (some ⟨b, off, none⟩) n cap] w fun e w' => e = .returned (.tuple #[.int .i32 (kn (Go.Lib.decodeN n x0 x1 x2 x3)), .int .i64 (Go.Lib.decodeN n x0 x1 x2 x3).2]) ∧ Below w.heap.size w w' := by
  have b128 : ¬ (x0 : Int) < 128 := by omega
  have g192 : (192 : Int) ≤ x0 := by omega
  have g224 : (224 : Int) ≤ x0 := by omega
  have g240 : (240 : Int) ≤ x0 := by omega
  have s224 : ¬ (x0 : Int) < 224 := by omega
  have s240 : ¬ (x0 : Int) < 240 := by omega
  have s248 : (x0 : Int) < 248 := by omega
  have ct1 : Calls Tryd.prog 62 #[.slice (some ⟨b, off, none⟩) n cap, .int .i64 1] w fun e w' => e = .returned (.bool (tailB n 1 x1)) ∧ w' = w := tail_any b off n cap 1 x1 w c1
  rw [dec_four_no n x0 x1 x2 x3 h0 h1 l1 l2 l3 (Or.inl t1), kn_bad]
  rw [t1] at ct1
  go_enter Tryd.func48, Tryd.ntmps48
  go_wp2_with fail
  refine ct1.mono ?_
  rintro e w' ⟨rfl, rfl⟩
  go_wp2
  go_ret2
  exact ⟨rfl, Below.refl _ _⟩
set_option maxRecDepth 100000 in
set_option maxHeartbeats 1000000 in
theorem rnext_four_b (b off n cap x0 x1 x2 x3 : Nat) (w : World) (hn : (0 : Int) < (n : Int)) (c0 : w.cell? ⟨b, off, none⟩ = some (.int .u8 x0)) (c1 : 1 < n → w.cell? ⟨b, off + 1, none⟩ = some (.int .u8 x1)) (c2 : 2 < n → w.cell? ⟨b, off + 2, none⟩ = some (.int .u8 x2)) (c3 : 3 < n → w.cell? ⟨b, off + 3, none⟩ = some (.int .u8 x3)) (l0 : x0 < 256) (l1 : x1 < 256) (l2 : x2 < 256) (l3 : x3 < 256) (h0 : 240 ≤ x0) (h1 : x0 < 248) (t1 : tailB n 1 x1 = true) (t2 : tailB n 2 x2 = false) :
    Calls Tryd.prog 48 #[.slice (some ⟨b, off, none⟩) n cap] w fun e w' => e = .returned (.tuple #[.int .i32 (kn (Go.Lib.decodeN n x0 x1 x2 x3)), .int .i64 (Go.Lib.decodeN n x0 x1 x2 x3).2]) ∧ Below w.heap.size w w' := by
  have b128 : ¬ (x0 : Int) < 128 := by omega
  have g192 : (192 : Int) ≤ x0 := by omega
  have g224 : (224 : Int) ≤ x0 := by omega
  have g240 : (240 : Int) ≤ x0 := by omega
  have s224 : ¬ (x0 : Int) < 224 := by omega
  have s240 : ¬ (x0 : Int) < 240 := by omega
  have s248 : (x0 : Int) < 248 := by omega
  have ct1 : Calls Tryd.prog 62 #[.slice (some ⟨b, off, none⟩) n cap, .int .i64 1] w fun e w' => e = .returned (.bool (tailB n 1 x1)) ∧ w' = w := tail_any b off n cap 1 x1 w c1
  have ct2 : Calls Tryd.prog 62 #[.slice (some ⟨b, off, none⟩) n cap, .int .i64 2] w fun e w' => e = .returned (.bool (tailB n 2 x2)) ∧ w' = w := tail_any b off n cap 2 x2 w c2
  rw [dec_four_no n x0 x1 x2 x3 h0 h1 l1 l2 l3 (Or.inr (Or.inl t2)), kn_bad]
  rw [t1] at ct1
  rw [t2] at ct2
  go_enter Tryd.func48, Tryd.ntmps48
  go_wp2_with fail
  refine ct1.mono ?_
  rintro e w' ⟨rfl, rfl⟩
  go_wp2_with fail
  refine ct2.mono ?_
  rintro e w' ⟨rfl, rfl⟩
  go_wp2
  go_ret2
  exact ⟨rfl, Below.refl _ _⟩
set_option maxRecDepth 100000 in
set_option maxHeartbeats 1000000 in
theorem rnext_four_c (b off n cap x0 x1 x2 x3 : Nat) (w : World) (hn : (0 : Int) < (n : Int)) (c0 : w.cell? ⟨b, off, none⟩ = some (.int .u8 x0)) (c1 : 1 < n → w.cell? ⟨b, off + 1, none⟩ = some (.int .u8 x1)) (c2 : 2 < n → w.cell? ⟨b, off + 2, none⟩ = some (.int .u8 x2)) (c3 : 3 < n → w.cell? ⟨b, off + 3, none⟩ = some (.int .u8 x3)) (l0 : x0 < 256) (l1 : x1 < 256) (l2 : x2 < 256) (l3 : x3 < 256) (h0 : 240 ≤ x0) (h1 : x0 < 248) (t1 : tailB n 1 x1 = true) (t2 : tailB n 2 x2 = true) (t3 : tailB n 3 x3 = false) :
    Calls Tryd.prog 48 #[.slice (some ⟨b, off, none⟩) n cap] w fun e w' => e = .returned (.tuple #[.int .i32 (kn (Go.Lib.decodeN n x0 x1 x2 x3)), .int .i64 (Go.Lib.decodeN n x0 x1 x2 x3).2]) ∧ Below w.heap.size w w' := by
  have b128 : ¬ (x0 : Int) < 128 := by omega
  have g192 : (192 : Int) ≤ x0 := by omega
  have g224 : (224 : Int) ≤ x0 := by omega
  have g240 : (240 : Int) ≤ x0 := by omega
  have s224 : ¬ (x0 : Int) < 224 := by omega
  have s240 : ¬ (x0 : Int) < 240 := by omega
  have s248 : (x0 : Int) < 248 := by omega
  have ct1 : Calls Tryd.prog 62 #[.slice (some ⟨b, off, none⟩) n cap, .int .i64 1] w fun e w' => e = .returned (.bool (tailB n 1 x1)) ∧ w' = w := tail_any b off n cap 1 x1 w c1
  have ct2 : Calls Tryd.prog 62 #[.slice (some ⟨b, off, none⟩) n cap, .int .i64 2] w fun e w' => e = .returned (.bool (tailB n 2 x2)) ∧ w' = w := tail_any b off n cap 2 x2 w c2
  have ct3 : Calls Tryd.prog 62 #[.slice (some ⟨b, off, none⟩) n cap, .int .i64 3] w fun e w' => e = .returned (.bool (tailB n 3 x3)) ∧ w' = w := tail_any b off n cap 3 x3 w c3
  rw [dec_four_no n x0 x1 x2 x3 h0 h1 l1 l2 l3 (Or.inr (Or.inr (Or.inl t3))), kn_bad]
  rw [t1] at ct1
  rw [t2] at ct2
  rw [t3] at ct3
  go_enter Tryd.func48, Tryd.ntmps48
  go_wp2_with fail
  refine ct1.mono ?_
  rintro e w' ⟨rfl, rfl⟩
  go_wp2_with fail
  refine ct2.mono ?_
  rintro e w' ⟨rfl, rfl⟩
  go_wp2_with fail
  refine ct3.mono ?_
  rintro e w' ⟨rfl, rfl⟩
  go_wp2
  go_ret2
  exact ⟨rfl, Below.refl _ _⟩
set_option maxRecDepth 100000 in
set_option maxHeartbeats 1000000 in
theorem rnext_four_d (b off n cap x0 x1 x2 x3 : Nat) (w : World) (hn : (0 : Int) < (n : Int)) (c0 : w.cell? ⟨b, off, none⟩ = some (.int .u8 x0)) (c1 : 1 < n → w.cell? ⟨b, off + 1, none⟩ = some (.int .u8 x1)) (c2 : 2 < n → w.cell? ⟨b, off + 2, none⟩ = some (.int .u8 x2)) (c3 : 3 < n → w.cell? ⟨b, off + 3, none⟩ = some (.int .u8 x3)) (l0 : x0 < 256) (l1 : x1 < 256) (l2 : x2 < 256) (l3 : x3 < 256) (h0 : 240 ≤ x0) (h1 : x0 < 248) (t1 : tailB n 1 x1 = true) (t2 : tailB n 2 x2 = true) (t3 : tailB n 3 x3 = true) (hr : 65536 ≤ ((x0 : Int) - 240) * 262144 + ((x1 : Int) - 128) * 4096 + ((x2 : Int) - 128) * 64 + x3 - 128) (hs : ((x0 : Int) - 240) * 262144 + ((x1 : Int) - 128) * 4096 + ((x2 : Int) - 128) * 64 + x3 - 128 ≤ 1114111) :
    Calls Tryd.prog 48 #[.slice (some ⟨b, off, none⟩) n cap] w fun e w' => e = .returned (.tuple #[.int .i32 (kn (Go.Lib.decodeN n x0 x1 x2 x3)), .int .i64 (Go.Lib.decodeN n x0 x1 x2 x3).2]) ∧ Below w.heap.size w w' := by
  have b128 : ¬ (x0 : Int) < 128 := by omega
  have g192 : (192 : Int) ≤ x0 := by omega
  have g224 : (224 : Int) ≤ x0 := by omega
  have g240 : (240 : Int) ≤ x0 := by omega
  have s224 : ¬ (x0 : Int) < 224 := by omega
  have s240 : ¬ (x0 : Int) < 240 := by omega
  have s248 : (x0 : Int) < 248 := by omega
  have ct1 : Calls Tryd.prog 62 #[.slice (some ⟨b, off, none⟩) n cap, .int .i64 1] w fun e w' => e = .returned (.bool (tailB n 1 x1)) ∧ w' = w := tail_any b off n cap 1 x1 w c1
  have ct2 : Calls Tryd.prog 62 #[.slice (some ⟨b, off, none⟩) n cap, .int .i64 2] w fun e w' => e = .returned (.bool (tailB n 2 x2)) ∧ w' = w := tail_any b off n cap 2 x2 w c2
  have ct3 : Calls Tryd.prog 62 #[.slice (some ⟨b, off, none⟩) n cap, .int .i64 3] w fun e w' => e = .returned (.bool (tailB n 3 x3)) ∧ w' = w := tail_any b off n cap 3 x3 w c3
  have t1' := (tailB_iff _ _ _).1 t1
  have i1 : (1 : Int) < (n : Int) := by omega
  have z1 := c1 t1'.1
  have e1 : (128 : Int) ≤ x1 := by omega
  have f1 : (x1 : Int) < 192 := by omega
  have t2' := (tailB_iff _ _ _).1 t2
  have i2 : (2 : Int) < (n : Int) := by omega
  have z2 := c2 t2'.1
  have e2 : (128 : Int) ≤ x2 := by omega
  have f2 : (x2 : Int) < 192 := by omega
  have t3' := (tailB_iff _ _ _).1 t3
  have i3 : (3 : Int) < (n : Int) := by omega
  have z3 := c3 t3'.1
  have e3 : (128 : Int) ≤ x3 := by omega
  have f3 : (x3 : Int) < 192 := by omega
  obtain ⟨r1, r2⟩ := dec_four n x0 x1 x2 x3 h0 h1 t1 t2 t3 hr hs
  rw [r1, r2]
  clear r1 r2
  rw [t1] at ct1
  rw [t2] at ct2
  rw [t3] at ct3
  go_enter Tryd.func48, Tryd.ntmps48
  go_wp2_with fail
  refine ct1.mono ?_
  rintro e w' ⟨rfl, rfl⟩
  go_wp2_with fail
  refine ct2.mono ?_
  rintro e w' ⟨rfl, rfl⟩
  go_wp2_with fail
  refine ct3.mono ?_
  rintro e w' ⟨rfl, rfl⟩
  go_wp2
  go_quiet (fail)
  go_wp2
  go_ret2
  exact ⟨rfl, Go.below_drewN (Below.refl _ _) _⟩
set_option maxRecDepth 100000 in
set_option maxHeartbeats 1000000 in
theorem rnext_four_e (b off n cap x0 x1 x2 x3 : Nat) (w : World) (hn : (0 : Int) < (n : Int)) (c0 : w.cell? ⟨b, off, none⟩ = some (.int .u8 x0)) (c1 : 1 < n → w.cell? ⟨b, off + 1, none⟩ = some (.int .u8 x1)) (c2 : 2 < n → w.cell? ⟨b, off + 2, none⟩ = some (.int .u8 x2)) (c3 : 3 < n → w.cell? ⟨b, off + 3, none⟩ = some (.int .u8 x3)) (l0 : x0 < 256) (l1 : x1 < 256) (l2 : x2 < 256) (l3 : x3 < 256) (h0 : 240 ≤ x0) (h1 : x0 < 248) (t1 : tailB n 1 x1 = true) (t2 : tailB n 2 x2 = true) (t3 : tailB n 3 x3 = true) (hr : ¬ 65536 ≤ ((x0 : Int) - 240) * 262144 + ((x1 : Int) - 128) * 4096 + ((x2 : Int) - 128) * 64 + x3 - 128) :
    Calls Tryd.prog 48 #[.slice (some ⟨b, off, none⟩) n cap] w fun e w' => e = .returned (.tuple #[.int .i32 (kn (Go.Lib.decodeN n x0 x1 x2 x3)), .int .i64 (Go.Lib.decodeN n x0 x1 x2 x3).2]) ∧ Below w.heap.size w w' := by
  have b128 : ¬ (x0 : Int) < 128 := by omega
  have g192 : (192 : Int) ≤ x0 := by omega
  have g224 : (224 : Int) ≤ x0 := by omega
  have g240 : (240 : Int) ≤ x0 := by omega
  have s224 : ¬ (x0 : Int) < 224 := by omega
  have s240 : ¬ (x0 : Int) < 240 := by omega
  have s248 : (x0 : Int) < 248 := by omega
  have ct1 : Calls Tryd.prog 62 #[.slice (some ⟨b, off, none⟩) n cap, .int .i64 1] w fun e w' => e = .returned (.bool (tailB n 1 x1)) ∧ w' = w := tail_any b off n cap 1 x1 w c1
  have ct2 : Calls Tryd.prog 62 #[.slice (some ⟨b, off, none⟩) n cap, .int .i64 2] w fun e w' => e = .returned (.bool (tailB n 2 x2)) ∧ w' = w := tail_any b off n cap 2 x2 w c2
  have ct3 : Calls Tryd.prog 62 #[.slice (some ⟨b, off, none⟩) n cap, .int .i64 3] w fun e w' => e = .returned (.bool (tailB n 3 x3)) ∧ w' = w := tail_any b off n cap 3 x3 w c3
  have t1' := (tailB_iff _ _ _).1 t1
  have i1 : (1 : Int) < (n : Int) := by omega
  have z1 := c1 t1'.1
  have e1 : (128 : Int) ≤ x1 := by omega
  have f1 : (x1 : Int) < 192 := by omega
  have t2' := (tailB_iff _ _ _).1 t2
  have i2 : (2 : Int) < (n : Int) := by omega
  have z2 := c2 t2'.1
  have e2 : (128 : Int) ≤ x2 := by omega
  have f2 : (x2 : Int) < 192 := by omega
  have t3' := (tailB_iff _ _ _).1 t3
  have i3 : (3 : Int) < (n : Int) := by omega
  have z3 := c3 t3'.1
  have e3 : (128 : Int) ≤ x3 := by omega
  have f3 : (x3 : Int) < 192 := by omega
  rw [dec_four_no n x0 x1 x2 x3 h0 h1 l1 l2 l3 (Or.inr (Or.inr (Or.inr (Or.inl (by omega))))), kn_bad]
  rw [t1] at ct1
  rw [t2] at ct2
  rw [t3] at ct3
  go_enter Tryd.func48, Tryd.ntmps48
  go_wp2_with fail
  refine ct1.mono ?_
  rintro e w' ⟨rfl, rfl⟩
  go_wp2_with fail
  refine ct2.mono ?_
  rintro e w' ⟨rfl, rfl⟩
  go_wp2_with fail
  refine ct3.mono ?_
  rintro e w' ⟨rfl, rfl⟩
  go_wp2
  go_quiet (fail)
  go_wp2
  go_ret2
  exact ⟨rfl, Go.below_drewN (Below.refl _ _) _⟩
set_option maxRecDepth 100000 in
set_option maxHeartbeats 1000000 in
theorem rnext_four_f (b off n cap x0 x1 x2 x3 : Nat) (w : World) (hn : (0 : Int) < (n : Int)) (c0 : w.cell? ⟨b, off, none⟩ = some (.int .u8 x0)) (c1 : 1 < n → w.cell? ⟨b, off + 1, none⟩ = some (.int .u8 x1)) (c2 : 2 < n → w.cell? ⟨b, off + 2, none⟩ = some (.int .u8 x2)) (c3 : 3 < n → w.cell? ⟨b, off + 3, none⟩ = some (.int .u8 x3)) (l0 : x0 < 256) (l1 : x1 < 256) (l2 : x2 < 256) (l3 : x3 < 256) (h0 : 240 ≤ x0) (h1 : x0 < 248) (t1 : tailB n 1 x1 = true) (t2 : tailB n 2 x2 = true) (t3 : tailB n 3 x3 = true) (hr : 65536 ≤ ((x0 : Int) - 240) * 262144 + ((x1 : Int) - 128) * 4096 + ((x2 : Int) - 128) * 64 + x3 - 128) (hs : ¬ ((x0 : Int) - 240) * 262144 + ((x1 : Int) - 128) * 4096 + ((x2 : Int) - 128) * 64 + x3 - 128 ≤ 1114111) :
    Calls Tryd.prog 48 #[.slice (some ⟨b, off, none⟩) n cap] w fun e w' => e = .returned (.tuple #[.int .i32 (kn (Go.Lib.decodeN n x0 x1 x2 x3)), .int .i64 (Go.Lib.decodeN n x0 x1 x2 x3).2]) ∧ Below w.heap.size w w' := by
  have b128 : ¬ (x0 : Int) < 128 := by omega
  have g192 : (192 : Int) ≤ x0 := by omega
  have g224 : (224 : Int) ≤ x0 := by omega
  have g240 : (240 : Int) ≤ x0 := by omega
  have s224 : ¬ (x0 : Int) < 224 := by omega
  have s240 : ¬ (x0 : Int) < 240 := by omega
  have s248 : (x0 : Int) < 248 := by omega
  have ct1 : Calls Tryd.prog 62 #[.slice (some ⟨b, off, none⟩) n cap, .int .i64 1] w fun e w' => e = .returned (.bool (tailB n 1 x1)) ∧ w' = w := tail_any b off n cap 1 x1 w c1
  have ct2 : Calls Tryd.prog 62 #[.slice (some ⟨b, off, none⟩) n cap, .int .i64 2] w fun e w' => e = .returned (.bool (tailB n 2 x2)) ∧ w' = w := tail_any b off n cap 2 x2 w c2
  have ct3 : Calls Tryd.prog 62 #[.slice (some ⟨b, off, none⟩) n cap, .int .i64 3] w fun e w' => e = .returned (.bool (tailB n 3 x3)) ∧ w' = w := tail_any b off n cap 3 x3 w c3
  have t1' := (tailB_iff _ _ _).1 t1
  have i1 : (1 : Int) < (n : Int) := by omega
  have z1 := c1 t1'.1
  have e1 : (128 : Int) ≤ x1 := by omega
  have f1 : (x1 : Int) < 192 := by omega
  have t2' := (tailB_iff _ _ _).1 t2
  have i2 : (2 : Int) < (n : Int) := by omega
  have z2 := c2 t2'.1
  have e2 : (128 : Int) ≤ x2 := by omega
  have f2 : (x2 : Int) < 192 := by omega
  have t3' := (tailB_iff _ _ _).1 t3
  have i3 : (3 : Int) < (n : Int) := by omega
  have z3 := c3 t3'.1
  have e3 : (128 : Int) ≤ x3 := by omega
  have f3 : (x3 : Int) < 192 := by omega
  rw [dec_four_no n x0 x1 x2 x3 h0 h1 l1 l2 l3 (Or.inr (Or.inr (Or.inr (Or.inr (by omega))))), kn_bad]
  rw [t1] at ct1
  rw [t2] at ct2
  rw [t3] at ct3
  go_enter Tryd.func48, Tryd.ntmps48
  go_wp2_with fail
  refine ct1.mono ?_
  rintro e w' ⟨rfl, rfl⟩
  go_wp2_with fail
  refine ct2.mono ?_
  rintro e w' ⟨rfl, rfl⟩
  go_wp2_with fail
  refine ct3.mono ?_
  rintro e w' ⟨rfl, rfl⟩
  go_wp2
  go_quiet (fail)
  go_wp2
  go_ret2
  exact ⟨rfl, Go.below_drewN (Below.refl _ _) _⟩

theorem rnext_n (b off n cap x0 x1 x2 x3 : Nat) (w : World) (hn : (0 : Int) < (n : Int)) (c0 : w.cell? ⟨b, off, none⟩ = some (.int .u8 x0)) (c1 : 1 < n → w.cell? ⟨b, off + 1, none⟩ = some (.int .u8 x1)) (c2 : 2 < n → w.cell? ⟨b, off + 2, none⟩ = some (.int .u8 x2)) (c3 : 3 < n → w.cell? ⟨b, off + 3, none⟩ = some (.int .u8 x3)) (l0 : x0 < 256) (l1 : x1 < 256) (l2 : x2 < 256) (l3 : x3 < 256) :
    Calls Tryd.prog 48 #[.slice (some ⟨b, off, none⟩) n cap] w fun e w' => e = .returned (.tuple #[.int .i32 (kn (Go.Lib.decodeN n x0 x1 x2 x3)), .int .i64 (Go.Lib.decodeN n x0 x1 x2 x3).2]) ∧ Below w.heap.size w w' := by
  by_cases h : x0 < 128
  · exact rnext_one b off n cap x0 x1 x2 x3 w hn c0 c1 c2 c3 l0 l1 l2 l3 h
  by_cases h2 : x0 < 192 ∨ 248 ≤ x0
  · exact rnext_bad b off n cap x0 x1 x2 x3 w hn c0 c1 c2 c3 l0 l1 l2 l3 (by omega) h2
  by_cases h3 : x0 < 224
  · exact rnext_two b off n cap x0 x1 x2 x3 w hn c0 c1 c2 c3 l0 l1 l2 l3 (by omega) h3
  by_cases h4 : x0 < 240
  · cases t1 : tailB n 1 x1
    · exact rnext_three_a b off n cap x0 x1 x2 x3 w hn c0 c1 c2 c3 l0 l1 l2 l3 (by omega) h4 t1
    cases t2 : tailB n 2 x2
    · exact rnext_three_b b off n cap x0 x1 x2 x3 w hn c0 c1 c2 c3 l0 l1 l2 l3 (by omega) h4 t1 t2
    by_cases hr : 2048 ≤ ((x0 : Int) - 224) * 4096 + ((x1 : Int) - 128) * 64 + x2 - 128
    · by_cases hs : ((x0 : Int) - 224) * 4096 + ((x1 : Int) - 128) * 64 + x2 - 128 < 55296
      · exact rnext_three_c b off n cap x0 x1 x2 x3 w hn c0 c1 c2 c3 l0 l1 l2 l3 (by omega) h4 t1 t2 hr hs
      · by_cases hs2 : 57343 < ((x0 : Int) - 224) * 4096 + ((x1 : Int) - 128) * 64 + x2 - 128
        · exact rnext_three_d b off n cap x0 x1 x2 x3 w hn c0 c1 c2 c3 l0 l1 l2 l3 (by omega) h4 t1 t2 hr hs2
        · exact rnext_three_f b off n cap x0 x1 x2 x3 w hn c0 c1 c2 c3 l0 l1 l2 l3 (by omega) h4 t1 t2 hr hs hs2
    · exact rnext_three_e b off n cap x0 x1 x2 x3 w hn c0 c1 c2 c3 l0 l1 l2 l3 (by omega) h4 t1 t2 hr
  · cases t1 : tailB n 1 x1
    · exact rnext_four_a b off n cap x0 x1 x2 x3 w hn c0 c1 c2 c3 l0 l1 l2 l3 (by omega) (by omega) t1
    cases t2 : tailB n 2 x2
    · exact rnext_four_b b off n cap x0 x1 x2 x3 w hn c0 c1 c2 c3 l0 l1 l2 l3 (by omega) (by omega) t1 t2
    cases t3 : tailB n 3 x3
    · exact rnext_four_c b off n cap x0 x1 x2 x3 w hn c0 c1 c2 c3 l0 l1 l2 l3 (by omega) (by omega) t1 t2 t3
    by_cases hr : 65536 ≤ ((x0 : Int) - 240) * 262144 + ((x1 : Int) - 128) * 4096 + ((x2 : Int) - 128) * 64 + x3 - 128
    · by_cases hs : ((x0 : Int) - 240) * 262144 + ((x1 : Int) - 128) * 4096 + ((x2 : Int) - 128) * 64 + x3 - 128 ≤ 1114111
      · exact rnext_four_d b off n cap x0 x1 x2 x3 w hn c0 c1 c2 c3 l0 l1 l2 l3 (by omega) (by omega) t1 t2 t3 hr hs
      · exact rnext_four_f b off n cap x0 x1 x2 x3 w hn c0 c1 c2 c3 l0 l1 l2 l3 (by omega) (by omega) t1 t2 t3 hr hs
    · exact rnext_four_e b off n cap x0 x1 x2 x3 w hn c0 c1 c2 c3 l0 l1 l2 l3 (by omega) (by omega) t1 t2 t3 hr

end Go.Proofs.YtfikkkodepfdkaaDoor.Lns
namespace Go.Proofs.YtfikkkodepfdkaaDoor.Lns
set_option linter.unusedVariables false
open Go.RowKit Go.ChangeShapes
def By (w : World) (b off : Nat) (s : ByteArray) : Prop := ∀ j, j < s.size → w.cell? ⟨b, off + j, none⟩ = some (.int .u8 (s.get! j).toNat)
theorem By.stay {w w' : World} {b off : Nat} {s : ByteArray} (h : By w b off s) (hb : Below w.heap.size w w') : By w' b off s :=
  fun j hj => (hb.cell (World.block_lt_of_cell? w _ (h j hj))).trans (h j hj)
abbrev Tabs (w : World) : Prop := Lib.Utf8Tabs 0 1 w
def ucells (s : ByteArray) (k : Nat) : List Value := (List.range k).flatMap fun j => [.int .i32 (rn s (pos s j)), .int .i64 (pos s j), .int .i64 (wd s (pos s j))]
theorem ucells_succ (s : ByteArray) (k : Nat) : ucells s (k + 1) = ucells s k ++ [.int .i32 (rn s (pos s k)), .int .i64 (pos s k), .int .i64 (wd s (pos s k))] := by
  simp [ucells, List.range_succ]
theorem info58 : (Tryd.prog.info? 65).map (fun i => (i.zero, i.size, i.bytes)) = some (some (.agg #[.int .i32 0, .int .i64 0, .int .i64 0]), 3, 24) := by kernel_rfl
theorem rnext_at (s : ByteArray) (p b off cap : Nat) (w : World) (hp : p < s.size) (hb : By w b off s) :
    Calls Tryd.prog 48 #[.slice (some ⟨b, off + p, none⟩) (s.size - p) cap] w fun e w' => e = .returned (.tuple #[.int .i32 (rn s p), .int .i64 (wd s p)]) ∧ Below w.heap.size w w' := by
  unfold rn wd
  rw [Go.Lib.decode_at]
  exact rnext_n b (off + p) (s.size - p) cap _ _ _ _ w (by omega) (hb p hp) (fun h => by rw [Nat.add_assoc]; exact hb (p + 1) (by omega)) (fun h => by rw [Nat.add_assoc]; exact hb (p + 2) (by omega)) (fun h => by rw [Nat.add_assoc]; exact hb (p + 3) (by omega)) (bt_lt s p) (bt_lt s (p + 1)) (bt_lt s (p + 2)) (bt_lt s (p + 3))
set_option maxRecDepth 100000 in
theorem rnext_zero (ad : Option Addr) (cap : Nat) (w : World) :
    Calls Tryd.prog 48 #[.slice ad 0 cap] w fun e w' => e = .returned (.tuple #[.int .i32 (-1), .int .i64 0]) ∧ w' = w := by
  go_enter Tryd.func48, Tryd.ntmps48
  go_wp2
  go_ret2
  exact ⟨rfl, rfl⟩
set_option maxHeartbeats 1000000 in
theorem runits_any (s : ByteArray) (b off cap : Nat) (w : World) (hn : s.size ≤ 40000) (hcap : s.size ≤ cap) (hb : By w b off s) :
    Calls Tryd.prog 28 #[.slice (some ⟨b, off, none⟩) s.size cap] w fun e w' => ∃ k v, e = .returned v ∧ Ends s k ∧ w'.ownsRow w.heap.size 65 3 v k (ucells s k) ∧ Below w.heap.size w w' := by
  have HB : Hid (By w b off s) := hb
  clear hb
  obtain ⟨i0, hi, hz0, hz1, hz2⟩ := info_parts info58
  go_enter Tryd.func28, Tryd.ntmps28
  go_wp2
  go_loopg [3, 4] (s.size) (fun g l i wr => ∃ k, g = s.size - pos s k ∧ i = .int .i64 (pos s k) ∧ Hid (∀ j, j < k → pos s j < s.size) ∧ Hid (wr.ownsRow w.heap.size 65 3 l k (ucells s k)) ∧ Hid (Up w.heap.size w wr))
  case atStart => exact ⟨0, rfl, rfl, fun j hj => absurd hj (Nat.not_lt_zero j), ⟨rfl, Or.inl ⟨rfl, rfl⟩⟩, Up.refl w⟩
  case round =>
    obtain ⟨k, hg, rfl, HP, HO, HU⟩ := hrel
    have hle := pos_le s k HP.out
    by_cases hlt : pos s k < s.size
    · have z0 : (0 : Int) ≤ (pos s k : Int) := by omega
      have z1 : ((pos s k : Nat) : Int) < (s.size : Int) := by omega
      have z2 : ((pos s k : Nat) : Int) ≤ (s.size : Int) := by omega
      have z3 : ((s.size : Nat) : Int) ≤ (cap : Int) := by omega
      obtain ⟨y1, y2, y3⟩ := wd_pos s (pos s k) hlt
      have hk := pos_ge s k HP.out
      have c9 := rnext_at s (pos s k) b off (cap - pos s k) wr hlt (HB.out.stay HU.out.1)
      go_wp2_with fail
      refine c9.mono ?_
      rintro e w1 ⟨rfl, hb1⟩
      have HO1 : Hid (w1.ownsRow w.heap.size 65 3 u3 k (ucells s k)) := own_stay HO.out hb1
      have HU1 : Hid (Up w.heap.size w w1) := HU.out.stay hb1
      clear hb1 c9 HO HU
      go_wp2_with (at_builtin; refine wpList_append_own _ rfl _ _ 60 rfl w.heap.size 65 i0 _ 3 24 Tryd.underlying60 hi hz0 hz1 hz2 rfl (by decide) _ _ _ rfl (HO1.out.alloc _) ⟨w1.heap.size, 0, none⟩ 1 1 [.int .i32 (rn s (pos s k)), .int .i64 (pos s k), .int .i64 (wd s (pos s k))] rfl rfl ?c1 ?c2 ?c3 ?c4 ?c5 ?_)
      case c1 =>
        intro j u hj
        match j, hj with
        | 0, hj => simp at hj; subst hj; simp [Addr.add]
        | 1, hj => simp at hj; subst hj; simp [Addr.add]
        | 2, hj => simp at hj; subst hj; simp [Addr.add]
        | (j + 3), hj => simp at hj
      case c2 => intro u hu; simp at hu; rcases hu with rfl | rfl | rfl <;> rfl
      case c3 => unfold maxLen; omega
      case c4 => omega
      case c5 => have := HU1.out.2; simp only [World.size_alloc]; omega
      intro v' w2 hown2 hgr hnil
      have HO2 : Hid (w2.ownsRow w.heap.size 65 3 v' (k + 1) (ucells s (k + 1))) := by
        show w2.ownsRow _ _ _ _ _ _
        rw [ucells_succ]; exact hown2
      have HU2 : Hid (Up w.heap.size w w2) := (HU1.out.alloc _).grown hgr (own_base HO1.out)
      clear hown2 hgr hnil HO1 HU1
      go_wp2
      go_roundg (s.size - pos s (k + 1))
      case measure => simp only [pos]; omega
      case rel => exact ⟨k + 1, rfl, by simp [pos], fun j hj => by
        rcases Nat.lt_succ_iff_lt_or_eq.1 hj with h | h
        · exact HP.out j h
        · rw [h]; exact hlt, HO2, HU2⟩
    · have z1 : ¬ ((pos s k : Nat) : Int) < (s.size : Int) := by omega
      go_wp2_with fail
      go_ret
      exact ⟨k, _, rfl, ⟨by omega, HP.out⟩, HO.out, HU.out.1⟩
theorem runits_zero (ad : Option Addr) (cap : Nat) (w : World) :
    Calls Tryd.prog 28 #[.slice ad 0 cap] w fun e w' => e = .returned (.slice none 0 0) ∧ w' = w := by
  go_enter Tryd.func28, Tryd.ntmps28
  go_wp2
  go_loopg [3, 4] (0) (fun g l i wr => l = .slice none 0 0 ∧ i = .int .i64 0 ∧ wr = w)
  case atStart => exact ⟨rfl, rfl, rfl⟩
  case round =>
    obtain ⟨rfl, rfl, rfl⟩ := hrel
    go_wp2_with fail
    go_ret
    exact ⟨rfl, rfl⟩

end Go.Proofs.YtfikkkodepfdkaaDoor.Lns
namespace Go.Proofs.YtfikkkodepfdkaaDoor
set_option linter.unusedVariables false
open Go.RowKit Go.ChangeShapes
theorem ucell0 (s : ByteArray) (k j : Nat) (hj : j < k) : (Lns.ucells s k)[j * 3]? = some (.int .i32 (rn s (pos s j))) := by
  induction k with
  | zero => omega
  | succ k ih =>
    rw [Lns.ucells_succ]
    have hl : ∀ k, (Lns.ucells s k).length = k * 3 := fun k => by
      induction k with
      | zero => rfl
      | succ k ih => rw [Lns.ucells_succ, List.length_append, ih]; simp; omega
    rcases Nat.lt_or_ge j k with h | h
    · rw [List.getElem?_append_left (by rw [hl]; omega)]
      exact ih h
    · obtain rfl : j = k := by omega
      rw [List.getElem?_append_right (by rw [hl]; omega), hl]
      simp
theorem bw_below (w : World) (e : TypeId) (s : ByteArray) : Below w.heap.size w (Lib.bytesWorld w e s) :=
  ⟨rfl, rfl, rfl, by rw [Lib.bytesWorld_size]; omega, fun k hk => Lib.bytesWorld_at_old w e s k hk⟩
theorem get_toList (s : ByteArray) (j : Nat) (h : j < s.size) : s.data.toList.getD j 0 = s.get! j := by
  have h' : j < s.data.size := h
  show s.data.toList.getD j 0 = s.data[j]!
  rw [getElem!_pos s.data j h', List.getD, Array.getElem?_toList, Array.getElem?_eq_getElem h', Option.getD_some]
theorem by_conv (w : World) (s : ByteArray) : Lns.By (Lib.bytesWorld w 5 s) w.heap.size 0 s := by
  intro j hj
  rw [Nat.zero_add, Lib.bytesWorld_cell w 5 s j hj, get_toList s j hj]
set_option maxHeartbeats 2000000 in
set_option maxRecDepth 100000 in
theorem right_any (w : World) (v : Value) (L : List ByteArray) (hv : TL w v L) (hL : L.length ≤ 200) :
    Calls Tryd.prog 11 #[v] w fun e w' => e = .returned (.int .i64 (makeP L).1) ∧ Below w.heap.size w w' := by
  obtain ⟨ad, c, rfl, hc⟩ := hv
  have HC : Hid (∀ (j : Nat) (s : ByteArray), L[j]? = some s → ∃ b off, ad = some ⟨b, off, none⟩ ∧ w.cell? ⟨b, off + j, none⟩ = some (.string s)) := hc
  clear hc
  obtain ⟨z, ez⟩ : ∃ z, (makeP L).1 = z := ⟨_, rfl⟩
  rw [ez]
  have HZ : Hid ((makeP L).1 = z) := ez
  generalize en : L.length = n at *
  have EN : Hid (L.length = n) := en
  clear en ez
  go_enter Tryd.func11, Tryd.ntmps11
  go_wp2
  go_loopg [3] n (fun g iv wr => ∃ (i : Nat) (a : ByteArray) (P : List PN), i ≤ n ∧ g = n - i ∧ iv = .int .i64 i ∧ Hid ((makeG i a P (L.drop i)).1 = z) ∧ Hid ((i = 0 ∧ a = ⟨#[]⟩) ∨ ∃ i', i = i' + 1 ∧ L[i']? = some a) ∧ Hid (Up w.heap.size w wr))
  case atStart => exact ⟨0, ⟨#[]⟩, [pn0], Nat.zero_le _, rfl, rfl, HZ, Or.inl ⟨rfl, rfl⟩, Up.refl w⟩
  case round =>
    obtain ⟨i, a, P, hin, hg, rfl, HM, HA, HU⟩ := hrel
    have z0 : (0 : Int) ≤ (i : Int) := by omega
    by_cases hlt : i < n
    · have z1 : (i : Int) < (n : Int) := by omega
      obtain ⟨s, hs⟩ : ∃ s, L[i]? = some s := ⟨_, List.getElem?_eq_getElem (by rw [EN.out]; exact hlt)⟩
      have hmd := makeG_drop hs i a P
      rw [hmd] at HM
      obtain ⟨b, off, rfl, hcs⟩ := HC.out i s hs
      have HS : Hid (L[i]? = some s) := hs
      have hc1 := cell_stay hcs HU.out.1
      clear hmd hs hcs
      by_cases h1 : s.size = 0
      · have he : s.toList.isEmpty = true := by rw [empty_size]; simpa using h1
        have hz5 : z = 5 := by
          have := HM.out
          have hk : chkP i s a (rs s) = 5 := by unfold chkP; rw [if_pos h1]
          rw [hk, if_neg (by decide)] at this
          exact this.symm
        subst hz5
        go_wp2
        go_ret
        exact ⟨rfl, HU.out.1⟩
      have he : s.toList.isEmpty = false := by rw [empty_size]; simpa using h1
      go_upto_region 6 with fail
      go_cut [30] (fun tv wx => tv = .bool (!lw a s) ∧ Hid (Up w.heap.size w wx))
      case first =>
        rcases HA.out with ⟨h0, ha⟩ | ⟨i', h0, ha⟩
        · subst h0 ha
          have hl : lw ⟨#[]⟩ s = true := lw_empty s (by omega)
          have hl' : (!lw ⟨#[]⟩ s) = false := by rw [hl]; rfl
          have g0 : decide ((0 : Int) < ((0 : Nat) : Int)) = false := rfl
          have HL' : Hid ((!lw ⟨#[]⟩ s) = false) := hl'
          clear hl hl'
          go_quiet (fail)
          go_wp2
          go_meet
          case rel => exact ⟨by rw [HL'.out], HU.out.drewN _⟩
        · subst h0
          obtain ⟨b', off', e', hca⟩ := HC.out i' a ha
          cases e'
          have hca1 := cell_stay hca HU.out.1
          have hle := le_lw s a
          have g0 : (0 : Int) < (i' : Int) + 1 := by omega
          have g1 : (i' : Int) + 1 - 1 = (i' : Int) := by omega
          have g2 : (i' : Int) < (n : Int) := by omega
          have g3 : (0 : Int) ≤ (i' : Int) := by omega
          have HLE : Hid ((Op.bytesLess s.toList a.toList || s.toList == a.toList) = !lw a s) := hle
          clear hca ha
          go_quiet (fail)
          go_wp2
          go_meet
          case rel => exact ⟨by first | rfl | rw [← HLE.out], HU.out.drewN _⟩
      case rest =>
        obtain ⟨rfl, HU2⟩ := hcut
        have hc2 : wc.cell? ⟨b, off + i, none⟩ = some (.string s) := by
          obtain ⟨b', off', e', hcs⟩ := HC.out i s HS.out
          cases e'
          exact cell_stay hcs HU2.out.1
        clear hc1 HU
        cases hl : lw a s with
        | false =>
          have hz8 : z = 8 := by
            have := HM.out
            have hk : chkP i s a (rs s) = 8 := by unfold chkP; rw [if_neg h1, if_pos hl]
            rw [hk, if_neg (by decide)] at this
            exact this.symm
          subst hz8
          clear hl
          go_wp2
          go_ret
          exact ⟨rfl, HU2.out.1⟩
        | true =>
          by_cases h64 : 64 < s.size
          · have y1 : (64 : Int) < (s.size : Int) := by omega
            have hz3 : z = 3 := by
              have := HM.out
              have hk : chkP i s a (rs s) = 3 := by unfold chkP; rw [if_neg h1, if_neg (by rw [hl]; decide), if_pos h64]
              rw [hk, if_neg (by decide)] at this
              exact this.symm
            subst hz3
            clear hl
            go_wp2
            go_ret
            exact ⟨rfl, HU2.out.1⟩
          have y1 : ¬ (64 : Int) < (s.size : Int) := by omega
          have y2 : ¬ (4095 : Int) < (i : Int) := by omega
          have hcv := Lib.run_convert_string_bytes (P := Tryd.prog) wc 9 43 5 s (u := .string) Tryd.underlying9 Tryd.underlying43 Tryd.underlying5
          have cu := Lns.runits_any s wc.heap.size 0 (grownCap wc s.size 0 5) (Lib.bytesWorld wc 5 s) (by omega) (grownCap_ge wc s.size 0 5) (by_conv wc s)
          have HU3 : Hid (Up w.heap.size w (Lib.bytesWorld wc 5 s)) := HU2.out.stay (bw_below wc 5 s)
          have HCK : Hid (chkP i s a (rs s) = if (-1 : Int) ∈ rs s then 5 else 0) := by
            show _ = _
            unfold chkP
            rw [if_neg h1, if_neg (by rw [hl]; decide), if_neg h64, if_neg (by omega)]
          have HLT : Hid (lw a s = true) := hl
          clear hl
          go_wp2_with fail
          refine cu.mono ?_
          rintro e wd' ⟨k, v4, rfl, hE, hO4, hb4⟩
          obtain rfl : k = kS s := (kS_is hE).symm
          have HO4 : Hid (wd'.ownsRow (Lib.bytesWorld wc 5 s).heap.size 65 3 v4 (kS s) (Lns.ucells s (kS s))) := hO4
          have HU4 : Hid (Up w.heap.size w wd') := HU3.out.stay hb4
          obtain ⟨a4, c4, rfl⟩ := own_slice hO4
          have hkl := kS_le s
          obtain ⟨kk, ekk⟩ : ∃ q, kS s = q := ⟨_, rfl⟩
          have HKK : Hid (kS s = kk) := ekk
          rw [ekk] at hkl HO4 ⊢
          clear hE hO4 hb4 cu hcv HU3 ekk
          go_wp2
          go_loopg [5] kk (fun g jv wx => ∃ j : Nat, j ≤ kk ∧ g = kk - j ∧ jv = .int .i64 j ∧ wx = wd' ∧ Hid (∀ j', j' < j → rn s (pos s j') ≠ -1))
          case atStart => exact ⟨0, Nat.zero_le _, rfl, rfl, rfl, fun j' h => absurd h (Nat.not_lt_zero j')⟩
          case round =>
            obtain ⟨j, hjn, hg2, rfl, hwx, HJ⟩ := hrel
            subst wr
            have x0 : (0 : Int) ≤ (j : Int) := by omega
            by_cases hjk : j < kk
            · have x1 : (j : Int) < (kk : Int) := by omega
              obtain ⟨g4, rfl⟩ : ∃ g4, a4 = some ⟨g4, 0, none⟩ := by
                obtain ⟨_, ⟨e1, e2⟩ | ⟨g', cap, _, e1, _⟩⟩ := HO4.out
                · omega
                · injection e1 with e1 _ _; exact ⟨g', e1⟩
              have hcj : wd'.cell? ⟨g4, j * 3, none⟩ = some (.int .i32 (rn s (pos s j))) := by
                rw [HO4.out.cellAt (j * 3) (by omega)]
                have := ucell0 s kk j hjk
                simpa using this
              have hrr := rn_range s (pos s j) ((kS_ends s).2 j (by rw [HKK.out]; exact hjk))
              obtain ⟨x, ex⟩ : ∃ x, rn s (pos s j) = x := ⟨_, rfl⟩
              rw [ex] at hcj hrr
              have HX : Hid (rn s (pos s j) = x) := ex
              have hx0 : x = -1 ∨ 0 ≤ x := by
                rcases hrr with h | h
                · exact Or.inl h
                · rw [okR_iff] at h; exact Or.inr h.1
              clear hrr ex
              rcases hx0 with hx1 | hx1
              · subst hx1
                have hz5 : z = 5 := by
                  have := HM.out
                  have hm : (-1 : Int) ∈ rs s := by
                    unfold rs rl
                    rw [List.mem_map]
                    exact ⟨j, by simp; rw [HKK.out]; exact hjk, HX.out⟩
                  rw [HCK.out, if_pos hm, if_neg (by decide)] at this
                  exact this.symm
                subst hz5
                go_wp2
                go_ret
                exact ⟨rfl, HU4.out.1⟩
              · have hx2 : ¬ x < 0 := by omega
                have HJ2 : Hid (∀ j', j' < j + 1 → rn s (pos s j') ≠ -1) := fun j' h => by
                  rcases Nat.lt_or_ge j' j with q | q
                  · exact HJ.out j' q
                  · obtain rfl : j' = j := by omega
                    rw [HX.out]; omega
                go_wp2
                go_roundg (kk - (j + 1))
                case measure => omega
                case rel => exact ⟨j + 1, by omega, rfl, by go_num, rfl, HJ2⟩
            · obtain rfl : j = kk := by omega
              have x1 : ¬ (j : Int) < (j : Int) := by omega
              have HNX : Hid ((makeG (i + 1) s (addP P (rs s)) (L.drop (i + 1))).1 = z) := by
                have := HM.out
                have hm : (-1 : Int) ∉ rs s := by
                  unfold rs rl
                  rw [List.mem_map]
                  rintro ⟨j', h1, h2⟩
                  exact HJ.out j' (by rw [← HKK.out]; simpa using h1) h2
                rw [HCK.out, if_neg hm, if_pos rfl] at this
                exact this
              go_wp2
              go_roundg (n - (i + 1))
              case measure => omega
              case rel => exact ⟨i + 1, s, addP P (rs s), by omega, rfl, by go_num, HNX, Or.inr ⟨i, rfl, HS.out⟩, HU4⟩
    · obtain rfl : i = n := by omega
      have z1 : ¬ (i : Int) < (i : Int) := by omega
      have hz0 : z = 0 := by
        have := HM.out
        rw [List.drop_of_length_le (by rw [EN.out]; exact Nat.le_refl _)] at this
        exact this.symm
      subst hz0
      go_wp2
      go_ret
      exact ⟨rfl, HU.out.1⟩
end Go.Proofs.YtfikkkodepfdkaaDoor
namespace Go.Proofs.YtfikkkodepfdkaaDoor
set_option linter.unusedVariables false
open Go.RowKit Go.ChangeShapes
set_option maxHeartbeats 1000000 in
theorem rrunes_any (s : ByteArray) (w : World) (hn : s.size ≤ 40000) :
    Calls Tryd.prog 39 #[.string s] w fun e w' => ∃ k v, e = .returned v ∧ Ends s k ∧ w'.ownsRow w.heap.size 21 1 v k (rcells s k) ∧ Below w.heap.size w w' := by
  have hcv := Lib.run_convert_string_bytes (P := Tryd.prog) w 9 43 5 s (u := .string) Tryd.underlying9 Tryd.underlying43 Tryd.underlying5
  have cu := Lns.runits_any s w.heap.size 0 (grownCap w s.size 0 5) (Lib.bytesWorld w 5 s) hn (grownCap_ge w s.size 0 5) (by_conv w s)
  have HU0 : Hid (Up w.heap.size w (Lib.bytesWorld w 5 s)) := ⟨bw_below w 5 s, (bw_below w 5 s).size⟩
  generalize Lib.bytesWorld w 5 s = W1 at hcv cu HU0
  generalize grownCap w s.size 0 5 = cap at hcv cu
  obtain ⟨i0, hi, hz0, hz1, hz2⟩ := info_parts info21
  go_enter Tryd.func39, Tryd.ntmps39
  go_wp2_with fail
  refine cu.mono ?_
  rintro e w1 ⟨n, v, rfl, he, hown, hb1⟩
  have HU1 : Hid (Up w.heap.size w w1) := HU0.out.stay hb1
  have HE : Hid (Ends s n) := he
  have hnk := he.le
  clear cu hcv HU0 hb1 he
  have hown0 := hown
  obtain ⟨hl, ⟨rfl, rfl⟩ | ⟨g, c, cur, rfl, _⟩⟩ := hown
  · go_wp2
    go_loopg [3, 5] (0) (fun g l i wr => l = .slice none 0 0 ∧ i = .int .i64 0 ∧ wr = w1)
    case atStart => exact ⟨rfl, rfl, rfl⟩
    case round =>
      obtain ⟨rfl, rfl, rfl⟩ := hrel
      go_wp2_with fail
      go_ret
      exact ⟨0, _, rfl, HE.out, World.ownsRow_nil _ _ _ _, HU1.out.1⟩
  · have HS : Hid (∀ i, i < n → w1.cell? ⟨g, i * 3, none⟩ = some (.int .i32 (rn s (pos s i)))) := fun i hi => by
      rw [hown0.cellAt _ (by omega)]
      exact ucell0 s n i hi
    clear hown0 hl
    go_wp2
    go_loopg [3, 5] n (fun m l i wr => ∃ k : Nat, k ≤ n ∧ m = n - k ∧ i = .int .i64 k ∧ Hid (wr.ownsRow w1.heap.size 21 1 l k (rcells s k)) ∧ Hid (Up w1.heap.size w1 wr))
    case atStart => exact ⟨0, Nat.zero_le _, rfl, rfl, ⟨rfl, Or.inl ⟨rfl, rfl⟩⟩, Up.refl w1⟩
    case round =>
      obtain ⟨k, hk, hm, rfl, HO, HU⟩ := hrel
      by_cases hlt : k < n
      · have z0 : (0 : Int) ≤ (k : Int) := by omega
        have z1 : (k : Int) < (n : Int) := by omega
        have a1 := cell_stay (HS.out k hlt) HU.out.1
        go_wp2_with (at_builtin; refine wpList_append_own _ rfl _ _ 37 rfl w1.heap.size 21 i0 _ 1 4 Tryd.underlying37 hi hz0 hz1 hz2 rfl (by decide) _ _ _ rfl (HO.out.alloc _) ⟨wr.heap.size, 0, none⟩ 1 1 [.int .i32 (rn s (pos s k))] rfl rfl ?c1 ?c2 ?c3 ?c4 ?c5 ?_)
        case c1 =>
          intro j u hj
          match j, hj with
          | 0, hj => simp at hj; subst hj; simp [Addr.add]
          | (j + 1), hj => simp at hj
        case c2 => intro u hu; simp at hu; rcases hu with rfl; rfl
        case c3 => unfold maxLen; omega
        case c4 => omega
        case c5 => have := HU.out.2; simp only [World.size_alloc]; omega
        intro v' w3 hown2 hgr hnil
        have HO2 : Hid (w3.ownsRow w1.heap.size 21 1 v' (k + 1) (rcells s (k + 1))) := by
          show w3.ownsRow _ _ _ _ _ _
          rw [rcells_succ]; exact hown2
        have HU2 : Hid (Up w1.heap.size w1 w3) := (HU.out.alloc _).grown hgr (own_base HO.out)
        clear hown2 hgr hnil HO HU a1
        go_wp2
        go_roundg (n - (k + 1))
        case measure => omega
        case rel => exact ⟨k + 1, by omega, rfl, by go_num, HO2, HU2⟩
      · obtain rfl : k = n := by omega
        go_wp2_with fail
        go_ret
        exact ⟨k, _, rfl, HE.out, own_mono HO.out HU1.out.2, HU1.out.1.trans (HU.out.1.mono HU1.out.2)⟩
theorem rrunes_rs (s : ByteArray) (w : World) (hn : s.size ≤ 40000) :
    Calls Tryd.prog 39 #[.string s] w fun e w' => ∃ v, e = .returned v ∧ w'.ownsRow w.heap.size 21 1 v (rs s).length ((rs s).map i32c) ∧ Below w.heap.size w w' := by
  refine (rrunes_any s w hn).mono ?_
  rintro e w' ⟨k, v, rfl, he, ho, hb⟩
  obtain rfl : k = kS s := (kS_is he).symm
  rw [rcells_rs, ← rs_len] at ho
  exact ⟨v, rfl, ho, hb⟩
end Go.Proofs.YtfikkkodepfdkaaDoor
namespace Go.Proofs.YtfikkkodepfdkaaDoor.Qns
set_option linter.unusedVariables false
open Go.RowKit Go.ChangeShapes
theorem info26 : (Tryd.prog.info? 50).map (fun i => (i.zero, i.size, i.bytes)) = some (some (.slice none 0 0), 1, 24) := by kernel_rfl
/-- The table's rows, the first i made. -/
def rows (g n i : Nat) : Nat → Value := fun j => if j < i then .slice (some ⟨g + 1 + j, 0, none⟩) (n + 1) (n + 1) else .slice none 0 0
/-- The table in memory: the first i rows are done. -/
structure Tb (A B : Nat → Int) (g k n i r : Nat) (w wr : World) : Prop where
  up : Up g w wr
  size : wr.heap.size = g + 1 + r
  d : wr.rowIs g 50 (k + 1) (rows g n r)
  row : ∀ j, j < i → IR wr (g + 1 + j) (n + 1) (fun c => (dd A B j c : Int))
theorem dd_no {A B : Nat → Int} {i k : Nat} (h : ¬ (1 ≤ i ∧ 1 ≤ k ∧ A i = B (k - 1) ∧ A (i - 1) = B k)) : dd A B (i + 1) (k + 1) = min (min (dd A B i (k + 1) + 1) (dd A B (i + 1) k + 1)) (dd A B i k + if A i = B k then 0 else 1) := by
  rw [dd_s, if_neg h]
theorem dd_yes {A B : Nat → Int} {i k : Nat} (h1 : A (i + 1) = B k) (h2 : A i = B (k + 1)) : dd A B (i + 1 + 1) (k + 1 + 1) = min (min (min (dd A B (i + 1) (k + 1 + 1) + 1) (dd A B (i + 1 + 1) (k + 1) + 1)) (dd A B (i + 1) (k + 1) + if A (i + 1) = B (k + 1) then 0 else 1)) (dd A B i k + 1) := by
  rw [dd_s, if_pos ⟨by omega, by omega, h1, h2⟩]
  rfl
set_option maxRecDepth 100000 in
theorem rdist_long {w : World} {aa ab : Option Addr} {ca cb k n : Nat} (h : 64 < k ∨ 64 < n) (hk : k ≤ 1000) (hn : n ≤ 1000) :
    Calls Tryd.prog 38 #[.slice aa k ca, .slice ab n cb] w fun e w' => e = .returned (.int .i64 ((max k n : Nat) : Int)) ∧ w' = w := by
  by_cases h1 : n < k
  · have e : max k n = k := by omega
    rw [e]
    have z1 : (n : Int) < (k : Int) := by omega
    have z2 : (64 : Int) < (k : Int) := by omega
    clear h h1 e
    go_enter Tryd.func38, Tryd.ntmps38
    go_wp2
    go_ret
    exact ⟨rfl, rfl⟩
  · have e : max k n = n := by omega
    rw [e]
    have z1 : ¬ (n : Int) < (k : Int) := by omega
    have z2 : (64 : Int) < (n : Int) := by omega
    clear h h1 e
    by_cases h3 : 64 < k
    · have z3 : (64 : Int) < (k : Int) := by omega
      go_enter Tryd.func38, Tryd.ntmps38
      go_wp2
      go_ret
      exact ⟨rfl, rfl⟩
    · have z3 : ¬ (64 : Int) < (k : Int) := by omega
      go_enter Tryd.func38, Tryd.ntmps38
      go_wp2
      go_ret
      exact ⟨rfl, rfl⟩
theorem Tb.drew {A B : Nat → Int} {g k n i r : Nat} {w wr : World} (h : Tb A B g k n i r w wr) : Tb A B g k n i r w wr.drew := ⟨h.up.drew, h.size, h.d.drew, fun j hj => (h.row j hj).drew⟩
theorem Up.drewN {B : Nat} {a w : World} (h : Up B a w) : ∀ n, Up B a (w.drewN n)
  | 0 => h
  | n + 1 => by
    have := (Up.drewN h n).drew
    exact this
theorem IR.drewN {w : World} {b n : Nat} {N : Nat → Int} (h : IR w b n N) (m : Nat) : IR (w.drewN m) b n N := h
theorem Tb.drewN {A B : Nat → Int} {g k n i r : Nat} {w wr : World} (h : Tb A B g k n i r w wr) (m : Nat) : Tb A B g k n i r w (wr.drewN m) := ⟨h.up.drewN m, h.size, h.d, fun j hj => (h.row j hj).drewN m⟩
/-- A row more is made. -/
theorem Tb.make {A B : Nat → Int} {g k n i : Nat} {w wr : World} (h : Tb A B g k n i i w wr) (hg : g < g + 1 + i) : Tb A B g k n i (i + 1) w ((wr.alloc (.cells (madeCells #[Value.int .i64 0] (n + 1)) 3)).setCell ⟨g, i, none⟩ (.slice (some ⟨g + 1 + i, 0, none⟩) (n + 1) (n + 1))) := by
  refine ⟨(h.up.alloc _).setCell (Nat.le_refl _) _, ?_, ?_, fun j hj => ?_⟩
  · show ((wr.heap.push _).modify _ _).size = _
    rw [Array.size_modify, Array.size_push, h.size]
    omega
  · refine ((h.d.alloc _).set i _).congr fun j _ => ?_
    unfold rows
    by_cases e : j = i
    · rw [if_pos e, if_pos (by omega), e]
    · rw [if_neg e]
      by_cases e2 : j < i
      · rw [if_pos e2, if_pos (by omega)]
      · rw [if_neg e2, if_neg (by omega)]
  · exact World.rowIs.setOther (World.rowIs.alloc (h.row j hj) _) (by show g + 1 + j ≠ g; omega) _
theorem Tb.fresh {A B : Nat → Int} {g k n i : Nat} {w wr : World} (h : Tb A B g k n i i w wr) (hg : g < g + 1 + i) : IR ((wr.alloc (.cells (madeCells #[Value.int .i64 0] (n + 1)) 3)).setCell ⟨g, i, none⟩ (.slice (some ⟨g + 1 + i, 0, none⟩) (n + 1) (n + 1))) (g + 1 + i) (n + 1) (fun _ => 0) := by
  have := made_ir wr (n + 1)
  rw [h.size] at this
  exact World.rowIs.setOther this (by show g + 1 + i ≠ g; omega) _
/-- A number is laid into the row that is being made. -/
theorem Tb.set {A B : Nat → Int} {g k n i : Nat} {w wr : World} (h : Tb A B g k n i (i + 1) w wr) (c : Nat) (v : Value) : Tb A B g k n i (i + 1) w (wr.setCell ⟨g + 1 + i, c, none⟩ v) :=
  ⟨h.up.setCell (by show g ≤ g + 1 + i; omega) _, by simpa [World.setCell] using h.size, h.d.setOther (by show g ≠ g + 1 + i; omega) _, fun j hj => World.rowIs.setOther (h.row j hj) (by show g + 1 + j ≠ g + 1 + i; omega) _⟩
theorem Tb.done {A B : Nat → Int} {g k n i : Nat} {w wr : World} (h : Tb A B g k n i (i + 1) w wr) {N : Nat → Int} (hN : IR wr (g + 1 + i) (n + 1) N) (he : ∀ c, c < n + 1 → N c = (dd A B i c : Int)) : Tb A B g k n (i + 1) (i + 1) w wr := by
  refine ⟨h.up, h.size, h.d, fun j hj => ?_⟩
  rcases Nat.lt_or_ge j i with e | e
  · exact h.row j e
  · obtain rfl : j = i := by omega
    exact World.rowIs.congr hN fun c hc => by rw [he c hc]
theorem Tb.at {A B : Nat → Int} {g k n i r : Nat} {w wr : World} (h : Tb A B g k n i r w wr) {j : Nat} (hj : j < r) (hk : j < k + 1) : wr.cell? ⟨g, j, none⟩ = some (.slice (some ⟨g + 1 + j, 0, none⟩) (n + 1) (n + 1)) := by
  rw [h.d.cell hk]
  unfold rows
  rw [if_pos hj]
set_option maxHeartbeats 1000000 in
set_option maxRecDepth 100000 in
theorem rdist_near {w : World} {va vb : Value} {k n : Nat} {A B : Nat → Int} (hA : RSl w va k A) (hB : RSl w vb n B) (hk : k ≤ 64) (hn : n ≤ 64) :
    Calls Tryd.prog 38 #[va, vb] w fun e w' => e = .returned (.int .i64 (dd A B k n : Int)) ∧ Up w.heap.size w w' := by
  have HA : Hid (RSl w va k A) := hA
  have HB : Hid (RSl w vb n B) := hB
  obtain ⟨aa, ca, rfl⟩ := hA.form
  obtain ⟨ab, cb, rfl⟩ := hB.form
  clear hA hB
  have z1 : ¬ (64 : Int) < (k : Int) := by omega
  have z2 : ¬ (64 : Int) < (n : Int) := by omega
  have hmk : ∀ (w : World), (Instr.makeSlice 103 (.int .i64 ((k : Int) + 1)) (.int .i64 ((k : Int) + 1))).run Tryd.prog w = .ok (.slice (some ⟨w.heap.size, 0, none⟩) (k + 1) (k + 1)) (w.alloc (.cells (madeCells #[Value.slice none 0 0] (k + 1)) 50)) := run_make_row' (P := Tryd.prog) 103 50 (.slice none 0 0) 24 Tryd.underlying103 info26 rfl .i64 .i64 (k + 1) (by omega) (by omega)
  have hmk2 : ∀ (w : World), (Instr.makeSlice 50 (.int .i64 ((n : Int) + 1)) (.int .i64 ((n : Int) + 1))).run Tryd.prog w = .ok (.slice (some ⟨w.heap.size, 0, none⟩) (n + 1) (n + 1)) (w.alloc (.cells (madeCells #[Value.int .i64 0] (n + 1)) 3)) := run_make_row' (P := Tryd.prog) 50 3 (.int .i64 0) 8 Tryd.underlying50 info3 rfl .i64 .i64 (n + 1) (by omega) (by omega)
  go_enter Tryd.func38, Tryd.ntmps38
  go_wp2
  generalize hg : w.heap.size = g at *
  have HG : Hid (w.heap.size = g) := hg
  clear hg
  go_loopg [6] (k + 1) (fun m iv wr => ∃ i : Nat, i ≤ k + 1 ∧ m = k + 1 - i ∧ iv = .int .i64 i ∧ Hid (Tb A B g k n i i w wr))
  case atStart =>
    refine ⟨0, Nat.zero_le _, rfl, rfl, ⟨?_, ?_, ?_, fun j hj => absurd hj (Nat.not_lt_zero j)⟩⟩
    · have := (Up.refl w).alloc (.cells (madeCells #[Value.slice none 0 0] (k + 1)) 50)
      rw [HG.out] at this
      exact this
    · show (w.heap.push _).size = _
      rw [Array.size_push, HG.out]
    · have := World.rowIs_made w (.slice none 0 0) (k + 1) 50
      rw [HG.out] at this
      exact this.congr fun j _ => by unfold rows; rw [if_neg (Nat.not_lt_zero j)]
  case round =>
    obtain ⟨i, hi, hm, rfl, HT⟩ := hrel
    by_cases hlt : i < k + 1
    · have x1 : ((i : Nat) : Int) ≤ (k : Int) := by omega
      have x2 : (0 : Int) ≤ (i : Int) := by omega
      have x3 : ((i : Nat) : Int) < (k : Int) + 1 := by omega
      have hsz := HT.out.size
      have hci : (wr.alloc (.cells (madeCells #[Value.int .i64 0] (n + 1)) 3)).cell? ⟨g, i, none⟩ = some (.slice none 0 0) := by
        rw [(HT.out.d.alloc _).cell hlt]
        unfold rows
        rw [if_neg (Nat.lt_irrefl i)]
      have hfi : (wr.alloc (.cells (madeCells #[Value.int .i64 0] (n + 1)) 3)).frozen? ⟨g, i, none⟩ = false := (HT.out.d.alloc _).frozen i
      go_wp2
      go_loopg [7] (n + 1) (fun m cv wx => ∃ c : Nat, c ≤ n + 1 ∧ m = n + 1 - c ∧ cv = .int .i64 c ∧ Hid (Tb A B g k n i (i + 1) w wx) ∧ Hid (∃ N, IR wx (g + 1 + i) (n + 1) N ∧ ∀ j, j < c → N j = (dd A B i j : Int)))
      case atStart =>
        refine ⟨0, Nat.zero_le _, rfl, rfl, ?_, ⟨fun _ => 0, ?_, fun j hj => absurd hj (Nat.not_lt_zero j)⟩⟩
        · exact HT.out.make (by omega)
        · exact HT.out.fresh (by omega)
      case round =>
        obtain ⟨c, hc, hm2, rfl, HT2, HN⟩ := hrel
        by_cases hlt2 : c < n + 1
        · -- INNER
          have y1 : ((c : Nat) : Int) ≤ (n : Int) := by omega
          have y2 : (0 : Int) ≤ (c : Int) := by omega
          have y3 : ((c : Nat) : Int) < (n : Int) + 1 := by omega
          obtain ⟨N, hN, he⟩ := HN.out
          have HN2 : Hid (IR wr (g + 1 + i) (n + 1) N) := hN
          have HE : Hid (∀ j, j < c → N j = (dd A B i j : Int)) := he
          have di := HT2.out.at (j := i) (by omega) hlt
          have ci := hN.cell (i := c) hlt2
          have fi := hN.frozen c
          clear hN he HN
          rcases Nat.eq_zero_or_pos c with h0 | h0
          · subst h0
            have q1 : ((0 : Nat) : Int) = 0 := rfl
            go_wp2
            go_roundg (n + 1 - (0 + 1))
            case measure => omega
            case rel =>
              refine ⟨0 + 1, by omega, rfl, by go_num, HT2.out.set 0 _, ⟨_, HN2.out.set 0 _, fun j hj => ?_⟩⟩
              obtain rfl : j = 0 := by omega
              rw [dd_i]
              rfl
          have q1 : ¬ (c : Int) = 0 := by omega
          rcases Nat.eq_zero_or_pos i with h1 | h1
          · subst h1
            go_wp2
            go_roundg (n + 1 - (c + 1))
            case measure => omega
            case rel =>
              refine ⟨c + 1, by omega, rfl, by go_num, HT2.out.set c _, ⟨_, HN2.out.set c _, fun j hj => ?_⟩⟩
              unfold setN
              rw [dd_0]
              rcases Nat.lt_or_ge j c with e | e
              · rw [if_neg (by omega), HE.out j e, dd_0]
              · rw [if_pos (by omega)]
                omega
          obtain ⟨i', rfl⟩ : ∃ i', i = i' + 1 := ⟨i - 1, by omega⟩
          obtain ⟨c', rfl⟩ : ∃ c', c = c' + 1 := ⟨c - 1, by omega⟩
          have q2 : ¬ ((i' : Int) + 1 = 0) := by omega
          have q3 : ¬ ((c' : Int) + 1 = 0) := by omega
          have q4 : (0 : Int) ≤ (i' : Int) := by omega
          have q5 : (i' : Int) < (k : Int) + 1 := by omega
          have q6 : (0 : Int) ≤ (c' : Int) := by omega
          have q7 : (c' : Int) < (n : Int) + 1 := by omega
          have q8 : (i' : Int) < (k : Int) := by omega
          have q9 : (c' : Int) < (n : Int) := by omega
          have q10 : (i' : Int) + 1 < (k : Int) + 1 := by omega
          have q11 : (c' : Int) + 1 < (n : Int) + 1 := by omega
          obtain ⟨fa, oa, rfl, hRA⟩ := HA.out.at (by omega)
          obtain ⟨fb, ob, rfl, hRB⟩ := HB.out.at (by omega)
          have HRA : Hid (Rs w fa oa k A) := hRA
          have HRB : Hid (Rs w fb ob n B) := hRB
          clear hRA hRB
          have di' := HT2.out.at (j := i') (by omega) (by omega)
          have e1 := (HT2.out.row i' (by omega)).cell (i := c' + 1) hlt2
          have e2 := (HT2.out.row i' (by omega)).cell (i := c') (by omega)
          have e3 := HN2.out.cell (i := c') (by omega)
          rw [HE.out c' (by omega)] at e3
          have s1 := dd_bound A B i' (c' + 1)
          have s2 := dd_bound A B i' c'
          have s3 := dd_bound A B (i' + 1) c'
          obtain ⟨x, ex⟩ : ∃ x, dd A B i' (c' + 1) = x := ⟨_, rfl⟩
          obtain ⟨y, ey⟩ : ∃ x, dd A B (i' + 1) c' = x := ⟨_, rfl⟩
          obtain ⟨z, ez⟩ : ∃ x, dd A B i' c' = x := ⟨_, rfl⟩
          have EX : Hid (dd A B i' (c' + 1) = x ∧ dd A B (i' + 1) c' = y ∧ dd A B i' c' = z) := ⟨ex, ey, ez⟩
          rw [ex] at e1 s1
          rw [ey] at e3 s3
          rw [ez] at e2 s2
          have b1 : x ≤ 1000 := by omega
          have b2 : y ≤ 1000 := by omega
          have b3 : z ≤ 1000 := by omega
          clear ex ey ez s1 s2 s3
          go_upto_if 91 with fail
          go_cut [8] from 45 to 181 (fun lv wy => lv = .int .i64 ((min (x + 1) (y + 1) : Nat) : Int) ∧ wy = wr)
          case first =>
            by_cases h : y < x
            · have h' : (y : Int) + 1 < (x : Int) + 1 := by omega
              have h2 : min (x + 1) (y + 1) = y + 1 := by omega
              go_wp2
              go_meet
              case rel => exact ⟨congrArg (Value.int .i64) (by omega), rfl⟩
            · have h' : ¬ (y : Int) + 1 < (x : Int) + 1 := by omega
              have h2 : min (x + 1) (y + 1) = x + 1 := by omega
              go_wp2
              go_meet
              case rel => exact ⟨congrArg (Value.int .i64) (by omega), rfl⟩
          case rest =>
            obtain ⟨rfl, rfl⟩ := hcut
            obtain ⟨l, el⟩ : ∃ l, min (x + 1) (y + 1) = l := ⟨_, rfl⟩
            rw [el]
            have EL : Hid (min (x + 1) (y + 1) = l) := el
            have b4 : l ≤ 1001 := by omega
            clear el
            have ca' := (HRA.out.stay (by rw [HG.out]; exact HT2.out.up.1)) i' (by omega)
            have cb' := (HRB.out.stay (by rw [HG.out]; exact HT2.out.up.1)) c' (by omega)
            go_upto_region 22 with fail
            go_quiet (fail)
            obtain ⟨tt, et⟩ : ∃ tt : Nat, z + (if A i' = B c' then 0 else 1) = tt := ⟨_, rfl⟩
            have ET : Hid (z + (if A i' = B c' then 0 else 1) = tt) := et
            clear et
            go_upto_if 112 with fail
            go_cut [10] from 45 to 181 (fun nv wy => nv = .int .i64 (tt : Int) ∧ Hid (Tb A B g k n (i' + 1) (i' + 1 + 1) w wy) ∧ Hid (IR wy (g + 1 + (i' + 1)) (n + 1) N))
            case first =>
              by_cases h : A i' = B c'
              · go_wp2
                go_meet
                case rel =>
                  have := ET.out
                  rw [if_pos h] at this
                  exact ⟨congrArg (Value.int .i64) (by omega), HT2.out.drewN _, HN2.out.drewN _⟩
              · go_wp2
                go_meet
                case rel =>
                  have := ET.out
                  rw [if_neg h] at this
                  exact ⟨congrArg (Value.int .i64) (by omega), HT2.out.drewN _, HN2.out.drewN _⟩
            case rest =>
              obtain ⟨rfl, HT3, HN3⟩ := hcut
              have di3 := HT3.out.at (j := i' + 1) (by omega) hlt
              have ci3 := HN3.out.cell (i := c' + 1) hlt2
              have fi3 := HN3.out.frozen (c' + 1)
              have ca3 := (HRA.out.stay (by rw [HG.out]; exact HT3.out.up.1)) i' (by omega)
              have cb3 := (HRB.out.stay (by rw [HG.out]; exact HT3.out.up.1)) c' (by omega)
              have b5 : tt ≤ 1001 := by
                have := ET.out
                by_cases h : A i' = B c'
                · rw [if_pos h] at this; omega
                · rw [if_neg h] at this; omega
              clear di ci fi di' e1 e2 e3 ca' cb'
              go_upto_if 117 with fail
              go_cut [8] from 45 to 181 (fun lv wy => lv = .int .i64 ((min l tt : Nat) : Int) ∧ wy = wc)
              case first =>
                by_cases h : tt < l
                · have h' : (tt : Int) < (l : Int) := by omega
                  go_wp2
                  go_meet
                  case rel => exact ⟨congrArg (Value.int .i64) (by omega), rfl⟩
                · have h' : ¬ (tt : Int) < (l : Int) := by omega
                  go_wp2
                  go_meet
                  case rel => exact ⟨congrArg (Value.int .i64) (by omega), rfl⟩
              case rest =>
                obtain ⟨rfl, rfl⟩ := hcut
                obtain ⟨u, eu⟩ : ∃ u, min l tt = u := ⟨_, rfl⟩
                rw [eu]
                have EU : Hid (min l tt = u) := eu
                have b6 : u ≤ 1001 := by omega
                clear eu
                rcases Nat.eq_zero_or_pos i' with hi0 | hi0
                · subst hi0
                  have t1 : decide ((1 : Int) < ((0 + 1 : Nat) : Int)) = false := rfl
                  go_upto_region 26 with fail
                  go_quiet (fail)
                  go_wp2
                  go_roundg (n + 1 - (c' + 1 + 1))
                  case measure => omega
                  case rel =>
                    refine ⟨c' + 1 + 1, by omega, rfl, by go_num, ?_, ⟨setN N (c' + 1) u, ?_, fun j hj => ?_⟩⟩
                    · first | exact (HT3.out.drewN _).set _ _ | exact (HT3.out.set _ _).drewN _
                    · first | exact (HN3.out.drewN _).set _ _ | exact (HN3.out.set _ _).drewN _
                    · unfold setN
                      rcases Nat.lt_or_ge j (c' + 1) with e | e
                      · rw [if_neg (by omega)]
                        exact HE.out j e
                      · obtain rfl : j = c' + 1 := by omega
                        rw [if_pos rfl]
                        rw [dd_no (fun h => by omega), EX.out.1, EX.out.2.1, EX.out.2.2, EL.out, ET.out, EU.out]
                obtain ⟨i2, rfl⟩ : ∃ i2, i' = i2 + 1 := ⟨i' - 1, by omega⟩
                have t1 : (1 : Int) < ((i2 + 1 + 1 : Nat) : Int) := by omega
                have t9 : (1 : Int) < (i2 : Int) + 1 + 1 := by omega
                rcases Nat.eq_zero_or_pos c' with hc0 | hc0
                · subst hc0
                  have t2 : decide ((1 : Int) < ((0 + 1 : Nat) : Int)) = false := rfl
                  go_upto_region 26 with fail
                  go_quiet (fail)
                  go_wp2
                  go_roundg (n + 1 - (0 + 1 + 1))
                  case measure => omega
                  case rel =>
                    refine ⟨0 + 1 + 1, by omega, rfl, by go_num, ?_, ⟨setN N (0 + 1) u, ?_, fun j hj => ?_⟩⟩
                    · first | exact (HT3.out.drewN _).set _ _ | exact (HT3.out.set _ _).drewN _
                    · first | exact (HN3.out.drewN _).set _ _ | exact (HN3.out.set _ _).drewN _
                    · unfold setN
                      rcases Nat.lt_or_ge j (0 + 1) with e | e
                      · rw [if_neg (by omega)]
                        exact HE.out j e
                      · obtain rfl : j = 0 + 1 := by omega
                        rw [if_pos rfl]
                        rw [dd_no (fun h => by omega), EX.out.1, EX.out.2.1, EX.out.2.2, EL.out, ET.out, EU.out]
                obtain ⟨c2, rfl⟩ : ∃ c2, c' = c2 + 1 := ⟨c' - 1, by omega⟩
                have t2 : (1 : Int) < ((c2 + 1 + 1 : Nat) : Int) := by omega
                have t3 : (0 : Int) ≤ (i2 : Int) := by omega
                have t4 : (i2 : Int) < (k : Int) := by omega
                have t5 : (0 : Int) ≤ (c2 : Int) := by omega
                have t6 : (c2 : Int) < (n : Int) := by omega
                have t7 : (i2 : Int) < (k : Int) + 1 := by omega
                have t8 : (c2 : Int) < (n : Int) + 1 := by omega
                have t10 : (1 : Int) < (c2 : Int) + 1 + 1 := by omega
                have t11 : (i2 : Int) + 1 < (k : Int) := by omega
                have t12 : (c2 : Int) + 1 < (n : Int) := by omega
                have t13 : (i2 : Int) + 1 + 1 - 2 = (i2 : Int) := by omega
                have t14 : (c2 : Int) + 1 + 1 - 2 = (c2 : Int) := by omega
                have ca4 := (HRA.out.stay (by rw [HG.out]; exact HT3.out.up.1)) i2 (by omega)
                have cb4 := (HRB.out.stay (by rw [HG.out]; exact HT3.out.up.1)) c2 (by omega)
                have di4 := HT3.out.at (j := i2) (by omega) (by omega)
                have e5 := (HT3.out.row i2 (by omega)).cell (i := c2) (by omega)
                have s4 := dd_bound A B i2 c2
                obtain ⟨v, ev⟩ : ∃ v, dd A B i2 c2 = v := ⟨_, rfl⟩
                rw [ev] at e5 s4
                have EV : Hid (dd A B i2 c2 = v) := ev
                have b7 : v ≤ 1000 := by omega
                clear ev s4
                by_cases g1 : A (i2 + 1) = B c2
                · by_cases g2 : A i2 = B (c2 + 1)
                  · have G : Hid (A (i2 + 1) = B c2 ∧ A i2 = B (c2 + 1)) := ⟨g1, g2⟩
                    have g1' : (A (i2 + 1) == B c2) = true := by simpa using g1
                    have g2' : (A i2 == B (c2 + 1)) = true := by simpa using g2
                    by_cases g3 : v + 1 < u
                    · have g3' : (v : Int) + 1 < (u : Int) := by omega
                      go_upto_region 26 with fail
                      go_quiet (fail)
                      go_wp2
                      go_roundg (n + 1 - (c2 + 1 + 1 + 1))
                      case measure => omega
                      case rel =>
                        refine ⟨c2 + 1 + 1 + 1, by omega, rfl, by go_num, ?_, ⟨setN N (c2 + 1 + 1) (v + 1), ?_, fun j hj => ?_⟩⟩
                        · first | exact (HT3.out.drewN _).set _ _ | exact (HT3.out.set _ _).drewN _
                        · first | exact (HN3.out.drewN _).set _ _ | exact (HN3.out.set _ _).drewN _
                        · unfold setN
                          rcases Nat.lt_or_ge j (c2 + 1 + 1) with e | e
                          · rw [if_neg (by omega)]
                            exact HE.out j e
                          · obtain rfl : j = c2 + 1 + 1 := by omega
                            rw [if_pos rfl]
                            rw [dd_yes G.out.1 G.out.2, EX.out.1, EX.out.2.1, EX.out.2.2, EL.out, ET.out, EU.out, EV.out]
                            omega
                    · have g3' : decide ((v : Int) + 1 < (u : Int)) = false := decide_eq_false (by omega)
                      go_upto_region 26 with fail
                      go_quiet (fail)
                      go_wp2
                      go_roundg (n + 1 - (c2 + 1 + 1 + 1))
                      case measure => omega
                      case rel =>
                        refine ⟨c2 + 1 + 1 + 1, by omega, rfl, by go_num, ?_, ⟨setN N (c2 + 1 + 1) u, ?_, fun j hj => ?_⟩⟩
                        · first | exact (HT3.out.drewN _).set _ _ | exact (HT3.out.set _ _).drewN _
                        · first | exact (HN3.out.drewN _).set _ _ | exact (HN3.out.set _ _).drewN _
                        · unfold setN
                          rcases Nat.lt_or_ge j (c2 + 1 + 1) with e | e
                          · rw [if_neg (by omega)]
                            exact HE.out j e
                          · obtain rfl : j = c2 + 1 + 1 := by omega
                            rw [if_pos rfl]
                            rw [dd_yes G.out.1 G.out.2, EX.out.1, EX.out.2.1, EX.out.2.2, EL.out, ET.out, EU.out, EV.out]
                            omega
                  · have g1' : (A (i2 + 1) == B c2) = true := by simpa using g1
                    have g2' : (A i2 == B (c2 + 1)) = false := by simpa using g2
                    have G : Hid (¬ A i2 = B (c2 + 1)) := g2
                    go_upto_region 26 with fail
                    go_quiet (fail)
                    go_wp2
                    go_roundg (n + 1 - (c2 + 1 + 1 + 1))
                    case measure => omega
                    case rel =>
                      refine ⟨c2 + 1 + 1 + 1, by omega, rfl, by go_num, ?_, ⟨setN N (c2 + 1 + 1) u, ?_, fun j hj => ?_⟩⟩
                      · first | exact (HT3.out.drewN _).set _ _ | exact (HT3.out.set _ _).drewN _
                      · first | exact (HN3.out.drewN _).set _ _ | exact (HN3.out.set _ _).drewN _
                      · unfold setN
                        rcases Nat.lt_or_ge j (c2 + 1 + 1) with e | e
                        · rw [if_neg (by omega)]
                          exact HE.out j e
                        · obtain rfl : j = c2 + 1 + 1 := by omega
                          rw [if_pos rfl]
                          rw [dd_no (fun h => G.out h.2.2.2), EX.out.1, EX.out.2.1, EX.out.2.2, EL.out, ET.out, EU.out]
                · have g1' : (A (i2 + 1) == B c2) = false := by simpa using g1
                  have G : Hid (¬ A (i2 + 1) = B c2) := g1
                  go_upto_region 26 with fail
                  go_quiet (fail)
                  go_wp2
                  go_roundg (n + 1 - (c2 + 1 + 1 + 1))
                  case measure => omega
                  case rel =>
                    refine ⟨c2 + 1 + 1 + 1, by omega, rfl, by go_num, ?_, ⟨setN N (c2 + 1 + 1) u, ?_, fun j hj => ?_⟩⟩
                    · first | exact (HT3.out.drewN _).set _ _ | exact (HT3.out.set _ _).drewN _
                    · first | exact (HN3.out.drewN _).set _ _ | exact (HN3.out.set _ _).drewN _
                    · unfold setN
                      rcases Nat.lt_or_ge j (c2 + 1 + 1) with e | e
                      · rw [if_neg (by omega)]
                        exact HE.out j e
                      · obtain rfl : j = c2 + 1 + 1 := by omega
                        rw [if_pos rfl]
                        rw [dd_no (fun h => G.out h.2.2.1), EX.out.1, EX.out.2.1, EX.out.2.2, EL.out, ET.out, EU.out]
          -- OUTER
        · obtain rfl : c = n + 1 := by omega
          have y1 : ¬ ((n : Int) + 1 ≤ (n : Int)) := by omega
          go_wp2
          go_roundg (k + 1 - (i + 1))
          case measure => omega
          case rel =>
            obtain ⟨N, hN, he⟩ := HN.out
            exact ⟨i + 1, by omega, rfl, by go_num, HT2.out.done hN he⟩
    · obtain rfl : i = k + 1 := by omega
      have x1 : ¬ ((k : Int) + 1 ≤ (k : Int)) := by omega
      have hck := HT.out.at (j := k) (by omega) (by omega)
      have hcn := (HT.out.row k (by omega)).cell (i := n) (by omega)
      have x2 : ((k : Nat) : Int) < (k : Int) + 1 := by omega
      have x3 : (0 : Int) ≤ (k : Int) := by omega
      have x4 : ((n : Nat) : Int) < (n : Int) + 1 := by omega
      have x5 : (0 : Int) ≤ (n : Int) := by omega
      go_wp2
      go_ret
      refine ⟨rfl, ?_⟩
      rw [HG.out]
      exact HT.out.up
end Go.Proofs.YtfikkkodepfdkaaDoor.Qns
