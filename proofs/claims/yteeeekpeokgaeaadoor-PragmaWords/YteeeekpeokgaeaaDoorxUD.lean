/- ref.Next: four bytes. -/
import Derived.Test.YteeeekpeokgaeaaDoorxUC
namespace Go.Proofs.YteeeekpeokgaeaaDoor.Lns
set_option linter.unusedVariables false
open Go.RowKit Go.ChangeShapes
set_option maxRecDepth 100000 in
set_option maxHeartbeats 1000000 in
theorem rnext_four_a (b off n cap x0 x1 x2 x3 : Nat) (w : World) (hn : (0 : Int) < (n : Int)) (c0 : w.cell? ⟨b, off, none⟩ = some (.int .u8 x0)) (c1 : 1 < n → w.cell? ⟨b, off + 1, none⟩ = some (.int .u8 x1)) (c2 : 2 < n → w.cell? ⟨b, off + 2, none⟩ = some (.int .u8 x2)) (c3 : 3 < n → w.cell? ⟨b, off + 3, none⟩ = some (.int .u8 x3)) (l0 : x0 < 256) (l1 : x1 < 256) (l2 : x2 < 256) (l3 : x3 < 256) (h0 : 240 ≤ x0) (h1 : x0 < 248) (t1 : tailB n 1 x1 = false) :
    Calls Tryd.prog 47 #[.slice (some ⟨b, off, none⟩) n cap] w fun e w' => e = .returned (.tuple #[.int .i32 (kn (Go.Lib.decodeN n x0 x1 x2 x3)), .int .i64 (Go.Lib.decodeN n x0 x1 x2 x3).2]) ∧ Below w.heap.size w w' := by
  have b128 : ¬ (x0 : Int) < 128 := by omega
  have g192 : (192 : Int) ≤ x0 := by omega
  have g224 : (224 : Int) ≤ x0 := by omega
  have g240 : (240 : Int) ≤ x0 := by omega
  have s224 : ¬ (x0 : Int) < 224 := by omega
  have s240 : ¬ (x0 : Int) < 240 := by omega
  have s248 : (x0 : Int) < 248 := by omega
  have ct1 : Calls Tryd.prog 61 #[.slice (some ⟨b, off, none⟩) n cap, .int .i64 1] w fun e w' => e = .returned (.bool (tailB n 1 x1)) ∧ w' = w := tail_any b off n cap 1 x1 w c1
  rw [dec_four_no n x0 x1 x2 x3 h0 h1 l1 l2 l3 (Or.inl t1), kn_bad]
  rw [t1] at ct1
  go_enter Tryd.func47, Tryd.ntmps47
  go_wp2_with fail
  refine ct1.mono ?_
  rintro e w' ⟨rfl, rfl⟩
  go_wp2
  go_ret2
  exact ⟨rfl, Below.refl _ _⟩
set_option maxRecDepth 100000 in
set_option maxHeartbeats 1000000 in
theorem rnext_four_b (b off n cap x0 x1 x2 x3 : Nat) (w : World) (hn : (0 : Int) < (n : Int)) (c0 : w.cell? ⟨b, off, none⟩ = some (.int .u8 x0)) (c1 : 1 < n → w.cell? ⟨b, off + 1, none⟩ = some (.int .u8 x1)) (c2 : 2 < n → w.cell? ⟨b, off + 2, none⟩ = some (.int .u8 x2)) (c3 : 3 < n → w.cell? ⟨b, off + 3, none⟩ = some (.int .u8 x3)) (l0 : x0 < 256) (l1 : x1 < 256) (l2 : x2 < 256) (l3 : x3 < 256) (h0 : 240 ≤ x0) (h1 : x0 < 248) (t1 : tailB n 1 x1 = true) (t2 : tailB n 2 x2 = false) :
    Calls Tryd.prog 47 #[.slice (some ⟨b, off, none⟩) n cap] w fun e w' => e = .returned (.tuple #[.int .i32 (kn (Go.Lib.decodeN n x0 x1 x2 x3)), .int .i64 (Go.Lib.decodeN n x0 x1 x2 x3).2]) ∧ Below w.heap.size w w' := by
  have b128 : ¬ (x0 : Int) < 128 := by omega
  have g192 : (192 : Int) ≤ x0 := by omega
  have g224 : (224 : Int) ≤ x0 := by omega
  have g240 : (240 : Int) ≤ x0 := by omega
  have s224 : ¬ (x0 : Int) < 224 := by omega
  have s240 : ¬ (x0 : Int) < 240 := by omega
  have s248 : (x0 : Int) < 248 := by omega
  have ct1 : Calls Tryd.prog 61 #[.slice (some ⟨b, off, none⟩) n cap, .int .i64 1] w fun e w' => e = .returned (.bool (tailB n 1 x1)) ∧ w' = w := tail_any b off n cap 1 x1 w c1
  have ct2 : Calls Tryd.prog 61 #[.slice (some ⟨b, off, none⟩) n cap, .int .i64 2] w fun e w' => e = .returned (.bool (tailB n 2 x2)) ∧ w' = w := tail_any b off n cap 2 x2 w c2
  rw [dec_four_no n x0 x1 x2 x3 h0 h1 l1 l2 l3 (Or.inr (Or.inl t2)), kn_bad]
  rw [t1] at ct1
  rw [t2] at ct2
  go_enter Tryd.func47, Tryd.ntmps47
  go_wp2_with fail
  refine ct1.mono ?_
  rintro e w' ⟨rfl, rfl⟩
  go_wp2_with fail
  refine ct2.mono ?_
  rintro e w' ⟨rfl, rfl⟩
  go_wp2
  go_ret2
  exact ⟨rfl, Below.refl _ _⟩
set_option maxRecDepth 100000 in
set_option maxHeartbeats 1000000 in
theorem rnext_four_c (b off n cap x0 x1 x2 x3 : Nat) (w : World) (hn : (0 : Int) < (n : Int)) (c0 : w.cell? ⟨b, off, none⟩ = some (.int .u8 x0)) (c1 : 1 < n → w.cell? ⟨b, off + 1, none⟩ = some (.int .u8 x1)) (c2 : 2 < n → w.cell? ⟨b, off + 2, none⟩ = some (.int .u8 x2)) (c3 : 3 < n → w.cell? ⟨b, off + 3, none⟩ = some (.int .u8 x3)) (l0 : x0 < 256) (l1 : x1 < 256) (l2 : x2 < 256) (l3 : x3 < 256) (h0 : 240 ≤ x0) (h1 : x0 < 248) (t1 : tailB n 1 x1 = true) (t2 : tailB n 2 x2 = true) (t3 : tailB n 3 x3 = false) :
    Calls Tryd.prog 47 #[.slice (some ⟨b, off, none⟩) n cap] w fun e w' => e = .returned (.tuple #[.int .i32 (kn (Go.Lib.decodeN n x0 x1 x2 x3)), .int .i64 (Go.Lib.decodeN n x0 x1 x2 x3).2]) ∧ Below w.heap.size w w' := by
  have b128 : ¬ (x0 : Int) < 128 := by omega
  have g192 : (192 : Int) ≤ x0 := by omega
  have g224 : (224 : Int) ≤ x0 := by omega
  have g240 : (240 : Int) ≤ x0 := by omega
  have s224 : ¬ (x0 : Int) < 224 := by omega
  have s240 : ¬ (x0 : Int) < 240 := by omega
  have s248 : (x0 : Int) < 248 := by omega
  have ct1 : Calls Tryd.prog 61 #[.slice (some ⟨b, off, none⟩) n cap, .int .i64 1] w fun e w' => e = .returned (.bool (tailB n 1 x1)) ∧ w' = w := tail_any b off n cap 1 x1 w c1
  have ct2 : Calls Tryd.prog 61 #[.slice (some ⟨b, off, none⟩) n cap, .int .i64 2] w fun e w' => e = .returned (.bool (tailB n 2 x2)) ∧ w' = w := tail_any b off n cap 2 x2 w c2
  have ct3 : Calls Tryd.prog 61 #[.slice (some ⟨b, off, none⟩) n cap, .int .i64 3] w fun e w' => e = .returned (.bool (tailB n 3 x3)) ∧ w' = w := tail_any b off n cap 3 x3 w c3
  rw [dec_four_no n x0 x1 x2 x3 h0 h1 l1 l2 l3 (Or.inr (Or.inr (Or.inl t3))), kn_bad]
  rw [t1] at ct1
  rw [t2] at ct2
  rw [t3] at ct3
  go_enter Tryd.func47, Tryd.ntmps47
  go_wp2_with fail
  refine ct1.mono ?_
  rintro e w' ⟨rfl, rfl⟩
  go_wp2_with fail
  refine ct2.mono ?_
  rintro e w' ⟨rfl, rfl⟩
  go_wp2_with fail
  refine ct3.mono ?_
  rintro e w' ⟨rfl, rfl⟩
  go_wp2
  go_ret2
  exact ⟨rfl, Below.refl _ _⟩
set_option maxRecDepth 100000 in
set_option maxHeartbeats 1000000 in
theorem rnext_four_d (b off n cap x0 x1 x2 x3 : Nat) (w : World) (hn : (0 : Int) < (n : Int)) (c0 : w.cell? ⟨b, off, none⟩ = some (.int .u8 x0)) (c1 : 1 < n → w.cell? ⟨b, off + 1, none⟩ = some (.int .u8 x1)) (c2 : 2 < n → w.cell? ⟨b, off + 2, none⟩ = some (.int .u8 x2)) (c3 : 3 < n → w.cell? ⟨b, off + 3, none⟩ = some (.int .u8 x3)) (l0 : x0 < 256) (l1 : x1 < 256) (l2 : x2 < 256) (l3 : x3 < 256) (h0 : 240 ≤ x0) (h1 : x0 < 248) (t1 : tailB n 1 x1 = true) (t2 : tailB n 2 x2 = true) (t3 : tailB n 3 x3 = true) (hr : 65536 ≤ ((x0 : Int) - 240) * 262144 + ((x1 : Int) - 128) * 4096 + ((x2 : Int) - 128) * 64 + x3 - 128) (hs : ((x0 : Int) - 240) * 262144 + ((x1 : Int) - 128) * 4096 + ((x2 : Int) - 128) * 64 + x3 - 128 ≤ 1114111) :
    Calls Tryd.prog 47 #[.slice (some ⟨b, off, none⟩) n cap] w fun e w' => e = .returned (.tuple #[.int .i32 (kn (Go.Lib.decodeN n x0 x1 x2 x3)), .int .i64 (Go.Lib.decodeN n x0 x1 x2 x3).2]) ∧ Below w.heap.size w w' := by
  have b128 : ¬ (x0 : Int) < 128 := by omega
  have g192 : (192 : Int) ≤ x0 := by omega
  have g224 : (224 : Int) ≤ x0 := by omega
  have g240 : (240 : Int) ≤ x0 := by omega
  have s224 : ¬ (x0 : Int) < 224 := by omega
  have s240 : ¬ (x0 : Int) < 240 := by omega
  have s248 : (x0 : Int) < 248 := by omega
  have ct1 : Calls Tryd.prog 61 #[.slice (some ⟨b, off, none⟩) n cap, .int .i64 1] w fun e w' => e = .returned (.bool (tailB n 1 x1)) ∧ w' = w := tail_any b off n cap 1 x1 w c1
  have ct2 : Calls Tryd.prog 61 #[.slice (some ⟨b, off, none⟩) n cap, .int .i64 2] w fun e w' => e = .returned (.bool (tailB n 2 x2)) ∧ w' = w := tail_any b off n cap 2 x2 w c2
  have ct3 : Calls Tryd.prog 61 #[.slice (some ⟨b, off, none⟩) n cap, .int .i64 3] w fun e w' => e = .returned (.bool (tailB n 3 x3)) ∧ w' = w := tail_any b off n cap 3 x3 w c3
  have t1' := (tailB_iff _ _ _).1 t1
  have i1 : (1 : Int) < (n : Int) := by omega
  have z1 := c1 t1'.1
  have e1 : (128 : Int) ≤ x1 := by omega
  have f1 : (x1 : Int) < 192 := by omega
  have t2' := (tailB_iff _ _ _).1 t2
  have i2 : (2 : Int) < (n : Int) := by omega
  have z2 := c2 t2'.1
  have e2 : (128 : Int) ≤ x2 := by omega
  have f2 : (x2 : Int) < 192 := by omega
  have t3' := (tailB_iff _ _ _).1 t3
  have i3 : (3 : Int) < (n : Int) := by omega
  have z3 := c3 t3'.1
  have e3 : (128 : Int) ≤ x3 := by omega
  have f3 : (x3 : Int) < 192 := by omega
  obtain ⟨r1, r2⟩ := dec_four n x0 x1 x2 x3 h0 h1 t1 t2 t3 hr hs
  rw [r1, r2]
  clear r1 r2
  rw [t1] at ct1
  rw [t2] at ct2
  rw [t3] at ct3
  go_enter Tryd.func47, Tryd.ntmps47
  go_wp2_with fail
  refine ct1.mono ?_
  rintro e w' ⟨rfl, rfl⟩
  go_wp2_with fail
  refine ct2.mono ?_
  rintro e w' ⟨rfl, rfl⟩
  go_wp2_with fail
  refine ct3.mono ?_
  rintro e w' ⟨rfl, rfl⟩
  go_wp2
  go_quiet (fail)
  go_wp2
  go_ret2
  exact ⟨rfl, Go.below_drewN (Below.refl _ _) _⟩
set_option maxRecDepth 100000 in
set_option maxHeartbeats 1000000 in
theorem rnext_four_e (b off n cap x0 x1 x2 x3 : Nat) (w : World) (hn : (0 : Int) < (n : Int)) (c0 : w.cell? ⟨b, off, none⟩ = some (.int .u8 x0)) (c1 : 1 < n → w.cell? ⟨b, off + 1, none⟩ = some (.int .u8 x1)) (c2 : 2 < n → w.cell? ⟨b, off + 2, none⟩ = some (.int .u8 x2)) (c3 : 3 < n → w.cell? ⟨b, off + 3, none⟩ = some (.int .u8 x3)) (l0 : x0 < 256) (l1 : x1 < 256) (l2 : x2 < 256) (l3 : x3 < 256) (h0 : 240 ≤ x0) (h1 : x0 < 248) (t1 : tailB n 1 x1 = true) (t2 : tailB n 2 x2 = true) (t3 : tailB n 3 x3 = true) (hr : ¬ 65536 ≤ ((x0 : Int) - 240) * 262144 + ((x1 : Int) - 128) * 4096 + ((x2 : Int) - 128) * 64 + x3 - 128) :
    Calls Tryd.prog 47 #[.slice (some ⟨b, off, none⟩) n cap] w fun e w' => e = .returned (.tuple #[.int .i32 (kn (Go.Lib.decodeN n x0 x1 x2 x3)), .int .i64 (Go.Lib.decodeN n x0 x1 x2 x3).2]) ∧ Below w.heap.size w w' := by
  have b128 : ¬ (x0 : Int) < 128 := by omega
  have g192 : (192 : Int) ≤ x0 := by omega
  have g224 : (224 : Int) ≤ x0 := by omega
  have g240 : (240 : Int) ≤ x0 := by omega
  have s224 : ¬ (x0 : Int) < 224 := by omega
  have s240 : ¬ (x0 : Int) < 240 := by omega
  have s248 : (x0 : Int) < 248 := by omega
  have ct1 : Calls Tryd.prog 61 #[.slice (some ⟨b, off, none⟩) n cap, .int .i64 1] w fun e w' => e = .returned (.bool (tailB n 1 x1)) ∧ w' = w := tail_any b off n cap 1 x1 w c1
  have ct2 : Calls Tryd.prog 61 #[.slice (some ⟨b, off, none⟩) n cap, .int .i64 2] w fun e w' => e = .returned (.bool (tailB n 2 x2)) ∧ w' = w := tail_any b off n cap 2 x2 w c2
  have ct3 : Calls Tryd.prog 61 #[.slice (some ⟨b, off, none⟩) n cap, .int .i64 3] w fun e w' => e = .returned (.bool (tailB n 3 x3)) ∧ w' = w := tail_any b off n cap 3 x3 w c3
  have t1' := (tailB_iff _ _ _).1 t1
  have i1 : (1 : Int) < (n : Int) := by omega
  have z1 := c1 t1'.1
  have e1 : (128 : Int) ≤ x1 := by omega
  have f1 : (x1 : Int) < 192 := by omega
  have t2' := (tailB_iff _ _ _).1 t2
  have i2 : (2 : Int) < (n : Int) := by omega
  have z2 := c2 t2'.1
  have e2 : (128 : Int) ≤ x2 := by omega
  have f2 : (x2 : Int) < 192 := by omega
  have t3' := (tailB_iff _ _ _).1 t3
  have i3 : (3 : Int) < (n : Int) := by omega
  have z3 := c3 t3'.1
  have e3 : (128 : Int) ≤ x3 := by omega
  have f3 : (x3 : Int) < 192 := by omega
  rw [dec_four_no n x0 x1 x2 x3 h0 h1 l1 l2 l3 (Or.inr (Or.inr (Or.inr (Or.inl (by omega))))), kn_bad]
  rw [t1] at ct1
  rw [t2] at ct2
  rw [t3] at ct3
  go_enter Tryd.func47, Tryd.ntmps47
  go_wp2_with fail
  refine ct1.mono ?_
  rintro e w' ⟨rfl, rfl⟩
  go_wp2_with fail
  refine ct2.mono ?_
  rintro e w' ⟨rfl, rfl⟩
  go_wp2_with fail
  refine ct3.mono ?_
  rintro e w' ⟨rfl, rfl⟩
  go_wp2
  go_quiet (fail)
  go_wp2
  go_ret2
  exact ⟨rfl, Go.below_drewN (Below.refl _ _) _⟩
set_option maxRecDepth 100000 in
set_option maxHeartbeats 1000000 in
theorem rnext_four_f (b off n cap x0 x1 x2 x3 : Nat) (w : World) (hn : (0 : Int) < (n : Int)) (c0 : w.cell? ⟨b, off, none⟩ = some (.int .u8 x0)) (c1 : 1 < n → w.cell? ⟨b, off + 1, none⟩ = some (.int .u8 x1)) (c2 : 2 < n → w.cell? ⟨b, off + 2, none⟩ = some (.int .u8 x2)) (c3 : 3 < n → w.cell? ⟨b, off + 3, none⟩ = some (.int .u8 x3)) (l0 : x0 < 256) (l1 : x1 < 256) (l2 : x2 < 256) (l3 : x3 < 256) (h0 : 240 ≤ x0) (h1 : x0 < 248) (t1 : tailB n 1 x1 = true) (t2 : tailB n 2 x2 = true) (t3 : tailB n 3 x3 = true) (hr : 65536 ≤ ((x0 : Int) - 240) * 262144 + ((x1 : Int) - 128) * 4096 + ((x2 : Int) - 128) * 64 + x3 - 128) (hs : ¬ ((x0 : Int) - 240) * 262144 + ((x1 : Int) - 128) * 4096 + ((x2 : Int) - 128) * 64 + x3 - 128 ≤ 1114111) :
    Calls Tryd.prog 47 #[.slice (some ⟨b, off, none⟩) n cap] w fun e w' => e = .returned (.tuple #[.int .i32 (kn (Go.Lib.decodeN n x0 x1 x2 x3)), .int .i64 (Go.Lib.decodeN n x0 x1 x2 x3).2]) ∧ Below w.heap.size w w' := by
  have b128 : ¬ (x0 : Int) < 128 := by omega
  have g192 : (192 : Int) ≤ x0 := by omega
  have g224 : (224 : Int) ≤ x0 := by omega
  have g240 : (240 : Int) ≤ x0 := by omega
  have s224 : ¬ (x0 : Int) < 224 := by omega
  have s240 : ¬ (x0 : Int) < 240 := by omega
  have s248 : (x0 : Int) < 248 := by omega
  have ct1 : Calls Tryd.prog 61 #[.slice (some ⟨b, off, none⟩) n cap, .int .i64 1] w fun e w' => e = .returned (.bool (tailB n 1 x1)) ∧ w' = w := tail_any b off n cap 1 x1 w c1
  have ct2 : Calls Tryd.prog 61 #[.slice (some ⟨b, off, none⟩) n cap, .int .i64 2] w fun e w' => e = .returned (.bool (tailB n 2 x2)) ∧ w' = w := tail_any b off n cap 2 x2 w c2
  have ct3 : Calls Tryd.prog 61 #[.slice (some ⟨b, off, none⟩) n cap, .int .i64 3] w fun e w' => e = .returned (.bool (tailB n 3 x3)) ∧ w' = w := tail_any b off n cap 3 x3 w c3
  have t1' := (tailB_iff _ _ _).1 t1
  have i1 : (1 : Int) < (n : Int) := by omega
  have z1 := c1 t1'.1
  have e1 : (128 : Int) ≤ x1 := by omega
  have f1 : (x1 : Int) < 192 := by omega
  have t2' := (tailB_iff _ _ _).1 t2
  have i2 : (2 : Int) < (n : Int) := by omega
  have z2 := c2 t2'.1
  have e2 : (128 : Int) ≤ x2 := by omega
  have f2 : (x2 : Int) < 192 := by omega
  have t3' := (tailB_iff _ _ _).1 t3
  have i3 : (3 : Int) < (n : Int) := by omega
  have z3 := c3 t3'.1
  have e3 : (128 : Int) ≤ x3 := by omega
  have f3 : (x3 : Int) < 192 := by omega
  rw [dec_four_no n x0 x1 x2 x3 h0 h1 l1 l2 l3 (Or.inr (Or.inr (Or.inr (Or.inr (by omega))))), kn_bad]
  rw [t1] at ct1
  rw [t2] at ct2
  rw [t3] at ct3
  go_enter Tryd.func47, Tryd.ntmps47
  go_wp2_with fail
  refine ct1.mono ?_
  rintro e w' ⟨rfl, rfl⟩
  go_wp2_with fail
  refine ct2.mono ?_
  rintro e w' ⟨rfl, rfl⟩
  go_wp2_with fail
  refine ct3.mono ?_
  rintro e w' ⟨rfl, rfl⟩
  go_wp2
  go_quiet (fail)
  go_wp2
  go_ret2
  exact ⟨rfl, Go.below_drewN (Below.refl _ _) _⟩

theorem rnext_n (b off n cap x0 x1 x2 x3 : Nat) (w : World) (hn : (0 : Int) < (n : Int)) (c0 : w.cell? ⟨b, off, none⟩ = some (.int .u8 x0)) (c1 : 1 < n → w.cell? ⟨b, off + 1, none⟩ = some (.int .u8 x1)) (c2 : 2 < n → w.cell? ⟨b, off + 2, none⟩ = some (.int .u8 x2)) (c3 : 3 < n → w.cell? ⟨b, off + 3, none⟩ = some (.int .u8 x3)) (l0 : x0 < 256) (l1 : x1 < 256) (l2 : x2 < 256) (l3 : x3 < 256) :
    Calls Tryd.prog 47 #[.slice (some ⟨b, off, none⟩) n cap] w fun e w' => e = .returned (.tuple #[.int .i32 (kn (Go.Lib.decodeN n x0 x1 x2 x3)), .int .i64 (Go.Lib.decodeN n x0 x1 x2 x3).2]) ∧ Below w.heap.size w w' := by
  by_cases h : x0 < 128
  · exact rnext_one b off n cap x0 x1 x2 x3 w hn c0 c1 c2 c3 l0 l1 l2 l3 h
  by_cases h2 : x0 < 192 ∨ 248 ≤ x0
  · exact rnext_bad b off n cap x0 x1 x2 x3 w hn c0 c1 c2 c3 l0 l1 l2 l3 (by omega) h2
  by_cases h3 : x0 < 224
  · exact rnext_two b off n cap x0 x1 x2 x3 w hn c0 c1 c2 c3 l0 l1 l2 l3 (by omega) h3
  by_cases h4 : x0 < 240
  · cases t1 : tailB n 1 x1
    · exact rnext_three_a b off n cap x0 x1 x2 x3 w hn c0 c1 c2 c3 l0 l1 l2 l3 (by omega) h4 t1
    cases t2 : tailB n 2 x2
    · exact rnext_three_b b off n cap x0 x1 x2 x3 w hn c0 c1 c2 c3 l0 l1 l2 l3 (by omega) h4 t1 t2
    by_cases hr : 2048 ≤ ((x0 : Int) - 224) * 4096 + ((x1 : Int) - 128) * 64 + x2 - 128
    · by_cases hs : ((x0 : Int) - 224) * 4096 + ((x1 : Int) - 128) * 64 + x2 - 128 < 55296
      · exact rnext_three_c b off n cap x0 x1 x2 x3 w hn c0 c1 c2 c3 l0 l1 l2 l3 (by omega) h4 t1 t2 hr hs
      · by_cases hs2 : 57343 < ((x0 : Int) - 224) * 4096 + ((x1 : Int) - 128) * 64 + x2 - 128
        · exact rnext_three_d b off n cap x0 x1 x2 x3 w hn c0 c1 c2 c3 l0 l1 l2 l3 (by omega) h4 t1 t2 hr hs2
        · exact rnext_three_f b off n cap x0 x1 x2 x3 w hn c0 c1 c2 c3 l0 l1 l2 l3 (by omega) h4 t1 t2 hr hs hs2
    · exact rnext_three_e b off n cap x0 x1 x2 x3 w hn c0 c1 c2 c3 l0 l1 l2 l3 (by omega) h4 t1 t2 hr
  · cases t1 : tailB n 1 x1
    · exact rnext_four_a b off n cap x0 x1 x2 x3 w hn c0 c1 c2 c3 l0 l1 l2 l3 (by omega) (by omega) t1
    cases t2 : tailB n 2 x2
    · exact rnext_four_b b off n cap x0 x1 x2 x3 w hn c0 c1 c2 c3 l0 l1 l2 l3 (by omega) (by omega) t1 t2
    cases t3 : tailB n 3 x3
    · exact rnext_four_c b off n cap x0 x1 x2 x3 w hn c0 c1 c2 c3 l0 l1 l2 l3 (by omega) (by omega) t1 t2 t3
    by_cases hr : 65536 ≤ ((x0 : Int) - 240) * 262144 + ((x1 : Int) - 128) * 4096 + ((x2 : Int) - 128) * 64 + x3 - 128
    · by_cases hs : ((x0 : Int) - 240) * 262144 + ((x1 : Int) - 128) * 4096 + ((x2 : Int) - 128) * 64 + x3 - 128 ≤ 1114111
      · exact rnext_four_d b off n cap x0 x1 x2 x3 w hn c0 c1 c2 c3 l0 l1 l2 l3 (by omega) (by omega) t1 t2 t3 hr hs
      · exact rnext_four_f b off n cap x0 x1 x2 x3 w hn c0 c1 c2 c3 l0 l1 l2 l3 (by omega) (by omega) t1 t2 t3 hr hs
    · exact rnext_four_e b off n cap x0 x1 x2 x3 w hn c0 c1 c2 c3 l0 l1 l2 l3 (by omega) (by omega) t1 t2 t3 hr

end Go.Proofs.YteeeekpeokgaeaaDoor.Lns
