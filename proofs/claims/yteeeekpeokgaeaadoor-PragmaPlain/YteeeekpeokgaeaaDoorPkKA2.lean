/- known, tail, ref.Next. -/
import Derived.Test.YteeeekpeokgaeaaDoorProg
import Derived.Test.YteeeekpeokgaeaaDoorgPure
import Derived.WalkKit
import Derived.Below
import Derived.WalkSmall
import Derived.Deep.QuietTactic
import Derived.BigQuiet
import Derived.Shelf.Spec.DecodeRune
namespace Go.Proofs.YteeeekpeokgaeaaDoor.Lns
set_option linter.unusedVariables false
open Go.RowKit Go.ChangeShapes

theorem known_any (d : Nat × Nat) (w : World) :
    Calls Tryd.prog 69 #[.int .i32 d.1, .int .i64 d.2] w fun e w' => e = .returned (.int .i32 (kn d)) ∧ w' = w := by
  obtain ⟨r, n⟩ := d
  by_cases h1 : r = 65533
  · subst h1
    by_cases h2 : n < 2
    · have hk : kn (65533, n) = -1 := by simp [kn, h2]
      have h2' : (n : Int) < 2 := by omega
      rw [hk]
      go_enter Tryd.func69, Tryd.ntmps69
      go_wp2
      go_ret
      exact ⟨rfl, rfl⟩
    · have hk : kn (65533, n) = 65533 := by simp [kn, h2]
      have h2' : ¬ (n : Int) < 2 := by omega
      rw [hk]
      go_enter Tryd.func69, Tryd.ntmps69
      go_wp2
      go_ret
      exact ⟨rfl, rfl⟩
  · have hk : kn (r, n) = r := by simp [kn, h1]
    have h1' : ¬ (r : Int) = 65533 := by omega
    rw [hk]
    go_enter Tryd.func69, Tryd.ntmps69
    go_wp2
    go_ret
    exact ⟨rfl, rfl⟩

/-- Does a byte go on? -/
def tailB (n i x : Nat) : Bool := decide (i < n) && (decide (128 ≤ x) && decide (x < 192))
open Go.Lib in
theorem dec_one (n x0 x1 x2 x3 : Nat) (h : x0 < 128) : decodeN n x0 x1 x2 x3 = (x0, 1) := by
  unfold decodeN; rw [if_pos h]
open Go.Lib in
theorem dec_bad (n x0 x1 x2 x3 : Nat) (h : 128 ≤ x0) (h0 : x0 < 192 ∨ 248 ≤ x0) (l0 : x0 < 256) : decodeN n x0 x1 x2 x3 = (65533, 1) := by
  unfold decodeN
  repeat' split
  all_goals first | (exfalso; omega) | rfl
theorem tailB_iff (n i x : Nat) : tailB n i x = true ↔ i < n ∧ 128 ≤ x ∧ x < 192 := by
  simp only [tailB, Bool.and_eq_true, decide_eq_true_eq]
theorem tailB_no (n i x : Nat) : tailB n i x = false ↔ ¬ (i < n ∧ 128 ≤ x ∧ x < 192) := by
  rw [← tailB_iff, Bool.not_eq_true]
open Go.Lib in
theorem dec_two (n x0 x1 x2 x3 : Nat) (h0 : 192 ≤ x0) (h1 : x0 < 224) (l1 : x1 < 256) (t1 : tailB n 1 x1 = true) (hr : 128 ≤ ((x0 : Int) - 192) * 64 + x1 - 128) :
    kn (decodeN n x0 x1 x2 x3) = ((x0 : Int) - 192) * 64 + x1 - 128 ∧ (decodeN n x0 x1 x2 x3).2 = 2 := by
  rw [tailB_iff] at t1
  have : decodeN n x0 x1 x2 x3 = (x0 % 32 * 64 + x1 % 64, 2) := by
    unfold decodeN
    repeat' split
    all_goals first | (exfalso; omega) | rfl
  rw [this]
  refine ⟨?_, rfl⟩
  unfold kn; rw [if_neg (fun h => by have h2 := h.2; simp only at h2; omega)]; simp only; omega
open Go.Lib in
theorem dec_two_no (n x0 x1 x2 x3 : Nat) (h0 : 192 ≤ x0) (h1 : x0 < 224) (l1 : x1 < 256) (hr : tailB n 1 x1 = false ∨ ((x0 : Int) - 192) * 64 + x1 - 128 < 128) :
    decodeN n x0 x1 x2 x3 = (65533, 1) := by
  rw [tailB_no] at hr
  unfold decodeN
  repeat' split
  all_goals first | (exfalso; omega) | rfl
open Go.Lib in
theorem dec_three (n x0 x1 x2 x3 : Nat) (h0 : 224 ≤ x0) (h1 : x0 < 240) (t1 : tailB n 1 x1 = true) (t2 : tailB n 2 x2 = true)
    (hr : 2048 ≤ ((x0 : Int) - 224) * 4096 + ((x1 : Int) - 128) * 64 + x2 - 128) (hs : ((x0 : Int) - 224) * 4096 + ((x1 : Int) - 128) * 64 + x2 - 128 < 55296 ∨ 57343 < ((x0 : Int) - 224) * 4096 + ((x1 : Int) - 128) * 64 + x2 - 128) :
    kn (decodeN n x0 x1 x2 x3) = ((x0 : Int) - 224) * 4096 + ((x1 : Int) - 128) * 64 + x2 - 128 ∧ (decodeN n x0 x1 x2 x3).2 = 3 := by
  rw [tailB_iff] at t1 t2
  have : decodeN n x0 x1 x2 x3 = (x0 % 16 * 4096 + x1 % 64 * 64 + x2 % 64, 3) := by
    unfold decodeN
    repeat' split
    all_goals first | (exfalso; omega) | rfl
  rw [this]
  refine ⟨?_, rfl⟩
  unfold kn; rw [if_neg (fun h => by have h2 := h.2; simp only at h2; omega)]; simp only; omega
open Go.Lib in
theorem dec_three_no (n x0 x1 x2 x3 : Nat) (h0 : 224 ≤ x0) (h1 : x0 < 240) (l1 : x1 < 256) (l2 : x2 < 256)
    (hr : tailB n 1 x1 = false ∨ tailB n 2 x2 = false ∨ ((x0 : Int) - 224) * 4096 + ((x1 : Int) - 128) * 64 + x2 - 128 < 2048 ∨ (55296 ≤ ((x0 : Int) - 224) * 4096 + ((x1 : Int) - 128) * 64 + x2 - 128 ∧ ((x0 : Int) - 224) * 4096 + ((x1 : Int) - 128) * 64 + x2 - 128 ≤ 57343)) :
    decodeN n x0 x1 x2 x3 = (65533, 1) := by
  rw [tailB_no, tailB_no] at hr
  unfold decodeN
  repeat' split
  all_goals first | (exfalso; omega) | rfl
open Go.Lib in
theorem dec_four (n x0 x1 x2 x3 : Nat) (h0 : 240 ≤ x0) (h1 : x0 < 248) (t1 : tailB n 1 x1 = true) (t2 : tailB n 2 x2 = true) (t3 : tailB n 3 x3 = true)
    (hr : 65536 ≤ ((x0 : Int) - 240) * 262144 + ((x1 : Int) - 128) * 4096 + ((x2 : Int) - 128) * 64 + x3 - 128) (hs : ((x0 : Int) - 240) * 262144 + ((x1 : Int) - 128) * 4096 + ((x2 : Int) - 128) * 64 + x3 - 128 ≤ 1114111) :
    kn (decodeN n x0 x1 x2 x3) = ((x0 : Int) - 240) * 262144 + ((x1 : Int) - 128) * 4096 + ((x2 : Int) - 128) * 64 + x3 - 128 ∧ (decodeN n x0 x1 x2 x3).2 = 4 := by
  rw [tailB_iff] at t1 t2 t3
  have : decodeN n x0 x1 x2 x3 = (x0 % 8 * 262144 + x1 % 64 * 4096 + x2 % 64 * 64 + x3 % 64, 4) := by
    unfold decodeN
    repeat' split
    all_goals first | (exfalso; omega) | rfl
  rw [this]
  refine ⟨?_, rfl⟩
  unfold kn; rw [if_neg (fun h => by have h2 := h.2; simp only at h2; omega)]; simp only; omega
open Go.Lib in
theorem dec_four_no (n x0 x1 x2 x3 : Nat) (h0 : 240 ≤ x0) (h1 : x0 < 248) (l1 : x1 < 256) (l2 : x2 < 256) (l3 : x3 < 256)
    (hr : tailB n 1 x1 = false ∨ tailB n 2 x2 = false ∨ tailB n 3 x3 = false ∨ ((x0 : Int) - 240) * 262144 + ((x1 : Int) - 128) * 4096 + ((x2 : Int) - 128) * 64 + x3 - 128 < 65536 ∨ 1114111 < ((x0 : Int) - 240) * 262144 + ((x1 : Int) - 128) * 4096 + ((x2 : Int) - 128) * 64 + x3 - 128) :
    decodeN n x0 x1 x2 x3 = (65533, 1) := by
  rw [tailB_no, tailB_no, tailB_no] at hr
  unfold decodeN
  repeat' split
  all_goals first | (exfalso; omega) | rfl
theorem kn_bad : kn (65533, 1) = -1 := rfl
end Go.Proofs.YteeeekpeokgaeaaDoor.Lns
/- The library contracts at this program. -/
namespace Go.Proofs
open Go.Shelf
def Tryd.lays7n32_ren : Go.Shelf.Ren := ⟨fun | 32 => 68 | 49 => 81 | n => n, fun | 30 => 22 | 21 => 21 | 3 => 3 | 0 => 0 | 5 => 5 | 4 => 4 | 33 => 87 | 66 => 115 | 25 => 76 | 69 => 118 | 68 => 117 | n => n, fun | 2 => 1 | 3 => 2 | n => n⟩
theorem Tryd.lays7n32 : Go.Proofs.Lays7.n32 Tryd.prog Tryd.lays7n32_ren := {
  mixed := by kernel_rfl
  f32 := Tryd.func68.trans (congrArg some (by kernel_rfl))
  f49 := Tryd.func81.trans (congrArg some (by kernel_rfl))
  t0 := Tryd.underlying0
  a0 := Tryd.isAgg0
  z0 := Tryd.sizeOf0
  v0 := Tryd.zeroValue0
  i0 := by kernel_rfl
  t3 := Tryd.underlying3
  a3 := Tryd.isAgg3
  z3 := Tryd.sizeOf3
  v3 := Tryd.zeroValue3
  i3 := by kernel_rfl
  t4 := Tryd.underlying4
  a4 := Tryd.isAgg4
  z4 := Tryd.sizeOf4
  v4 := Tryd.zeroValue4
  i4 := by kernel_rfl
  t5 := Tryd.underlying5
  a5 := Tryd.isAgg5
  z5 := Tryd.sizeOf5
  v5 := Tryd.zeroValue5
  i5 := by kernel_rfl
  t21 := Tryd.underlying21
  a21 := Tryd.isAgg21
  z21 := Tryd.sizeOf21
  v21 := Tryd.zeroValue21
  i21 := by kernel_rfl
  t25 := Tryd.underlying76
  a25 := Tryd.isAgg76
  z25 := Tryd.sizeOf76
  v25 := Tryd.zeroValue76
  i25 := by kernel_rfl
  t30 := Tryd.underlying22
  a30 := Tryd.isAgg22
  z30 := Tryd.sizeOf22
  v30 := Tryd.zeroValue22
  i30 := by kernel_rfl
  t33 := Tryd.underlying87
  a33 := Tryd.isAgg87
  z33 := Tryd.sizeOf87
  v33 := Tryd.zeroValue87
  i33 := by kernel_rfl
  t66 := Tryd.underlying115
  a66 := Tryd.isAgg115
  z66 := Tryd.sizeOf115
  t68 := Tryd.underlying117
  a68 := Tryd.isAgg117
  z68 := Tryd.sizeOf117
  v68 := Tryd.zeroValue117
  i68 := by kernel_rfl
  t69 := Tryd.underlying118
  a69 := Tryd.isAgg118
  z69 := Tryd.sizeOf118
  v69 := Tryd.zeroValue118
  i69 := by kernel_rfl
  g2 := by kernel_rfl
  g3 := by kernel_rfl }
open Go.RowKit Go.Lib in
theorem Tryd.utf8_DecodeRune (s : ByteArray) (b off cap : Nat) (w : World) (hT : Lib.Utf8Tabs 1 2 w)
    (hp : ∀ j, j < s.size → w.cell? ⟨b, off + j, none⟩ = some (.int .u8 (s.get! j).toNat)) :
    Calls Tryd.prog 68 #[.slice (some ⟨b, off, none⟩) s.size cap] w fun e w' => e = .returned (.tuple #[.int .i32 (Lib.decodeGo s).1, .int .i64 (Lib.decodeGo s).2]) ∧ Below w.heap.size w w' := Any7.utf8_DecodeRune Tryd.lays7n32 s b off cap w hT hp
end Go.Proofs
