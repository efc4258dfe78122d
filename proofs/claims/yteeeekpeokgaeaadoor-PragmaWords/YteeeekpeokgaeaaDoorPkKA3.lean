/- known, tail, ref.Next. -/
import Derived.Test.YteeeekpeokgaeaaDoorProg
import Derived.Test.YteeeekpeokgaeaaDoorgPure
import Derived.WalkKit
import Derived.Below
import Derived.WalkSmall
import Derived.Deep.QuietTactic
import Derived.BigQuiet
import Derived.Shelf.Spec.DecodeRune
import Derived.Deep.LoopGhost
import Derived.Deep.DeepFit
import Derived.OwnWalk
namespace Go.Proofs.YteeeekpeokgaeaaDoor.Lns
set_option linter.unusedVariables false
open Go.RowKit Go.ChangeShapes

theorem known_any (d : Nat × Nat) (w : World) :
    Calls Tryd.prog 69 #[.int .i32 d.1, .int .i64 d.2] w fun e w' => e = .returned (.int .i32 (kn d)) ∧ w' = w := by
  obtain ⟨r, n⟩ := d
  by_cases h1 : r = 65533
  · subst h1
    by_cases h2 : n < 2
    · have hk : kn (65533, n) = -1 := by simp [kn, h2]
      have h2' : (n : Int) < 2 := by omega
      rw [hk]
      go_enter Tryd.func69, Tryd.ntmps69
      go_wp2
      go_ret
      exact ⟨rfl, rfl⟩
    · have hk : kn (65533, n) = 65533 := by simp [kn, h2]
      have h2' : ¬ (n : Int) < 2 := by omega
      rw [hk]
      go_enter Tryd.func69, Tryd.ntmps69
      go_wp2
      go_ret
      exact ⟨rfl, rfl⟩
  · have hk : kn (r, n) = r := by simp [kn, h1]
    have h1' : ¬ (r : Int) = 65533 := by omega
    rw [hk]
    go_enter Tryd.func69, Tryd.ntmps69
    go_wp2
    go_ret
    exact ⟨rfl, rfl⟩

/-- Does a byte go on? -/
def tailB (n i x : Nat) : Bool := decide (i < n) && (decide (128 ≤ x) && decide (x < 192))
open Go.Lib in
theorem dec_one (n x0 x1 x2 x3 : Nat) (h : x0 < 128) : decodeN n x0 x1 x2 x3 = (x0, 1) := by
  unfold decodeN; rw [if_pos h]
open Go.Lib in
theorem dec_bad (n x0 x1 x2 x3 : Nat) (h : 128 ≤ x0) (h0 : x0 < 192 ∨ 248 ≤ x0) (l0 : x0 < 256) : decodeN n x0 x1 x2 x3 = (65533, 1) := by
  unfold decodeN
  repeat' split
  all_goals first | (exfalso; omega) | rfl
theorem tailB_iff (n i x : Nat) : tailB n i x = true ↔ i < n ∧ 128 ≤ x ∧ x < 192 := by
  simp only [tailB, Bool.and_eq_true, decide_eq_true_eq]
theorem tailB_no (n i x : Nat) : tailB n i x = false ↔ ¬ (i < n ∧ 128 ≤ x ∧ x < 192) := by
  rw [← tailB_iff, Bool.not_eq_true]
open Go.Lib in
theorem dec_two (n x0 x1 x2 x3 : Nat) (h0 : 192 ≤ x0) (h1 : x0 < 224) (l1 : x1 < 256) (t1 : tailB n 1 x1 = true) (hr : 128 ≤ ((x0 : Int) - 192) * 64 + x1 - 128) :
    kn (decodeN n x0 x1 x2 x3) = ((x0 : Int) - 192) * 64 + x1 - 128 ∧ (decodeN n x0 x1 x2 x3).2 = 2 := by
  rw [tailB_iff] at t1
  have : decodeN n x0 x1 x2 x3 = (x0 % 32 * 64 + x1 % 64, 2) := by
    unfold decodeN
    repeat' split
    all_goals first | (exfalso; omega) | rfl
  rw [this]
  refine ⟨?_, rfl⟩
  unfold kn; rw [if_neg (fun h => by have h2 := h.2; simp only at h2; omega)]; simp only; omega
open Go.Lib in
theorem dec_two_no (n x0 x1 x2 x3 : Nat) (h0 : 192 ≤ x0) (h1 : x0 < 224) (l1 : x1 < 256) (hr : tailB n 1 x1 = false ∨ ((x0 : Int) - 192) * 64 + x1 - 128 < 128) :
    decodeN n x0 x1 x2 x3 = (65533, 1) := by
  rw [tailB_no] at hr
  unfold decodeN
  repeat' split
  all_goals first | (exfalso; omega) | rfl
open Go.Lib in
theorem dec_three (n x0 x1 x2 x3 : Nat) (h0 : 224 ≤ x0) (h1 : x0 < 240) (t1 : tailB n 1 x1 = true) (t2 : tailB n 2 x2 = true)
    (hr : 2048 ≤ ((x0 : Int) - 224) * 4096 + ((x1 : Int) - 128) * 64 + x2 - 128) (hs : ((x0 : Int) - 224) * 4096 + ((x1 : Int) - 128) * 64 + x2 - 128 < 55296 ∨ 57343 < ((x0 : Int) - 224) * 4096 + ((x1 : Int) - 128) * 64 + x2 - 128) :
    kn (decodeN n x0 x1 x2 x3) = ((x0 : Int) - 224) * 4096 + ((x1 : Int) - 128) * 64 + x2 - 128 ∧ (decodeN n x0 x1 x2 x3).2 = 3 := by
  rw [tailB_iff] at t1 t2
  have : decodeN n x0 x1 x2 x3 = (x0 % 16 * 4096 + x1 % 64 * 64 + x2 % 64, 3) := by
    unfold decodeN
    repeat' split
    all_goals first | (exfalso; omega) | rfl
  rw [this]
  refine ⟨?_, rfl⟩
  unfold kn; rw [if_neg (fun h => by have h2 := h.2; simp only at h2; omega)]; simp only; omega
open Go.Lib in
theorem dec_three_no (n x0 x1 x2 x3 : Nat) (h0 : 224 ≤ x0) (h1 : x0 < 240) (l1 : x1 < 256) (l2 : x2 < 256)
    (hr : tailB n 1 x1 = false ∨ tailB n 2 x2 = false ∨ ((x0 : Int) - 224) * 4096 + ((x1 : Int) - 128) * 64 + x2 - 128 < 2048 ∨ (55296 ≤ ((x0 : Int) - 224) * 4096 + ((x1 : Int) - 128) * 64 + x2 - 128 ∧ ((x0 : Int) - 224) * 4096 + ((x1 : Int) - 128) * 64 + x2 - 128 ≤ 57343)) :
    decodeN n x0 x1 x2 x3 = (65533, 1) := by
  rw [tailB_no, tailB_no] at hr
  unfold decodeN
  repeat' split
  all_goals first | (exfalso; omega) | rfl
open Go.Lib in
theorem dec_four (n x0 x1 x2 x3 : Nat) (h0 : 240 ≤ x0) (h1 : x0 < 248) (t1 : tailB n 1 x1 = true) (t2 : tailB n 2 x2 = true) (t3 : tailB n 3 x3 = true)
    (hr : 65536 ≤ ((x0 : Int) - 240) * 262144 + ((x1 : Int) - 128) * 4096 + ((x2 : Int) - 128) * 64 + x3 - 128) (hs : ((x0 : Int) - 240) * 262144 + ((x1 : Int) - 128) * 4096 + ((x2 : Int) - 128) * 64 + x3 - 128 ≤ 1114111) :
    kn (decodeN n x0 x1 x2 x3) = ((x0 : Int) - 240) * 262144 + ((x1 : Int) - 128) * 4096 + ((x2 : Int) - 128) * 64 + x3 - 128 ∧ (decodeN n x0 x1 x2 x3).2 = 4 := by
  rw [tailB_iff] at t1 t2 t3
  have : decodeN n x0 x1 x2 x3 = (x0 % 8 * 262144 + x1 % 64 * 4096 + x2 % 64 * 64 + x3 % 64, 4) := by
    unfold decodeN
    repeat' split
    all_goals first | (exfalso; omega) | rfl
  rw [this]
  refine ⟨?_, rfl⟩
  unfold kn; rw [if_neg (fun h => by have h2 := h.2; simp only at h2; omega)]; simp only; omega
open Go.Lib in
theorem dec_four_no (n x0 x1 x2 x3 : Nat) (h0 : 240 ≤ x0) (h1 : x0 < 248) (l1 : x1 < 256) (l2 : x2 < 256) (l3 : x3 < 256)
    (hr : tailB n 1 x1 = false ∨ tailB n 2 x2 = false ∨ tailB n 3 x3 = false ∨ ((x0 : Int) - 240) * 262144 + ((x1 : Int) - 128) * 4096 + ((x2 : Int) - 128) * 64 + x3 - 128 < 65536 ∨ 1114111 < ((x0 : Int) - 240) * 262144 + ((x1 : Int) - 128) * 4096 + ((x2 : Int) - 128) * 64 + x3 - 128) :
    decodeN n x0 x1 x2 x3 = (65533, 1) := by
  rw [tailB_no, tailB_no, tailB_no] at hr
  unfold decodeN
  repeat' split
  all_goals first | (exfalso; omega) | rfl
theorem kn_bad : kn (65533, 1) = -1 := rfl
end Go.Proofs.YteeeekpeokgaeaaDoor.Lns
/- The library contracts at this program. -/
namespace Go.Proofs
open Go.Shelf
def Tryd.lays7n32_ren : Go.Shelf.Ren := ⟨fun | 32 => 68 | 49 => 81 | n => n, fun | 30 => 22 | 21 => 21 | 3 => 3 | 0 => 0 | 5 => 5 | 4 => 4 | 33 => 87 | 66 => 115 | 25 => 76 | 69 => 118 | 68 => 117 | n => n, fun | 2 => 1 | 3 => 2 | n => n⟩
theorem Tryd.lays7n32 : Go.Proofs.Lays7.n32 Tryd.prog Tryd.lays7n32_ren := {
  mixed := by kernel_rfl
  f32 := Tryd.func68.trans (congrArg some (by kernel_rfl))
  f49 := Tryd.func81.trans (congrArg some (by kernel_rfl))
  t0 := Tryd.underlying0
  a0 := Tryd.isAgg0
  z0 := Tryd.sizeOf0
  v0 := Tryd.zeroValue0
  i0 := by kernel_rfl
  t3 := Tryd.underlying3
  a3 := Tryd.isAgg3
  z3 := Tryd.sizeOf3
  v3 := Tryd.zeroValue3
  i3 := by kernel_rfl
  t4 := Tryd.underlying4
  a4 := Tryd.isAgg4
  z4 := Tryd.sizeOf4
  v4 := Tryd.zeroValue4
  i4 := by kernel_rfl
  t5 := Tryd.underlying5
  a5 := Tryd.isAgg5
  z5 := Tryd.sizeOf5
  v5 := Tryd.zeroValue5
  i5 := by kernel_rfl
  t21 := Tryd.underlying21
  a21 := Tryd.isAgg21
  z21 := Tryd.sizeOf21
  v21 := Tryd.zeroValue21
  i21 := by kernel_rfl
  t25 := Tryd.underlying76
  a25 := Tryd.isAgg76
  z25 := Tryd.sizeOf76
  v25 := Tryd.zeroValue76
  i25 := by kernel_rfl
  t30 := Tryd.underlying22
  a30 := Tryd.isAgg22
  z30 := Tryd.sizeOf22
  v30 := Tryd.zeroValue22
  i30 := by kernel_rfl
  t33 := Tryd.underlying87
  a33 := Tryd.isAgg87
  z33 := Tryd.sizeOf87
  v33 := Tryd.zeroValue87
  i33 := by kernel_rfl
  t66 := Tryd.underlying115
  a66 := Tryd.isAgg115
  z66 := Tryd.sizeOf115
  t68 := Tryd.underlying117
  a68 := Tryd.isAgg117
  z68 := Tryd.sizeOf117
  v68 := Tryd.zeroValue117
  i68 := by kernel_rfl
  t69 := Tryd.underlying118
  a69 := Tryd.isAgg118
  z69 := Tryd.sizeOf118
  v69 := Tryd.zeroValue118
  i69 := by kernel_rfl
  g2 := by kernel_rfl
  g3 := by kernel_rfl }
open Go.RowKit Go.Lib in
theorem Tryd.utf8_DecodeRune (s : ByteArray) (b off cap : Nat) (w : World) (hT : Lib.Utf8Tabs 1 2 w)
    (hp : ∀ j, j < s.size → w.cell? ⟨b, off + j, none⟩ = some (.int .u8 (s.get! j).toNat)) :
    Calls Tryd.prog 68 #[.slice (some ⟨b, off, none⟩) s.size cap] w fun e w' => e = .returned (.tuple #[.int .i32 (Lib.decodeGo s).1, .int .i64 (Lib.decodeGo s).2]) ∧ Below w.heap.size w w' := Any7.utf8_DecodeRune Tryd.lays7n32 s b off cap w hT hp
end Go.Proofs
/- utf.Next; what lies in memory. -/
namespace Go.Proofs.YteeeekpeokgaeaaDoor.Lns
set_option linter.unusedVariables false
open Go.RowKit Go.ChangeShapes

/-- A fact that no tactic takes for a rule. -/
def Hid (p : Prop) : Prop := p
theorem Hid.out {p : Prop} (h : Hid p) : p := h

/-- So many bytes lie there. -/
def By (w : World) (b off : Nat) (s : ByteArray) : Prop := ∀ j, j < s.size → w.cell? ⟨b, off + j, none⟩ = some (.int .u8 (s.get! j).toNat)
theorem By.stay {w w' : World} {b off : Nat} {s : ByteArray} (h : By w b off s) (hb : Below w.heap.size w w') : By w' b off s :=
  fun j hj => (hb.cell (World.block_lt_of_cell? w _ (h j hj))).trans (h j hj)
abbrev Tabs (w : World) : Prop := Lib.Utf8Tabs 1 2 w
theorem tabs_stay {w w' : World} (h : Tabs w) (hb : Below w.heap.size w w') : Tabs w' :=
  ⟨fun c hc => (hb.cell (World.block_lt_of_cell? w _ (h.1 c hc))).trans (h.1 c hc),
   fun i hi => ⟨(hb.cell (World.block_lt_of_cell? w _ (h.2 i hi).1)).trans (h.2 i hi).1, (hb.cell (World.block_lt_of_cell? w _ (h.2 i hi).2)).trans (h.2 i hi).2⟩⟩
/-- The world has grown from there on. -/
def Up (B : Nat) (a w : World) : Prop := Below B a w ∧ B ≤ w.heap.size
theorem Up.refl (w : World) : Up w.heap.size w w := ⟨Below.refl _ _, Nat.le_refl _⟩
theorem Up.stay {B : Nat} {a w w' : World} (h : Up B a w) (hb : Below w.heap.size w w') : Up B a w' := ⟨h.1.trans (hb.mono h.2), Nat.le_trans h.2 hb.size⟩
theorem Up.alloc {B : Nat} {a w : World} (h : Up B a w) (o : Obj) : Up B a (w.alloc o) := h.stay ((Below.refl _ _).alloc (Nat.le_refl _) o)

/-- The bytes from a place on. -/
def from_ (s : ByteArray) (p : Nat) : ByteArray := ⟨s.data.extract p s.data.size⟩
theorem from_size (s : ByteArray) (p : Nat) : (from_ s p).size = s.size - p := by
  show (s.data.extract p s.data.size).size = s.data.size - p
  simp
theorem from_get (s : ByteArray) (p i : Nat) : (from_ s p).get! i = s.get! (p + i) := by
  show (s.data.extract p s.data.size)[i]! = s.data[p + i]!
  simp only [getElem!_def, Array.getElem?_extract, Nat.min_self]
  by_cases h : i < s.data.size - p
  · rw [if_pos h]
  · rw [if_neg h, Array.getElem?_eq_none (by omega)]
theorem from_decode (s : ByteArray) (p i : Nat) : Utf8.decode (from_ s p) i = Utf8.decode s (p + i) := by
  rw [Go.Lib.decode_at, Go.Lib.decode_at, from_size, from_get, from_get, from_get, from_get]
  rw [show s.size - p - i = s.size - (p + i) by omega]
  rfl
theorem from_decodeGo (s : ByteArray) (p : Nat) (h : p < s.size) : Lib.decodeGo (from_ s p) = Utf8.decode s p := by
  unfold Lib.decodeGo
  rw [if_neg (by rw [from_size]; omega), from_decode, Nat.add_zero]

theorem next_go (s : ByteArray) (b off cap : Nat) (w : World) (hT : Tabs w) (hb : By w b off s) :
    Calls Tryd.prog 53 #[.slice (some ⟨b, off, none⟩) s.size cap] w fun e w' => e = .returned (.tuple #[.int .i32 (kn (Lib.decodeGo s)), .int .i64 (Lib.decodeGo s).2]) ∧ Below w.heap.size w w' := by
  have c := Tryd.utf8_DecodeRune s b off cap w hT hb
  generalize Lib.decodeGo s = d at c ⊢
  generalize s.size = n at c ⊢
  clear hT hb
  go_enter Tryd.func53, Tryd.ntmps53
  go_wp2_with fail
  refine c.mono ?_
  rintro e w1 ⟨rfl, hb⟩
  go_wp2_with fail
  refine (known_any d _).mono ?_
  rintro e w2 ⟨rfl, rfl⟩
  go_wp2
  go_ret2
  exact ⟨rfl, hb⟩
theorem next_at (s : ByteArray) (p b off cap : Nat) (w : World) (hp : p < s.size) (hT : Tabs w) (hb : By w b off s) :
    Calls Tryd.prog 53 #[.slice (some ⟨b, off + p, none⟩) (s.size - p) cap] w fun e w' => e = .returned (.tuple #[.int .i32 (rn s p), .int .i64 (wd s p)]) ∧ Below w.heap.size w w' := by
  have c := next_go (from_ s p) b (off + p) cap w hT (fun j hj => by
    rw [from_get, Nat.add_assoc]
    exact hb (p + j) (by rw [from_size] at hj; omega))
  rw [from_decodeGo s p hp, from_size] at c
  exact c
/-- The cells of so many signs. -/
def ucells (s : ByteArray) (k : Nat) : List Value := (List.range k).flatMap fun j => [.int .i32 (rn s (pos s j)), .int .i64 (pos s j), .int .i64 (wd s (pos s j))]
theorem ucells_succ (s : ByteArray) (k : Nat) : ucells s (k + 1) = ucells s k ++ [.int .i32 (rn s (pos s k)), .int .i64 (pos s k), .int .i64 (wd s (pos s k))] := by
  simp [ucells, List.range_succ]
theorem info58 : (Tryd.prog.info? 74).map (fun i => (i.zero, i.size, i.bytes)) = some (some (.agg #[.int .i32 0, .int .i64 0, .int .i64 0]), 3, 24) := by kernel_rfl
theorem own_stay {w w' : World} {base e size n : Nat} {v : Value} {xs : List Value} (h : w.ownsRow base e size v n xs) (hb : Below w.heap.size w w') : w'.ownsRow base e size v n xs := by
  obtain ⟨h1, h2 | ⟨g, cap, cur, rfl, hg, hh, h3⟩⟩ := h
  · exact ⟨h1, Or.inl h2⟩
  · refine ⟨h1, Or.inr ⟨g, cap, cur, rfl, hg, ?_, h3⟩⟩
    rw [hb.block g (Array.getElem?_eq_some_iff.1 hh).1]; exact hh
theorem own_base {w : World} {base e size n : Nat} {v : Value} {xs : List Value} (h : w.ownsRow base e size v n xs) : ∀ k, v.ownBlock = some k → base ≤ k := by
  obtain ⟨h1, ⟨rfl, _⟩ | ⟨g, cap, cur, rfl, hg, hh, h3⟩⟩ := h
  · intro k hk; cases hk
  · intro k hk; cases hk; exact hg
theorem Up.grown {B : Nat} {a w w' : World} {row : Option Nat} (h : Up B a w) (hg : w.grownBy w' row) (hr : ∀ k, row = some k → B ≤ k) : Up B a w' := ⟨h.1.grown hg h.2 hr, Nat.le_trans h.2 hg.size⟩
set_option maxHeartbeats 1000000 in
theorem units_any (s : ByteArray) (b off cap : Nat) (w : World) (hn : s.size ≤ 40000) (hcap : s.size ≤ cap) (hT : Tabs w) (hb : By w b off s) :
    Calls Tryd.prog 41 #[.slice (some ⟨b, off, none⟩) s.size cap] w fun e w' => ∃ k v, e = .returned v ∧ Ends s k ∧ w'.ownsRow w.heap.size 74 3 v k (ucells s k) ∧ Below w.heap.size w w' := by
  have HT : Hid (Tabs w) := hT
  clear hT
  have HB : Hid (By w b off s) := hb
  clear hb
  obtain ⟨i0, hi, hz0, hz1, hz2⟩ := info_parts info58
  go_enter Tryd.func41, Tryd.ntmps41
  go_wp2
  go_loopg [3, 4] (s.size) (fun g l i wr => ∃ k, g = s.size - pos s k ∧ i = .int .i64 (pos s k) ∧ Hid (∀ j, j < k → pos s j < s.size) ∧ Hid (wr.ownsRow w.heap.size 74 3 l k (ucells s k)) ∧ Hid (Up w.heap.size w wr))
  case atStart => exact ⟨0, rfl, rfl, fun j hj => absurd hj (Nat.not_lt_zero j), ⟨rfl, Or.inl ⟨rfl, rfl⟩⟩, Up.refl w⟩
  case round =>
    obtain ⟨k, hg, rfl, HP, HO, HU⟩ := hrel
    have hle := pos_le s k HP.out
    by_cases hlt : pos s k < s.size
    · have z0 : (0 : Int) ≤ (pos s k : Int) := by omega
      have z1 : ((pos s k : Nat) : Int) < (s.size : Int) := by omega
      have z2 : ((pos s k : Nat) : Int) ≤ (s.size : Int) := by omega
      have z3 : ((s.size : Nat) : Int) ≤ (cap : Int) := by omega
      obtain ⟨y1, y2, y3⟩ := wd_pos s (pos s k) hlt
      have hk := pos_ge s k HP.out
      have c9 := next_at s (pos s k) b off (cap - pos s k) wr hlt (tabs_stay HT.out HU.out.1) (HB.out.stay HU.out.1)
      go_wp2_with fail
      refine c9.mono ?_
      rintro e w1 ⟨rfl, hb1⟩
      have HO1 : Hid (w1.ownsRow w.heap.size 74 3 u3 k (ucells s k)) := own_stay HO.out hb1
      have HU1 : Hid (Up w.heap.size w w1) := HU.out.stay hb1
      clear hb1 c9 HO HU
      go_wp2_with (at_builtin; refine wpList_append_own _ rfl _ _ 71 rfl w.heap.size 74 i0 _ 3 24 Tryd.underlying71 hi hz0 hz1 hz2 rfl (by decide) _ _ _ rfl (HO1.out.alloc _) ⟨w1.heap.size, 0, none⟩ 1 1 [.int .i32 (rn s (pos s k)), .int .i64 (pos s k), .int .i64 (wd s (pos s k))] rfl rfl ?c1 ?c2 ?c3 ?c4 ?c5 ?_)
      case c1 =>
        intro j u hj
        match j, hj with
        | 0, hj => simp at hj; subst hj; simp [Addr.add]
        | 1, hj => simp at hj; subst hj; simp [Addr.add]
        | 2, hj => simp at hj; subst hj; simp [Addr.add]
        | (j + 3), hj => simp at hj
      case c2 => intro u hu; simp at hu; rcases hu with rfl | rfl | rfl <;> rfl
      case c3 => unfold maxLen; omega
      case c4 => omega
      case c5 => have := HU1.out.2; simp only [World.size_alloc]; omega
      intro v' w2 hown2 hgr hnil
      have HO2 : Hid (w2.ownsRow w.heap.size 74 3 v' (k + 1) (ucells s (k + 1))) := by
        show w2.ownsRow _ _ _ _ _ _
        rw [ucells_succ]; exact hown2
      have HU2 : Hid (Up w.heap.size w w2) := (HU1.out.alloc _).grown hgr (own_base HO1.out)
      clear hown2 hgr hnil HO1 HU1
      go_wp2
      go_roundg (s.size - pos s (k + 1))
      case measure => simp only [pos]; omega
      case rel => exact ⟨k + 1, rfl, by simp [pos], fun j hj => by
        rcases Nat.lt_succ_iff_lt_or_eq.1 hj with h | h
        · exact HP.out j h
        · rw [h]; exact hlt, HO2, HU2⟩
    · have z1 : ¬ ((pos s k : Nat) : Int) < (s.size : Int) := by omega
      go_wp2_with fail
      go_ret
      exact ⟨k, _, rfl, ⟨by omega, HP.out⟩, HO.out, HU.out.1⟩
end Go.Proofs.YteeeekpeokgaeaaDoor.Lns
