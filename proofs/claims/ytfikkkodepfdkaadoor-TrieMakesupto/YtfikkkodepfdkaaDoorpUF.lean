/- The reference's Units. -/
import Derived.Deep.LoopGhost
import Derived.Deep.DeepFit
import Derived.OwnWalk
import Derived.Test.YtfikkkodepfdkaaDoorpUD
namespace Go.Proofs.YtfikkkodepfdkaaDoor.Lns
set_option linter.unusedVariables false
open Go.RowKit Go.ChangeShapes
def By (w : World) (b off : Nat) (s : ByteArray) : Prop := ∀ j, j < s.size → w.cell? ⟨b, off + j, none⟩ = some (.int .u8 (s.get! j).toNat)
theorem By.stay {w w' : World} {b off : Nat} {s : ByteArray} (h : By w b off s) (hb : Below w.heap.size w w') : By w' b off s :=
  fun j hj => (hb.cell (World.block_lt_of_cell? w _ (h j hj))).trans (h j hj)
abbrev Tabs (w : World) : Prop := Lib.Utf8Tabs 0 1 w
def ucells (s : ByteArray) (k : Nat) : List Value := (List.range k).flatMap fun j => [.int .i32 (rn s (pos s j)), .int .i64 (pos s j), .int .i64 (wd s (pos s j))]
theorem ucells_succ (s : ByteArray) (k : Nat) : ucells s (k + 1) = ucells s k ++ [.int .i32 (rn s (pos s k)), .int .i64 (pos s k), .int .i64 (wd s (pos s k))] := by
  simp [ucells, List.range_succ]
theorem info58 : (Tryd.prog.info? 65).map (fun i => (i.zero, i.size, i.bytes)) = some (some (.agg #[.int .i32 0, .int .i64 0, .int .i64 0]), 3, 24) := by kernel_rfl
theorem rnext_at (s : ByteArray) (p b off cap : Nat) (w : World) (hp : p < s.size) (hb : By w b off s) :
    Calls Tryd.prog 48 #[.slice (some ⟨b, off + p, none⟩) (s.size - p) cap] w fun e w' => e = .returned (.tuple #[.int .i32 (rn s p), .int .i64 (wd s p)]) ∧ Below w.heap.size w w' := by
  unfold rn wd
  rw [Go.Lib.decode_at]
  exact rnext_n b (off + p) (s.size - p) cap _ _ _ _ w (by omega) (hb p hp) (fun h => by rw [Nat.add_assoc]; exact hb (p + 1) (by omega)) (fun h => by rw [Nat.add_assoc]; exact hb (p + 2) (by omega)) (fun h => by rw [Nat.add_assoc]; exact hb (p + 3) (by omega)) (bt_lt s p) (bt_lt s (p + 1)) (bt_lt s (p + 2)) (bt_lt s (p + 3))
set_option maxRecDepth 100000 in
theorem rnext_zero (ad : Option Addr) (cap : Nat) (w : World) :
    Calls Tryd.prog 48 #[.slice ad 0 cap] w fun e w' => e = .returned (.tuple #[.int .i32 (-1), .int .i64 0]) ∧ w' = w := by
  go_enter Tryd.func48, Tryd.ntmps48
  go_wp2
  go_ret2
  exact ⟨rfl, rfl⟩
set_option maxHeartbeats 1000000 in
theorem runits_any (s : ByteArray) (b off cap : Nat) (w : World) (hn : s.size ≤ 40000) (hcap : s.size ≤ cap) (hb : By w b off s) :
    Calls Tryd.prog 28 #[.slice (some ⟨b, off, none⟩) s.size cap] w fun e w' => ∃ k v, e = .returned v ∧ Ends s k ∧ w'.ownsRow w.heap.size 65 3 v k (ucells s k) ∧ Below w.heap.size w w' := by
  have HB : Hid (By w b off s) := hb
  clear hb
  obtain ⟨i0, hi, hz0, hz1, hz2⟩ := info_parts info58
  go_enter Tryd.func28, Tryd.ntmps28
  go_wp2
  go_loopg [3, 4] (s.size) (fun g l i wr => ∃ k, g = s.size - pos s k ∧ i = .int .i64 (pos s k) ∧ Hid (∀ j, j < k → pos s j < s.size) ∧ Hid (wr.ownsRow w.heap.size 65 3 l k (ucells s k)) ∧ Hid (Up w.heap.size w wr))
  case atStart => exact ⟨0, rfl, rfl, fun j hj => absurd hj (Nat.not_lt_zero j), ⟨rfl, Or.inl ⟨rfl, rfl⟩⟩, Up.refl w⟩
  case round =>
    obtain ⟨k, hg, rfl, HP, HO, HU⟩ := hrel
    have hle := pos_le s k HP.out
    by_cases hlt : pos s k < s.size
    · have z0 : (0 : Int) ≤ (pos s k : Int) := by omega
      have z1 : ((pos s k : Nat) : Int) < (s.size : Int) := by omega
      have z2 : ((pos s k : Nat) : Int) ≤ (s.size : Int) := by omega
      have z3 : ((s.size : Nat) : Int) ≤ (cap : Int) := by omega
      obtain ⟨y1, y2, y3⟩ := wd_pos s (pos s k) hlt
      have hk := pos_ge s k HP.out
      have c9 := rnext_at s (pos s k) b off (cap - pos s k) wr hlt (HB.out.stay HU.out.1)
      go_wp2_with fail
      refine c9.mono ?_
      rintro e w1 ⟨rfl, hb1⟩
      have HO1 : Hid (w1.ownsRow w.heap.size 65 3 u3 k (ucells s k)) := own_stay HO.out hb1
      have HU1 : Hid (Up w.heap.size w w1) := HU.out.stay hb1
      clear hb1 c9 HO HU
      go_wp2_with (at_builtin; refine wpList_append_own _ rfl _ _ 60 rfl w.heap.size 65 i0 _ 3 24 Tryd.underlying60 hi hz0 hz1 hz2 rfl (by decide) _ _ _ rfl (HO1.out.alloc _) ⟨w1.heap.size, 0, none⟩ 1 1 [.int .i32 (rn s (pos s k)), .int .i64 (pos s k), .int .i64 (wd s (pos s k))] rfl rfl ?c1 ?c2 ?c3 ?c4 ?c5 ?_)
      case c1 =>
        intro j u hj
        match j, hj with
        | 0, hj => simp at hj; subst hj; simp [Addr.add]
        | 1, hj => simp at hj; subst hj; simp [Addr.add]
        | 2, hj => simp at hj; subst hj; simp [Addr.add]
        | (j + 3), hj => simp at hj
      case c2 => intro u hu; simp at hu; rcases hu with rfl | rfl | rfl <;> rfl
      case c3 => unfold maxLen; omega
      case c4 => omega
      case c5 => have := HU1.out.2; simp only [World.size_alloc]; omega
      intro v' w2 hown2 hgr hnil
      have HO2 : Hid (w2.ownsRow w.heap.size 65 3 v' (k + 1) (ucells s (k + 1))) := by
        show w2.ownsRow _ _ _ _ _ _
        rw [ucells_succ]; exact hown2
      have HU2 : Hid (Up w.heap.size w w2) := (HU1.out.alloc _).grown hgr (own_base HO1.out)
      clear hown2 hgr hnil HO1 HU1
      go_wp2
      go_roundg (s.size - pos s (k + 1))
      case measure => simp only [pos]; omega
      case rel => exact ⟨k + 1, rfl, by simp [pos], fun j hj => by
        rcases Nat.lt_succ_iff_lt_or_eq.1 hj with h | h
        · exact HP.out j h
        · rw [h]; exact hlt, HO2, HU2⟩
    · have z1 : ¬ ((pos s k : Nat) : Int) < (s.size : Int) := by omega
      go_wp2_with fail
      go_ret
      exact ⟨k, _, rfl, ⟨by omega, HP.out⟩, HO.out, HU.out.1⟩
theorem runits_zero (ad : Option Addr) (cap : Nat) (w : World) :
    Calls Tryd.prog 28 #[.slice ad 0 cap] w fun e w' => e = .returned (.slice none 0 0) ∧ w' = w := by
  go_enter Tryd.func28, Tryd.ntmps28
  go_wp2
  go_loopg [3, 4] (0) (fun g l i wr => l = .slice none 0 0 ∧ i = .int .i64 0 ∧ wr = w)
  case atStart => exact ⟨rfl, rfl, rfl⟩
  case round =>
    obtain ⟨rfl, rfl, rfl⟩ := hrel
    go_wp2_with fail
    go_ret
    exact ⟨rfl, rfl⟩

end Go.Proofs.YtfikkkodepfdkaaDoor.Lns
