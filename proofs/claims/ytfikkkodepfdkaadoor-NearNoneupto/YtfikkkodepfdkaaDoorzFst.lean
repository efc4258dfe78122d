/- dist: First, Last. -/
import Derived.Test.YtfikkkodepfdkaaDoorzBase
namespace Go.Proofs.YtfikkkodepfdkaaDoor.Qns
set_option linter.unusedVariables false
open Go.RowKit Go.ChangeShapes
def fN (n : Int) : Nat := (min (max n 0) 64).toNat
theorem first_any (n : Int) (w : World) :
    Calls Tryd.prog 64 #[.int .i64 n] w fun e w' => e = .returned (.slice (some ⟨w.heap.size, 0, none⟩) (fN n + 1) (fN n + 1)) ∧ Is w' w.heap.size 0 (fN n + 1) (fun i => (i : Int)) ∧ Up w.heap.size w w' := by
  obtain ⟨M, hm⟩ : ∃ m, fN n = m := ⟨_, rfl⟩
  rw [hm]
  unfold fN at hm
  have hM : M ≤ 64 := by omega
  have hmk := run_make_row' (P := Tryd.prog) 114 3 (.int .i64 0) 8 Tryd.underlying114 info3 rfl .i64 .i64 (M + 1) (by omega) (by omega)
  by_cases h1 : n < 0
  · obtain rfl : M = 0 := by omega
    clear hm
    simp only [Nat.zero_add] at hmk ⊢
    have hmk2 : ∀ (w : World), (Instr.makeSlice 114 (.int .i64 1) (.int .i64 1)).run Tryd.prog w = .ok (.slice (some ⟨w.heap.size, 0, none⟩) 1 1) (w.alloc (.cells (madeCells #[Value.int .i64 0] 1) 3)) := hmk
    clear hmk
    go_enter Tryd.func64, Tryd.ntmps64
    go_wp2

    go_loopg [12] (1) (fun g iv wr => ∃ i : Nat, i ≤ 1 ∧ g = 1 - i ∧ iv = .int .i64 i ∧ Hid (∃ N, IR wr w.heap.size (1) N ∧ ∀ j, j < i → N j = j) ∧ Hid (Up w.heap.size w wr))
    case atStart => exact ⟨0, Nat.zero_le _, rfl, rfl, ⟨fun _ => 0, made_ir w (1), fun j hj => by omega⟩, (Up.refl w).alloc _⟩
    case round =>
      obtain ⟨i, hi, hg, rfl, HN, HU⟩ := hrel
      by_cases hlt : i < 1
      · have z1 : ((i : Nat) : Int) < 1 := by omega
        have z2 : (0 : Int) ≤ (i : Int) := by omega
        have z3 : ¬ (i : Int) < 0 := by omega
        obtain ⟨N, hN, hj⟩ := HN.out
        have hc := hN.cell hlt
        have hf := hN.frozen i
        have HN2 : Hid (IR wr w.heap.size (1) N) := hN
        have HJ : Hid (∀ j, j < i → N j = j) := hj
        clear hN hj HN
        go_wp2
        go_roundg (1 - (i + 1))
        case measure => omega
        case rel =>
          refine ⟨i + 1, by omega, rfl, by go_num, ⟨setN N i i, HN2.out.set i _, ?_⟩, HU.out.setCell (Nat.le_refl _) _⟩
          intro j hj
          unfold setN
          by_cases e : j = i
          · rw [if_pos e, e]
          · rw [if_neg e]; exact HJ.out j (by omega)
      · obtain rfl : i = 1 := by omega
        have z1 : ¬ (1 < 1) := by omega
        go_wp2
        go_ret
        obtain ⟨N, hN, hj⟩ := HN.out
        exact ⟨rfl, hN.is.congr hj, HU.out⟩
  by_cases h2 : 64 < n
  · obtain rfl : M = 64 := by omega
    clear hm
    have hmk2 : ∀ (w : World), (Instr.makeSlice 114 (.int .i64 65) (.int .i64 65)).run Tryd.prog w = .ok (.slice (some ⟨w.heap.size, 0, none⟩) 65 65) (w.alloc (.cells (madeCells #[Value.int .i64 0] 65) 3)) := hmk
    go_enter Tryd.func64, Tryd.ntmps64
    go_wp2

    go_loopg [12] (65) (fun g iv wr => ∃ i : Nat, i ≤ 65 ∧ g = 65 - i ∧ iv = .int .i64 i ∧ Hid (∃ N, IR wr w.heap.size (65) N ∧ ∀ j, j < i → N j = j) ∧ Hid (Up w.heap.size w wr))
    case atStart => exact ⟨0, Nat.zero_le _, rfl, rfl, ⟨fun _ => 0, made_ir w (65), fun j hj => by omega⟩, (Up.refl w).alloc _⟩
    case round =>
      obtain ⟨i, hi, hg, rfl, HN, HU⟩ := hrel
      by_cases hlt : i < 65
      · have z1 : ((i : Nat) : Int) < 65 := by omega
        have z2 : (0 : Int) ≤ (i : Int) := by omega
        have z3 : ¬ (i : Int) < 0 := by omega
        obtain ⟨N, hN, hj⟩ := HN.out
        have hc := hN.cell hlt
        have hf := hN.frozen i
        have HN2 : Hid (IR wr w.heap.size (65) N) := hN
        have HJ : Hid (∀ j, j < i → N j = j) := hj
        clear hN hj HN
        go_wp2
        go_roundg (65 - (i + 1))
        case measure => omega
        case rel =>
          refine ⟨i + 1, by omega, rfl, by go_num, ⟨setN N i i, HN2.out.set i _, ?_⟩, HU.out.setCell (Nat.le_refl _) _⟩
          intro j hj
          unfold setN
          by_cases e : j = i
          · rw [if_pos e, e]
          · rw [if_neg e]; exact HJ.out j (by omega)
      · obtain rfl : i = 65 := by omega
        have z1 : ¬ (65 < 65) := by omega
        go_wp2
        go_ret
        obtain ⟨N, hN, hj⟩ := HN.out
        exact ⟨rfl, hN.is.congr hj, HU.out⟩
  · obtain rfl : n = (M : Int) := by omega
    have h3 : ¬ (M : Int) < 0 := by omega
    clear hm
    have hmk2 : ∀ (w : World), (Instr.makeSlice 114 (.int .i64 ((M : Int) + 1)) (.int .i64 ((M : Int) + 1))).run Tryd.prog w = .ok (.slice (some ⟨w.heap.size, 0, none⟩) (M + 1) (M + 1)) (w.alloc (.cells (madeCells #[Value.int .i64 0] (M + 1)) 3)) := hmk
    go_enter Tryd.func64, Tryd.ntmps64
    go_wp2

    go_loopg [12] (M + 1) (fun g iv wr => ∃ i : Nat, i ≤ M + 1 ∧ g = M + 1 - i ∧ iv = .int .i64 i ∧ Hid (∃ N, IR wr w.heap.size (M + 1) N ∧ ∀ j, j < i → N j = j) ∧ Hid (Up w.heap.size w wr))
    case atStart => exact ⟨0, Nat.zero_le _, rfl, rfl, ⟨fun _ => 0, made_ir w (M + 1), fun j hj => by omega⟩, (Up.refl w).alloc _⟩
    case round =>
      obtain ⟨i, hi, hg, rfl, HN, HU⟩ := hrel
      by_cases hlt : i < M + 1
      · have z1 : ((i : Nat) : Int) < (M : Int) + 1 := by omega
        have z2 : (0 : Int) ≤ (i : Int) := by omega
        have z3 : ¬ (i : Int) < 0 := by omega
        obtain ⟨N, hN, hj⟩ := HN.out
        have hc := hN.cell hlt
        have hf := hN.frozen i
        have HN2 : Hid (IR wr w.heap.size (M + 1) N) := hN
        have HJ : Hid (∀ j, j < i → N j = j) := hj
        clear hN hj HN
        go_wp2
        go_roundg (M + 1 - (i + 1))
        case measure => omega
        case rel =>
          refine ⟨i + 1, by omega, rfl, by go_num, ⟨setN N i i, HN2.out.set i _, ?_⟩, HU.out.setCell (Nat.le_refl _) _⟩
          intro j hj
          unfold setN
          by_cases e : j = i
          · rw [if_pos e, e]
          · rw [if_neg e]; exact HJ.out j (by omega)
      · obtain rfl : i = M + 1 := by omega
        have z1 : ¬ ((M : Int) + 1 < (M : Int) + 1) := by omega
        go_wp2
        go_ret
        obtain ⟨N, hN, hj⟩ := HN.out
        exact ⟨rfl, hN.is.congr hj, HU.out⟩
end Go.Proofs.YtfikkkodepfdkaaDoor.Qns
