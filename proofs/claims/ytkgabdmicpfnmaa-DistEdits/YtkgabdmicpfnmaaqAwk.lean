/- Awake. -/
import Derived.Test.YtkgabdmicpfnmaaqOf
namespace Go.Proofs.Ytkgabdmicpfnmaa
set_option linter.unusedVariables false
open Go.RowKit Go.ChangeShapes
def i32c (x : Int) : Value := .int .i32 x
theorem rs_new (w : World) (l : List Int) : Rs (w.alloc (.cells (l.map i32c).toArray 21)) w.heap.size 0 l.length (at_ l) := by
  intro i hi
  have h := World.rowIs_alloc w (l.map i32c).toArray 21 (fun i => i32c (at_ l i)) (fun i hi => by
    have hl : i < l.length := by simpa using hi
    simp [at_, List.getD, List.getElem?_eq_getElem hl])
  have := World.rowIs.cell h (i := i) (by simpa using hi)
  rw [Nat.zero_add]
  exact this
theorem far_abcd : dd (at_ [97, 98, 99, 100]) (at_ [97, 99, 98, 100]) 4 4 = 1 := by
  have h1 : far [97, 98, 99, 100] [97, 99, 98, 100] ≤ 1 := far_turn [97] [100] 98 99
  have h2 : far [97, 98, 99, 100] [97, 99, 98, 100] ≠ 0 := fun h => absurd ((far_zero _ _).1 h) (by decide)
  have h3 : dd (at_ [97, 98, 99, 100]) (at_ [97, 99, 98, 100]) 4 4 = far [97, 98, 99, 100] [97, 99, 98, 100] := rfl
  omega
theorem far_ca : dd (at_ [99, 97]) (at_ [97, 98, 99]) 2 3 = 3 := by
  simp [dd_s, dd_0, dd_i, at_]
theorem awake_any (w : World) : Calls Try.prog 9 #[] w fun e w' => e = .returned (.bool true) ∧ Up w.heap.size w w' := by
  obtain ⟨wa, hwa⟩ : ∃ x, (w.alloc (.cells #[.int .i32 97, .int .i32 98, .int .i32 99, .int .i32 100] 21)).alloc (.cells #[.int .i32 97, .int .i32 99, .int .i32 98, .int .i32 100] 21) = x := ⟨_, rfl⟩
  have ha : Rs wa w.heap.size 0 4 (at_ [97, 98, 99, 100]) := by
    rw [← hwa]
    exact (rs_new w [97, 98, 99, 100]).stay (((Up.refl _).alloc _).1)
  have hb : Rs wa (w.heap.size + 1) 0 4 (at_ [97, 99, 98, 100]) := by
    rw [← hwa]
    have := rs_new (w.alloc (.cells #[.int .i32 97, .int .i32 98, .int .i32 99, .int .i32 100] 21)) [97, 99, 98, 100]
    have e : (w.alloc (.cells #[.int .i32 97, .int .i32 98, .int .i32 99, .int .i32 100] 21)).heap.size = w.heap.size + 1 := by
      show (w.heap.push _).size = _
      rw [Array.size_push]
    rw [e] at this
    exact this
  have c1 := of_near (w := wa) (va := .slice (some ⟨w.heap.size, 0, none⟩) 4 4) (vb := .slice (some ⟨w.heap.size + 1, 0, none⟩) 4 4) (Or.inr ⟨_, _, _, rfl, ha⟩) (Or.inr ⟨_, _, _, rfl, hb⟩) (by omega) (by omega)
  rw [far_abcd] at c1
  have hu : Up w.heap.size w wa := by rw [← hwa]; exact ((Up.refl w).alloc _).alloc _
  have HU : Hid (Up w.heap.size w wa) := hu
  clear ha hb hu
  go_enter Try.func9, Try.ntmps9
  go_wp2_with fail
  refine c1.mono ?_
  rintro e w1 ⟨rfl, hU1⟩
  have HU1 : Hid (Up w.heap.size w w1) := HU.out.stay hU1.1
  clear c1 hU1 HU hwa wa
  obtain ⟨wa, hwa⟩ : ∃ x, (w1.alloc (.cells #[.int .i32 99, .int .i32 97] 21)).alloc (.cells #[.int .i32 97, .int .i32 98, .int .i32 99] 21) = x := ⟨_, rfl⟩
  have ha : Rs wa w1.heap.size 0 2 (at_ [99, 97]) := by
    rw [← hwa]
    exact (rs_new w1 [99, 97]).stay (((Up.refl _).alloc _).1)
  have hb : Rs wa (w1.heap.size + 1) 0 3 (at_ [97, 98, 99]) := by
    rw [← hwa]
    have := rs_new (w1.alloc (.cells #[.int .i32 99, .int .i32 97] 21)) [97, 98, 99]
    have e : (w1.alloc (.cells #[.int .i32 99, .int .i32 97] 21)).heap.size = w1.heap.size + 1 := by
      show (w1.heap.push _).size = _
      rw [Array.size_push]
    rw [e] at this
    exact this
  have c1 := of_near (w := wa) (va := .slice (some ⟨w1.heap.size, 0, none⟩) 2 2) (vb := .slice (some ⟨w1.heap.size + 1, 0, none⟩) 3 3) (Or.inr ⟨_, _, _, rfl, ha⟩) (Or.inr ⟨_, _, _, rfl, hb⟩) (by omega) (by omega)
  rw [far_ca] at c1
  have HU2 : Hid (Up w.heap.size w wa) := by show Up _ _ _; rw [← hwa]; exact (HU1.out.alloc _).alloc _
  clear ha hb
  go_wp2_with fail
  refine c1.mono ?_
  rintro e w2 ⟨rfl, hU2⟩
  have HU3 : Hid (Up w.heap.size w w2) := HU2.out.stay hU2.1
  clear c1 hU2 HU2 hwa wa
  go_wp2
  go_ret
  exact ⟨rfl, HU3.out⟩
end Go.Proofs.Ytkgabdmicpfnmaa
