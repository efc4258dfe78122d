/- Awake. -/
import Derived.Test.YtakieogegfmepaaDoorOf
namespace Go.Proofs.YtakieogegfmepaaDoor
set_option linter.unusedVariables false
open Go.RowKit Go.ChangeShapes
/-- Of, As, Fold of a text of signs. -/
theorem ofT (M : List Int) (h : Ok M) (hl : M.length ≤ 1000) (w : World) (hT : Tabs w) :
    Calls Tryd.prog 17 #[.string (tx M)] w fun e w' => e = .returned (.int .u8 (ofL M)) ∧ Below w.heap.size w w' := by
  have c := of_any (tx M) M.length w (by have := tx_le M; omega) hT (tx_ends M h)
  rw [tx_sg M h] at c
  exact c
theorem asT (q : Int) (M : List Int) (h : Ok M) (hl : M.length ≤ 1000) (w : World) (hT : Tabs w) :
    Calls Tryd.prog 18 #[.int .u8 q, .string (tx M)] w fun e w' => e = .returned (.string (tx (wrL q M))) ∧ Below w.heap.size w w' := by
  have c := as_any q (tx M) M.length w (by have := tx_le M; omega) hT (tx_ends M h)
  rw [tx_sg M h] at c
  exact c
theorem foldT (M : List Int) (h : Ok M) (hl : M.length ≤ 1000) (w : World) (hT : Tabs w) :
    Calls Tryd.prog 16 #[.string (tx M)] w fun e w' => e = .returned (.string (tx (wrL 1 M))) ∧ Below w.heap.size w w' := by
  have c := fold_any (tx M) M.length w (by have := tx_le M; omega) hT (tx_ends M h)
  rw [tx_sg M h] at c
  exact c
theorem okAll {M : List Int} (h : M.all okR = true) : Ok M := fun r hr => List.all_eq_true.1 h r hr
theorem awA (w : World) (hT : Tabs w) : Calls Tryd.prog 17 #[.string ⟨#[72, 101, 108, 108, 111]⟩] w fun e w' => e = .returned (.int .u8 2) ∧ Below w.heap.size w w' :=
  ofT [72, 101, 108, 108, 111] (okAll (by decide)) (by decide) w hT
theorem awB (w : World) (hT : Tabs w) : Calls Tryd.prog 18 #[.int .u8 2, .string ⟨#[119, 79, 82, 68]⟩] w fun e w' => e = .returned (.string ⟨#[87, 111, 114, 100]⟩) ∧ Below w.heap.size w w' :=
  asT 2 [119, 79, 82, 68] (okAll (by decide)) (by decide) w hT
theorem awC (w : World) (hT : Tabs w) : Calls Tryd.prog 18 #[.int .u8 0, .string ⟨#[120, 89]⟩] w fun e w' => e = .returned (.string ⟨#[120, 89]⟩) ∧ Below w.heap.size w w' :=
  asT 0 [120, 89] (okAll (by decide)) (by decide) w hT
set_option maxHeartbeats 1000000 in
theorem awake_any (w : World) (hT : Tabs w) :
    Calls Tryd.prog 6 #[] w fun e w' => e = .returned (.bool true) ∧ Below w.heap.size w w' := by
  have HT : Hid (Tabs w) := hT
  clear hT
  go_enter Tryd.func6, Tryd.ntmps6
  go_wp2_with fail
  refine (awA w HT.out).mono ?_
  rintro e w1 ⟨rfl, hb1⟩
  have HU1 : Hid (Up w.heap.size w w1) := (Up.refl w).stay hb1
  clear hb1
  go_wp2_with fail
  refine (awB w1 (tabs_stay HT.out HU1.out.1)).mono ?_
  rintro e w2 ⟨rfl, hb2⟩
  have HU2 : Hid (Up w.heap.size w w2) := HU1.out.stay hb2
  clear hb2 HU1
  go_wp2_with fail
  refine (awC w2 (tabs_stay HT.out HU2.out.1)).mono ?_
  rintro e w3 ⟨rfl, hb3⟩
  have HU3 : Hid (Up w.heap.size w w3) := HU2.out.stay hb3
  clear hb3 HU2
  go_wp2
  go_ret
  exact ⟨rfl, HU3.out.1⟩
end Go.Proofs.YtakieogegfmepaaDoor
