/- Awake. -/
import Derived.Test.YtfefdcolmalgjaalSegs
namespace Go.Proofs.Ytfefdcolmalgjaa
set_option linter.unusedVariables false
open Go.RowKit Go.ChangeShapes
theorem sg_ex : sg (setL (fun _ => 1) 4 1 3) 4 = [⟨1, 0, 1⟩, ⟨4, 1, 2⟩, ⟨1, 3, 1⟩] := by
  rfl
theorem awake_any (w : World) : Calls Try.prog 8 #[] w fun e w' => e = .returned (.bool true) ∧ Up w.heap.size w w' := by
  have c1 := new_ok 4 (by omega) w
  go_enter Try.func8, Try.ntmps8
  go_wp2_with fail
  refine c1.mono ?_
  rintro e w1 ⟨T, g, rfl, hT, hg, hS, hU⟩
  have c2 := set_any hS (by omega) 4 1 3
  have HU : Hid (Up w.heap.size w w1 ∧ w.heap.size ≤ g) := ⟨hU, hg⟩
  clear c1 hS hU hT hg
  go_wp2_with fail
  refine c2.mono ?_
  rintro e w2 ⟨rfl, hS, hG, _⟩
  have HU2 : Hid (Up w.heap.size w w2) := HU.out.1.grown hG (fun k hk => by cases hk; exact HU.out.2)
  have c3 := segs_any hS (by omega)
  clear c2 hS hG HU
  go_wp2_with fail
  refine c3.mono ?_
  rintro e w3 ⟨v, rfl, hR, hU⟩
  have HU3 : Hid (Up w.heap.size w w3) := HU2.out.stay hU.1
  rw [sg_ex] at hR
  obtain ⟨ad, c, rfl⟩ := hR.form
  obtain ⟨gp, rfl, -, -⟩ := own_at (n := 3) hR (by omega)
  obtain ⟨a1, a2, a3⟩ := hR.cells rfl (i := 1) (s := ⟨4, 1, 2⟩) rfl
  dsimp only at a1 a2 a3
  clear c3 hR hU HU2
  go_wp2
  go_ret
  exact ⟨rfl, HU3.out⟩
end Go.Proofs.Ytfefdcolmalgjaa
