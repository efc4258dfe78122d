/- ListsChecks. -/
import Derived.Test.YtgijihfijoiafaaGreatDoorQPAwkNil
import Derived.Test.YtgijihfijoiafaaGreatDoorQPRChkRWrd
namespace Go.Proofs.YtgijihfijoiafaaGreatDoor
set_option linter.unusedVariables false
open Go.RowKit Go.ChangeShapes
set_option maxRecDepth 100000 in
theorem checks_law (s : ByteArray) (m : Int) (w : World) (hs : s.size ≤ maxLen) (hT : Tabs w) (hm : w.cell? ⟨3, 0, none⟩ = some (.int .i64 m)) :
    Calls Tryz.prog 3 #[.string s] w fun e w' => e = .returned (.bool true) ∧ Below w.heap.size w w' := by
  have ca := awake_any m w hT hm
  have HT : Hid (Tabs w) := hT
  clear hT hm
  go_enter Tryz.func3, Tryz.ntmps3
  go_wp2_with fail
  refine ca.mono ?_
  rintro e w1 ⟨rfl, hb1⟩
  have HU1 : Hid (Up w.heap.size w w1) := (Up.refl w).stay hb1
  clear ca hb1
  by_cases h5 : 500 < s.size
  · have h5' : (500 : Int) < (s.size : Int) := by omega
    go_wp2
    go_ret
    exact ⟨rfl, HU1.out.1⟩
  · have h5' : ¬ (500 : Int) < (s.size : Int) := by omega
    have c1 := check_at s w1 (by omega) (tabs_up HT.out HU1.out.1)
    have c2 := fun w2 => rcheck_any s w2 (by omega)
    generalize chk s = z at c1 c2
    go_wp2_with fail
    refine c1.mono ?_
    rintro e w2 ⟨rfl, hb2⟩
    have HU2 : Hid (Up w.heap.size w w2) := HU1.out.stay hb2
    clear hb2 c1 HU1
    go_wp2_with fail
    refine (c2 w2).mono ?_
    rintro e w3 ⟨rfl, hb3⟩
    have HU3 : Hid (Up w.heap.size w w3) := HU2.out.stay hb3
    clear hb3 c2 HU2
    go_wp2
    go_ret
    exact ⟨rfl, HU3.out.1⟩
end Go.Proofs.YtgijihfijoiafaaGreatDoor
