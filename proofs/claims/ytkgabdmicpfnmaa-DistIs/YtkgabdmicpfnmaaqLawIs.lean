/- The law DistIs. -/
import Derived.Test.YtkgabdmicpfnmaaqRef
import Derived.Test.YtkgabdmicpfnmaaqAwk
namespace Go.Proofs.Ytkgabdmicpfnmaa
set_option linter.unusedVariables false
open Go.RowKit Go.ChangeShapes
set_option maxRecDepth 100000 in
theorem is_law {w : World} {va vb : Value} {A B : List Int} (hA : RSl w va A.length (at_ A)) (hB : RSl w vb B.length (at_ B)) (mA : A.length ≤ maxLen) (mB : B.length ≤ maxLen) :
    Calls Try.prog 3 #[va, vb] w fun e w' => e = .returned (.bool true) ∧ Below w.heap.size w w' := by
  have HA : Hid (RSl w va A.length (at_ A)) := hA
  have HB : Hid (RSl w vb B.length (at_ B)) := hB
  obtain ⟨aa, ca, rfl⟩ := hA.form
  obtain ⟨ab, cb, rfl⟩ := hB.form
  clear hA hB
  have c0 := awake_any w
  generalize ek : A.length = k at *
  generalize en : B.length = n at *
  by_cases h1 : 100 < k
  · have z1 : (100 : Int) < (k : Int) := by omega
    clear h1
    go_enter Try.func3, Try.ntmps3
    go_wp2_with fail
    refine c0.mono ?_
    rintro e w1 ⟨rfl, hU1⟩
    have HU : Hid (Up w.heap.size w w1) := hU1
    clear hU1 c0
    go_wp2
    go_ret
    exact ⟨rfl, HU.out.1⟩
  have z1 : ¬ (100 : Int) < (k : Int) := by omega
  by_cases h2 : 100 < n
  · have z2 : (100 : Int) < (n : Int) := by omega
    clear h2
    go_enter Try.func3, Try.ntmps3
    go_wp2_with fail
    refine c0.mono ?_
    rintro e w1 ⟨rfl, hU1⟩
    have HU : Hid (Up w.heap.size w w1) := hU1
    clear hU1 c0
    go_wp2
    go_ret
    exact ⟨rfl, HU.out.1⟩
  have z2 : ¬ (100 : Int) < (n : Int) := by omega
  obtain ⟨x, hx⟩ : ∃ x : Nat, (∀ w' : World, Below w.heap.size w w' → Calls Try.prog 10 #[.slice aa k ca, .slice ab n cb] w' fun e w'' => e = .returned (.int .i64 (x : Int)) ∧ Below w'.heap.size w' w'') ∧
      ∀ w' : World, Below w.heap.size w w' → Calls Try.prog 11 #[.slice aa k ca, .slice ab n cb] w' fun e w'' => e = .returned (.int .i64 (x : Int)) ∧ Below w'.heap.size w' w'' := by
    by_cases h3 : 64 < k ∨ 64 < n
    · refine ⟨max k n, fun w' _ => (of_long h3 (by omega) (by omega)).mono ?_, fun w' _ => (rdist_long h3 (by omega) (by omega)).mono ?_⟩
      · rintro e w2 ⟨rfl, rfl⟩; exact ⟨rfl, Below.refl _ _⟩
      · rintro e w2 ⟨rfl, rfl⟩; exact ⟨rfl, Below.refl _ _⟩
    · refine ⟨dd (at_ A) (at_ B) k n, fun w' hb => (of_near (HA.out.stay hb) (HB.out.stay hb) (by omega) (by omega)).mono ?_, fun w' hb => (rdist_near (HA.out.stay hb) (HB.out.stay hb) (by omega) (by omega)).mono ?_⟩
      · rintro e w2 ⟨rfl, h⟩; exact ⟨rfl, h.1⟩
      · rintro e w2 ⟨rfl, h⟩; exact ⟨rfl, h.1⟩
  obtain ⟨hx1, hx2⟩ := hx
  have HX1 : Hid (∀ w' : World, Below w.heap.size w w' → Calls Try.prog 10 #[.slice aa k ca, .slice ab n cb] w' fun e w'' => e = .returned (.int .i64 (x : Int)) ∧ Below w'.heap.size w' w'') := hx1
  have HX2 : Hid (∀ w' : World, Below w.heap.size w w' → Calls Try.prog 11 #[.slice aa k ca, .slice ab n cb] w' fun e w'' => e = .returned (.int .i64 (x : Int)) ∧ Below w'.heap.size w' w'') := hx2
  clear hx1 hx2
  go_enter Try.func3, Try.ntmps3
  go_wp2_with fail
  refine c0.mono ?_
  rintro e w1 ⟨rfl, hU1⟩
  have HU : Hid (Up w.heap.size w w1) := hU1
  clear hU1 c0
  have c1 := HX1.out w1 HU.out.1
  go_wp2_with fail
  refine c1.mono ?_
  rintro e w2 ⟨rfl, hU2⟩
  have HU2 : Hid (Up w.heap.size w w2) := HU.out.stay hU2
  clear hU2 c1
  have c2 := HX2.out w2 HU2.out.1
  go_wp2_with fail
  refine c2.mono ?_
  rintro e w3 ⟨rfl, hU3⟩
  have HU3 : Hid (Up w.heap.size w w3) := HU2.out.stay hU3
  clear hU3 c2
  go_wp2
  go_ret
  exact ⟨rfl, HU3.out.1⟩
end Go.Proofs.Ytkgabdmicpfnmaa
