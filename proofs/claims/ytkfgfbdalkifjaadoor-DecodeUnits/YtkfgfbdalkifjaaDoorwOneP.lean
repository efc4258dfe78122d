/- The law's texts: how long they are. -/
import Derived.Test.YtkfgfbdalkifjaaDoorwAwk
import Derived.Test.YtkfgfbdalkifjaaDoorvBit
namespace Go.Proofs.YtkfgfbdalkifjaaDoor
set_option linter.unusedVariables false
open Go.RowKit Go.ChangeShapes
theorem cons_byt {z : Int} {l : List Int} (hz : 0 ≤ z ∧ z < 256) (h : Byt l) : Byt (z :: l) := fun x hx => by
  rcases List.mem_cons.1 hx with rfl | hx
  · exact hz
  · exact h x hx
theorem bts_len2 {ps : List (List Int)} (hp : ∀ t ∈ ps, t.length ≤ 20) (raw : Nat → Int) (rn : Nat) (l : List Nat) : (bts ps raw rn l).length ≤ 1200 := by
  have hb : ∀ x, (bit ps raw rn x).length ≤ 20 := fun x => by
    unfold bit
    split
    · rename_i t h
      exact hp t (List.mem_of_getElem? h)
    · split <;> simp
  unfold bts
  have h1 := flat_len hb (l.take 60)
  have h2 : (l.take 60).length ≤ 60 := by rw [List.length_take]; omega
  have h3 := Nat.mul_le_mul_right 20 h2
  omega
theorem psP_20 : ∀ t ∈ psP, t.length ≤ 20 := fun t ht => of_decide_eq_true (List.all_eq_true.1 (show psP.all (fun t => decide (t.length ≤ 20)) = true by decide) t ht)
end Go.Proofs.YtkfgfbdalkifjaaDoor
