/- What comes in. -/
import Derived.Test.YtgebmmbnpdhooaaRows
import Derived.Test.YtgebmmbnpdhooaasAwk
import Derived.WalkKit
import Derived.ProofKit
import Derived.OpenShut
import Derived.ShutString
import Derived.ChangeOld
import Derived.Below
import Derived.Lib.SmallJoins
import Derived.Deep.Slices
namespace Go.Proofs.Ytgebmmbnpdhooaa
set_option linter.unusedVariables false
open Go.ChangeShapes Go.WideShapes Go.ChangeAt Go.RowKit Go.Joins
theorem own : ownKnob Try.prog.godebug = none := by kernel_rfl
theorem laidOut : laidOutB Try.prog = true := by kernel_rfl
theorem addr_add (b off j : Nat) : (⟨b, off, none⟩ : Addr).add j = ⟨b, off + j, none⟩ := by
  unfold Addr.add; split <;> simp_all
theorem one5 : Try.prog.cellsOf 5 = 1 := by kernel_rfl
theorem u8_wf {z : Int} (h : (Lit.int .u8 z).wf = true) : 0 ≤ z ∧ z < 256 := by
  simp only [Lit.wf] at h
  have e1 : IntKind.u8.min = 0 := by decide
  have e2 : IntKind.u8.max = 255 := by decide
  revert h
  simp
  omega
theorem bc_trod9 {H : Type} {enc : TypeId × Value → H} {W : World} {base : Nat} {spare : Nat → Bool} {held : Bool} {fuel : Nat} {cs : List Value} {x : DataW H × List MemPlace} (h : DataW.trod enc Try.prog W base spare held fuel 22 cs = some x) :
    ∃ ad n cap c, cs = [.slice ad n cap] ∧ Ch c n ∧ BC W ad n c ∧ n ≤ cap ∧ n ≤ maxLen ∧ cap ≤ maxLen := by
  rcases open_ints Try.underlying22 Try.underlying5 one5 h with ⟨hcs, _⟩ | ⟨a, len, cap, zs, hcs, _, hl, hm, hz, _, hc, hwf⟩
  · exact ⟨none, 0, 0, fun _ => -1, hcs, ⟨fun i hi => absurd hi (Nat.not_lt_zero _), fun _ _ => rfl⟩, BC.zero _ _ _, Nat.le_refl _, Nat.zero_le _, Nat.zero_le _⟩
  · have hzl : len ≤ zs.length := by rw [hz]; split <;> omega
    refine ⟨some a, len, cap, cL (zs.take len), hcs, ?_, fun i hi => ?_, hl, by omega, by omega⟩
    · have h1 : Ch (cL (zs.take len)) (zs.take len).length := cL_ch (fun y hy => u8_wf (hwf y (List.mem_of_mem_take hy)))
      rw [List.length_take, Nat.min_eq_left hzl] at h1
      exact h1
    · obtain ⟨b, off, spot⟩ := a
      have hspot : spot = none := by simpa [Addr.add] using World.cell?_spot (hc 0 (by omega))
      subst hspot
      have h2 := hc i (by omega)
      rw [addr_add] at h2
      refine ⟨b, off, rfl, ?_⟩
      rw [h2]
      have hi' : i < zs.length := by omega
      simp [cL, hi, List.getElem?_eq_getElem hi']
end Go.Proofs.Ytgebmmbnpdhooaa
