/- What the rows' readings give: rows of signs and of numbers that come in. -/
import Derived.Test.YtkgabdmicpfnmaaqAwk
import Derived.Test.YtkgabdmicpfnmaaRows
import Derived.WalkKit
import Derived.ProofKit
import Derived.OpenShut
import Derived.ShutString
import Derived.ChangeOld
import Derived.Below
import Derived.Lib.SmallJoins
namespace Go.Proofs.Ytkgabdmicpfnmaa
set_option linter.unusedVariables false
open Go.ChangeShapes Go.WideShapes Go.ChangeAt Go.RowKit Go.Joins
theorem addr_add (b off j : Nat) : (⟨b, off, none⟩ : Addr).add j = ⟨b, off + j, none⟩ := by
  unfold Addr.add; split <;> simp_all
theorem take_at (zs : List Int) (n i : Nat) (h : i < n) : at_ (zs.take n) i = zs.getD i 0 := by
  simp [at_, List.getD, h]
theorem runes_of {W : World} {a : Addr} {len cap : Nat} {zs : List Int} (hl : len ≤ cap) (hm : cap ≤ maxLen) (hz : zs.length = cap) (hc : ∀ i, i < zs.length → W.cell? (a.add i) = some (.int .i32 (zs.getD i 0))) :
    ∃ l : List Int, len = l.length ∧ len ≤ maxLen ∧ len ≤ cap ∧ RSl W (.slice (some a) len cap) len (at_ l) := by
  refine ⟨zs.take len, by rw [List.length_take]; omega, by omega, hl, ?_⟩
  by_cases h0 : len = 0
  · exact Or.inl ⟨_, _, by rw [h0], h0⟩
  · obtain ⟨b, off, spot⟩ := a
    have hspot : spot = none := by simpa [Addr.add] using World.cell?_spot (hc 0 (by omega))
    subst hspot
    refine Or.inr ⟨b, off, _, rfl, fun j hj => ?_⟩
    have hcj := hc j (by omega)
    rw [addr_add] at hcj
    rw [take_at _ _ _ hj]
    exact hcj
theorem ints_of {W : World} {a : Addr} {len cap : Nat} {zs : List Int} (hl : len ≤ cap) (hm : cap ≤ maxLen) (hz : zs.length = cap) (hc : ∀ i, i < zs.length → W.cell? (a.add i) = some (.int .i64 (zs.getD i 0))) :
    ∃ l : List Int, len = l.length ∧ len ≤ maxLen ∧ len ≤ cap ∧ ISl W (.slice (some a) len cap) len (at_ l) := by
  refine ⟨zs.take len, by rw [List.length_take]; omega, by omega, hl, ?_⟩
  by_cases h0 : len = 0
  · exact Or.inl ⟨_, _, by rw [h0], h0⟩
  · obtain ⟨b, off, spot⟩ := a
    have hspot : spot = none := by simpa [Addr.add] using World.cell?_spot (hc 0 (by omega))
    subst hspot
    refine Or.inr ⟨b, off, _, rfl, fun j hj => ?_⟩
    have hcj := hc j (by omega)
    rw [addr_add] at hcj
    rw [take_at _ _ _ hj]
    exact hcj
theorem own : ownKnob Try.prog.godebug = none := by kernel_rfl
theorem laidOut : laidOutB Try.prog = true := by kernel_rfl
end Go.Proofs.Ytkgabdmicpfnmaa
