/- What the rows share: the tables; what comes in. -/
import Derived.Test.YtbhjkkbempnjeaaDoorRows
import Derived.Test.YtbhjkkbempnjeaaDoorPkVLLit2
import Derived.Lib.LaidIn
import Derived.Lib.LaidU8T
import Derived.Shelf.LaysM
import Derived.LaidHandle
import Derived.Deep.DeepHandedRow
import Derived.Deep.DeepWitnessRowRef
import Derived.ProofKit
import Derived.OpenShut
import Derived.ShutString
import Derived.ChangeOld
import Derived.SizedLaws
import Derived.Lib.SmallJoins
namespace Go.Proofs.YtbhjkkbempnjeaaDoor
set_option linter.unusedVariables false
open Go.ChangeShapes Go.WideShapes Go.ChangeAt Go.RowKit Go.Joins Go.Shelf
theorem own : ownKnob Tryd.prog.godebug = none := by kernel_rfl
theorem laidOut : laidOutB Tryd.prog = true := by kernel_rfl
/-- The two tables, as the rows list them. -/
def tabsL : List (String × DataW Unit) := [("unicode/utf8.acceptRanges", Rows.laid_unicode_utf8_acceptRanges), ("unicode/utf8.first", Rows.laid_unicode_utf8_first)]
/-- A world in which the two tables are laid. -/
def putC (cs : Array Value) : Obj → Obj
  | .cells _ t frozen => .cells cs t frozen
  | o => o
def laidOf (w0 : World) : World :=
  { w0 with heap := (w0.heap.modify 0 (putC (Lib.firstTab.map fun z => Value.int .u8 z).toArray)).modify 1 (putC ((List.range 16).flatMap fun i => [Value.int .u8 (Lib.accLo i), Value.int .u8 (Lib.accHi i)]).toArray) }
theorem laid_met (os : Os) (args : Array Value) : laidMet Tryd.prog tabsL ((laidOf (World.holding Tryd.prog os ⟨#[], #[], []⟩)).forCall (fun _ _ => 0) ⟨#[], args, []⟩).memory :=
  (LaidIn.of_run (l := tabsL) [0, 1] 8 (by kernel_rfl) (by kernel_rfl) (by kernel_rfl) (by kernel_rfl)).met
theorem acc_data : Rows.laid_unicode_utf8_acceptRanges = Lib.acceptData := by kernel_rfl
theorem first_data : Rows.laid_unicode_utf8_first = Lib.firstData := by kernel_rfl
def u8ren : Ren := ⟨fun n => n, fun | 5 => 5 | 119 => 96 | 138 => 98 | 139 => 99 | n => n, fun | 3 => 0 | 4 => 1 | n => n⟩
theorem u8types : U8Types Tryd.prog u8ren := ⟨Tryd.underlying5, Tryd.underlying96, Tryd.underlying98, Tryd.underlying99⟩
theorem tabs_of {W : World} (hL : laidMet Tryd.prog tabsL W) : Lns.Tabs W := by
  have h1 := Lib.laidMet.reads hL (.head _)
  have h2 := Lib.laidMet.reads hL (.tail _ (.head _))
  rw [acc_data] at h1
  rw [first_data] at h2
  exact utf8Tabs_of_readsT u8types ⟨by kernel_rfl, by kernel_rfl, by kernel_rfl, by kernel_rfl, by kernel_rfl, by kernel_rfl, by kernel_rfl⟩ h2 h1
theorem tabs_in {W : World} (h : laidMetH Tryd.prog tabsL W) : Lns.Tabs W := by
  have h' : laidMet Tryd.prog tabsL W := h
  exact tabs_of h'
theorem addr_add (b off j : Nat) : (⟨b, off, none⟩ : Addr).add j = ⟨b, off + j, none⟩ := by
  unfold Addr.add; split <;> simp_all
theorem one5 : Tryd.prog.cellsOf 5 = 1 := by kernel_rfl
theorem u8_wf {z : Int} (h : (Lit.int .u8 z).wf = true) : 0 ≤ z ∧ z < 256 := by
  simp only [Lit.wf] at h
  have e1 : IntKind.u8.min = 0 := by decide
  have e2 : IntKind.u8.max = 255 := by decide
  revert h
  simp
  omega
theorem bc_trod {H : Type} {enc : TypeId × Value → H} {W : World} {base : Nat} {spare : Nat → Bool} {held : Bool} {fuel : Nat} {cs : List Value} {x : DataW H × List MemPlace} (h : DataW.trod enc Tryd.prog W base spare held fuel 22 cs = some x) :
    ∃ ad n cap c, cs = [.slice ad n cap] ∧ Ch c n ∧ BC W ad n c ∧ n ≤ cap ∧ n ≤ maxLen := by
  rcases open_ints Tryd.underlying22 Tryd.underlying5 one5 h with ⟨hcs, _⟩ | ⟨a, len, cap, zs, hcs, _, hl, hm, hz, _, hc, hwf⟩
  · exact ⟨none, 0, 0, fun _ => -1, hcs, ⟨fun i hi => absurd hi (Nat.not_lt_zero _), fun _ _ => rfl⟩, BC.zero _ _ _, Nat.le_refl _, Nat.zero_le _⟩
  · have hzl : len ≤ zs.length := by rw [hz]; split <;> omega
    refine ⟨some a, len, cap, cL (zs.take len), hcs, ?_, fun i hi => ?_, hl, by omega⟩
    · have h1 : Ch (cL (zs.take len)) (zs.take len).length := cL_ch (fun y hy => u8_wf (hwf y (List.mem_of_mem_take hy)))
      rw [List.length_take, Nat.min_eq_left hzl] at h1
      exact h1
    · obtain ⟨b, off, spot⟩ := a
      have hspot : spot = none := by simpa [Addr.add] using World.cell?_spot (hc 0 (by omega))
      subst hspot
      have h2 := hc i (by omega)
      rw [addr_add] at h2
      refine ⟨b, off, rfl, ?_⟩
      rw [h2]
      have hi' : i < zs.length := by omega
      simp [cL, hi, List.getElem?_eq_getElem hi']
end Go.Proofs.YtbhjkkbempnjeaaDoor
