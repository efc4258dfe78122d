/- What the rows share: the two tables, slices that come in. -/
import Derived.Test.YtihplafalbokdaaDoorRows
import Derived.Test.YtihplafalbokdaaDoorLKit
import Derived.Lib.LaidIn
import Derived.Lib.LaidU8T
import Derived.Deep.DeepHandedRow
import Derived.Deep.DeepWitnessRowRef
import Derived.WalkKit
import Derived.ProofKit
import Derived.OpenShut
import Derived.ShutString
import Derived.ChangeOld
import Derived.Below
import Derived.SizedLaws
import Derived.Lib.SmallJoins
namespace Go.Proofs.YtihplafalbokdaaDoor
set_option linter.unusedVariables false
open Go.ChangeShapes Go.WideShapes Go.ChangeAt Go.RowKit Go.Joins
theorem own : ownKnob Tryd.prog.godebug = none := by kernel_rfl
theorem laidOut : laidOutB Tryd.prog = true := by kernel_rfl
theorem one5 : Tryd.prog.cellsOf 5 = 1 := by kernel_rfl
/-- The two tables, as the rows list them. -/
def tabsL : List (String × DataW Unit) := [("unicode/utf8.acceptRanges", Rows.laid_unicode_utf8_acceptRanges), ("unicode/utf8.first", Rows.laid_unicode_utf8_first)]
def laidOf (w0 : World) : World :=
  let put (h : Array Obj) (g : Nat) (cs : Array Value) : Array Obj := h.modify g fun
    | .cells _ t frozen => .cells cs t frozen
    | o => o
  let h1 := put w0.heap 0 (Lib.firstTab.map fun z => Value.int .u8 z).toArray
  let h2 := put h1 1 ((List.range 16).flatMap fun i => [Value.int .u8 (Lib.accLo i), Value.int .u8 (Lib.accHi i)]).toArray
  { w0 with heap := h2 }
theorem laid_met (os : Os) (args : Array Value) : laidMet Tryd.prog tabsL ((laidOf (World.holding Tryd.prog os ⟨#[], #[], []⟩)).forCall (fun _ _ => 0) ⟨#[], args, []⟩).memory :=
  (LaidIn.of_run (l := tabsL) [0, 1] 8 (by kernel_rfl) (by kernel_rfl) (by kernel_rfl) (by kernel_rfl)).met
theorem acc_data : Rows.laid_unicode_utf8_acceptRanges = Lib.acceptData := by kernel_rfl
theorem first_data : Rows.laid_unicode_utf8_first = Lib.firstData := by kernel_rfl
def u8ren : Go.Shelf.Ren := ⟨fun n => n, fun | 119 => 67 | 138 => 69 | 139 => 70 | n => n, fun | 3 => 0 | 4 => 1 | n => n⟩
theorem u8types : U8Types Tryd.prog u8ren := ⟨Tryd.underlying5, Tryd.underlying67, Tryd.underlying69, Tryd.underlying70⟩
theorem tabs_in {W : World} (hL : laidMet Tryd.prog tabsL W) : Tabs W := by
  have h1 := Lib.laidMet.reads hL (.head _)
  have h2 := Lib.laidMet.reads hL (.tail _ (.head _))
  rw [acc_data] at h1
  rw [first_data] at h2
  exact utf8Tabs_of_readsT u8types ⟨by kernel_rfl, by kernel_rfl, by kernel_rfl, by kernel_rfl, by kernel_rfl, by kernel_rfl, by kernel_rfl⟩ h2 h1
theorem addr_add (b off j : Nat) : (⟨b, off, none⟩ : Addr).add j = ⟨b, off + j, none⟩ := by
  unfold Addr.add; split <;> simp_all
theorem bytes_of {W : World} {a : Addr} {len cap : Nat} {zs : List Int} (hl : len ≤ cap) (hm : cap ≤ maxLen) (hz : zs.length = cap) (hc : ∀ i, i < zs.length → W.cell? (a.add i) = some (.int .u8 (zs.getD i 0))) (hw : ∀ n ∈ zs, (Lit.int .u8 n).wf = true) :
    ∃ s : ByteArray, s.size ≤ maxLen ∧ BSl W (.slice (some a) len cap) s := by
  have hsz : (strOfNums (zs.take len)).size = len := by rw [strOfNums_size, List.length_take]; omega
  refine ⟨strOfNums (zs.take len), by omega, ?_⟩
  by_cases h0 : len = 0
  · subst h0
    exact Or.inl ⟨_, _, rfl, hsz⟩
  · obtain ⟨b, off, spot⟩ := a
    have hspot : spot = none := by simpa [Addr.add] using World.cell?_spot (hc 0 (by omega))
    subst hspot
    refine Or.inr ⟨b, off, cap, by rw [hsz], by omega, by omega, fun j hj => ?_⟩
    rw [hsz] at hj
    have hcj := hc j (by omega)
    rw [addr_add] at hcj
    rw [hcj]
    have hjz : j < zs.length := by omega
    have hwf := hw (zs[j]) (List.getElem_mem hjz)
    have hb : 0 ≤ zs[j] ∧ zs[j] < 256 := by
      simp only [Lit.wf] at hwf
      have e1 : IntKind.u8.min = 0 := by decide
      have e2 : IntKind.u8.max = 255 := by decide
      revert hwf
      simp
      omega
    have hg : (strOfNums (zs.take len)).get! j = UInt8.ofNat (zs[j]).toNat := by
      show (strOfNums (zs.take len)).data[j]! = _
      have hjs : j < (strOfNums (zs.take len)).data.size := by show j < (strOfNums (zs.take len)).size; omega
      rw [getElem!_pos _ j hjs]
      simp [strOfNums]
    rw [hg]
    simp only [List.getD, List.getElem?_eq_getElem hjz, Option.getD_some, UInt8.toNat_ofNat']
    rw [Nat.mod_eq_of_lt (by omega)]
    simp only [Option.some.injEq, Value.int.injEq, true_and]
    omega
end Go.Proofs.YtihplafalbokdaaDoor
