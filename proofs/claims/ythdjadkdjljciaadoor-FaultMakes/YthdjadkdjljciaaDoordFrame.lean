/- What the rows share: errors.errorType as it is laid, and a slice of places that comes in. -/
import Derived.Test.YthdjadkdjljciaaDoorRows
import Derived.Test.YthdjadkdjljciaaDoordMad
import Derived.Lib.LaidIn
import Derived.LaidHandle
import Derived.Deep.Slices
import Derived.Deep.DeepHandedRow
import Derived.Deep.DeepWitnessRowRef
import Derived.WalkKit
import Derived.ProofKit
import Derived.OpenShut
import Derived.ShutString
import Derived.ChangeOld
import Derived.Below
import Derived.SizedLaws
import Derived.Lib.SmallJoins
namespace Go.Proofs.YthdjadkdjljciaaDoor
set_option linter.unusedVariables false
open Go.ChangeShapes Go.WideShapes Go.ChangeAt Go.RowKit Go.Joins
theorem own : ownKnob Tryd.prog.godebug = none := by kernel_rfl
theorem laidOut : laidOutB Tryd.prog = true := by kernel_rfl
theorem Tryd.et : Tryd.prog.globalNamed "errors.errorType" = some 0 := by kernel_rfl
theorem Tryd.rt : (Tryd.prog.cutTypes.find? (·.1 == "internal/reflectlite.rtype")).map (·.2) = some 81 := by kernel_rfl
theorem Tryd.typesSize : Tryd.prog.types.size = 162 := by kernel_rfl
theorem Tryd.oneRow : ((List.range 162).filter fun t => Tryd.prog.rowNamed t [101, 114, 114, 111, 114]) = [25] := by kernel_rfl
/-- errors.errorType, as the rows list it. -/
def ets : List (String × DataW Unit) := [("errors.errorType", Rows.laid_errors_errorType)]
theorem ety_of {W : World} (h : handlesMet Tryd.prog ets W) : Ety W := by
  obtain ⟨name, u, ty, e1, e2, e3, e4, e5⟩ := h _ (List.mem_singleton.2 rfl)
  have en : name = [101, 114, 114, 111, 114] := (Option.some.inj e1).symm
  subst en
  obtain rfl := Option.some.inj (Tryd.rt.symm.trans e2)
  have hm : ty ∈ (List.range 162).filter fun t => Tryd.prog.rowNamed t [101, 114, 114, 111, 114] := List.mem_filter.2 ⟨List.mem_range.2 (by rw [← Tryd.typesSize]; exact e3), e4⟩
  rw [Tryd.oneRow] at hm
  obtain rfl := List.mem_singleton.1 hm
  have hh : typeHandle Tryd.prog 25 = .pointer (some ⟨4, 25, none⟩) := by kernel_rfl
  rw [hh] at e5
  have := World.var?_cell Tryd.et e5 0
  unfold Ety
  simpa using this
theorem ety_in {W : World} (h : laidMetH Tryd.prog ets W) : Ety W := by
  have h' : laidMet Tryd.prog [] W ∧ handlesMet Tryd.prog ets W := h
  exact ety_of h'.2
def laidOf (w0 : World) : World :=
  { w0 with heap := w0.heap.modify 0 fun
      | .cells _ t frozen => .cells #[.iface 81 (.agg #[.pointer (some ⟨4, 25, none⟩)])] t frozen
      | o => o }
theorem laid_met (os : Os) (args : Array Value) : laidMetH Tryd.prog ets ((laidOf (World.holding Tryd.prog os ⟨#[], #[], []⟩)).forCall (fun _ _ => 0) ⟨#[], args, []⟩).memory :=
  laidMetH_of_parts (laidMet_nil _ _) (by kernel_rfl)
theorem Tryd.cells36 : Tryd.prog.cellsOf 36 = 3 := by kernel_rfl
theorem Tryd.one9 : Tryd.prog.cellsOf 9 = 1 := by kernel_rfl
theorem Tryd.one3 : Tryd.prog.cellsOf 3 = 1 := by kernel_rfl
theorem Tryd.one4 : Tryd.prog.cellsOf 4 = 1 := by kernel_rfl
theorem Tryd.fields36 : Tryd.prog.underlying 36 = some (.struct (Tryd.prog.fieldsOf 36)) := by kernel_rfl
theorem Tryd.field36 : (Tryd.prog.fieldsOf 36).toList.map (fun f => (f.type, f.offset)) = [(9, 0), (3, 1), (4, 2)] := by kernel_rfl
theorem addr_add (b off j : Nat) : (⟨b, off, none⟩ : Addr).add j = ⟨b, off + j, none⟩ := by
  unfold Addr.add; split <;> simp_all
theorem three {α : Type} : ∀ {l : List α}, l.length = 3 → ∃ a b c, l = [a, b, c]
  | [a, b, c], _ => ⟨a, b, c, rfl⟩
/-- A place of a slice that comes in. -/
theorem place_of {H : Type} {enc : TypeId × Value → H} {W : World} {n : Nat} {a : Addr} {cs : List Value} {x : DataW H × List MemPlace} (h1 : W.cells? 0 a 3 = some cs) (h2 : DataW.trod enc Tryd.prog W 0 (fun _ => true) true n 36 cs = some x) :
    ∃ q : ByteArray × Int × Bool, W.cell? a = some (.string q.1) ∧ W.cell? (a.add 1) = some (.int .i64 q.2.1) ∧ W.cell? (a.add 2) = some (.bool q.2.2) := by
  obtain ⟨_, hlen, hcell⟩ := World.cells?_some h1
  obtain ⟨xs, k, hk, hxy, _, hxl, hf⟩ := DataW.trod_struct Tryd.fields36 h2
  have hfs := Tryd.field36
  generalize Tryd.prog.fieldsOf 36 = fs at hfs hf hxl
  obtain ⟨fl⟩ := fs
  obtain ⟨f0, f1, f2, rfl⟩ := three (show fl.length = 3 by simpa using congrArg List.length hfs)
  simp only [List.map_cons, List.map_nil, List.cons.injEq, Prod.mk.injEq, and_true] at hfs
  obtain ⟨⟨t0, o0⟩, ⟨t1, o1⟩, t2, o2⟩ := hfs
  obtain ⟨y0, y1, y2, rfl⟩ := three (show xs.length = 3 from hxl)
  obtain ⟨v0, v1, v2, rfl⟩ := three hlen
  have g0 := hf 0 f0 rfl
  have g1 := hf 1 f1 rfl
  have g2 := hf 2 f2 rfl
  simp [t0, t1, t2, o0, o1, o2, Tryd.one9, Tryd.one3, Tryd.one4] at g0 g1 g2
  obtain ⟨s, hs0, _⟩ := DataW.trod_string Tryd.underlying9 g0
  obtain ⟨m, hs1, _⟩ := DataW.trod_int Tryd.underlying3 g1
  obtain ⟨o, hs2, _⟩ := DataW.trod_bool Tryd.underlying4 g2
  simp at hs0 hs1 hs2
  subst hs0 hs1 hs2
  have c0 := hcell 0 (by omega)
  have c1 := hcell 1 (by omega)
  have c2 := hcell 2 (by omega)
  exact ⟨(s, m, o), by simpa [Addr.add] using c0, by simpa using c1, by simpa using c2⟩
theorem places_of {H : Type} {enc : TypeId × Value → H} {W : World} {fuel : Nat} {ad : Option Addr} {len cap : Nat} {x : DataW H × List MemPlace} (hf : DataW.trod enc Tryd.prog W 0 (fun _ => true) true fuel 22 [.slice ad len cap] = some x) :
    ∃ F, Pls W ad len F := by
  rcases Deep.open_slice Tryd.underlying22 hf with ⟨hcs, _⟩ | ⟨a, len', cap', m, n, D, Pl, hcs, _, hl, hm, hmm, _, hx⟩
  · simp at hcs
    exact ⟨fun _ => (ByteArray.empty, 0, false), Or.inl hcs.2.1⟩
  · simp at hcs
    obtain ⟨rfl, rfl, rfl⟩ := hcs
    simp only [if_true] at hmm
    rw [Tryd.cells36] at hx
    obtain ⟨F, hF⟩ := Deep.choose_lt (n := m) (p := fun i (q : ByteArray × Int × Bool) => W.cell? (a.add (i * 3)) = some (.string q.1) ∧ W.cell? ((a.add (i * 3)).add 1) = some (.int .i64 q.2.1) ∧ W.cell? ((a.add (i * 3)).add 2) = some (.bool q.2.2))
      (fun i hi => by obtain ⟨cs', h1, h2⟩ := hx i hi; exact place_of h1 h2)
    refine ⟨F, ?_⟩
    by_cases h0 : len = 0
    · exact Or.inl h0
    · obtain ⟨b, off, spot⟩ := a
      have hspot : spot = none := by
        have := World.cell?_spot (hF 0 (by omega)).1
        simpa [Addr.add] using this
      subst hspot
      refine Or.inr ⟨b, off, rfl, fun i hi => ?_⟩
      obtain ⟨q0, q1, q2⟩ := hF i (by omega)
      simp only [addr_add] at q0 q1 q2
      exact ⟨World.block_lt_of_cell? W _ q0, q0, q1, q2⟩
end Go.Proofs.YthdjadkdjljciaaDoor
