/- errors.As of one error that stands alone: the model's entries for internal/reflectlite at this program's types, part's As. -/
import Derived.Test.YthdjadkdjljciaaDoordEac
import Derived.RowKitTokens
namespace Go.Proofs.YthdjadkdjljciaaDoor
set_option linter.unusedVariables false
open Go.RowKit Go.ChangeShapes Go.Extern.Stop Go.Stop Go.Extern

theorem getLit (a : Value) (h1 : (#[a] : Array Value).size = 1) (h2 : 0 < 1) : Array.getLit #[a] 0 h1 h2 = a := rfl
/-- One step of an entry's run, its text laid open by the unifier. -/
theorem run_bound {α β γ : Type} {P : Program} {w : World} {x : Sem α} {f : α → Sem β} {g : β → World → Result γ} {r : Result γ} (h : ((x.run P w).andThen fun a w' => (f a).run P w').andThen g = r) : ((x >>= f).run P w).andThen g = r := by
  rw [Sem.run_bind]; exact h

theorem Tryd.methKind (h : Value) (w : World) : (Go.method 262 81 (.agg #[h]) "Kind").run Tryd.prog w = .ok (78, h) w := by kernel_rfl
theorem Tryd.methElem (h : Value) (w : World) : (Go.method 262 81 (.agg #[h]) "Elem").run Tryd.prog w = .ok (94, .agg #[h]) w := by kernel_rfl
theorem Tryd.methImplements (h : Value) (w : World) : (Go.method 262 81 (.agg #[h]) "Implements").run Tryd.prog w = .ok (95, .agg #[h]) w := by kernel_rfl
theorem Tryd.methAssignableTo (h : Value) (w : World) : (Go.method 262 81 (.agg #[h]) "AssignableTo").run Tryd.prog w = .ok (92, .agg #[h]) w := by kernel_rfl
theorem callIsNil (args : Array Value) (w : World) : (callFunc 25 args).run Tryd.prog w = (((ReflectliteValue.method (ReflectliteValue.valueError "reflectlite.Value.IsNil" 0) ReflectliteValue.isNil) args).run Tryd.prog w).andThen fun v w' => .ok (.value v) w' :=
  @run_callFunc_extern Tryd.prog 25 _ _ Tryd.func25 (by kernel_rfl) (by kernel_rfl) (by kernel_rfl) (by kernel_rfl) args w
theorem Tryd.typeOfA (v : Value) (w : World) : (callFunc 21 #[.iface 100 v]).run Tryd.prog w = .ok (.value (.iface 81 (.agg #[.pointer (some ⟨4, 100, none⟩)]))) w := by kernel_rfl
theorem Tryd.kindKA (w : World) : (callFunc 78 #[.pointer (some ⟨4, 44, none⟩)]).run Tryd.prog w = .ok (.value (.int .u8 22)) w := by kernel_rfl
theorem Tryd.kindEA (w : World) : (callFunc 78 #[.pointer (some ⟨4, 42, none⟩)]).run Tryd.prog w = .ok (.value (.int .u8 22)) w := by kernel_rfl
theorem Tryd.valueOfA (t : Addr) (w : World) : (callFunc 23 #[.iface 44 (.pointer (some t))]).run Tryd.prog w
    = .ok (.value (.agg #[.pointer (some ⟨4, 44, none⟩), .pointer (some ⟨w.heap.size, 0, none⟩), .int .u64 150])) (w.alloc (.cells #[.pointer (some t)] 44)) := by kernel_rfl
theorem Tryd.typeA (a : Addr) (w : World) : (callFunc 24 #[.agg #[.pointer (some ⟨4, 44, none⟩), .pointer (some a), .int .u64 150]]).run Tryd.prog w
    = .ok (.value (.iface 81 (.agg #[.pointer (some ⟨4, 44, none⟩)]))) w := by kernel_rfl
theorem Tryd.partsA (a : Addr) (w : World) : (ReflectliteValue.parts (.agg #[.pointer (some ⟨4, 44, none⟩), .pointer (some a), .int .u64 150])).run Tryd.prog w = .ok (some (44, a, 150)) w := by kernel_rfl
theorem Tryd.isNilA (a p : Addr) (W : World) (ha : W.cell? a = some (.pointer (some p))) :
    (callFunc 25 #[.agg #[.pointer (some ⟨4, 44, none⟩), .pointer (some a), .int .u64 150]]).run Tryd.prog W = .ok (.value (.bool false)) W := by
  rw [callIsNil]
  refine run_bound ?_
  simp only [getLit, Tryd.partsA, Result.andThen]
  simp [ReflectliteValue.isNil, loadVar, isAgg, underlying, Tryd.underlying44, ha, Result.andThen]
theorem Tryd.elemA (w : World) : (callFunc 94 #[.agg #[.pointer (some ⟨4, 44, none⟩)]]).run Tryd.prog w = .ok (.value (.iface 81 (.agg #[.pointer (some ⟨4, 42, none⟩)]))) w := by kernel_rfl
theorem Tryd.implementsA (w : World) : (callFunc 95 #[.agg #[.pointer (some ⟨4, 42, none⟩)], .iface 81 (.agg #[.pointer (some ⟨4, 25, none⟩)])]).run Tryd.prog w = .ok (.value (.bool true)) w := by kernel_rfl
theorem Tryd.assignableA (w : World) : (callFunc 92 #[.agg #[.pointer (some ⟨4, 100, none⟩)], .iface 81 (.agg #[.pointer (some ⟨4, 42, none⟩)])]).run Tryd.prog w = .ok (.value (.bool false)) w := by kernel_rfl
theorem Tryd.hasAsA (v : Value) (xT : TypeId) (w : World) : (Instr.typeAssert (.iface 100 v) xT 90 true).run Tryd.prog w = .ok (.tuple #[.iface 100 v, .bool true]) w := run_typeAssert_hasB Tryd.underlying90 (by kernel_rfl) v xT w
theorem Tryd.methAsA (v : Value) (w : World) : (Go.method 262 100 (.agg #[v]) "As").run Tryd.prog w = .ok (102, .agg #[v]) w := by kernel_rfl
theorem Tryd.tgtA (v : Value) (xT : TypeId) (w : World) : (Instr.typeAssert (.iface 44 v) xT 44 true).run Tryd.prog w = .ok (.tuple #[v, .bool true]) w := by kernel_rfl
theorem Tryd.typeOfN (v : Value) (w : World) : (callFunc 21 #[.iface 78 v]).run Tryd.prog w = .ok (.value (.iface 81 (.agg #[.pointer (some ⟨4, 78, none⟩)]))) w := by kernel_rfl
theorem Tryd.kindKN (w : World) : (callFunc 78 #[.pointer (some ⟨4, 53, none⟩)]).run Tryd.prog w = .ok (.value (.int .u8 22)) w := by kernel_rfl
theorem Tryd.kindEN (w : World) : (callFunc 78 #[.pointer (some ⟨4, 27, none⟩)]).run Tryd.prog w = .ok (.value (.int .u8 2)) w := by kernel_rfl
theorem Tryd.valueOfN (t : Addr) (w : World) : (callFunc 23 #[.iface 53 (.pointer (some t))]).run Tryd.prog w
    = .ok (.value (.agg #[.pointer (some ⟨4, 53, none⟩), .pointer (some ⟨w.heap.size, 0, none⟩), .int .u64 150])) (w.alloc (.cells #[.pointer (some t)] 53)) := by kernel_rfl
theorem Tryd.typeN (a : Addr) (w : World) : (callFunc 24 #[.agg #[.pointer (some ⟨4, 53, none⟩), .pointer (some a), .int .u64 150]]).run Tryd.prog w
    = .ok (.value (.iface 81 (.agg #[.pointer (some ⟨4, 53, none⟩)]))) w := by kernel_rfl
theorem Tryd.partsN (a : Addr) (w : World) : (ReflectliteValue.parts (.agg #[.pointer (some ⟨4, 53, none⟩), .pointer (some a), .int .u64 150])).run Tryd.prog w = .ok (some (53, a, 150)) w := by kernel_rfl
theorem Tryd.isNilN (a p : Addr) (W : World) (ha : W.cell? a = some (.pointer (some p))) :
    (callFunc 25 #[.agg #[.pointer (some ⟨4, 53, none⟩), .pointer (some a), .int .u64 150]]).run Tryd.prog W = .ok (.value (.bool false)) W := by
  rw [callIsNil]
  refine run_bound ?_
  simp only [getLit, Tryd.partsN, Result.andThen]
  simp [ReflectliteValue.isNil, loadVar, isAgg, underlying, Tryd.underlying53, ha, Result.andThen]
theorem Tryd.elemN (w : World) : (callFunc 94 #[.agg #[.pointer (some ⟨4, 53, none⟩)]]).run Tryd.prog w = .ok (.value (.iface 81 (.agg #[.pointer (some ⟨4, 27, none⟩)]))) w := by kernel_rfl
theorem Tryd.implementsN (w : World) : (callFunc 95 #[.agg #[.pointer (some ⟨4, 27, none⟩)], .iface 81 (.agg #[.pointer (some ⟨4, 25, none⟩)])]).run Tryd.prog w = .ok (.value (.bool true)) w := by kernel_rfl
theorem Tryd.assignableN (w : World) : (callFunc 92 #[.agg #[.pointer (some ⟨4, 78, none⟩)], .iface 81 (.agg #[.pointer (some ⟨4, 27, none⟩)])]).run Tryd.prog w = .ok (.value (.bool false)) w := by kernel_rfl
theorem Tryd.hasAsN (v : Value) (xT : TypeId) (w : World) : (Instr.typeAssert (.iface 78 v) xT 90 true).run Tryd.prog w = .ok (.tuple #[.iface 78 v, .bool true]) w := run_typeAssert_hasB Tryd.underlying90 (by kernel_rfl) v xT w
theorem Tryd.methAsN (v : Value) (w : World) : (Go.method 262 78 (.agg #[v]) "As").run Tryd.prog w = .ok (87, .agg #[v]) w := by kernel_rfl
theorem Tryd.tgtN (v : Value) (xT : TypeId) (w : World) : (Instr.typeAssert (.iface 53 v) xT 53 true).run Tryd.prog w = .ok (.tuple #[v, .bool true]) w := by kernel_rfl
end Go.Proofs.YthdjadkdjljciaaDoor
