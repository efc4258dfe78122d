/- errors.As of one error that stands alone: the model's entries for internal/reflectlite at this program's types, part's As. -/
import Derived.Test.YthdjadkdjljciaaGreatDoorWth
import Derived.RowKitTokens
namespace Go.Proofs.YthdjadkdjljciaaGreatDoor
set_option linter.unusedVariables false
open Go.RowKit Go.ChangeShapes Go.Extern.Stop Go.Stop Go.Extern

theorem getLit (a : Value) (h1 : (#[a] : Array Value).size = 1) (h2 : 0 < 1) : Array.getLit #[a] 0 h1 h2 = a := rfl
/-- One step of an entry's run, its text laid open by the unifier. -/
theorem run_bound {α β γ : Type} {P : Program} {w : World} {x : Sem α} {f : α → Sem β} {g : β → World → Result γ} {r : Result γ} (h : ((x.run P w).andThen fun a w' => (f a).run P w').andThen g = r) : ((x >>= f).run P w).andThen g = r := by
  rw [Sem.run_bind]; exact h

theorem Tryz.methKind (h : Value) (w : World) : (Go.method 367 181 (.agg #[h]) "Kind").run Tryz.prog w = .ok (190, h) w := by kernel_rfl
theorem Tryz.methElem (h : Value) (w : World) : (Go.method 367 181 (.agg #[h]) "Elem").run Tryz.prog w = .ok (206, .agg #[h]) w := by kernel_rfl
theorem Tryz.methImplements (h : Value) (w : World) : (Go.method 367 181 (.agg #[h]) "Implements").run Tryz.prog w = .ok (207, .agg #[h]) w := by kernel_rfl
theorem Tryz.methAssignableTo (h : Value) (w : World) : (Go.method 367 181 (.agg #[h]) "AssignableTo").run Tryz.prog w = .ok (204, .agg #[h]) w := by kernel_rfl
theorem callIsNil (args : Array Value) (w : World) : (callFunc 81 args).run Tryz.prog w = (((ReflectliteValue.method (ReflectliteValue.valueError "reflectlite.Value.IsNil" 0) ReflectliteValue.isNil) args).run Tryz.prog w).andThen fun v w' => .ok (.value v) w' :=
  @run_callFunc_extern Tryz.prog 81 _ _ Tryz.func81 (by kernel_rfl) (by kernel_rfl) (by kernel_rfl) (by kernel_rfl) args w
theorem Tryz.typeOfA (v : Value) (w : World) : (callFunc 126 #[.iface 124 v]).run Tryz.prog w = .ok (.value (.iface 181 (.agg #[.pointer (some ⟨4, 124, none⟩)]))) w := by kernel_rfl
theorem Tryz.kindKA (w : World) : (callFunc 190 #[.pointer (some ⟨4, 88, none⟩)]).run Tryz.prog w = .ok (.value (.int .u8 22)) w := by kernel_rfl
theorem Tryz.kindEA (w : World) : (callFunc 190 #[.pointer (some ⟨4, 81, none⟩)]).run Tryz.prog w = .ok (.value (.int .u8 22)) w := by kernel_rfl
theorem Tryz.valueOfA (t : Addr) (w : World) : (callFunc 79 #[.iface 88 (.pointer (some t))]).run Tryz.prog w
    = .ok (.value (.agg #[.pointer (some ⟨4, 88, none⟩), .pointer (some ⟨w.heap.size, 0, none⟩), .int .u64 150])) (w.alloc (.cells #[.pointer (some t)] 88)) := by kernel_rfl
theorem Tryz.typeA (a : Addr) (w : World) : (callFunc 80 #[.agg #[.pointer (some ⟨4, 88, none⟩), .pointer (some a), .int .u64 150]]).run Tryz.prog w
    = .ok (.value (.iface 181 (.agg #[.pointer (some ⟨4, 88, none⟩)]))) w := by kernel_rfl
theorem Tryz.partsA (a : Addr) (w : World) : (ReflectliteValue.parts (.agg #[.pointer (some ⟨4, 88, none⟩), .pointer (some a), .int .u64 150])).run Tryz.prog w = .ok (some (88, a, 150)) w := by kernel_rfl
theorem Tryz.isNilA (a p : Addr) (W : World) (ha : W.cell? a = some (.pointer (some p))) :
    (callFunc 81 #[.agg #[.pointer (some ⟨4, 88, none⟩), .pointer (some a), .int .u64 150]]).run Tryz.prog W = .ok (.value (.bool false)) W := by
  rw [callIsNil]
  refine run_bound ?_
  simp only [getLit, Tryz.partsA, Result.andThen]
  simp [ReflectliteValue.isNil, loadVar, isAgg, underlying, Tryz.underlying88, ha, Result.andThen]
theorem Tryz.elemA (w : World) : (callFunc 206 #[.agg #[.pointer (some ⟨4, 88, none⟩)]]).run Tryz.prog w = .ok (.value (.iface 181 (.agg #[.pointer (some ⟨4, 81, none⟩)]))) w := by kernel_rfl
theorem Tryz.implementsA (w : World) : (callFunc 207 #[.agg #[.pointer (some ⟨4, 81, none⟩)], .iface 181 (.agg #[.pointer (some ⟨4, 30, none⟩)])]).run Tryz.prog w = .ok (.value (.bool true)) w := by kernel_rfl
theorem Tryz.assignableA (w : World) : (callFunc 204 #[.agg #[.pointer (some ⟨4, 124, none⟩)], .iface 181 (.agg #[.pointer (some ⟨4, 81, none⟩)])]).run Tryz.prog w = .ok (.value (.bool false)) w := by kernel_rfl
theorem Tryz.hasAsA (v : Value) (xT : TypeId) (w : World) : (Instr.typeAssert (.iface 124 v) xT 173 true).run Tryz.prog w = .ok (.tuple #[.iface 124 v, .bool true]) w := run_typeAssert_hasB Tryz.underlying173 (by kernel_rfl) v xT w
theorem Tryz.methAsA (v : Value) (w : World) : (Go.method 367 124 (.agg #[v]) "As").run Tryz.prog w = .ok (196, .agg #[v]) w := by kernel_rfl
theorem Tryz.tgtA (v : Value) (xT : TypeId) (w : World) : (Instr.typeAssert (.iface 88 v) xT 88 true).run Tryz.prog w = .ok (.tuple #[v, .bool true]) w := by kernel_rfl
theorem Tryz.typeOfN (v : Value) (w : World) : (callFunc 126 #[.iface 138 v]).run Tryz.prog w = .ok (.value (.iface 181 (.agg #[.pointer (some ⟨4, 138, none⟩)]))) w := by kernel_rfl
theorem Tryz.kindKN (w : World) : (callFunc 190 #[.pointer (some ⟨4, 89, none⟩)]).run Tryz.prog w = .ok (.value (.int .u8 22)) w := by kernel_rfl
theorem Tryz.kindEN (w : World) : (callFunc 190 #[.pointer (some ⟨4, 23, none⟩)]).run Tryz.prog w = .ok (.value (.int .u8 2)) w := by kernel_rfl
theorem Tryz.valueOfN (t : Addr) (w : World) : (callFunc 79 #[.iface 89 (.pointer (some t))]).run Tryz.prog w
    = .ok (.value (.agg #[.pointer (some ⟨4, 89, none⟩), .pointer (some ⟨w.heap.size, 0, none⟩), .int .u64 150])) (w.alloc (.cells #[.pointer (some t)] 89)) := by kernel_rfl
theorem Tryz.typeN (a : Addr) (w : World) : (callFunc 80 #[.agg #[.pointer (some ⟨4, 89, none⟩), .pointer (some a), .int .u64 150]]).run Tryz.prog w
    = .ok (.value (.iface 181 (.agg #[.pointer (some ⟨4, 89, none⟩)]))) w := by kernel_rfl
theorem Tryz.partsN (a : Addr) (w : World) : (ReflectliteValue.parts (.agg #[.pointer (some ⟨4, 89, none⟩), .pointer (some a), .int .u64 150])).run Tryz.prog w = .ok (some (89, a, 150)) w := by kernel_rfl
theorem Tryz.isNilN (a p : Addr) (W : World) (ha : W.cell? a = some (.pointer (some p))) :
    (callFunc 81 #[.agg #[.pointer (some ⟨4, 89, none⟩), .pointer (some a), .int .u64 150]]).run Tryz.prog W = .ok (.value (.bool false)) W := by
  rw [callIsNil]
  refine run_bound ?_
  simp only [getLit, Tryz.partsN, Result.andThen]
  simp [ReflectliteValue.isNil, loadVar, isAgg, underlying, Tryz.underlying89, ha, Result.andThen]
theorem Tryz.elemN (w : World) : (callFunc 206 #[.agg #[.pointer (some ⟨4, 89, none⟩)]]).run Tryz.prog w = .ok (.value (.iface 181 (.agg #[.pointer (some ⟨4, 23, none⟩)]))) w := by kernel_rfl
theorem Tryz.implementsN (w : World) : (callFunc 207 #[.agg #[.pointer (some ⟨4, 23, none⟩)], .iface 181 (.agg #[.pointer (some ⟨4, 30, none⟩)])]).run Tryz.prog w = .ok (.value (.bool true)) w := by kernel_rfl
theorem Tryz.assignableN (w : World) : (callFunc 204 #[.agg #[.pointer (some ⟨4, 138, none⟩)], .iface 181 (.agg #[.pointer (some ⟨4, 23, none⟩)])]).run Tryz.prog w = .ok (.value (.bool false)) w := by kernel_rfl
theorem Tryz.hasAsN (v : Value) (xT : TypeId) (w : World) : (Instr.typeAssert (.iface 138 v) xT 173 true).run Tryz.prog w = .ok (.tuple #[.iface 138 v, .bool true]) w := run_typeAssert_hasB Tryz.underlying173 (by kernel_rfl) v xT w
theorem Tryz.methAsN (v : Value) (w : World) : (Go.method 367 138 (.agg #[v]) "As").run Tryz.prog w = .ok (201, .agg #[v]) w := by kernel_rfl
theorem Tryz.tgtN (v : Value) (xT : TypeId) (w : World) : (Instr.typeAssert (.iface 89 v) xT 89 true).run Tryz.prog w = .ok (.tuple #[v, .bool true]) w := by kernel_rfl
end Go.Proofs.YthdjadkdjljciaaGreatDoor
