/- The model's entries for internal/reflectlite at this program's types: 27: Errno, 52: its pointer; 42: *At, 44: its pointer; 31: another error; 25: error; 61: reflectlite's Value; 70: its rtype. -/
import Derived.Test.YtpjpoefcammnoaaDoorUnw
import Derived.RowKitTokens
namespace Go.Proofs.YtpjpoefcammnoaaDoor
set_option linter.unusedVariables false
open Go.RowKit Go.ChangeShapes Go.Extern.Stop Go.Stop Go.Extern

theorem getLit0 (a b : Value) (h1 : (#[a, b] : Array Value).size = 2) (h2 : 0 < 2) : Array.getLit #[a, b] 0 h1 h2 = a := rfl
theorem getLit1 (a b : Value) (h1 : (#[a, b] : Array Value).size = 2) (h2 : 1 < 2) : Array.getLit #[a, b] 1 h1 h2 = b := rfl
theorem getLit (a : Value) (h1 : (#[a] : Array Value).size = 1) (h2 : 0 < 1) : Array.getLit #[a] 0 h1 h2 = a := rfl
/-- One step of an entry's run, its text laid open by the unifier. -/
theorem run_bound {α β γ : Type} {P : Program} {w : World} {x : Sem α} {f : α → Sem β} {g : β → World → Result γ} {r : Result γ} (h : ((x.run P w).andThen fun a w' => (f a).run P w').andThen g = r) : ((x >>= f).run P w).andThen g = r := by
  rw [Sem.run_bind]; exact h
theorem Tryd.methKind (h : Value) (w : World) : (Go.method 231 70 (.agg #[h]) "Kind").run Tryd.prog w = .ok (67, h) w := by kernel_rfl
theorem Tryd.methElem (h : Value) (w : World) : (Go.method 231 70 (.agg #[h]) "Elem").run Tryd.prog w = .ok (79, .agg #[h]) w := by kernel_rfl
theorem Tryd.methImplements (h : Value) (w : World) : (Go.method 231 70 (.agg #[h]) "Implements").run Tryd.prog w = .ok (80, .agg #[h]) w := by kernel_rfl
theorem Tryd.methAssignableTo (h : Value) (w : World) : (Go.method 231 70 (.agg #[h]) "AssignableTo").run Tryd.prog w = .ok (77, .agg #[h]) w := by kernel_rfl
theorem Tryd.methComparable (h : Value) (w : World) : (Go.method 231 70 (.agg #[h]) "Comparable").run Tryd.prog w = .ok (78, .agg #[h]) w := by kernel_rfl

theorem call28 (args : Array Value) (w : World) : (callFunc 28 args).run Tryd.prog w = (((ReflectliteValue.method (ReflectliteValue.valueError "reflectlite.Value.IsNil" 0) ReflectliteValue.isNil) args).run Tryd.prog w).andThen fun v w' => .ok (.value v) w' :=
  @run_callFunc_extern Tryd.prog 28 _ _ Tryd.func28 (by kernel_rfl) (by kernel_rfl) (by kernel_rfl) (by kernel_rfl) args w
theorem call35 (args : Array Value) (w : World) : (callFunc 35 args).run Tryd.prog w = (((ReflectliteValue.method (ReflectliteValue.valueError "reflectlite.Value.Elem" 0) ReflectliteValue.elem) args).run Tryd.prog w).andThen fun v w' => .ok (.value v) w' :=
  @run_callFunc_extern Tryd.prog 35 _ _ Tryd.func35 (by kernel_rfl) (by kernel_rfl) (by kernel_rfl) (by kernel_rfl) args w
theorem call36 (args : Array Value) (w : World) : (callFunc 36 args).run Tryd.prog w = ((ReflectliteValue.set args).run Tryd.prog w).andThen fun v w' => .ok (.value v) w' :=
  @run_callFunc_extern Tryd.prog 36 _ _ Tryd.func36 (by kernel_rfl) (by kernel_rfl) (by kernel_rfl) (by kernel_rfl) args w
theorem Tryd.typeOf27 (v : Value) (w : World) : (callFunc 24 #[.iface 27 v]).run Tryd.prog w = .ok (.value (.iface 70 (.agg #[.pointer (some ⟨4, 27, none⟩)]))) w := by kernel_rfl
theorem Tryd.typeOf31 (v : Value) (w : World) : (callFunc 24 #[.iface 31 v]).run Tryd.prog w = .ok (.value (.iface 70 (.agg #[.pointer (some ⟨4, 31, none⟩)]))) w := by kernel_rfl
theorem Tryd.typeOf42 (v : Value) (w : World) : (callFunc 24 #[.iface 42 v]).run Tryd.prog w = .ok (.value (.iface 70 (.agg #[.pointer (some ⟨4, 42, none⟩)]))) w := by kernel_rfl
theorem Tryd.kind27 (w : World) : (callFunc 67 #[.pointer (some ⟨4, 27, none⟩)]).run Tryd.prog w = .ok (.value (.int .u8 2)) w := by kernel_rfl
theorem Tryd.kind42 (w : World) : (callFunc 67 #[.pointer (some ⟨4, 42, none⟩)]).run Tryd.prog w = .ok (.value (.int .u8 22)) w := by kernel_rfl
theorem Tryd.kind52 (w : World) : (callFunc 67 #[.pointer (some ⟨4, 52, none⟩)]).run Tryd.prog w = .ok (.value (.int .u8 22)) w := by kernel_rfl
theorem Tryd.kind44 (w : World) : (callFunc 67 #[.pointer (some ⟨4, 44, none⟩)]).run Tryd.prog w = .ok (.value (.int .u8 22)) w := by kernel_rfl
theorem Tryd.comparable27 (w : World) : (callFunc 78 #[.agg #[.pointer (some ⟨4, 27, none⟩)]]).run Tryd.prog w = .ok (.value (.bool true)) w := by kernel_rfl
theorem Tryd.valueOf52 (t : Addr) (w : World) : (callFunc 26 #[.iface 52 (.pointer (some t))]).run Tryd.prog w
    = .ok (.value (.agg #[.pointer (some ⟨4, 52, none⟩), .pointer (some ⟨w.heap.size, 0, none⟩), .int .u64 150])) (w.alloc (.cells #[.pointer (some t)] 52)) := by kernel_rfl
theorem Tryd.type52 (a : Addr) (w : World) : (callFunc 27 #[.agg #[.pointer (some ⟨4, 52, none⟩), .pointer (some a), .int .u64 150]]).run Tryd.prog w
    = .ok (.value (.iface 70 (.agg #[.pointer (some ⟨4, 52, none⟩)]))) w := by kernel_rfl
theorem Tryd.parts52 (a : Addr) (w : World) : (ReflectliteValue.parts (.agg #[.pointer (some ⟨4, 52, none⟩), .pointer (some a), .int .u64 150])).run Tryd.prog w = .ok (some (52, a, 150)) w := by kernel_rfl
theorem Tryd.isNil52 (a p : Addr) (W : World) (ha : W.cell? a = some (.pointer (some p))) :
    (callFunc 28 #[.agg #[.pointer (some ⟨4, 52, none⟩), .pointer (some a), .int .u64 150]]).run Tryd.prog W = .ok (.value (.bool false)) W := by
  rw [call28]
  refine run_bound ?_
  simp only [getLit, Tryd.parts52, Result.andThen]
  simp [ReflectliteValue.isNil, loadVar, isAgg, underlying, Tryd.underlying52, ha, Result.andThen]
theorem Tryd.elem52 (w : World) : (callFunc 79 #[.agg #[.pointer (some ⟨4, 52, none⟩)]]).run Tryd.prog w = .ok (.value (.iface 70 (.agg #[.pointer (some ⟨4, 27, none⟩)]))) w := by kernel_rfl
theorem Tryd.implements27 (w : World) : (callFunc 80 #[.agg #[.pointer (some ⟨4, 27, none⟩)], .iface 70 (.agg #[.pointer (some ⟨4, 25, none⟩)])]).run Tryd.prog w = .ok (.value (.bool true)) w := by kernel_rfl
theorem Tryd.assignable27_27 (w : World) : (callFunc 77 #[.agg #[.pointer (some ⟨4, 27, none⟩)], .iface 70 (.agg #[.pointer (some ⟨4, 27, none⟩)])]).run Tryd.prog w = .ok (.value (.bool true)) w := by kernel_rfl
theorem Tryd.assignable31_27 (w : World) : (callFunc 77 #[.agg #[.pointer (some ⟨4, 31, none⟩)], .iface 70 (.agg #[.pointer (some ⟨4, 27, none⟩)])]).run Tryd.prog w = .ok (.value (.bool false)) w := by kernel_rfl
theorem Tryd.assignable42_27 (w : World) : (callFunc 77 #[.agg #[.pointer (some ⟨4, 42, none⟩)], .iface 70 (.agg #[.pointer (some ⟨4, 27, none⟩)])]).run Tryd.prog w = .ok (.value (.bool false)) w := by kernel_rfl
theorem Tryd.valueOf27 (c : Int) (w : World) : (callFunc 26 #[.iface 27 (.int .i64 c)]).run Tryd.prog w
    = .ok (.value (.agg #[.pointer (some ⟨4, 27, none⟩), .pointer (some ⟨w.heap.size, 0, none⟩), .int .u64 130])) (w.alloc (.cells #[.int .i64 c] 27)) := by kernel_rfl
theorem Tryd.elemOf52 (w : World) : (Rtype.elem? 52).run Tryd.prog w = .ok (some 27) w := by kernel_rfl
theorem Tryd.mk27 (p : Addr) (w : World) : (ReflectliteValue.mk 27 p ReflectliteValue.flagAddr).run Tryd.prog w = .ok (.agg #[.pointer (some ⟨4, 27, none⟩), .pointer (some p), .int .u64 386]) w := by kernel_rfl
theorem Tryd.elemV52 (a p : Addr) (W : World) (ha : W.cell? a = some (.pointer (some p))) :
    (callFunc 35 #[.agg #[.pointer (some ⟨4, 52, none⟩), .pointer (some a), .int .u64 150]]).run Tryd.prog W
      = .ok (.value (.agg #[.pointer (some ⟨4, 27, none⟩), .pointer (some p), .int .u64 386])) W := by
  rw [call35]
  refine run_bound ?_
  simp only [getLit, Tryd.parts52, Result.andThen]
  simp [ReflectliteValue.elem, loadVar, isAgg, underlying, Tryd.underlying52, ha, Result.andThen, Tryd.elemOf52, Tryd.mk27]
theorem Tryd.parts27a (a : Addr) (w : World) : (ReflectliteValue.parts (.agg #[.pointer (some ⟨4, 27, none⟩), .pointer (some a), .int .u64 386])).run Tryd.prog w = .ok (some (27, a, 386)) w := by kernel_rfl
theorem Tryd.parts27 (a : Addr) (w : World) : (ReflectliteValue.parts (.agg #[.pointer (some ⟨4, 27, none⟩), .pointer (some a), .int .u64 130])).run Tryd.prog w = .ok (some (27, a, 130)) w := by kernel_rfl
theorem Tryd.direct27 (w : World) : (Rtype.directlyAssignable 27 27).run Tryd.prog w = .ok true w := by kernel_rfl
theorem Tryd.set27 (c : Int) (ta b : Addr) (old : Value) (W : World) (hb : W.cell? b = some (.int .i64 c)) (ht : W.cell? ta = some old) (hf : W.frozen? ta = false) :
    (callFunc 36 #[.agg #[.pointer (some ⟨4, 27, none⟩), .pointer (some ta), .int .u64 386], .agg #[.pointer (some ⟨4, 27, none⟩), .pointer (some b), .int .u64 130]]).run Tryd.prog W
      = .ok (.value (.tuple #[])) (W.setCell ta (.int .i64 c)) := by
  rw [call36]
  refine run_bound ?_
  simp only [getLit0, getLit1, Sem.run_bind, Tryd.parts27a, Tryd.parts27, Result.andThen]
  simp [ReflectliteValue.flagAddr, loadVar, isAgg, underlying, Tryd.underlying27, hb, Result.andThen, Tryd.direct27, storeVar, Value.cells, storeCells, Addr.add]
  rw [run_store Tryd.prog W ta _ _ (by rfl)]
  simp [ht, hf]
theorem Tryd.valueOf44 (t : Addr) (w : World) : (callFunc 26 #[.iface 44 (.pointer (some t))]).run Tryd.prog w
    = .ok (.value (.agg #[.pointer (some ⟨4, 44, none⟩), .pointer (some ⟨w.heap.size, 0, none⟩), .int .u64 150])) (w.alloc (.cells #[.pointer (some t)] 44)) := by kernel_rfl
theorem Tryd.type44 (a : Addr) (w : World) : (callFunc 27 #[.agg #[.pointer (some ⟨4, 44, none⟩), .pointer (some a), .int .u64 150]]).run Tryd.prog w
    = .ok (.value (.iface 70 (.agg #[.pointer (some ⟨4, 44, none⟩)]))) w := by kernel_rfl
theorem Tryd.parts44 (a : Addr) (w : World) : (ReflectliteValue.parts (.agg #[.pointer (some ⟨4, 44, none⟩), .pointer (some a), .int .u64 150])).run Tryd.prog w = .ok (some (44, a, 150)) w := by kernel_rfl
theorem Tryd.isNil44 (a p : Addr) (W : World) (ha : W.cell? a = some (.pointer (some p))) :
    (callFunc 28 #[.agg #[.pointer (some ⟨4, 44, none⟩), .pointer (some a), .int .u64 150]]).run Tryd.prog W = .ok (.value (.bool false)) W := by
  rw [call28]
  refine run_bound ?_
  simp only [getLit, Tryd.parts44, Result.andThen]
  simp [ReflectliteValue.isNil, loadVar, isAgg, underlying, Tryd.underlying44, ha, Result.andThen]
theorem Tryd.elem44 (w : World) : (callFunc 79 #[.agg #[.pointer (some ⟨4, 44, none⟩)]]).run Tryd.prog w = .ok (.value (.iface 70 (.agg #[.pointer (some ⟨4, 42, none⟩)]))) w := by kernel_rfl
theorem Tryd.implements42 (w : World) : (callFunc 80 #[.agg #[.pointer (some ⟨4, 42, none⟩)], .iface 70 (.agg #[.pointer (some ⟨4, 25, none⟩)])]).run Tryd.prog w = .ok (.value (.bool true)) w := by kernel_rfl
theorem Tryd.assignable27_42 (w : World) : (callFunc 77 #[.agg #[.pointer (some ⟨4, 27, none⟩)], .iface 70 (.agg #[.pointer (some ⟨4, 42, none⟩)])]).run Tryd.prog w = .ok (.value (.bool false)) w := by kernel_rfl
theorem Tryd.assignable31_42 (w : World) : (callFunc 77 #[.agg #[.pointer (some ⟨4, 31, none⟩)], .iface 70 (.agg #[.pointer (some ⟨4, 42, none⟩)])]).run Tryd.prog w = .ok (.value (.bool false)) w := by kernel_rfl
theorem Tryd.assignable42_42 (w : World) : (callFunc 77 #[.agg #[.pointer (some ⟨4, 42, none⟩)], .iface 70 (.agg #[.pointer (some ⟨4, 42, none⟩)])]).run Tryd.prog w = .ok (.value (.bool true)) w := by kernel_rfl
theorem Tryd.valueOf42 (e : Addr) (w : World) : (callFunc 26 #[.iface 42 (.pointer (some e))]).run Tryd.prog w
    = .ok (.value (.agg #[.pointer (some ⟨4, 42, none⟩), .pointer (some ⟨w.heap.size, 0, none⟩), .int .u64 150])) (w.alloc (.cells #[.pointer (some e)] 42)) := by kernel_rfl
theorem Tryd.elemOf44 (w : World) : (Rtype.elem? 44).run Tryd.prog w = .ok (some 42) w := by kernel_rfl
theorem Tryd.mk42 (p : Addr) (w : World) : (ReflectliteValue.mk 42 p ReflectliteValue.flagAddr).run Tryd.prog w = .ok (.agg #[.pointer (some ⟨4, 42, none⟩), .pointer (some p), .int .u64 406]) w := by kernel_rfl
theorem Tryd.elemV44 (a p : Addr) (W : World) (ha : W.cell? a = some (.pointer (some p))) :
    (callFunc 35 #[.agg #[.pointer (some ⟨4, 44, none⟩), .pointer (some a), .int .u64 150]]).run Tryd.prog W
      = .ok (.value (.agg #[.pointer (some ⟨4, 42, none⟩), .pointer (some p), .int .u64 406])) W := by
  rw [call35]
  refine run_bound ?_
  simp only [getLit, Tryd.parts44, Result.andThen]
  simp [ReflectliteValue.elem, loadVar, isAgg, underlying, Tryd.underlying44, ha, Result.andThen, Tryd.elemOf44, Tryd.mk42]
theorem Tryd.parts42a (a : Addr) (w : World) : (ReflectliteValue.parts (.agg #[.pointer (some ⟨4, 42, none⟩), .pointer (some a), .int .u64 406])).run Tryd.prog w = .ok (some (42, a, 406)) w := by kernel_rfl
theorem Tryd.parts42 (a : Addr) (w : World) : (ReflectliteValue.parts (.agg #[.pointer (some ⟨4, 42, none⟩), .pointer (some a), .int .u64 150])).run Tryd.prog w = .ok (some (42, a, 150)) w := by kernel_rfl
theorem Tryd.direct42 (w : World) : (Rtype.directlyAssignable 42 42).run Tryd.prog w = .ok true w := by kernel_rfl
theorem Tryd.set42 (e : Addr) (ta b : Addr) (old : Value) (W : World) (hb : W.cell? b = some (.pointer (some e))) (ht : W.cell? ta = some old) (hf : W.frozen? ta = false) :
    (callFunc 36 #[.agg #[.pointer (some ⟨4, 42, none⟩), .pointer (some ta), .int .u64 406], .agg #[.pointer (some ⟨4, 42, none⟩), .pointer (some b), .int .u64 150]]).run Tryd.prog W
      = .ok (.value (.tuple #[])) (W.setCell ta (.pointer (some e))) := by
  rw [call36]
  refine run_bound ?_
  simp only [getLit0, getLit1, Sem.run_bind, Tryd.parts42a, Tryd.parts42, Result.andThen]
  simp [ReflectliteValue.flagAddr, loadVar, isAgg, underlying, Tryd.underlying42, hb, Result.andThen, Tryd.direct42, storeVar, Value.cells, storeCells, Addr.add]
  rw [run_store Tryd.prog W ta _ _ (by rfl)]
  simp [ht, hf]
theorem Tryd.noAs27 (v : Value) (xT : TypeId) (w : World) : (Instr.typeAssert (.iface 27 v) xT 80 true).run Tryd.prog w = .ok (.tuple #[.nilIface, .bool false]) w := run_typeAssert_lacksB Tryd.underlying80 (by kernel_rfl) (by kernel_rfl) v xT w
theorem Tryd.noAs31 (v : Value) (xT : TypeId) (w : World) : (Instr.typeAssert (.iface 31 v) xT 80 true).run Tryd.prog w = .ok (.tuple #[.nilIface, .bool false]) w := run_typeAssert_lacksB Tryd.underlying80 (by kernel_rfl) (by kernel_rfl) v xT w
theorem Tryd.noAs42 (v : Value) (xT : TypeId) (w : World) : (Instr.typeAssert (.iface 42 v) xT 80 true).run Tryd.prog w = .ok (.tuple #[.nilIface, .bool false]) w := run_typeAssert_lacksB Tryd.underlying80 (by kernel_rfl) (by kernel_rfl) v xT w
theorem Tryd.noMany27 (v : Value) (xT : TypeId) (w : World) : (Instr.typeAssert (.iface 27 v) xT 75 true).run Tryd.prog w = .ok (.tuple #[.nilIface, .bool false]) w := run_typeAssert_lacksB Tryd.underlying75 (by kernel_rfl) (by kernel_rfl) v xT w
theorem Tryd.noIs27 (v : Value) (xT : TypeId) (w : World) : (Instr.typeAssert (.iface 27 v) xT 72 true).run Tryd.prog w = .ok (.tuple #[.nilIface, .bool false]) w := run_typeAssert_lacksB Tryd.underlying72 (by kernel_rfl) (by kernel_rfl) v xT w
theorem Tryd.noIs31 (v : Value) (xT : TypeId) (w : World) : (Instr.typeAssert (.iface 31 v) xT 72 true).run Tryd.prog w = .ok (.tuple #[.nilIface, .bool false]) w := run_typeAssert_lacksB Tryd.underlying72 (by kernel_rfl) (by kernel_rfl) v xT w
theorem Tryd.noIs42 (v : Value) (xT : TypeId) (w : World) : (Instr.typeAssert (.iface 42 v) xT 72 true).run Tryd.prog w = .ok (.tuple #[.nilIface, .bool false]) w := run_typeAssert_lacksB Tryd.underlying72 (by kernel_rfl) (by kernel_rfl) v xT w
end Go.Proofs.YtpjpoefcammnoaaDoor
