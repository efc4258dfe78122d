/- errors.As of one error that stands alone: the model's entries for internal/reflectlite at this program's types, part's As. -/
import Derived.Test.YtgijihfijoiafaaGreatDoorQPChkWth
import Derived.RowKitTokens
import Derived.Deep.LoopGhost
namespace Go.Proofs.YtgijihfijoiafaaGreatDoor
set_option linter.unusedVariables false
open Go.RowKit Go.ChangeShapes Go.Extern.Stop Go.Stop Go.Extern

theorem getLit (a : Value) (h1 : (#[a] : Array Value).size = 1) (h2 : 0 < 1) : Array.getLit #[a] 0 h1 h2 = a := rfl
/-- One step of an entry's run, its text laid open by the unifier. -/
theorem run_bound {α β γ : Type} {P : Program} {w : World} {x : Sem α} {f : α → Sem β} {g : β → World → Result γ} {r : Result γ} (h : ((x.run P w).andThen fun a w' => (f a).run P w').andThen g = r) : ((x >>= f).run P w).andThen g = r := by
  rw [Sem.run_bind]; exact h

theorem Tryz.methKind (h : Value) (w : World) : (Go.method 367 181 (.agg #[h]) "Kind").run Tryz.prog w = .ok (190, h) w := by kernel_rfl
theorem Tryz.methElem (h : Value) (w : World) : (Go.method 367 181 (.agg #[h]) "Elem").run Tryz.prog w = .ok (206, .agg #[h]) w := by kernel_rfl
theorem Tryz.methImplements (h : Value) (w : World) : (Go.method 367 181 (.agg #[h]) "Implements").run Tryz.prog w = .ok (207, .agg #[h]) w := by kernel_rfl
theorem Tryz.methAssignableTo (h : Value) (w : World) : (Go.method 367 181 (.agg #[h]) "AssignableTo").run Tryz.prog w = .ok (204, .agg #[h]) w := by kernel_rfl
theorem callIsNil (args : Array Value) (w : World) : (callFunc 81 args).run Tryz.prog w = (((ReflectliteValue.method (ReflectliteValue.valueError "reflectlite.Value.IsNil" 0) ReflectliteValue.isNil) args).run Tryz.prog w).andThen fun v w' => .ok (.value v) w' :=
  @run_callFunc_extern Tryz.prog 81 _ _ Tryz.func81 (by kernel_rfl) (by kernel_rfl) (by kernel_rfl) (by kernel_rfl) args w
theorem Tryz.typeOfA (v : Value) (w : World) : (callFunc 126 #[.iface 124 v]).run Tryz.prog w = .ok (.value (.iface 181 (.agg #[.pointer (some ⟨4, 124, none⟩)]))) w := by kernel_rfl
theorem Tryz.kindKA (w : World) : (callFunc 190 #[.pointer (some ⟨4, 88, none⟩)]).run Tryz.prog w = .ok (.value (.int .u8 22)) w := by kernel_rfl
theorem Tryz.kindEA (w : World) : (callFunc 190 #[.pointer (some ⟨4, 81, none⟩)]).run Tryz.prog w = .ok (.value (.int .u8 22)) w := by kernel_rfl
theorem Tryz.valueOfA (t : Addr) (w : World) : (callFunc 79 #[.iface 88 (.pointer (some t))]).run Tryz.prog w
    = .ok (.value (.agg #[.pointer (some ⟨4, 88, none⟩), .pointer (some ⟨w.heap.size, 0, none⟩), .int .u64 150])) (w.alloc (.cells #[.pointer (some t)] 88)) := by kernel_rfl
theorem Tryz.typeA (a : Addr) (w : World) : (callFunc 80 #[.agg #[.pointer (some ⟨4, 88, none⟩), .pointer (some a), .int .u64 150]]).run Tryz.prog w
    = .ok (.value (.iface 181 (.agg #[.pointer (some ⟨4, 88, none⟩)]))) w := by kernel_rfl
theorem Tryz.partsA (a : Addr) (w : World) : (ReflectliteValue.parts (.agg #[.pointer (some ⟨4, 88, none⟩), .pointer (some a), .int .u64 150])).run Tryz.prog w = .ok (some (88, a, 150)) w := by kernel_rfl
theorem Tryz.isNilA (a p : Addr) (W : World) (ha : W.cell? a = some (.pointer (some p))) :
    (callFunc 81 #[.agg #[.pointer (some ⟨4, 88, none⟩), .pointer (some a), .int .u64 150]]).run Tryz.prog W = .ok (.value (.bool false)) W := by
  rw [callIsNil]
  refine run_bound ?_
  simp only [getLit, Tryz.partsA, Result.andThen]
  simp [ReflectliteValue.isNil, loadVar, isAgg, underlying, Tryz.underlying88, ha, Result.andThen]
theorem Tryz.elemA (w : World) : (callFunc 206 #[.agg #[.pointer (some ⟨4, 88, none⟩)]]).run Tryz.prog w = .ok (.value (.iface 181 (.agg #[.pointer (some ⟨4, 81, none⟩)]))) w := by kernel_rfl
theorem Tryz.implementsA (w : World) : (callFunc 207 #[.agg #[.pointer (some ⟨4, 81, none⟩)], .iface 181 (.agg #[.pointer (some ⟨4, 30, none⟩)])]).run Tryz.prog w = .ok (.value (.bool true)) w := by kernel_rfl
theorem Tryz.assignableA (w : World) : (callFunc 204 #[.agg #[.pointer (some ⟨4, 124, none⟩)], .iface 181 (.agg #[.pointer (some ⟨4, 81, none⟩)])]).run Tryz.prog w = .ok (.value (.bool false)) w := by kernel_rfl
theorem Tryz.hasAsA (v : Value) (xT : TypeId) (w : World) : (Instr.typeAssert (.iface 124 v) xT 173 true).run Tryz.prog w = .ok (.tuple #[.iface 124 v, .bool true]) w := run_typeAssert_hasB Tryz.underlying173 (by kernel_rfl) v xT w
theorem Tryz.methAsA (v : Value) (w : World) : (Go.method 367 124 (.agg #[v]) "As").run Tryz.prog w = .ok (196, .agg #[v]) w := by kernel_rfl
theorem Tryz.tgtA (v : Value) (xT : TypeId) (w : World) : (Instr.typeAssert (.iface 88 v) xT 88 true).run Tryz.prog w = .ok (.tuple #[v, .bool true]) w := by kernel_rfl
theorem Tryz.typeOfN (v : Value) (w : World) : (callFunc 126 #[.iface 138 v]).run Tryz.prog w = .ok (.value (.iface 181 (.agg #[.pointer (some ⟨4, 138, none⟩)]))) w := by kernel_rfl
theorem Tryz.kindKN (w : World) : (callFunc 190 #[.pointer (some ⟨4, 89, none⟩)]).run Tryz.prog w = .ok (.value (.int .u8 22)) w := by kernel_rfl
theorem Tryz.kindEN (w : World) : (callFunc 190 #[.pointer (some ⟨4, 23, none⟩)]).run Tryz.prog w = .ok (.value (.int .u8 2)) w := by kernel_rfl
theorem Tryz.valueOfN (t : Addr) (w : World) : (callFunc 79 #[.iface 89 (.pointer (some t))]).run Tryz.prog w
    = .ok (.value (.agg #[.pointer (some ⟨4, 89, none⟩), .pointer (some ⟨w.heap.size, 0, none⟩), .int .u64 150])) (w.alloc (.cells #[.pointer (some t)] 89)) := by kernel_rfl
theorem Tryz.typeN (a : Addr) (w : World) : (callFunc 80 #[.agg #[.pointer (some ⟨4, 89, none⟩), .pointer (some a), .int .u64 150]]).run Tryz.prog w
    = .ok (.value (.iface 181 (.agg #[.pointer (some ⟨4, 89, none⟩)]))) w := by kernel_rfl
theorem Tryz.partsN (a : Addr) (w : World) : (ReflectliteValue.parts (.agg #[.pointer (some ⟨4, 89, none⟩), .pointer (some a), .int .u64 150])).run Tryz.prog w = .ok (some (89, a, 150)) w := by kernel_rfl
theorem Tryz.isNilN (a p : Addr) (W : World) (ha : W.cell? a = some (.pointer (some p))) :
    (callFunc 81 #[.agg #[.pointer (some ⟨4, 89, none⟩), .pointer (some a), .int .u64 150]]).run Tryz.prog W = .ok (.value (.bool false)) W := by
  rw [callIsNil]
  refine run_bound ?_
  simp only [getLit, Tryz.partsN, Result.andThen]
  simp [ReflectliteValue.isNil, loadVar, isAgg, underlying, Tryz.underlying89, ha, Result.andThen]
theorem Tryz.elemN (w : World) : (callFunc 206 #[.agg #[.pointer (some ⟨4, 89, none⟩)]]).run Tryz.prog w = .ok (.value (.iface 181 (.agg #[.pointer (some ⟨4, 23, none⟩)]))) w := by kernel_rfl
theorem Tryz.implementsN (w : World) : (callFunc 207 #[.agg #[.pointer (some ⟨4, 23, none⟩)], .iface 181 (.agg #[.pointer (some ⟨4, 30, none⟩)])]).run Tryz.prog w = .ok (.value (.bool true)) w := by kernel_rfl
theorem Tryz.assignableN (w : World) : (callFunc 204 #[.agg #[.pointer (some ⟨4, 138, none⟩)], .iface 181 (.agg #[.pointer (some ⟨4, 23, none⟩)])]).run Tryz.prog w = .ok (.value (.bool false)) w := by kernel_rfl
theorem Tryz.hasAsN (v : Value) (xT : TypeId) (w : World) : (Instr.typeAssert (.iface 138 v) xT 173 true).run Tryz.prog w = .ok (.tuple #[.iface 138 v, .bool true]) w := run_typeAssert_hasB Tryz.underlying173 (by kernel_rfl) v xT w
theorem Tryz.methAsN (v : Value) (w : World) : (Go.method 367 138 (.agg #[v]) "As").run Tryz.prog w = .ok (201, .agg #[v]) w := by kernel_rfl
theorem Tryz.tgtN (v : Value) (xT : TypeId) (w : World) : (Instr.typeAssert (.iface 89 v) xT 89 true).run Tryz.prog w = .ok (.tuple #[v, .bool true]) w := by kernel_rfl
end Go.Proofs.YtgijihfijoiafaaGreatDoor
/- errors.As of one error that stands alone. -/
namespace Go.Proofs.YtgijihfijoiafaaGreatDoor
set_option linter.unusedVariables false
open Go.RowKit Go.ChangeShapes
/-- errors.errorType holds the type error. -/
def Ety (w : World) : Prop := w.cell? ⟨0, 0, none⟩ = some (.iface 181 (.agg #[.pointer (some ⟨4, 30, none⟩)]))
theorem Ety.stay {w w' : World} (h : Ety w) (hb : Below w.heap.size w w') : Ety w' := cell_stay h hb
theorem Ety.alloc {w : World} (h : Ety w) (o : Obj) : Ety (w.alloc o) := cell_alloc h o
theorem Ety.kept {w w' : World} {n : Nat} {p : Nat → Prop} (h : Ety w) (k : Kpt n p w w') (hn : 0 < n) (hp : ¬ p 0) : Ety w' := (k.cell hn hp).trans h
/-- Where a target lies. -/
def Tgt (w : World) (a : Addr) : Prop := a.block < w.heap.size ∧ w.frozen? a = false ∧ ∃ old, w.cell? a = some old
theorem Tgt.stay {w w' : World} {a : Addr} (h : Tgt w a) (hb : Below w.heap.size w w') : Tgt w' a :=
  ⟨Nat.lt_of_lt_of_le h.1 hb.size, (hb.frozen h.1).trans h.2.1, h.2.2.elim fun o ho => ⟨o, (hb.cell h.1).trans ho⟩⟩
theorem Tgt.alloc {w : World} {a : Addr} (h : Tgt w a) (o : Obj) : Tgt (w.alloc o) a := h.stay ((Below.refl _ _).alloc (Nat.le_refl _) o)

theorem partAsA (b : Nat) (tgt : Addr) (w : World) (ht : Tgt w tgt) :
    Calls Tryz.prog 196 #[.agg #[.iface 81 (.pointer (some ⟨b, 0, none⟩))], .iface 88 (.pointer (some tgt))] w fun e w' => e = .returned (.bool true) ∧ ∃ w1, Below w.heap.size w w1 ∧ w' = w1.setCell tgt (.pointer (some ⟨b, 0, none⟩)) := by
  have h1 := Tryz.tgtA
  have h2 := Tryz.asAA
  obtain ⟨t1, t2, old, t3⟩ := (ht.alloc (.cells #[.iface 81 (.pointer (some ⟨b, 0, none⟩))] 124)).alloc (.cells #[.iface 88 (.pointer (some tgt))] 20)
  have hu : Hid (Up w.heap.size w ((w.alloc (.cells #[.iface 81 (.pointer (some ⟨b, 0, none⟩))] 124)).alloc (.cells #[.iface 88 (.pointer (some tgt))] 20))) := ((Up.refl w).alloc _).alloc _
  clear ht t1
  go_enter Tryz.func196, Tryz.ntmps196
  go_wp2
  go_ret
  exact ⟨rfl, _, hu.out.1, rfl⟩
theorem as1A (b : Nat) (tgt vb : Addr) (w : World) (ht : Tgt w tgt) :
    Calls Tryz.prog 82 #[.iface 124 (.agg #[.iface 81 (.pointer (some ⟨b, 0, none⟩))]), .iface 88 (.pointer (some tgt)), .agg #[.pointer (some ⟨4, 88, none⟩), .pointer (some vb), .int .u64 150], .iface 181 (.agg #[.pointer (some ⟨4, 81, none⟩)])] w fun e w' => e = .returned (.bool true) ∧ ∃ w1, Below w.heap.size w w1 ∧ w' = w1.setCell tgt (.pointer (some ⟨b, 0, none⟩)) := by
  have a1 := Tryz.typeOfA
  have a2 := Tryz.methAssignableTo
  have a3 := Tryz.assignableA
  have a4 := Tryz.hasAsA
  have a5 := Tryz.methAsA
  have HU : Hid (Up w.heap.size w (w.alloc (.cells #[.pointer (some ⟨4, 88, none⟩), .pointer (some vb), .int .u64 150] 129))) := (Up.refl w).alloc _
  have cp := partAsA b tgt (w.alloc (.cells #[.pointer (some ⟨4, 88, none⟩), .pointer (some vb), .int .u64 150] 129)) (ht.alloc _)
  clear ht
  generalize hW : w.alloc (.cells #[.pointer (some ⟨4, 88, none⟩), .pointer (some vb), .int .u64 150] 129) = W at *
  go_enter Tryz.func82, Tryz.ntmps82
  go_wp2
  go_loopg [0] 1 (fun g err wr => g = 1 ∧ err = .iface 124 (.agg #[.iface 81 (.pointer (some ⟨b, 0, none⟩))]) ∧ Hid (wr = W))
  case atStart => exact ⟨rfl, rfl, rfl⟩
  case round =>
    obtain ⟨hg, rfl, HW⟩ := hrel
    obtain rfl := HW.out
    go_wp2_with fail
    refine cp.mono ?_
    rintro e w1 ⟨rfl, hx⟩
    have HX : Hid (∃ w2, Below wr.heap.size wr w2 ∧ w1 = w2.setCell tgt (.pointer (some ⟨b, 0, none⟩))) := hx
    clear hx cp
    go_wp2
    go_ret
    obtain ⟨w2, hb, he⟩ := HX.out
    exact ⟨rfl, w2, (HU.out.stay hb).1, he⟩
theorem AsA (b : Nat) (tgt : Addr) (w : World) (hg : Ety w) (ht : Tgt w tgt) :
    Calls Tryz.prog 47 #[.iface 124 (.agg #[.iface 81 (.pointer (some ⟨b, 0, none⟩))]), .iface 88 (.pointer (some tgt))] w fun e w' => e = .returned (.bool true) ∧ ∃ w1, Below w.heap.size w w1 ∧ w' = w1.setCell tgt (.pointer (some ⟨b, 0, none⟩)) := by
  have HU : Hid (Up w.heap.size w ((w.alloc (.cells #[.pointer (some tgt)] 88)).alloc (.cells #[.pointer (some ⟨4, 88, none⟩), .pointer (some ⟨w.heap.size, 0, none⟩), .int .u64 150] 129))) := ((Up.refl w).alloc _).alloc _
  have ca := as1A b tgt ⟨w.heap.size, 0, none⟩ ((w.alloc (.cells #[.pointer (some tgt)] 88)).alloc (.cells #[.pointer (some ⟨4, 88, none⟩), .pointer (some ⟨w.heap.size, 0, none⟩), .int .u64 150] 129)) ((ht.alloc _).alloc _)
  have e1 := (hg.alloc (.cells #[.pointer (some tgt)] 88)).alloc (.cells #[.pointer (some ⟨4, 88, none⟩), .pointer (some ⟨w.heap.size, 0, none⟩), .int .u64 150] 129)
  unfold Ety at e1
  have a1 := Tryz.valueOfA
  have a2 := Tryz.typeA
  have a3 := Tryz.methKind
  have a4 := Tryz.kindKA
  have a5 := Tryz.isNilA ⟨w.heap.size, 0, none⟩ tgt ((w.alloc (.cells #[.pointer (some tgt)] 88)).alloc (.cells #[.pointer (some ⟨4, 88, none⟩), .pointer (some ⟨w.heap.size, 0, none⟩), .int .u64 150] 129)) (by go_simp)
  have a6 := Tryz.methElem
  have a7 := Tryz.elemA
  have a8 := Tryz.kindEA
  have a9 := Tryz.methImplements
  have a0 := Tryz.implementsA
  clear hg ht
  go_enter Tryz.func47, Tryz.ntmps47
  go_wp2_with fail
  refine ca.mono ?_
  rintro e w1 ⟨rfl, hx⟩
  have HX : Hid (∃ w2, Below ((w.alloc (.cells #[.pointer (some tgt)] 88)).alloc (.cells #[.pointer (some ⟨4, 88, none⟩), .pointer (some ⟨w.heap.size, 0, none⟩), .int .u64 150] 129)).heap.size ((w.alloc (.cells #[.pointer (some tgt)] 88)).alloc (.cells #[.pointer (some ⟨4, 88, none⟩), .pointer (some ⟨w.heap.size, 0, none⟩), .int .u64 150] 129)) w2 ∧ w1 = w2.setCell tgt (.pointer (some ⟨b, 0, none⟩))) := hx
  clear hx ca
  go_wp2
  go_ret
  obtain ⟨w2, hb, he⟩ := HX.out
  exact ⟨rfl, w2, (HU.out.stay hb).1, he⟩
theorem partAsN (c : Int) (tgt : Addr) (w : World) (ht : Tgt w tgt) :
    Calls Tryz.prog 201 #[.agg #[.iface 23 (.int .i64 c)], .iface 89 (.pointer (some tgt))] w fun e w' => e = .returned (.bool true) ∧ ∃ w1, Below w.heap.size w w1 ∧ w' = w1.setCell tgt (.int .i64 c) := by
  have h1 := Tryz.tgtN
  have h2 := Tryz.asNN
  obtain ⟨t1, t2, old, t3⟩ := (ht.alloc (.cells #[.iface 23 (.int .i64 c)] 138)).alloc (.cells #[.iface 89 (.pointer (some tgt))] 20)
  have hu : Hid (Up w.heap.size w ((w.alloc (.cells #[.iface 23 (.int .i64 c)] 138)).alloc (.cells #[.iface 89 (.pointer (some tgt))] 20))) := ((Up.refl w).alloc _).alloc _
  clear ht t1
  go_enter Tryz.func201, Tryz.ntmps201
  go_wp2
  go_ret
  exact ⟨rfl, _, hu.out.1, rfl⟩
theorem as1N (c : Int) (tgt vb : Addr) (w : World) (ht : Tgt w tgt) :
    Calls Tryz.prog 82 #[.iface 138 (.agg #[.iface 23 (.int .i64 c)]), .iface 89 (.pointer (some tgt)), .agg #[.pointer (some ⟨4, 89, none⟩), .pointer (some vb), .int .u64 150], .iface 181 (.agg #[.pointer (some ⟨4, 23, none⟩)])] w fun e w' => e = .returned (.bool true) ∧ ∃ w1, Below w.heap.size w w1 ∧ w' = w1.setCell tgt (.int .i64 c) := by
  have a1 := Tryz.typeOfN
  have a2 := Tryz.methAssignableTo
  have a3 := Tryz.assignableN
  have a4 := Tryz.hasAsN
  have a5 := Tryz.methAsN
  have HU : Hid (Up w.heap.size w (w.alloc (.cells #[.pointer (some ⟨4, 89, none⟩), .pointer (some vb), .int .u64 150] 129))) := (Up.refl w).alloc _
  have cp := partAsN c tgt (w.alloc (.cells #[.pointer (some ⟨4, 89, none⟩), .pointer (some vb), .int .u64 150] 129)) (ht.alloc _)
  clear ht
  generalize hW : w.alloc (.cells #[.pointer (some ⟨4, 89, none⟩), .pointer (some vb), .int .u64 150] 129) = W at *
  go_enter Tryz.func82, Tryz.ntmps82
  go_wp2
  go_loopg [0] 1 (fun g err wr => g = 1 ∧ err = .iface 138 (.agg #[.iface 23 (.int .i64 c)]) ∧ Hid (wr = W))
  case atStart => exact ⟨rfl, rfl, rfl⟩
  case round =>
    obtain ⟨hg, rfl, HW⟩ := hrel
    obtain rfl := HW.out
    go_wp2_with fail
    refine cp.mono ?_
    rintro e w1 ⟨rfl, hx⟩
    have HX : Hid (∃ w2, Below wr.heap.size wr w2 ∧ w1 = w2.setCell tgt (.int .i64 c)) := hx
    clear hx cp
    go_wp2
    go_ret
    obtain ⟨w2, hb, he⟩ := HX.out
    exact ⟨rfl, w2, (HU.out.stay hb).1, he⟩
theorem AsN (c : Int) (tgt : Addr) (w : World) (hg : Ety w) (ht : Tgt w tgt) :
    Calls Tryz.prog 47 #[.iface 138 (.agg #[.iface 23 (.int .i64 c)]), .iface 89 (.pointer (some tgt))] w fun e w' => e = .returned (.bool true) ∧ ∃ w1, Below w.heap.size w w1 ∧ w' = w1.setCell tgt (.int .i64 c) := by
  have HU : Hid (Up w.heap.size w ((w.alloc (.cells #[.pointer (some tgt)] 89)).alloc (.cells #[.pointer (some ⟨4, 89, none⟩), .pointer (some ⟨w.heap.size, 0, none⟩), .int .u64 150] 129))) := ((Up.refl w).alloc _).alloc _
  have ca := as1N c tgt ⟨w.heap.size, 0, none⟩ ((w.alloc (.cells #[.pointer (some tgt)] 89)).alloc (.cells #[.pointer (some ⟨4, 89, none⟩), .pointer (some ⟨w.heap.size, 0, none⟩), .int .u64 150] 129)) ((ht.alloc _).alloc _)
  have e1 := (hg.alloc (.cells #[.pointer (some tgt)] 89)).alloc (.cells #[.pointer (some ⟨4, 89, none⟩), .pointer (some ⟨w.heap.size, 0, none⟩), .int .u64 150] 129)
  unfold Ety at e1
  have a1 := Tryz.valueOfN
  have a2 := Tryz.typeN
  have a3 := Tryz.methKind
  have a4 := Tryz.kindKN
  have a5 := Tryz.isNilN ⟨w.heap.size, 0, none⟩ tgt ((w.alloc (.cells #[.pointer (some tgt)] 89)).alloc (.cells #[.pointer (some ⟨4, 89, none⟩), .pointer (some ⟨w.heap.size, 0, none⟩), .int .u64 150] 129)) (by go_simp)
  have a6 := Tryz.methElem
  have a7 := Tryz.elemN
  have a8 := Tryz.kindEN
  have a9 := Tryz.methImplements
  have a0 := Tryz.implementsN
  clear hg ht
  go_enter Tryz.func47, Tryz.ntmps47
  go_wp2_with fail
  refine ca.mono ?_
  rintro e w1 ⟨rfl, hx⟩
  have HX : Hid (∃ w2, Below ((w.alloc (.cells #[.pointer (some tgt)] 89)).alloc (.cells #[.pointer (some ⟨4, 89, none⟩), .pointer (some ⟨w.heap.size, 0, none⟩), .int .u64 150] 129)).heap.size ((w.alloc (.cells #[.pointer (some tgt)] 89)).alloc (.cells #[.pointer (some ⟨4, 89, none⟩), .pointer (some ⟨w.heap.size, 0, none⟩), .int .u64 150] 129)) w2 ∧ w1 = w2.setCell tgt (.int .i64 c)) := hx
  clear hx ca
  go_wp2
  go_ret
  obtain ⟨w2, hb, he⟩ := HX.out
  exact ⟨rfl, w2, (HU.out.stay hb).1, he⟩
end Go.Proofs.YtgijihfijoiafaaGreatDoor
