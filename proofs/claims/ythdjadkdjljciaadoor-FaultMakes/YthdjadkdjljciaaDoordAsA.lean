/- errors.As of one error of a list. -/
import Derived.Test.YthdjadkdjljciaaDoordMad
import Derived.RowKitTokens
namespace Go.Proofs.YthdjadkdjljciaaDoor
set_option linter.unusedVariables false
open Go.RowKit Go.ChangeShapes Go.Extern.Stop Go.Stop Go.Extern
theorem getLit0 (a b : Value) (h1 : (#[a, b] : Array Value).size = 2) (h2 : 0 < 2) : Array.getLit #[a, b] 0 h1 h2 = a := rfl
theorem getLit1 (a b : Value) (h1 : (#[a, b] : Array Value).size = 2) (h2 : 1 < 2) : Array.getLit #[a, b] 1 h1 h2 = b := rfl
theorem callElemV (args : Array Value) (w : World) : (callFunc 34 args).run Tryd.prog w = (((ReflectliteValue.method (ReflectliteValue.valueError "reflectlite.Value.Elem" 0) ReflectliteValue.elem) args).run Tryd.prog w).andThen fun v w' => .ok (.value v) w' :=
  @run_callFunc_extern Tryd.prog 34 _ _ Tryd.func34 (by kernel_rfl) (by kernel_rfl) (by kernel_rfl) (by kernel_rfl) args w
theorem callSetV (args : Array Value) (w : World) : (callFunc 35 args).run Tryd.prog w = ((ReflectliteValue.set args).run Tryd.prog w).andThen fun v w' => .ok (.value v) w' :=
  @run_callFunc_extern Tryd.prog 35 _ _ Tryd.func35 (by kernel_rfl) (by kernel_rfl) (by kernel_rfl) (by kernel_rfl) args w
theorem Tryd.typeOfAt (v : Value) (w : World) : (callFunc 21 #[.iface 42 v]).run Tryd.prog w = .ok (.value (.iface 81 (.agg #[.pointer (some ⟨4, 42, none⟩)]))) w := by kernel_rfl
theorem Tryd.assignAt (w : World) : (callFunc 92 #[.agg #[.pointer (some ⟨4, 42, none⟩)], .iface 81 (.agg #[.pointer (some ⟨4, 42, none⟩)])]).run Tryd.prog w = .ok (.value (.bool true)) w := by kernel_rfl
theorem Tryd.valueOfAt (e : Addr) (w : World) : (callFunc 23 #[.iface 42 (.pointer (some e))]).run Tryd.prog w
    = .ok (.value (.agg #[.pointer (some ⟨4, 42, none⟩), .pointer (some ⟨w.heap.size, 0, none⟩), .int .u64 150])) (w.alloc (.cells #[.pointer (some e)] 42)) := by kernel_rfl
theorem Tryd.elemOfK (w : World) : (Rtype.elem? 44).run Tryd.prog w = .ok (some 42) w := by kernel_rfl
theorem Tryd.mkAt (p : Addr) (w : World) : (ReflectliteValue.mk 42 p ReflectliteValue.flagAddr).run Tryd.prog w = .ok (.agg #[.pointer (some ⟨4, 42, none⟩), .pointer (some p), .int .u64 406]) w := by kernel_rfl
theorem Tryd.elemVK (a p : Addr) (W : World) (ha : W.cell? a = some (.pointer (some p))) :
    (callFunc 34 #[.agg #[.pointer (some ⟨4, 44, none⟩), .pointer (some a), .int .u64 150]]).run Tryd.prog W
      = .ok (.value (.agg #[.pointer (some ⟨4, 42, none⟩), .pointer (some p), .int .u64 406])) W := by
  rw [callElemV]
  refine run_bound ?_
  simp only [getLit, Tryd.partsA, Result.andThen]
  simp [ReflectliteValue.elem, loadVar, isAgg, underlying, Tryd.underlying44, ha, Result.andThen, Tryd.elemOfK, Tryd.mkAt]
theorem Tryd.partsAt1 (a : Addr) (w : World) : (ReflectliteValue.parts (.agg #[.pointer (some ⟨4, 42, none⟩), .pointer (some a), .int .u64 406])).run Tryd.prog w = .ok (some (42, a, 406)) w := by kernel_rfl
theorem Tryd.partsAt0 (a : Addr) (w : World) : (ReflectliteValue.parts (.agg #[.pointer (some ⟨4, 42, none⟩), .pointer (some a), .int .u64 150])).run Tryd.prog w = .ok (some (42, a, 150)) w := by kernel_rfl
theorem Tryd.directAt (w : World) : (Rtype.directlyAssignable 42 42).run Tryd.prog w = .ok true w := by kernel_rfl
theorem Tryd.setAt (e : Addr) (ta b : Addr) (old : Value) (W : World) (hb : W.cell? b = some (.pointer (some e))) (ht : W.cell? ta = some old) (hf : W.frozen? ta = false) :
    (callFunc 35 #[.agg #[.pointer (some ⟨4, 42, none⟩), .pointer (some ta), .int .u64 406], .agg #[.pointer (some ⟨4, 42, none⟩), .pointer (some b), .int .u64 150]]).run Tryd.prog W
      = .ok (.value (.tuple #[])) (W.setCell ta (.pointer (some e))) := by
  rw [callSetV]
  refine run_bound ?_
  simp only [getLit0, getLit1, Sem.run_bind, Tryd.partsAt1, Tryd.partsAt0, Result.andThen]
  simp [ReflectliteValue.flagAddr, loadVar, isAgg, underlying, Tryd.underlying42, hb, Result.andThen, Tryd.directAt, storeVar, Value.cells, storeCells, Addr.add]
  rw [run_store Tryd.prog W ta _ _ (by rfl)]
  simp [ht, hf]
set_option maxHeartbeats 1000000 in
theorem asAt (b : Nat) (tgt vb : Addr) (w : World) (hc : w.cell? vb = some (.pointer (some tgt))) (ht : Tgt w tgt) :
    Calls Tryd.prog 26 #[.iface 42 (.pointer (some ⟨b, 0, none⟩)), .iface 44 (.pointer (some tgt)), .agg #[.pointer (some ⟨4, 44, none⟩), .pointer (some vb), .int .u64 150], .iface 81 (.agg #[.pointer (some ⟨4, 42, none⟩)])] w fun e w' => e = .returned (.bool true) ∧ ∃ w1, Below w.heap.size w w1 ∧ w' = w1.setCell tgt (.pointer (some ⟨b, 0, none⟩)) := by
  have HU : Hid (Up w.heap.size w (w.alloc (.cells #[.pointer (some ⟨4, 44, none⟩), .pointer (some vb), .int .u64 150] 62))) := (Up.refl w).alloc _
  have hk : Bk (w.alloc (.cells #[.pointer (some ⟨4, 44, none⟩), .pointer (some vb), .int .u64 150] 62)) w.heap.size #[.pointer (some ⟨4, 44, none⟩), .pointer (some vb), .int .u64 150] 62 := Bk.new w _ _
  have s0 := hk.cell 0 rfl
  have s1 := hk.cell 1 rfl
  have s2 := hk.cell 2 rfl
  have a1 := Tryd.typeOfAt
  have a2 := Tryd.methAssignableTo
  have a3 := Tryd.assignAt
  have a4 := Tryd.elemVK vb tgt (w.alloc (.cells #[.pointer (some ⟨4, 44, none⟩), .pointer (some vb), .int .u64 150] 62)) (cell_alloc hc _)
  have a5 := Tryd.valueOfAt ⟨b, 0, none⟩
  obtain ⟨t1, t2, old, t3⟩ := (ht.alloc (.cells #[.pointer (some ⟨4, 44, none⟩), .pointer (some vb), .int .u64 150] 62)).alloc (.cells #[.pointer (some ⟨b, 0, none⟩)] 42)
  generalize hW : w.alloc (.cells #[.pointer (some ⟨4, 44, none⟩), .pointer (some vb), .int .u64 150] 62) = W at *
  have a6 := Tryd.setAt ⟨b, 0, none⟩ tgt ⟨W.heap.size, 0, none⟩ old (W.alloc (.cells #[.pointer (some ⟨b, 0, none⟩)] 42)) (by go_simp) t3 t2
  clear t1 t2 t3 hc ht hk
  go_enter Tryd.func26, Tryd.ntmps26
  go_wp2
  go_loopg [0] 1 (fun g err wr => g = 1 ∧ err = .iface 42 (.pointer (some ⟨b, 0, none⟩)) ∧ Hid (wr = W))
  case atStart => exact ⟨rfl, rfl, rfl⟩
  case round =>
    obtain ⟨hg, rfl, HW⟩ := hrel
    obtain rfl := HW.out
    go_wp2
    go_ret
    exact ⟨rfl, _, (HU.out.alloc _).1, rfl⟩
theorem AsAt (b : Nat) (tgt : Addr) (w : World) (hg : Ety w) (ht : Tgt w tgt) :
    Calls Tryd.prog 16 #[.iface 42 (.pointer (some ⟨b, 0, none⟩)), .iface 44 (.pointer (some tgt))] w fun e w' => e = .returned (.bool true) ∧ ∃ w1, Below w.heap.size w w1 ∧ w' = w1.setCell tgt (.pointer (some ⟨b, 0, none⟩)) := by
  have HU : Hid (Up w.heap.size w ((w.alloc (.cells #[.pointer (some tgt)] 44)).alloc (.cells #[.pointer (some ⟨4, 44, none⟩), .pointer (some ⟨w.heap.size, 0, none⟩), .int .u64 150] 62))) := ((Up.refl w).alloc _).alloc _
  have ca := asAt b tgt ⟨w.heap.size, 0, none⟩ ((w.alloc (.cells #[.pointer (some tgt)] 44)).alloc (.cells #[.pointer (some ⟨4, 44, none⟩), .pointer (some ⟨w.heap.size, 0, none⟩), .int .u64 150] 62)) (by go_simp) ((ht.alloc _).alloc _)
  have e1 := (hg.alloc (.cells #[.pointer (some tgt)] 44)).alloc (.cells #[.pointer (some ⟨4, 44, none⟩), .pointer (some ⟨w.heap.size, 0, none⟩), .int .u64 150] 62)
  unfold Ety at e1
  have a1 := Tryd.valueOfA
  have a2 := Tryd.typeA
  have a3 := Tryd.methKind
  have a4 := Tryd.kindKA
  have a5 := Tryd.isNilA ⟨w.heap.size, 0, none⟩ tgt ((w.alloc (.cells #[.pointer (some tgt)] 44)).alloc (.cells #[.pointer (some ⟨4, 44, none⟩), .pointer (some ⟨w.heap.size, 0, none⟩), .int .u64 150] 62)) (by go_simp)
  have a6 := Tryd.methElem
  have a7 := Tryd.elemA
  have a8 := Tryd.kindEA
  have a9 := Tryd.methImplements
  have a0 := Tryd.implementsA
  clear hg ht
  go_enter Tryd.func16, Tryd.ntmps16
  go_wp2_with fail
  refine ca.mono ?_
  rintro e w1 ⟨rfl, hx⟩
  have HX : Hid (∃ w2, Below ((w.alloc (.cells #[.pointer (some tgt)] 44)).alloc (.cells #[.pointer (some ⟨4, 44, none⟩), .pointer (some ⟨w.heap.size, 0, none⟩), .int .u64 150] 62)).heap.size ((w.alloc (.cells #[.pointer (some tgt)] 44)).alloc (.cells #[.pointer (some ⟨4, 44, none⟩), .pointer (some ⟨w.heap.size, 0, none⟩), .int .u64 150] 62)) w2 ∧ w1 = w2.setCell tgt (.pointer (some ⟨b, 0, none⟩))) := hx
  clear hx ca
  go_wp2
  go_ret
  obtain ⟨w2, hb, he⟩ := HX.out
  exact ⟨rfl, w2, (HU.out.stay hb).1, he⟩
end Go.Proofs.YthdjadkdjljciaaDoor
