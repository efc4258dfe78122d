/- errors.As of one error that stands alone. -/
import Derived.Test.YthdjadkdjljciaaGreatDoorParF
import Derived.Deep.LoopGhost
namespace Go.Proofs.YthdjadkdjljciaaGreatDoor
set_option linter.unusedVariables false
open Go.RowKit Go.ChangeShapes
/-- errors.errorType holds the type error. -/
def Ety (w : World) : Prop := w.cell? ⟨0, 0, none⟩ = some (.iface 181 (.agg #[.pointer (some ⟨4, 30, none⟩)]))
theorem Ety.stay {w w' : World} (h : Ety w) (hb : Below w.heap.size w w') : Ety w' := cell_stay h hb
theorem Ety.alloc {w : World} (h : Ety w) (o : Obj) : Ety (w.alloc o) := cell_alloc h o
theorem Ety.kept {w w' : World} {n : Nat} {p : Nat → Prop} (h : Ety w) (k : Kpt n p w w') (hn : 0 < n) (hp : ¬ p 0) : Ety w' := (k.cell hn hp).trans h
/-- Where a target lies. -/
def Tgt (w : World) (a : Addr) : Prop := a.block < w.heap.size ∧ w.frozen? a = false ∧ ∃ old, w.cell? a = some old
theorem Tgt.stay {w w' : World} {a : Addr} (h : Tgt w a) (hb : Below w.heap.size w w') : Tgt w' a :=
  ⟨Nat.lt_of_lt_of_le h.1 hb.size, (hb.frozen h.1).trans h.2.1, h.2.2.elim fun o ho => ⟨o, (hb.cell h.1).trans ho⟩⟩
theorem Tgt.alloc {w : World} {a : Addr} (h : Tgt w a) (o : Obj) : Tgt (w.alloc o) a := h.stay ((Below.refl _ _).alloc (Nat.le_refl _) o)

theorem partAsA (b : Nat) (tgt : Addr) (w : World) (ht : Tgt w tgt) :
    Calls Tryz.prog 196 #[.agg #[.iface 81 (.pointer (some ⟨b, 0, none⟩))], .iface 88 (.pointer (some tgt))] w fun e w' => e = .returned (.bool true) ∧ ∃ w1, Below w.heap.size w w1 ∧ w' = w1.setCell tgt (.pointer (some ⟨b, 0, none⟩)) := by
  have h1 := Tryz.tgtA
  have h2 := Tryz.asAA
  obtain ⟨t1, t2, old, t3⟩ := (ht.alloc (.cells #[.iface 81 (.pointer (some ⟨b, 0, none⟩))] 124)).alloc (.cells #[.iface 88 (.pointer (some tgt))] 20)
  have hu : Hid (Up w.heap.size w ((w.alloc (.cells #[.iface 81 (.pointer (some ⟨b, 0, none⟩))] 124)).alloc (.cells #[.iface 88 (.pointer (some tgt))] 20))) := ((Up.refl w).alloc _).alloc _
  clear ht t1
  go_enter Tryz.func196, Tryz.ntmps196
  go_wp2
  go_ret
  exact ⟨rfl, _, hu.out.1, rfl⟩
theorem as1A (b : Nat) (tgt vb : Addr) (w : World) (ht : Tgt w tgt) :
    Calls Tryz.prog 82 #[.iface 124 (.agg #[.iface 81 (.pointer (some ⟨b, 0, none⟩))]), .iface 88 (.pointer (some tgt)), .agg #[.pointer (some ⟨4, 88, none⟩), .pointer (some vb), .int .u64 150], .iface 181 (.agg #[.pointer (some ⟨4, 81, none⟩)])] w fun e w' => e = .returned (.bool true) ∧ ∃ w1, Below w.heap.size w w1 ∧ w' = w1.setCell tgt (.pointer (some ⟨b, 0, none⟩)) := by
  have a1 := Tryz.typeOfA
  have a2 := Tryz.methAssignableTo
  have a3 := Tryz.assignableA
  have a4 := Tryz.hasAsA
  have a5 := Tryz.methAsA
  have HU : Hid (Up w.heap.size w (w.alloc (.cells #[.pointer (some ⟨4, 88, none⟩), .pointer (some vb), .int .u64 150] 129))) := (Up.refl w).alloc _
  have cp := partAsA b tgt (w.alloc (.cells #[.pointer (some ⟨4, 88, none⟩), .pointer (some vb), .int .u64 150] 129)) (ht.alloc _)
  clear ht
  generalize hW : w.alloc (.cells #[.pointer (some ⟨4, 88, none⟩), .pointer (some vb), .int .u64 150] 129) = W at *
  go_enter Tryz.func82, Tryz.ntmps82
  go_wp2
  go_loopg [0] 1 (fun g err wr => g = 1 ∧ err = .iface 124 (.agg #[.iface 81 (.pointer (some ⟨b, 0, none⟩))]) ∧ Hid (wr = W))
  case atStart => exact ⟨rfl, rfl, rfl⟩
  case round =>
    obtain ⟨hg, rfl, HW⟩ := hrel
    obtain rfl := HW.out
    go_wp2_with fail
    refine cp.mono ?_
    rintro e w1 ⟨rfl, hx⟩
    have HX : Hid (∃ w2, Below wr.heap.size wr w2 ∧ w1 = w2.setCell tgt (.pointer (some ⟨b, 0, none⟩))) := hx
    clear hx cp
    go_wp2
    go_ret
    obtain ⟨w2, hb, he⟩ := HX.out
    exact ⟨rfl, w2, (HU.out.stay hb).1, he⟩
theorem AsA (b : Nat) (tgt : Addr) (w : World) (hg : Ety w) (ht : Tgt w tgt) :
    Calls Tryz.prog 47 #[.iface 124 (.agg #[.iface 81 (.pointer (some ⟨b, 0, none⟩))]), .iface 88 (.pointer (some tgt))] w fun e w' => e = .returned (.bool true) ∧ ∃ w1, Below w.heap.size w w1 ∧ w' = w1.setCell tgt (.pointer (some ⟨b, 0, none⟩)) := by
  have HU : Hid (Up w.heap.size w ((w.alloc (.cells #[.pointer (some tgt)] 88)).alloc (.cells #[.pointer (some ⟨4, 88, none⟩), .pointer (some ⟨w.heap.size, 0, none⟩), .int .u64 150] 129))) := ((Up.refl w).alloc _).alloc _
  have ca := as1A b tgt ⟨w.heap.size, 0, none⟩ ((w.alloc (.cells #[.pointer (some tgt)] 88)).alloc (.cells #[.pointer (some ⟨4, 88, none⟩), .pointer (some ⟨w.heap.size, 0, none⟩), .int .u64 150] 129)) ((ht.alloc _).alloc _)
  have e1 := (hg.alloc (.cells #[.pointer (some tgt)] 88)).alloc (.cells #[.pointer (some ⟨4, 88, none⟩), .pointer (some ⟨w.heap.size, 0, none⟩), .int .u64 150] 129)
  unfold Ety at e1
  have a1 := Tryz.valueOfA
  have a2 := Tryz.typeA
  have a3 := Tryz.methKind
  have a4 := Tryz.kindKA
  have a5 := Tryz.isNilA ⟨w.heap.size, 0, none⟩ tgt ((w.alloc (.cells #[.pointer (some tgt)] 88)).alloc (.cells #[.pointer (some ⟨4, 88, none⟩), .pointer (some ⟨w.heap.size, 0, none⟩), .int .u64 150] 129)) (by go_simp)
  have a6 := Tryz.methElem
  have a7 := Tryz.elemA
  have a8 := Tryz.kindEA
  have a9 := Tryz.methImplements
  have a0 := Tryz.implementsA
  clear hg ht
  go_enter Tryz.func47, Tryz.ntmps47
  go_wp2_with fail
  refine ca.mono ?_
  rintro e w1 ⟨rfl, hx⟩
  have HX : Hid (∃ w2, Below ((w.alloc (.cells #[.pointer (some tgt)] 88)).alloc (.cells #[.pointer (some ⟨4, 88, none⟩), .pointer (some ⟨w.heap.size, 0, none⟩), .int .u64 150] 129)).heap.size ((w.alloc (.cells #[.pointer (some tgt)] 88)).alloc (.cells #[.pointer (some ⟨4, 88, none⟩), .pointer (some ⟨w.heap.size, 0, none⟩), .int .u64 150] 129)) w2 ∧ w1 = w2.setCell tgt (.pointer (some ⟨b, 0, none⟩))) := hx
  clear hx ca
  go_wp2
  go_ret
  obtain ⟨w2, hb, he⟩ := HX.out
  exact ⟨rfl, w2, (HU.out.stay hb).1, he⟩
theorem partAsN (c : Int) (tgt : Addr) (w : World) (ht : Tgt w tgt) :
    Calls Tryz.prog 201 #[.agg #[.iface 23 (.int .i64 c)], .iface 89 (.pointer (some tgt))] w fun e w' => e = .returned (.bool true) ∧ ∃ w1, Below w.heap.size w w1 ∧ w' = w1.setCell tgt (.int .i64 c) := by
  have h1 := Tryz.tgtN
  have h2 := Tryz.asNN
  obtain ⟨t1, t2, old, t3⟩ := (ht.alloc (.cells #[.iface 23 (.int .i64 c)] 138)).alloc (.cells #[.iface 89 (.pointer (some tgt))] 20)
  have hu : Hid (Up w.heap.size w ((w.alloc (.cells #[.iface 23 (.int .i64 c)] 138)).alloc (.cells #[.iface 89 (.pointer (some tgt))] 20))) := ((Up.refl w).alloc _).alloc _
  clear ht t1
  go_enter Tryz.func201, Tryz.ntmps201
  go_wp2
  go_ret
  exact ⟨rfl, _, hu.out.1, rfl⟩
theorem as1N (c : Int) (tgt vb : Addr) (w : World) (ht : Tgt w tgt) :
    Calls Tryz.prog 82 #[.iface 138 (.agg #[.iface 23 (.int .i64 c)]), .iface 89 (.pointer (some tgt)), .agg #[.pointer (some ⟨4, 89, none⟩), .pointer (some vb), .int .u64 150], .iface 181 (.agg #[.pointer (some ⟨4, 23, none⟩)])] w fun e w' => e = .returned (.bool true) ∧ ∃ w1, Below w.heap.size w w1 ∧ w' = w1.setCell tgt (.int .i64 c) := by
  have a1 := Tryz.typeOfN
  have a2 := Tryz.methAssignableTo
  have a3 := Tryz.assignableN
  have a4 := Tryz.hasAsN
  have a5 := Tryz.methAsN
  have HU : Hid (Up w.heap.size w (w.alloc (.cells #[.pointer (some ⟨4, 89, none⟩), .pointer (some vb), .int .u64 150] 129))) := (Up.refl w).alloc _
  have cp := partAsN c tgt (w.alloc (.cells #[.pointer (some ⟨4, 89, none⟩), .pointer (some vb), .int .u64 150] 129)) (ht.alloc _)
  clear ht
  generalize hW : w.alloc (.cells #[.pointer (some ⟨4, 89, none⟩), .pointer (some vb), .int .u64 150] 129) = W at *
  go_enter Tryz.func82, Tryz.ntmps82
  go_wp2
  go_loopg [0] 1 (fun g err wr => g = 1 ∧ err = .iface 138 (.agg #[.iface 23 (.int .i64 c)]) ∧ Hid (wr = W))
  case atStart => exact ⟨rfl, rfl, rfl⟩
  case round =>
    obtain ⟨hg, rfl, HW⟩ := hrel
    obtain rfl := HW.out
    go_wp2_with fail
    refine cp.mono ?_
    rintro e w1 ⟨rfl, hx⟩
    have HX : Hid (∃ w2, Below wr.heap.size wr w2 ∧ w1 = w2.setCell tgt (.int .i64 c)) := hx
    clear hx cp
    go_wp2
    go_ret
    obtain ⟨w2, hb, he⟩ := HX.out
    exact ⟨rfl, w2, (HU.out.stay hb).1, he⟩
theorem AsN (c : Int) (tgt : Addr) (w : World) (hg : Ety w) (ht : Tgt w tgt) :
    Calls Tryz.prog 47 #[.iface 138 (.agg #[.iface 23 (.int .i64 c)]), .iface 89 (.pointer (some tgt))] w fun e w' => e = .returned (.bool true) ∧ ∃ w1, Below w.heap.size w w1 ∧ w' = w1.setCell tgt (.int .i64 c) := by
  have HU : Hid (Up w.heap.size w ((w.alloc (.cells #[.pointer (some tgt)] 89)).alloc (.cells #[.pointer (some ⟨4, 89, none⟩), .pointer (some ⟨w.heap.size, 0, none⟩), .int .u64 150] 129))) := ((Up.refl w).alloc _).alloc _
  have ca := as1N c tgt ⟨w.heap.size, 0, none⟩ ((w.alloc (.cells #[.pointer (some tgt)] 89)).alloc (.cells #[.pointer (some ⟨4, 89, none⟩), .pointer (some ⟨w.heap.size, 0, none⟩), .int .u64 150] 129)) ((ht.alloc _).alloc _)
  have e1 := (hg.alloc (.cells #[.pointer (some tgt)] 89)).alloc (.cells #[.pointer (some ⟨4, 89, none⟩), .pointer (some ⟨w.heap.size, 0, none⟩), .int .u64 150] 129)
  unfold Ety at e1
  have a1 := Tryz.valueOfN
  have a2 := Tryz.typeN
  have a3 := Tryz.methKind
  have a4 := Tryz.kindKN
  have a5 := Tryz.isNilN ⟨w.heap.size, 0, none⟩ tgt ((w.alloc (.cells #[.pointer (some tgt)] 89)).alloc (.cells #[.pointer (some ⟨4, 89, none⟩), .pointer (some ⟨w.heap.size, 0, none⟩), .int .u64 150] 129)) (by go_simp)
  have a6 := Tryz.methElem
  have a7 := Tryz.elemN
  have a8 := Tryz.kindEN
  have a9 := Tryz.methImplements
  have a0 := Tryz.implementsN
  clear hg ht
  go_enter Tryz.func47, Tryz.ntmps47
  go_wp2_with fail
  refine ca.mono ?_
  rintro e w1 ⟨rfl, hx⟩
  have HX : Hid (∃ w2, Below ((w.alloc (.cells #[.pointer (some tgt)] 89)).alloc (.cells #[.pointer (some ⟨4, 89, none⟩), .pointer (some ⟨w.heap.size, 0, none⟩), .int .u64 150] 129)).heap.size ((w.alloc (.cells #[.pointer (some tgt)] 89)).alloc (.cells #[.pointer (some ⟨4, 89, none⟩), .pointer (some ⟨w.heap.size, 0, none⟩), .int .u64 150] 129)) w2 ∧ w1 = w2.setCell tgt (.int .i64 c)) := hx
  clear hx ca
  go_wp2
  go_ret
  obtain ⟨w2, hb, he⟩ := HX.out
  exact ⟨rfl, w2, (HU.out.stay hb).1, he⟩
end Go.Proofs.YthdjadkdjljciaaGreatDoor
