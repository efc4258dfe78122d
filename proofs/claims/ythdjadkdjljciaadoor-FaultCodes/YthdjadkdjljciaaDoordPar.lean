/- errors.As of one error that stands alone. -/
import Derived.Test.YthdjadkdjljciaaDoordParF
namespace Go.Proofs.YthdjadkdjljciaaDoor
set_option linter.unusedVariables false
open Go.RowKit Go.ChangeShapes
/-- errors.errorType holds the type error. -/
def Ety (w : World) : Prop := w.cell? ⟨0, 0, none⟩ = some (.iface 81 (.agg #[.pointer (some ⟨4, 25, none⟩)]))
theorem Ety.stay {w w' : World} (h : Ety w) (hb : Below w.heap.size w w') : Ety w' := cell_stay h hb
theorem Ety.alloc {w : World} (h : Ety w) (o : Obj) : Ety (w.alloc o) := cell_alloc h o
theorem Ety.kept {w w' : World} {n : Nat} {p : Nat → Prop} (h : Ety w) (k : Kpt n p w w') (hn : 0 < n) (hp : ¬ p 0) : Ety w' := (k.cell hn hp).trans h
/-- Where a target lies. -/
def Tgt (w : World) (a : Addr) : Prop := a.block < w.heap.size ∧ w.frozen? a = false ∧ ∃ old, w.cell? a = some old
theorem Tgt.stay {w w' : World} {a : Addr} (h : Tgt w a) (hb : Below w.heap.size w w') : Tgt w' a :=
  ⟨Nat.lt_of_lt_of_le h.1 hb.size, (hb.frozen h.1).trans h.2.1, h.2.2.elim fun o ho => ⟨o, (hb.cell h.1).trans ho⟩⟩
theorem Tgt.alloc {w : World} {a : Addr} (h : Tgt w a) (o : Obj) : Tgt (w.alloc o) a := h.stay ((Below.refl _ _).alloc (Nat.le_refl _) o)

theorem partAsA (b : Nat) (tgt : Addr) (w : World) (ht : Tgt w tgt) :
    Calls Tryd.prog 102 #[.agg #[.iface 42 (.pointer (some ⟨b, 0, none⟩))], .iface 44 (.pointer (some tgt))] w fun e w' => e = .returned (.bool true) ∧ ∃ w1, Below w.heap.size w w1 ∧ w' = w1.setCell tgt (.pointer (some ⟨b, 0, none⟩)) := by
  have h1 := Tryd.tgtA
  have h2 := Tryd.asAA
  obtain ⟨t1, t2, old, t3⟩ := (ht.alloc (.cells #[.iface 42 (.pointer (some ⟨b, 0, none⟩))] 100)).alloc (.cells #[.iface 44 (.pointer (some tgt))] 20)
  have hu : Hid (Up w.heap.size w ((w.alloc (.cells #[.iface 42 (.pointer (some ⟨b, 0, none⟩))] 100)).alloc (.cells #[.iface 44 (.pointer (some tgt))] 20))) := ((Up.refl w).alloc _).alloc _
  clear ht t1
  go_enter Tryd.func102, Tryd.ntmps102
  go_wp2
  go_ret
  exact ⟨rfl, _, hu.out.1, rfl⟩
theorem as1A (b : Nat) (tgt vb : Addr) (w : World) (ht : Tgt w tgt) :
    Calls Tryd.prog 26 #[.iface 100 (.agg #[.iface 42 (.pointer (some ⟨b, 0, none⟩))]), .iface 44 (.pointer (some tgt)), .agg #[.pointer (some ⟨4, 44, none⟩), .pointer (some vb), .int .u64 150], .iface 81 (.agg #[.pointer (some ⟨4, 42, none⟩)])] w fun e w' => e = .returned (.bool true) ∧ ∃ w1, Below w.heap.size w w1 ∧ w' = w1.setCell tgt (.pointer (some ⟨b, 0, none⟩)) := by
  have a1 := Tryd.typeOfA
  have a2 := Tryd.methAssignableTo
  have a3 := Tryd.assignableA
  have a4 := Tryd.hasAsA
  have a5 := Tryd.methAsA
  have HU : Hid (Up w.heap.size w (w.alloc (.cells #[.pointer (some ⟨4, 44, none⟩), .pointer (some vb), .int .u64 150] 62))) := (Up.refl w).alloc _
  have cp := partAsA b tgt (w.alloc (.cells #[.pointer (some ⟨4, 44, none⟩), .pointer (some vb), .int .u64 150] 62)) (ht.alloc _)
  clear ht
  generalize hW : w.alloc (.cells #[.pointer (some ⟨4, 44, none⟩), .pointer (some vb), .int .u64 150] 62) = W at *
  go_enter Tryd.func26, Tryd.ntmps26
  go_wp2
  go_loopg [0] 1 (fun g err wr => g = 1 ∧ err = .iface 100 (.agg #[.iface 42 (.pointer (some ⟨b, 0, none⟩))]) ∧ Hid (wr = W))
  case atStart => exact ⟨rfl, rfl, rfl⟩
  case round =>
    obtain ⟨hg, rfl, HW⟩ := hrel
    obtain rfl := HW.out
    go_wp2_with fail
    refine cp.mono ?_
    rintro e w1 ⟨rfl, hx⟩
    have HX : Hid (∃ w2, Below wr.heap.size wr w2 ∧ w1 = w2.setCell tgt (.pointer (some ⟨b, 0, none⟩))) := hx
    clear hx cp
    go_wp2
    go_ret
    obtain ⟨w2, hb, he⟩ := HX.out
    exact ⟨rfl, w2, (HU.out.stay hb).1, he⟩
theorem AsA (b : Nat) (tgt : Addr) (w : World) (hg : Ety w) (ht : Tgt w tgt) :
    Calls Tryd.prog 16 #[.iface 100 (.agg #[.iface 42 (.pointer (some ⟨b, 0, none⟩))]), .iface 44 (.pointer (some tgt))] w fun e w' => e = .returned (.bool true) ∧ ∃ w1, Below w.heap.size w w1 ∧ w' = w1.setCell tgt (.pointer (some ⟨b, 0, none⟩)) := by
  have HU : Hid (Up w.heap.size w ((w.alloc (.cells #[.pointer (some tgt)] 44)).alloc (.cells #[.pointer (some ⟨4, 44, none⟩), .pointer (some ⟨w.heap.size, 0, none⟩), .int .u64 150] 62))) := ((Up.refl w).alloc _).alloc _
  have ca := as1A b tgt ⟨w.heap.size, 0, none⟩ ((w.alloc (.cells #[.pointer (some tgt)] 44)).alloc (.cells #[.pointer (some ⟨4, 44, none⟩), .pointer (some ⟨w.heap.size, 0, none⟩), .int .u64 150] 62)) ((ht.alloc _).alloc _)
  have e1 := (hg.alloc (.cells #[.pointer (some tgt)] 44)).alloc (.cells #[.pointer (some ⟨4, 44, none⟩), .pointer (some ⟨w.heap.size, 0, none⟩), .int .u64 150] 62)
  unfold Ety at e1
  have a1 := Tryd.valueOfA
  have a2 := Tryd.typeA
  have a3 := Tryd.methKind
  have a4 := Tryd.kindKA
  have a5 := Tryd.isNilA ⟨w.heap.size, 0, none⟩ tgt ((w.alloc (.cells #[.pointer (some tgt)] 44)).alloc (.cells #[.pointer (some ⟨4, 44, none⟩), .pointer (some ⟨w.heap.size, 0, none⟩), .int .u64 150] 62)) (by go_simp)
  have a6 := Tryd.methElem
  have a7 := Tryd.elemA
  have a8 := Tryd.kindEA
  have a9 := Tryd.methImplements
  have a0 := Tryd.implementsA
  clear hg ht
  go_enter Tryd.func16, Tryd.ntmps16
  go_wp2_with fail
  refine ca.mono ?_
  rintro e w1 ⟨rfl, hx⟩
  have HX : Hid (∃ w2, Below ((w.alloc (.cells #[.pointer (some tgt)] 44)).alloc (.cells #[.pointer (some ⟨4, 44, none⟩), .pointer (some ⟨w.heap.size, 0, none⟩), .int .u64 150] 62)).heap.size ((w.alloc (.cells #[.pointer (some tgt)] 44)).alloc (.cells #[.pointer (some ⟨4, 44, none⟩), .pointer (some ⟨w.heap.size, 0, none⟩), .int .u64 150] 62)) w2 ∧ w1 = w2.setCell tgt (.pointer (some ⟨b, 0, none⟩))) := hx
  clear hx ca
  go_wp2
  go_ret
  obtain ⟨w2, hb, he⟩ := HX.out
  exact ⟨rfl, w2, (HU.out.stay hb).1, he⟩
theorem partAsN (c : Int) (tgt : Addr) (w : World) (ht : Tgt w tgt) :
    Calls Tryd.prog 87 #[.agg #[.iface 27 (.int .i64 c)], .iface 53 (.pointer (some tgt))] w fun e w' => e = .returned (.bool true) ∧ ∃ w1, Below w.heap.size w w1 ∧ w' = w1.setCell tgt (.int .i64 c) := by
  have h1 := Tryd.tgtN
  have h2 := Tryd.asNN
  obtain ⟨t1, t2, old, t3⟩ := (ht.alloc (.cells #[.iface 27 (.int .i64 c)] 78)).alloc (.cells #[.iface 53 (.pointer (some tgt))] 20)
  have hu : Hid (Up w.heap.size w ((w.alloc (.cells #[.iface 27 (.int .i64 c)] 78)).alloc (.cells #[.iface 53 (.pointer (some tgt))] 20))) := ((Up.refl w).alloc _).alloc _
  clear ht t1
  go_enter Tryd.func87, Tryd.ntmps87
  go_wp2
  go_ret
  exact ⟨rfl, _, hu.out.1, rfl⟩
theorem as1N (c : Int) (tgt vb : Addr) (w : World) (ht : Tgt w tgt) :
    Calls Tryd.prog 26 #[.iface 78 (.agg #[.iface 27 (.int .i64 c)]), .iface 53 (.pointer (some tgt)), .agg #[.pointer (some ⟨4, 53, none⟩), .pointer (some vb), .int .u64 150], .iface 81 (.agg #[.pointer (some ⟨4, 27, none⟩)])] w fun e w' => e = .returned (.bool true) ∧ ∃ w1, Below w.heap.size w w1 ∧ w' = w1.setCell tgt (.int .i64 c) := by
  have a1 := Tryd.typeOfN
  have a2 := Tryd.methAssignableTo
  have a3 := Tryd.assignableN
  have a4 := Tryd.hasAsN
  have a5 := Tryd.methAsN
  have HU : Hid (Up w.heap.size w (w.alloc (.cells #[.pointer (some ⟨4, 53, none⟩), .pointer (some vb), .int .u64 150] 62))) := (Up.refl w).alloc _
  have cp := partAsN c tgt (w.alloc (.cells #[.pointer (some ⟨4, 53, none⟩), .pointer (some vb), .int .u64 150] 62)) (ht.alloc _)
  clear ht
  generalize hW : w.alloc (.cells #[.pointer (some ⟨4, 53, none⟩), .pointer (some vb), .int .u64 150] 62) = W at *
  go_enter Tryd.func26, Tryd.ntmps26
  go_wp2
  go_loopg [0] 1 (fun g err wr => g = 1 ∧ err = .iface 78 (.agg #[.iface 27 (.int .i64 c)]) ∧ Hid (wr = W))
  case atStart => exact ⟨rfl, rfl, rfl⟩
  case round =>
    obtain ⟨hg, rfl, HW⟩ := hrel
    obtain rfl := HW.out
    go_wp2_with fail
    refine cp.mono ?_
    rintro e w1 ⟨rfl, hx⟩
    have HX : Hid (∃ w2, Below wr.heap.size wr w2 ∧ w1 = w2.setCell tgt (.int .i64 c)) := hx
    clear hx cp
    go_wp2
    go_ret
    obtain ⟨w2, hb, he⟩ := HX.out
    exact ⟨rfl, w2, (HU.out.stay hb).1, he⟩
theorem AsN (c : Int) (tgt : Addr) (w : World) (hg : Ety w) (ht : Tgt w tgt) :
    Calls Tryd.prog 16 #[.iface 78 (.agg #[.iface 27 (.int .i64 c)]), .iface 53 (.pointer (some tgt))] w fun e w' => e = .returned (.bool true) ∧ ∃ w1, Below w.heap.size w w1 ∧ w' = w1.setCell tgt (.int .i64 c) := by
  have HU : Hid (Up w.heap.size w ((w.alloc (.cells #[.pointer (some tgt)] 53)).alloc (.cells #[.pointer (some ⟨4, 53, none⟩), .pointer (some ⟨w.heap.size, 0, none⟩), .int .u64 150] 62))) := ((Up.refl w).alloc _).alloc _
  have ca := as1N c tgt ⟨w.heap.size, 0, none⟩ ((w.alloc (.cells #[.pointer (some tgt)] 53)).alloc (.cells #[.pointer (some ⟨4, 53, none⟩), .pointer (some ⟨w.heap.size, 0, none⟩), .int .u64 150] 62)) ((ht.alloc _).alloc _)
  have e1 := (hg.alloc (.cells #[.pointer (some tgt)] 53)).alloc (.cells #[.pointer (some ⟨4, 53, none⟩), .pointer (some ⟨w.heap.size, 0, none⟩), .int .u64 150] 62)
  unfold Ety at e1
  have a1 := Tryd.valueOfN
  have a2 := Tryd.typeN
  have a3 := Tryd.methKind
  have a4 := Tryd.kindKN
  have a5 := Tryd.isNilN ⟨w.heap.size, 0, none⟩ tgt ((w.alloc (.cells #[.pointer (some tgt)] 53)).alloc (.cells #[.pointer (some ⟨4, 53, none⟩), .pointer (some ⟨w.heap.size, 0, none⟩), .int .u64 150] 62)) (by go_simp)
  have a6 := Tryd.methElem
  have a7 := Tryd.elemN
  have a8 := Tryd.kindEN
  have a9 := Tryd.methImplements
  have a0 := Tryd.implementsN
  clear hg ht
  go_enter Tryd.func16, Tryd.ntmps16
  go_wp2_with fail
  refine ca.mono ?_
  rintro e w1 ⟨rfl, hx⟩
  have HX : Hid (∃ w2, Below ((w.alloc (.cells #[.pointer (some tgt)] 53)).alloc (.cells #[.pointer (some ⟨4, 53, none⟩), .pointer (some ⟨w.heap.size, 0, none⟩), .int .u64 150] 62)).heap.size ((w.alloc (.cells #[.pointer (some tgt)] 53)).alloc (.cells #[.pointer (some ⟨4, 53, none⟩), .pointer (some ⟨w.heap.size, 0, none⟩), .int .u64 150] 62)) w2 ∧ w1 = w2.setCell tgt (.int .i64 c)) := hx
  clear hx ca
  go_wp2
  go_ret
  obtain ⟨w2, hb, he⟩ := HX.out
  exact ⟨rfl, w2, (HU.out.stay hb).1, he⟩
end Go.Proofs.YthdjadkdjljciaaDoor
