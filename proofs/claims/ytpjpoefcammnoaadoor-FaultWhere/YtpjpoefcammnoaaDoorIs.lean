/- errors.As and errors.Is, whole. -/
import Derived.Test.YtpjpoefcammnoaaDoorAs
namespace Go.Proofs.YtpjpoefcammnoaaDoor
set_option linter.unusedVariables false
open Go.RowKit Go.ChangeShapes
theorem Set27.up {tgt : Addr} {w w' : World} (hu : Up w.heap.size w w') : ∀ {t : Option Int} {e : Ending} {v : World}, Set27 tgt w' t e v → Set27 tgt w t e v
  | some c, e, v, ⟨he, w1, hb, hv⟩ => ⟨he, w1, (hu.stay hb).1, hv⟩
  | none, e, v, ⟨he, hb⟩ => ⟨he, (hu.stay hb).1⟩
theorem Set42.up {tgt : Addr} {w w' : World} (hu : Up w.heap.size w w') : ∀ {t : Option Nat} {e : Ending} {v : World}, Set42 tgt w' t e v → Set42 tgt w t e v
  | some c, e, v, ⟨he, w1, hb, hv⟩ => ⟨he, w1, (hu.stay hb).1, hv⟩
  | none, e, v, ⟨he, hb⟩ => ⟨he, (hu.stay hb).1⟩
/-- errors.errorType, as it is laid. -/
def Ety (w : World) : Prop := w.cell? ⟨0, 0, none⟩ = some (.iface 70 (.agg #[.pointer (some ⟨4, 25, none⟩)]))
theorem Ety.stay {w w' : World} (h : Ety w) (hb : Below w.heap.size w w') : Ety w' := cell_stay h hb
theorem Ety.alloc {w : World} (h : Ety w) (o : Obj) : Ety (w.alloc o) := cell_alloc h o
theorem As_nil (x : Value) (w : World) :
    Calls Tryd.prog 16 #[.nilIface, x] w fun e w' => e = .returned (.bool false) ∧ w' = w := by
  go_enter Tryd.func16, Tryd.ntmps16
  go_wp2
  go_ret
  exact ⟨rfl, rfl⟩

set_option maxHeartbeats 4000000 in
theorem As27 (l0 : List Nd) (t : Option Int) (T0 : TypeId) (v0 : Value) (tgt : Addr) (w : World) (hv : val l0 t = .iface T0 v0) (h : Lie w l0 t) (hg : Ety w) (ht : Tgt w tgt) :
    Calls Tryd.prog 16 #[.iface T0 v0, .iface 52 (.pointer (some tgt))] w (Set27 tgt w t) := by
  have hu : Hid (Up w.heap.size w ((w.alloc (.cells #[.pointer (some tgt)] 52)).alloc (.cells #[.pointer (some ⟨4, 52, none⟩), .pointer (some ⟨w.heap.size, 0, none⟩), .int .u64 150] 61))) := ((Up.refl w).alloc _).alloc _
  have c := as27 l0 t T0 v0 tgt ⟨w.heap.size, 0, none⟩ ((w.alloc (.cells #[.pointer (some tgt)] 52)).alloc (.cells #[.pointer (some ⟨4, 52, none⟩), .pointer (some ⟨w.heap.size, 0, none⟩), .int .u64 150] 61)) hv ((h.alloc _).alloc _) (by go_simp) ((ht.alloc _).alloc _)
  have f1 := Tryd.valueOf52 tgt
  have f2 := Tryd.type52
  have f3 := Tryd.methKind
  have f4 := Tryd.kind52
  have f5 := Tryd.isNil52 ⟨w.heap.size, 0, none⟩ tgt ((w.alloc (.cells #[.pointer (some tgt)] 52)).alloc (.cells #[.pointer (some ⟨4, 52, none⟩), .pointer (some ⟨w.heap.size, 0, none⟩), .int .u64 150] 61)) (by go_simp)
  have f6 := Tryd.methElem
  have f7 := Tryd.elem52
  have f8 := Tryd.kind27
  have f9 := Tryd.methImplements
  have f10 := Tryd.implements27
  have hg2 : ((w.alloc (.cells #[.pointer (some tgt)] 52)).alloc (.cells #[.pointer (some ⟨4, 52, none⟩), .pointer (some ⟨w.heap.size, 0, none⟩), .int .u64 150] 61)).cell? ⟨0, 0, none⟩ = some (.iface 70 (.agg #[.pointer (some ⟨4, 25, none⟩)])) := (hg.alloc _).alloc _
  clear hv h hg ht
  go_enter Tryd.func16, Tryd.ntmps16
  go_wp2_with fail
  refine c.mono ?_
  intro e w1 hs
  have hs2 : Hid (Set27 tgt w t e w1) := hs.up hu.out
  clear hs
  obtain ⟨b, rfl⟩ : ∃ b, e = .returned (.bool b) := by
    have := hs2.out
    revert this
    cases t with
    | none => exact fun h => ⟨_, h.1⟩
    | some c => exact fun h => ⟨_, h.1⟩
  go_wp2
  go_ret
  exact hs2.out

set_option maxHeartbeats 4000000 in
theorem As42 (l0 : List Nd) (t : Option Int) (T0 : TypeId) (v0 : Value) (tgt : Addr) (w : World) (hv : val l0 t = .iface T0 v0) (h : Lie w l0 t) (hg : Ety w) (ht : Tgt w tgt) :
    Calls Tryd.prog 16 #[.iface T0 v0, .iface 44 (.pointer (some tgt))] w (Set42 tgt w (hit l0)) := by
  have hu : Hid (Up w.heap.size w ((w.alloc (.cells #[.pointer (some tgt)] 44)).alloc (.cells #[.pointer (some ⟨4, 44, none⟩), .pointer (some ⟨w.heap.size, 0, none⟩), .int .u64 150] 61))) := ((Up.refl w).alloc _).alloc _
  have c := as42 l0 t T0 v0 tgt ⟨w.heap.size, 0, none⟩ ((w.alloc (.cells #[.pointer (some tgt)] 44)).alloc (.cells #[.pointer (some ⟨4, 44, none⟩), .pointer (some ⟨w.heap.size, 0, none⟩), .int .u64 150] 61)) hv ((h.alloc _).alloc _) (by go_simp) ((ht.alloc _).alloc _)
  have f1 := Tryd.valueOf44 tgt
  have f2 := Tryd.type44
  have f3 := Tryd.methKind
  have f4 := Tryd.kind44
  have f5 := Tryd.isNil44 ⟨w.heap.size, 0, none⟩ tgt ((w.alloc (.cells #[.pointer (some tgt)] 44)).alloc (.cells #[.pointer (some ⟨4, 44, none⟩), .pointer (some ⟨w.heap.size, 0, none⟩), .int .u64 150] 61)) (by go_simp)
  have f6 := Tryd.methElem
  have f7 := Tryd.elem44
  have f8 := Tryd.kind42
  have f9 := Tryd.methImplements
  have f10 := Tryd.implements42
  have hg2 : ((w.alloc (.cells #[.pointer (some tgt)] 44)).alloc (.cells #[.pointer (some ⟨4, 44, none⟩), .pointer (some ⟨w.heap.size, 0, none⟩), .int .u64 150] 61)).cell? ⟨0, 0, none⟩ = some (.iface 70 (.agg #[.pointer (some ⟨4, 25, none⟩)])) := (hg.alloc _).alloc _
  clear hv h hg ht
  go_enter Tryd.func16, Tryd.ntmps16
  go_wp2_with fail
  refine c.mono ?_
  intro e w1 hs
  have hs2 : Hid (Set42 tgt w (hit l0) e w1) := hs.up hu.out
  clear hs
  obtain ⟨b, rfl⟩ : ∃ b, e = .returned (.bool b) := by
    have := hs2.out
    revert this
    cases (hit l0) with
    | none => exact fun h => ⟨_, h.1⟩
    | some c => exact fun h => ⟨_, h.1⟩
  go_wp2
  go_ret
  exact hs2.out


set_option maxRecDepth 100000 in
set_option maxHeartbeats 4000000 in
theorem is_any (l0 : List Nd) (c n : Int) (T0 : TypeId) (v0 : Value) (w : World) (hv : val l0 (some c) = .iface T0 v0) (h : Lie w l0 (some c)) :
    Calls Tryd.prog 25 #[.iface T0 v0, .iface 27 (.int .i64 n), .bool true] w fun e w' => e = .returned (.bool (c == n)) ∧ Below w.heap.size w w' := by
  have HV : Hid (val l0 (some c) = .iface T0 v0) := hv
  have HL : Hid (Lie w l0 (some c)) := h
  clear hv h
  have gg : ∀ a b T x, (eqGuard .eql 25 a b (.iface T x) (.iface 27 (.int .i64 n))) = pure () := fun a b T x => rfl
  go_enter Tryd.func25, Tryd.ntmps25
  go_wp2
  go_loopg [0] l0.length (fun g err wr => ∃ l T v, g = l.length ∧ err = .iface T v ∧ Hid (val l (some c) = .iface T v) ∧ Hid (Lie wr l (some c)) ∧ Hid (Up w.heap.size w wr))
  case atStart => exact ⟨l0, T0, v0, rfl, rfl, HV, HL, Up.refl w⟩
  case round =>
    obtain ⟨l, T, v, hg, rfl, HV1, HL1, HU⟩ := hrel
    match l, HV1, HL1 with
    | [], HV1, HL1 =>
      obtain ⟨rfl, rfl⟩ : T = 27 ∧ v = .int .i64 c := by have := HV1.out; simp [val, fin] at this; exact ⟨this.1.symm, this.2.symm⟩
      have a1 : (binOp .eql 25 (.iface 27 (.int .i64 c)) (.iface 27 (.int .i64 n))).run Tryd.prog wr = .ok (.bool (c == n)) wr := by
        simp only [binOp]
        simp [Op.equal, Op.maxDepth, eq_nos 9998 c n wr]
      have a2 := Tryd.noIs27
      have a3 := Tryd.noUnwrap27
      have a4 := Tryd.noMany27
      clear HV1
      cases hcn : (c == n)
      · rw [hcn] at a1
        go_wp2
        go_ret
        exact ⟨by rw [hcn]; rfl, HU.out.1⟩
      · rw [hcn] at a1
        go_wp2
        go_ret
        exact ⟨by rw [hcn]; rfl, HU.out.1⟩

    | .oth :: l, HV1, HL1 =>
      obtain ⟨rfl, rfl⟩ : T = 31 ∧ v = .agg #[val l (some c)] := by have := HV1.out; simp [val] at this; exact ⟨this.1.symm, this.2.symm⟩
      have a1 := fun (x : Value) (w : World) => run_eql_iface_types (P := Tryd.prog) 31 27 x (.int .i64 n) Tryd.underlying25 (by decide) w
      have a2 := Tryd.noIs31
      have a3 := Tryd.hasUnwrap31
      have a4 := Tryd.methU31
      have HL2 : Hid (Lie wr l (some c)) := HL1.out
      have cu := othUnwrap (val l (some c)) wr
      rcases val_shape l (some c) with ⟨_, _, e⟩ | ⟨T1, v1, e⟩
      · cases e
      have HV2 : Hid (val l (some c) = .iface T1 v1) := e
      rw [e] at cu ⊢
      clear e HV1
      go_wp2_with fail
      refine cu.mono ?_
      rintro e w1 ⟨rfl, hb⟩
      have HL3 : Hid (Lie w1 l (some c)) := HL2.out.stay hb
      have HU1 : Hid (Up w.heap.size w w1) := HU.out.stay hb
      clear hb cu HL2 HU HL1 a1 a2 a3 a4
      go_wp2
      go_roundg l.length
      case measure => simp at hg; omega
      case rel => exact ⟨l, T1, v1, rfl, rfl, HV2, HL3, HU1⟩
    | .lst b s nn :: l, HV1, HL1 =>
      obtain ⟨rfl, rfl⟩ : T = 42 ∧ v = .pointer (some ⟨b, 0, none⟩) := by have := HV1.out; simp [val] at this; exact ⟨this.1.symm, this.2.symm⟩
      have a1 := fun (x : Value) (w : World) => run_eql_iface_types (P := Tryd.prog) 42 27 x (.int .i64 n) Tryd.underlying25 (by decide) w
      have a2 := Tryd.noIs42
      have a3 := Tryd.hasUnwrap42
      have a4 := Tryd.methU42
      have HL2 : Hid (Lie wr l (some c)) := HL1.out.2.2
      have cu := atUnwrap b s nn (val l (some c)) wr HL1.out.1
      rcases val_shape l (some c) with ⟨_, _, e⟩ | ⟨T1, v1, e⟩
      · cases e
      have HV2 : Hid (val l (some c) = .iface T1 v1) := e
      rw [e] at cu
      clear e HV1
      go_wp2_with fail
      refine cu.mono ?_
      rintro e w1 ⟨rfl, rfl⟩
      have HL3 := HL2
      have HU1 := HU
      clear cu HL2 HU HL1 a1 a2 a3 a4
      go_wp2
      go_roundg l.length
      case measure => simp at hg; omega
      case rel => exact ⟨l, T1, v1, rfl, rfl, HV2, HL3, HU1⟩
theorem Is_any (l0 : List Nd) (c n : Int) (T0 : TypeId) (v0 : Value) (w : World) (hv : val l0 (some c) = .iface T0 v0) (h : Lie w l0 (some c)) :
    Calls Tryd.prog 13 #[.iface T0 v0, .iface 27 (.int .i64 n)] w fun e w' => e = .returned (.bool (c == n)) ∧ Below w.heap.size w w' := by
  have c := is_any l0 c n T0 v0 w hv h
  have a1 := Tryd.typeOf27
  have a2 := Tryd.methComparable
  have a3 := Tryd.comparable27
  clear hv h
  go_enter Tryd.func13, Tryd.ntmps13
  go_wp2_with fail
  refine c.mono ?_
  rintro e w1 ⟨rfl, hb⟩
  go_wp2
  go_ret
  exact ⟨rfl, hb⟩
theorem Is_nil (n : Int) (w : World) :
    Calls Tryd.prog 13 #[.nilIface, .iface 27 (.int .i64 n)] w fun e w' => e = .returned (.bool false) ∧ w' = w := by
  have a1 := fun (w : World) => run_eql_iface_nil_left (P := Tryd.prog) w 27 (.int .i64 n) Tryd.underlying25
  have gg : ∀ a b, (eqGuard .eql 25 a b .nilIface (.iface 27 (.int .i64 n))) = pure () := fun a b => rfl
  go_enter Tryd.func13, Tryd.ntmps13
  go_wp2
  go_ret
  exact ⟨rfl, rfl⟩
end Go.Proofs.YtpjpoefcammnoaaDoor
