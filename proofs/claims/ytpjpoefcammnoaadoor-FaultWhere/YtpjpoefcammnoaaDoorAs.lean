/- errors.As: the number that an error has; the outermost of a list. -/
import Derived.Test.YtpjpoefcammnoaaDoorRefl
namespace Go.Proofs.YtpjpoefcammnoaaDoor
set_option linter.unusedVariables false
open Go.RowKit Go.ChangeShapes
/-- A number was found, and laid; or none. -/
def Set27 (tgt : Addr) (w : World) : Option Int → Ending → World → Prop
  | some c, e, w' => e = .returned (.bool true) ∧ ∃ w1, Below w.heap.size w w1 ∧ w' = w1.setCell tgt (.int .i64 c)
  | none, e, w' => e = .returned (.bool false) ∧ Below w.heap.size w w'
/-- The outermost of a list. -/
def hit : List Nd → Option Nat
  | [] => none
  | .oth :: l => hit l
  | .lst b _ _ :: _ => some b
def Set42 (tgt : Addr) (w : World) : Option Nat → Ending → World → Prop
  | some b, e, w' => e = .returned (.bool true) ∧ ∃ w1, Below w.heap.size w w1 ∧ w' = w1.setCell tgt (.pointer (some ⟨b, 0, none⟩))
  | none, e, w' => e = .returned (.bool false) ∧ Below w.heap.size w w'
/-- Where a target lies. -/
def Tgt (w : World) (a : Addr) : Prop := a.block < w.heap.size ∧ w.frozen? a = false ∧ ∃ old, w.cell? a = some old
theorem Tgt.stay {w w' : World} {a : Addr} (h : Tgt w a) (hb : Below w.heap.size w w') : Tgt w' a :=
  ⟨Nat.lt_of_lt_of_le h.1 hb.size, (hb.frozen h.1).trans h.2.1, h.2.2.elim fun o ho => ⟨o, (hb.cell h.1).trans ho⟩⟩
theorem Tgt.alloc {w : World} {a : Addr} (h : Tgt w a) (o : Obj) : Tgt (w.alloc o) a := h.stay ((Below.refl _ _).alloc (Nat.le_refl _) o)
theorem cell_stay {w w' : World} {a : Addr} {v : Value} (h : w.cell? a = some v) (hb : Below w.heap.size w w') : w'.cell? a = some v := (hb.cell (World.block_lt_of_cell? w _ h)).trans h
theorem cell_alloc {w : World} {a : Addr} {v : Value} (h : w.cell? a = some v) (o : Obj) : (w.alloc o).cell? a = some v := cell_stay h ((Below.refl _ _).alloc (Nat.le_refl _) o)

set_option maxHeartbeats 4000000 in
theorem as27 (l0 : List Nd) (t : Option Int) (T0 : TypeId) (v0 : Value) (tgt vb : Addr) (w : World) (hv : val l0 t = .iface T0 v0) (h : Lie w l0 t) (hc : w.cell? vb = some (.pointer (some tgt))) (ht : Tgt w tgt) :
    Calls Tryd.prog 29 #[.iface T0 v0, .iface 52 (.pointer (some tgt)), .agg #[.pointer (some ⟨4, 52, none⟩), .pointer (some vb), .int .u64 150], .iface 70 (.agg #[.pointer (some ⟨4, 27, none⟩)])] w (Set27 tgt w t) := by
  have HV : Hid (val l0 t = .iface T0 v0) := hv
  have HL : Hid (Lie w l0 t) := h
  have HC : Hid (w.cell? vb = some (.pointer (some tgt))) := hc
  have HT : Hid (Tgt w tgt) := ht
  have UW : Hid (Up w.heap.size w (w.alloc (.cells #[.pointer (some ⟨4, 52, none⟩), .pointer (some vb), .int .u64 150] 61))) := (Up.refl w).alloc _
  clear hv h hc ht
  go_enter Tryd.func29, Tryd.ntmps29
  go_wp2
  go_loopg [0] l0.length (fun g err wr => ∃ l T v, g = l.length ∧ err = .iface T v ∧ Hid (val l t = .iface T v) ∧ Hid (Lie wr l t) ∧ Hid (Up (w.heap.size + 1) (w.alloc (.cells #[.pointer (some ⟨4, 52, none⟩), .pointer (some vb), .int .u64 150] 61)) wr))
  case atStart => exact ⟨l0, T0, v0, rfl, rfl, HV, HL.out.alloc _, Hid.out (show Hid (Up _ _ _) from (by have := Up.refl (w.alloc (.cells #[.pointer (some ⟨4, 52, none⟩), .pointer (some vb), .int .u64 150] 61)); simp only [World.size_alloc] at this; exact this))⟩
  case round =>
    obtain ⟨l, T, v, hg, rfl, HV1, HL1, HU⟩ := hrel
    have HW : Hid (Up w.heap.size w wr) := UW.out.stay (by simpa using HU.out.1)
    match l, t, HV1, HL1 with
    | [], none, HV1, _ => exact absurd HV1.out (by simp [val, fin])
    | [], some c, HV1, HL1 =>
      obtain ⟨rfl, rfl⟩ : T = 27 ∧ v = .int .i64 c := by have := HV1.out; simp [val, fin] at this; exact ⟨this.1.symm, this.2.symm⟩
      clear HV1
      have cv : wr.cell? vb = some (.pointer (some tgt)) := cell_stay (cell_alloc HC.out _) (by simpa using HU.out.1)
      have TG : Tgt wr tgt := (HT.out.alloc _).stay (by simpa using HU.out.1)
      have s0 : wr.cell? ⟨w.heap.size, 0, none⟩ = some (.pointer (some ⟨4, 52, none⟩)) := (HU.out.1.cell (by simp)).trans (by go_simp)
      have s1 : wr.cell? ⟨w.heap.size, 1, none⟩ = some (.pointer (some vb)) := (HU.out.1.cell (by simp)).trans (by go_simp)
      have s2 : wr.cell? ⟨w.heap.size, 2, none⟩ = some (.int .u64 150) := (HU.out.1.cell (by simp)).trans (by go_simp)
      have a1 := Tryd.typeOf27
      have a2 := Tryd.methAssignableTo
      have a3 := Tryd.assignable27_27
      have a4 := Tryd.elemV52 vb tgt wr cv
      have a5 := Tryd.valueOf27 c
      obtain ⟨t1, t2, old, t3⟩ := TG.alloc (.cells #[.int .i64 c] 27)
      have a6 := Tryd.set27 c tgt ⟨wr.heap.size, 0, none⟩ old (wr.alloc (.cells #[.int .i64 c] 27)) (by go_simp) t3 t2
      clear t1 t2 t3 cv TG
      go_wp2
      go_ret
      exact ⟨rfl, _, (HW.out.alloc _).1, rfl⟩
    | .oth :: l, t, HV1, HL1 =>
      obtain ⟨rfl, rfl⟩ : T = 31 ∧ v = .agg #[val l t] := by have := HV1.out; simp [val] at this; exact ⟨this.1.symm, this.2.symm⟩
      have a1 := Tryd.typeOf31
      have a2 := Tryd.methAssignableTo
      have a3 := Tryd.assignable31_27
      have a4 := Tryd.noAs31
      have a5 := Tryd.hasUnwrap31
      have a6 := Tryd.methU31
      have HL2 : Hid (Lie wr l t) := HL1.out
      have cu := othUnwrap (val l t) wr
      generalize hx : val l t = x at *
      go_wp2_with fail
      refine cu.mono ?_
      rintro e w1 ⟨rfl, hb⟩
      have HL3 : Hid (Lie w1 l t) := HL2.out.stay hb
      have HU1 : Hid (Up (w.heap.size + 1) (w.alloc (.cells #[.pointer (some ⟨4, 52, none⟩), .pointer (some vb), .int .u64 150] 61)) w1) := HU.out.stay hb
      have HW1 : Hid (Up w.heap.size w w1) := HW.out.stay hb
      clear hb cu HL2 HU HW HL1 a1 a2 a3 a4 a5 a6
      subst hx
      rcases val_shape l t with ⟨e, rfl, rfl⟩ | ⟨T1, v1, e⟩
      · rw [e]
        clear HV1
        go_wp2
        go_ret
        show Set27 tgt w none _ _
        exact ⟨rfl, (HW1.out).1⟩
      · rw [e]
        have HV2 : Hid (val l t = .iface T1 v1) := e
        clear e HV1
        go_wp2
        go_roundg l.length
        case measure => simp at hg; omega
        case rel => exact ⟨l, T1, v1, rfl, rfl, HV2, HL3, HU1⟩
    | .lst b s n :: l, t, HV1, HL1 =>
      obtain ⟨rfl, rfl⟩ : T = 42 ∧ v = .pointer (some ⟨b, 0, none⟩) := by have := HV1.out; simp [val] at this; exact ⟨this.1.symm, this.2.symm⟩
      have a1 := Tryd.typeOf42
      have a2 := Tryd.methAssignableTo
      have a3 := Tryd.assignable42_27
      have a4 := Tryd.noAs42
      have a5 := Tryd.hasUnwrap42
      have a6 := Tryd.methU42
      have HL2 : Hid (Lie wr l t) := HL1.out.2.2
      have cu := atUnwrap b s n (val l t) wr HL1.out.1
      generalize hx : val l t = x at *
      go_wp2_with fail
      refine cu.mono ?_
      rintro e w1 ⟨rfl, rfl⟩
      have HL3 : Hid (Lie w1 l t) := HL2
      have HU1 : Hid (Up (w.heap.size + 1) (w.alloc (.cells #[.pointer (some ⟨4, 52, none⟩), .pointer (some vb), .int .u64 150] 61)) w1) := HU
      have HW1 : Hid (Up w.heap.size w w1) := HW
      clear cu HL2 HU HW HL1 a1 a2 a3 a4 a5 a6
      subst hx
      rcases val_shape l t with ⟨e, rfl, rfl⟩ | ⟨T1, v1, e⟩
      · rw [e]
        clear HV1
        go_wp2
        go_ret
        show Set27 tgt w none _ _
        exact ⟨rfl, (HW1.out).1⟩
      · rw [e]
        have HV2 : Hid (val l t = .iface T1 v1) := e
        clear e HV1
        go_wp2
        go_roundg l.length
        case measure => simp at hg; omega
        case rel => exact ⟨l, T1, v1, rfl, rfl, HV2, HL3, HU1⟩

set_option maxHeartbeats 4000000 in
theorem as42 (l0 : List Nd) (t : Option Int) (T0 : TypeId) (v0 : Value) (tgt vb : Addr) (w : World) (hv : val l0 t = .iface T0 v0) (h : Lie w l0 t) (hc : w.cell? vb = some (.pointer (some tgt))) (ht : Tgt w tgt) :
    Calls Tryd.prog 29 #[.iface T0 v0, .iface 44 (.pointer (some tgt)), .agg #[.pointer (some ⟨4, 44, none⟩), .pointer (some vb), .int .u64 150], .iface 70 (.agg #[.pointer (some ⟨4, 42, none⟩)])] w (Set42 tgt w (hit l0)) := by
  have HV : Hid (val l0 t = .iface T0 v0) := hv
  have HL : Hid (Lie w l0 t) := h
  have HC : Hid (w.cell? vb = some (.pointer (some tgt))) := hc
  have HT : Hid (Tgt w tgt) := ht
  have UW : Hid (Up w.heap.size w (w.alloc (.cells #[.pointer (some ⟨4, 44, none⟩), .pointer (some vb), .int .u64 150] 61))) := (Up.refl w).alloc _
  clear hv h hc ht
  go_enter Tryd.func29, Tryd.ntmps29
  go_wp2
  go_loopg [0] l0.length (fun g err wr => ∃ l T v, g = l.length ∧ err = .iface T v ∧ Hid (val l t = .iface T v) ∧ Hid (Lie wr l t) ∧ Hid (hit l = hit l0) ∧ Hid (Up (w.heap.size + 1) (w.alloc (.cells #[.pointer (some ⟨4, 44, none⟩), .pointer (some vb), .int .u64 150] 61)) wr))
  case atStart => exact ⟨l0, T0, v0, rfl, rfl, HV, HL.out.alloc _, rfl, Hid.out (show Hid (Up _ _ _) from (by have := Up.refl (w.alloc (.cells #[.pointer (some ⟨4, 44, none⟩), .pointer (some vb), .int .u64 150] 61)); simp only [World.size_alloc] at this; exact this))⟩
  case round =>
    obtain ⟨l, T, v, hg, rfl, HV1, HL1, HH, HU⟩ := hrel
    have HW : Hid (Up w.heap.size w wr) := UW.out.stay (by simpa using HU.out.1)
    match l, t, HV1, HL1, HH with
    | [], none, HV1, _, _ => exact absurd HV1.out (by simp [val, fin])
    | [], some c, HV1, HL1, HH =>
      obtain ⟨rfl, rfl⟩ : T = 27 ∧ v = .int .i64 c := by have := HV1.out; simp [val, fin] at this; exact ⟨this.1.symm, this.2.symm⟩
      clear HV1
      have a1 := Tryd.typeOf27
      have a2 := Tryd.methAssignableTo
      have a3 := Tryd.assignable27_42
      have a4 := Tryd.noAs27
      have a5 := Tryd.noUnwrap27
      have a6 := Tryd.noMany27
      go_wp2
      go_ret
      rw [← HH.out]
      exact ⟨rfl, HW.out.1⟩
    | .oth :: l, t, HV1, HL1, HH =>
      obtain ⟨rfl, rfl⟩ : T = 31 ∧ v = .agg #[val l t] := by have := HV1.out; simp [val] at this; exact ⟨this.1.symm, this.2.symm⟩
      have a1 := Tryd.typeOf31
      have a2 := Tryd.methAssignableTo
      have a3 := Tryd.assignable31_42
      have a4 := Tryd.noAs31
      have a5 := Tryd.hasUnwrap31
      have a6 := Tryd.methU31
      have HL2 : Hid (Lie wr l t) := HL1.out
      have cu := othUnwrap (val l t) wr
      generalize hx : val l t = x at *
      go_wp2_with fail
      refine cu.mono ?_
      rintro e w1 ⟨rfl, hb⟩
      have HL3 : Hid (Lie w1 l t) := HL2.out.stay hb
      have HU1 : Hid (Up (w.heap.size + 1) (w.alloc (.cells #[.pointer (some ⟨4, 44, none⟩), .pointer (some vb), .int .u64 150] 61)) w1) := HU.out.stay hb
      have HW1 : Hid (Up w.heap.size w w1) := HW.out.stay hb
      clear hb cu HL2 HU HW HL1 a1 a2 a3 a4 a5 a6
      subst hx
      rcases val_shape l t with ⟨e, rfl, rfl⟩ | ⟨T1, v1, e⟩
      · rw [e]
        clear HV1
        go_wp2
        go_ret
        rw [← HH.out]
        exact ⟨rfl, (HW1.out).1⟩
      · rw [e]
        have HV2 : Hid (val l t = .iface T1 v1) := e
        clear e HV1
        go_wp2
        go_roundg l.length
        case measure => simp at hg; omega
        case rel => exact ⟨l, T1, v1, rfl, rfl, HV2, HL3, HH, HU1⟩
    | .lst b s n :: l, t, HV1, HL1, HH =>
      obtain ⟨rfl, rfl⟩ : T = 42 ∧ v = .pointer (some ⟨b, 0, none⟩) := by have := HV1.out; simp [val] at this; exact ⟨this.1.symm, this.2.symm⟩
      have cv : wr.cell? vb = some (.pointer (some tgt)) := cell_stay (cell_alloc HC.out _) (by simpa using HU.out.1)
      have TG : Tgt wr tgt := (HT.out.alloc _).stay (by simpa using HU.out.1)
      have s0 : wr.cell? ⟨w.heap.size, 0, none⟩ = some (.pointer (some ⟨4, 44, none⟩)) := (HU.out.1.cell (by simp)).trans (by go_simp)
      have s1 : wr.cell? ⟨w.heap.size, 1, none⟩ = some (.pointer (some vb)) := (HU.out.1.cell (by simp)).trans (by go_simp)
      have s2 : wr.cell? ⟨w.heap.size, 2, none⟩ = some (.int .u64 150) := (HU.out.1.cell (by simp)).trans (by go_simp)
      have a1 := Tryd.typeOf42
      have a2 := Tryd.methAssignableTo
      have a3 := Tryd.assignable42_42
      have a4 := Tryd.elemV44 vb tgt wr cv
      have a5 := Tryd.valueOf42 ⟨b, 0, none⟩
      obtain ⟨t1, t2, old, t3⟩ := TG.alloc (.cells #[.pointer (some ⟨b, 0, none⟩)] 42)
      have a6 := Tryd.set42 ⟨b, 0, none⟩ tgt ⟨wr.heap.size, 0, none⟩ old (wr.alloc (.cells #[.pointer (some ⟨b, 0, none⟩)] 42)) (by go_simp) t3 t2
      clear t1 t2 t3 cv TG
      go_wp2
      go_ret
      rw [← HH.out]
      exact ⟨rfl, _, (HW.out.alloc _).1, rfl⟩

end Go.Proofs.YtpjpoefcammnoaaDoor
