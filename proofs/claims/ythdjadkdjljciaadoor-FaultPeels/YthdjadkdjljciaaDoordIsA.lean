/- errors.Is over errors that wrap one another. -/
import Derived.Test.YthdjadkdjljciaaDoordMad
namespace Go.Proofs.YthdjadkdjljciaaDoor
set_option linter.unusedVariables false
open Go.RowKit Go.ChangeShapes Go.Stop
set_option maxRecDepth 100000 in
set_option maxHeartbeats 4000000 in
theorem is_any (l0 : List Nd) (c n : Int) (T0 : TypeId) (v0 : Value) (w : World) (hv : val l0 (some c) = .iface T0 v0) (h : Lie w l0 (some c)) :
    Calls Tryd.prog 22 #[.iface T0 v0, .iface 27 (.int .i64 n), .bool true] w fun e w' => e = .returned (.bool (c == n)) ∧ Below w.heap.size w w' := by
  have HV : Hid (val l0 (some c) = .iface T0 v0) := hv
  have HL : Hid (Lie w l0 (some c)) := h
  clear hv h
  have gg : ∀ a b T x, (eqGuard .eql 25 a b (.iface T x) (.iface 27 (.int .i64 n))) = pure () := fun a b T x => rfl
  go_enter Tryd.func22, Tryd.ntmps22
  go_wp2
  go_loopg [0] l0.length (fun g err wr => ∃ l T v, g = l.length ∧ err = .iface T v ∧ Hid (val l (some c) = .iface T v) ∧ Hid (Lie wr l (some c)) ∧ Hid (Up w.heap.size w wr))
  case atStart => exact ⟨l0, T0, v0, rfl, rfl, HV, HL, Up.refl w⟩
  case round =>
    obtain ⟨l, T, v, hg, rfl, HV1, HL1, HU⟩ := hrel
    match l, HV1, HL1 with
    | [], HV1, HL1 =>
      obtain ⟨rfl, rfl⟩ : T = 27 ∧ v = .int .i64 c := by have := HV1.out; simp [val] at this; exact ⟨this.1.symm, this.2.symm⟩
      have a1 : (binOp .eql 25 (.iface 27 (.int .i64 c)) (.iface 27 (.int .i64 n))).run Tryd.prog wr = .ok (.bool (c == n)) wr := by
        simp only [binOp]
        simp [Op.equal, Op.maxDepth, eq_nos 9998 c n wr]
      have a2 := Tryd.noIsN
      have a3 := Tryd.noUnwrapN
      have a4 := Tryd.noManyN
      clear HV1
      cases hcn : (c == n)
      · rw [hcn] at a1
        go_wp2
        go_ret
        exact ⟨by rw [hcn]; rfl, HU.out.1⟩
      · rw [hcn] at a1
        go_wp2
        go_ret
        exact ⟨by rw [hcn]; rfl, HU.out.1⟩

    | ⟨true, b, s, nn⟩ :: l, HV1, HL1 =>
      obtain ⟨rfl, rfl⟩ : T = 31 ∧ v = .agg #[val l (some c)] := by have := HV1.out; simp [val] at this; exact ⟨this.1.symm, this.2.symm⟩
      have a1 := fun (x : Value) (w : World) => run_eql_iface_types (P := Tryd.prog) 31 27 x (.int .i64 n) Tryd.underlying25 (by decide) w
      have a2 := Tryd.noIsO
      have a3 := Tryd.hasUnwrapO
      have a4 := Tryd.methUO
      have HL2 : Hid (Lie wr l (some c)) := HL1.out.2
      have cu := othUnwrap (val l (some c)) wr
      rcases val_shape l (some c) with ⟨_, _, e⟩ | ⟨T1, v1, e⟩
      · cases e
      have HV2 : Hid (val l (some c) = .iface T1 v1) := e
      rw [e] at cu ⊢
      clear e HV1
      go_wp2_with fail
      refine cu.mono ?_
      rintro e w1 ⟨rfl, hw1⟩
      have hb : Below wr.heap.size wr w1 := by rw [hw1]; exact (Below.refl _ _).alloc (Nat.le_refl _) _
      clear hw1
      have HL3 : Hid (Lie w1 l (some c)) := HL2.out.stay hb
      have HU1 : Hid (Up w.heap.size w w1) := HU.out.stay hb
      clear hb cu HL2 HU HL1 a1 a2 a3 a4
      go_wp2
      go_roundg l.length
      case measure => simp at hg; omega
      case rel => exact ⟨l, T1, v1, rfl, rfl, HV2, HL3, HU1⟩
    | ⟨false, b, s, nn⟩ :: l, HV1, HL1 =>
      obtain ⟨rfl, rfl⟩ : T = 42 ∧ v = .pointer (some ⟨b, 0, none⟩) := by have := HV1.out; simp [val] at this; exact ⟨this.1.symm, this.2.symm⟩
      have a1 := fun (x : Value) (w : World) => run_eql_iface_types (P := Tryd.prog) 42 27 x (.int .i64 n) Tryd.underlying25 (by decide) w
      have a2 := Tryd.noIsA
      have a3 := Tryd.hasUnwrapA
      have a4 := Tryd.methU
      have HL2 : Hid (Lie wr l (some c)) := HL1.out.2
      have cu := atUnwrap b s nn (val l (some c)) wr (HL1.out.1 rfl).1
      rcases val_shape l (some c) with ⟨_, _, e⟩ | ⟨T1, v1, e⟩
      · cases e
      have HV2 : Hid (val l (some c) = .iface T1 v1) := e
      rw [e] at cu
      clear e HV1
      go_wp2_with fail
      refine cu.mono ?_
      rintro e w1 ⟨rfl, hw1⟩
      subst w1
      have HL3 := HL2
      have HU1 := HU
      clear cu HL2 HU HL1 a1 a2 a3 a4
      go_wp2
      go_roundg l.length
      case measure => simp at hg; omega
      case rel => exact ⟨l, T1, v1, rfl, rfl, HV2, HL3, HU1⟩
theorem Is_any (l0 : List Nd) (c n : Int) (T0 : TypeId) (v0 : Value) (w : World) (hv : val l0 (some c) = .iface T0 v0) (h : Lie w l0 (some c)) :
    Calls Tryd.prog 13 #[.iface T0 v0, .iface 27 (.int .i64 n)] w fun e w' => e = .returned (.bool (c == n)) ∧ Below w.heap.size w w' := by
  have c := is_any l0 c n T0 v0 w hv h
  have a1 := Tryd.typeOfN0
  have a2 := Tryd.methComparable
  have a3 := Tryd.comparableN
  clear hv h
  go_enter Tryd.func13, Tryd.ntmps13
  go_wp2_with fail
  refine c.mono ?_
  rintro e w1 ⟨rfl, hb⟩
  go_wp2
  go_ret
  exact ⟨rfl, hb⟩
end Go.Proofs.YthdjadkdjljciaaDoor
