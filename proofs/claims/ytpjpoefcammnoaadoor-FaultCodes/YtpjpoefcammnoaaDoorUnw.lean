/- errors.Unwrap; circles, endless: errors that wrap one another come to an end. -/
import Derived.Test.YtpjpoefcammnoaaDoorHold
import Derived.Deep.LoopGhost
namespace Go.Proofs.YtpjpoefcammnoaaDoor
set_option linter.unusedVariables false
open Go.RowKit Go.ChangeShapes

theorem Tryd.noUnwrap27 (v : Value) (xT : TypeId) (w : World) : (Instr.typeAssert (.iface 27 v) xT 74 true).run Tryd.prog w = .ok (.tuple #[.nilIface, .bool false]) w := run_typeAssert_lacksB Tryd.underlying74 (by kernel_rfl) (by kernel_rfl) v xT w
theorem Tryd.hasUnwrap31 (v : Value) (xT : TypeId) (w : World) : (Instr.typeAssert (.iface 31 v) xT 74 true).run Tryd.prog w = .ok (.tuple #[.iface 31 v, .bool true]) w := run_typeAssert_hasB Tryd.underlying74 (by kernel_rfl) v xT w
theorem Tryd.hasUnwrap42 (v : Value) (xT : TypeId) (w : World) : (Instr.typeAssert (.iface 42 v) xT 74 true).run Tryd.prog w = .ok (.tuple #[.iface 42 v, .bool true]) w := run_typeAssert_hasB Tryd.underlying74 (by kernel_rfl) v xT w

theorem atUnwrap (b : Nat) (s : ByteArray) (n : Int) (v : Value) (w : World) (h : w.heap[b]? = some (.cells #[.string s, .int .i64 n, v] 46 (0, 0))) :
    Calls Tryd.prog 18 #[.pointer (some ⟨b, 0, none⟩)] w fun e w' => e = .returned v ∧ w' = w := by
  have c2 : w.cell? ⟨b, 2, none⟩ = some v := by simp [World.cell?, h]
  clear h
  go_enter Tryd.func18, Tryd.ntmps18
  go_wp2
  go_ret
  exact ⟨rfl, rfl⟩
theorem othUnwrap (v : Value) (w : World) :
    Calls Tryd.prog 72 #[.agg #[v]] w fun e w' => e = .returned v ∧ Below w.heap.size w w' := by
  go_enter Tryd.func72, Tryd.ntmps72
  go_wp2
  go_ret
  exact ⟨rfl, (Below.refl _ _).alloc (Nat.le_refl _) _⟩
theorem unwrap_no (c : Int) (w : World) :
    Calls Tryd.prog 39 #[.iface 27 (.int .i64 c)] w fun e w' => e = .returned .nilIface ∧ w' = w := by
  have h := Tryd.noUnwrap27
  go_enter Tryd.func39, Tryd.ntmps39
  go_wp2
  go_ret
  exact ⟨rfl, rfl⟩
theorem Tryd.methU42 (p : Addr) (w : World) : (method 231 42 (.pointer (some p)) "Unwrap").run Tryd.prog w = .ok (18, .pointer (some p)) w := by kernel_rfl
theorem Tryd.methU31 (v : Value) (w : World) : (method 231 31 (.agg #[v]) "Unwrap").run Tryd.prog w = .ok (72, .agg #[v]) w := by kernel_rfl
theorem unwrap_at (b : Nat) (s : ByteArray) (n : Int) (v : Value) (w : World) (h : w.heap[b]? = some (.cells #[.string s, .int .i64 n, v] 46 (0, 0))) :
    Calls Tryd.prog 39 #[.iface 42 (.pointer (some ⟨b, 0, none⟩))] w fun e w' => e = .returned v ∧ w' = w := by
  have c := atUnwrap b s n v w h
  clear h
  have h := Tryd.hasUnwrap42
  have m := Tryd.methU42
  go_enter Tryd.func39, Tryd.ntmps39
  go_wp2_with fail
  refine c.mono ?_
  rintro e w1 ⟨rfl, rfl⟩
  go_wp2
  go_ret
  exact ⟨rfl, rfl⟩
theorem unwrap_oth (v : Value) (w : World) :
    Calls Tryd.prog 39 #[.iface 31 (.agg #[v])] w fun e w' => e = .returned v ∧ Below w.heap.size w w' := by
  have c := othUnwrap v w
  have h := Tryd.hasUnwrap31
  have m := Tryd.methU31
  go_enter Tryd.func39, Tryd.ntmps39
  go_wp2_with fail
  refine c.mono ?_
  rintro e w1 ⟨rfl, hb⟩
  go_wp2
  go_ret
  exact ⟨rfl, hb⟩
/-- What lies within. -/
def nxt : List Nd → Option Int → Value
  | [], _ => .nilIface
  | _ :: l, t => val l t
theorem unwrap_any (l : List Nd) (t : Option Int) (T : TypeId) (v : Value) (w : World) (hv : val l t = .iface T v) (h : Lie w l t) :
    Calls Tryd.prog 39 #[.iface T v] w fun e w' => e = .returned (nxt l t) ∧ Below w.heap.size w w' := by
  rw [← hv]
  match l, t, h with
  | [], none, _ => cases hv
  | [], some c, _ => exact (unwrap_no c w).mono fun e w' ⟨he, hw⟩ => ⟨he, by subst hw; exact Below.refl _ _⟩
  | .oth :: l, t, _ => exact unwrap_oth _ w
  | .lst b s n :: l, t, h => exact (unwrap_at b s n _ w h.1).mono fun e w' ⟨he, hw⟩ => ⟨he, by subst hw; exact Below.refl _ _⟩
theorem val_shape : ∀ (l : List Nd) (t : Option Int), val l t = .nilIface ∧ l = [] ∧ t = none ∨ ∃ T v, val l t = .iface T v
  | [], none => Or.inl ⟨rfl, rfl, rfl⟩
  | [], some c => Or.inr ⟨_, _, rfl⟩
  | .oth :: l, t => Or.inr ⟨_, _, rfl⟩
  | .lst _ _ _ :: l, t => Or.inr ⟨_, _, rfl⟩
theorem Lie.back {w : World} {t : Option Int} : ∀ (k : List Nd) {l : List Nd}, Lie w (k ++ l) t → Lie w l t
  | [], _, h => h
  | .oth :: k, _, h => Lie.back k h
  | .lst _ _ _ :: k, _, h => Lie.back k h.2.2
theorem same_self (l : List Nd) (t : Option Int) (T : TypeId) (v : Value) (w : World) (hv : val l t = .iface T v) (hl : l.length ≤ 100) :
    Calls Tryd.prog 38 #[.iface T v, .iface T v] w fun e w' => e = .returned (.bool true) ∧ Below w.heap.size w w' :=
  same_any T T v v true w fun w' _ => by
    have := eq_self w' l t (10000 - (2 * l.length + 2))
    rw [show 10000 - (2 * l.length + 2) + 2 * l.length + 2 = 10000 by omega, hv] at this
    exact this
theorem same_within (k l : List Nd) (x : Nd) (t : Option Int) (T T' : TypeId) (v v' : Value) (w : World) (hv : val (x :: (k ++ l)) t = .iface T v) (hv' : val l t = .iface T' v') (hl : k.length + l.length ≤ 100) (h : Lie w (x :: (k ++ l)) t) :
    Calls Tryd.prog 38 #[.iface T v, .iface T' v'] w fun e w' => e = .returned (.bool false) ∧ Below w.heap.size w w' :=
  same_any T T' v v' false w fun w' hb => by
    have := eq_within w' k l x t (10000 - (2 * (k.length + l.length) + 4)) (h.stay hb)
    rw [show 10000 - (2 * (k.length + l.length) + 4) + 2 * (k.length + l.length) + 4 = 10000 by omega, hv, hv'] at this
    exact this
/-- What was marked: none, or one that the rest lies within. -/
def Mark (w : World) (l : List Nd) (t : Option Int) (m : Value) : Prop := m = .nilIface ∨ ∃ k x T v, k.length + l.length ≤ 100 ∧ m = .iface T v ∧ val (x :: (k ++ l)) t = .iface T v ∧ Lie w (x :: (k ++ l)) t
theorem same_mark (l : List Nd) (t : Option Int) (T : TypeId) (v m : Value) (w : World) (hv : val l t = .iface T v) (h : Mark w l t m) :
    Calls Tryd.prog 38 #[m, .iface T v] w fun e w' => e = .returned (.bool false) ∧ Below w.heap.size w w' := by
  rcases h with rfl | ⟨k, x, T', v', hl, rfl, hv', h⟩
  · exact same_nil T v w
  · exact same_within k l x t T' T v' v w hv' hv hl h
theorem Mark.stay {w w' : World} {l : List Nd} {t : Option Int} {m : Value} (h : Mark w l t m) (hb : Below w.heap.size w w') : Mark w' l t m := by
  rcases h with rfl | ⟨k, x, T', v', hl, rfl, hv', h⟩
  · exact Or.inl rfl
  · exact Or.inr ⟨k, x, T', v', hl, rfl, hv', h.stay hb⟩
theorem Mark.step {w : World} {l : List Nd} {y : Nd} {t : Option Int} {m : Value} (h : Mark w (y :: l) t m) : Mark w l t m := by
  rcases h with rfl | ⟨k, x, T', v', hl, rfl, hv', h⟩
  · exact Or.inl rfl
  · exact Or.inr ⟨k ++ [y], x, T', v', by simp at hl ⊢; omega, rfl, by rw [← hv']; simp, by simpa using h⟩
theorem Mark.new {w : World} {l : List Nd} {y : Nd} {t : Option Int} {T : TypeId} {v : Value} (hv : val (y :: l) t = .iface T v) (hl : l.length ≤ 100) (h : Lie w (y :: l) t) : Mark w l t (.iface T v) :=
  Or.inr ⟨[], y, T, v, by simpa using hl, rfl, hv, h⟩
/-- Where the loop of circles stands: so much is left, or none. -/
def Left (w : World) (t : Option Int) (g : Nat) (err m : Value) : Prop :=
  (g = 0 ∧ err = .nilIface) ∨ ∃ l T v, l.length ≤ 100 ∧ g = l.length + 1 ∧ err = .iface T v ∧ val l t = .iface T v ∧ Lie w l t ∧ Mark w l t m
theorem Left.next {w : World} {t : Option Int} {l : List Nd} {T : TypeId} {v m : Value} (hl : l.length ≤ 100) (hv : val l t = .iface T v) (h : Lie w l t) (hm : Mark w l t m ∨ m = .iface T v) : ∃ g, g < l.length + 1 ∧ Left w t g (nxt l t) m := by
  match l, h with
  | [], h => exact ⟨0, by simp, Or.inl ⟨rfl, rfl⟩⟩
  | y :: l, h =>
    have h' : Lie w l t := Lie.back [y] h
    rcases val_shape l t with ⟨e, rfl, rfl⟩ | ⟨T', v', e⟩
    · exact ⟨0, by simp, Or.inl ⟨rfl, e⟩⟩
    · refine ⟨l.length + 1, by simp, Or.inr ⟨l, T', v', by simp at hl; omega, rfl, e, e, h', ?_⟩⟩
      rcases hm with hm | rfl
      · exact hm.step
      · exact Mark.new hv (by simp at hl; omega) h
theorem circles_any (l0 : List Nd) (t : Option Int) (T : TypeId) (v : Value) (w : World) (hv : val l0 t = .iface T v) (hl : l0.length ≤ 100) (h : Lie w l0 t) :
    Calls Tryd.prog 32 #[.iface T v] w fun e w' => e = .returned (.bool false) ∧ Below w.heap.size w w' := by
  have HV : Hid (val l0 t = .iface T v) := hv
  have HL : Hid (Lie w l0 t) := h
  clear hv h
  go_enter Tryd.func32, Tryd.ntmps32
  go_wp2
  go_loopg [0, 3, 4, 5] (l0.length + 1) (fun g err m st nx wr => Hid (Left wr t g err m) ∧ Hid (Up w.heap.size w wr) ∧ ∃ i j : Int, st = .int .i64 i ∧ nx = .int .i64 j)
  case atStart => exact ⟨Or.inr ⟨l0, T, v, hl, rfl, rfl, HV.out, HL.out, Or.inl rfl⟩, Up.refl w, 1, 1, rfl, rfl⟩
  case round =>
    obtain ⟨HF, HU, i, j, rfl, rfl⟩ := hrel
    rcases HF.out with ⟨hg, rfl⟩ | ⟨l, T1, v1, hl1, hg, rfl, hv1, h1, hm1⟩
    · go_wp2
      go_ret
      exact ⟨rfl, HU.out.1⟩
    · have HF1 : Hid (l.length ≤ 100 ∧ val l t = .iface T1 v1) := ⟨hl1, hv1⟩
      have HL1 : Hid (Lie wr l t ∧ Mark wr l t u3) := ⟨h1, hm1⟩
      have c1 := same_mark l t T1 v1 u3 wr hv1 hm1
      clear hl1 hv1 h1 hm1 HF
      go_wp2_with fail
      refine c1.mono ?_
      rintro e w1 ⟨rfl, hb1⟩
      have HL2 : Hid (Lie w1 l t ∧ Mark w1 l t u3) := ⟨HL1.out.1.stay hb1, HL1.out.2.stay hb1⟩
      have HU1 : Hid (Up w.heap.size w w1) := HU.out.stay hb1
      clear hb1 c1 HL1 HU
      by_cases hij : j ≤ i
      · have c2 := same_self l t T1 v1 w1 HF1.out.2 HF1.out.1
        go_wp2_with fail
        refine c2.mono ?_
        rintro e w2 ⟨rfl, hb2⟩
        have HL3 : Hid (Lie w2 l t) := HL2.out.1.stay hb2
        have HU2 : Hid (Up w.heap.size w w2) := HU1.out.stay hb2
        have c3 := unwrap_any l t T1 v1 w2 HF1.out.2 HL3.out
        clear hb2 c2 HL2 HU1
        go_wp2_with fail
        refine c3.mono ?_
        rintro e w3 ⟨rfl, hb3⟩
        have HU3 : Hid (Up w.heap.size w w3) := HU2.out.stay hb3
        have HG : Hid (∃ g, g < l.length + 1 ∧ Left w3 t g (nxt l t) (.iface T1 v1)) := Left.next HF1.out.1 HF1.out.2 (HL3.out.stay hb3) (Or.inr rfl)
        clear hb3 c3 HL3 HU2
        obtain ⟨g, hg1, HG1⟩ := HG.out
        have HG2 : Hid (Left w3 t g (nxt l t) (.iface T1 v1)) := HG1
        clear HG HG1
        generalize nxt l t = nv at HG2 ⊢
        go_wp2
        go_roundg g
        case measure => omega
        case rel => exact ⟨HG2, HU3, _, _, rfl, rfl⟩
      · have c3 := unwrap_any l t T1 v1 w1 HF1.out.2 HL2.out.1
        go_wp2_with fail
        refine c3.mono ?_
        rintro e w3 ⟨rfl, hb3⟩
        have HU3 : Hid (Up w.heap.size w w3) := HU1.out.stay hb3
        have HG : Hid (∃ g, g < l.length + 1 ∧ Left w3 t g (nxt l t) u3) := Left.next HF1.out.1 HF1.out.2 (HL2.out.1.stay hb3) (Or.inl (HL2.out.2.stay hb3))
        clear hb3 c3 HL2 HU1
        obtain ⟨g, hg1, HG1⟩ := HG.out
        have HG2 : Hid (Left w3 t g (nxt l t) u3) := HG1
        clear HG HG1
        generalize nxt l t = nv at HG2 ⊢
        go_wp2
        go_roundg g
        case measure => omega
        case rel => exact ⟨HG2, HU3, _, _, rfl, rfl⟩
theorem enter31 (cap : Array Value) (w : World) : (callFunc 31 cap).run Tryd.prog w = .ok (.enter 31 cap) w := by kernel_rfl
theorem endless1_any (l0 : List Nd) (t : Option Int) (T : TypeId) (v : Value) (p : Addr) (w : World) (hp : w.cell? p = some (.iface T v)) (hv : val l0 t = .iface T v) (hl : l0.length ≤ 100) (h : Lie w l0 t) :
    Calls Tryd.prog 31 #[.pointer (some p)] w fun e w' => e = .returned (.bool false) ∧ Below w.heap.size w w' := by
  have c := circles_any l0 t T v w hv hl h
  clear hv h hl
  go_enter Tryd.func31, Tryd.ntmps31
  go_wp2_with fail
  refine c.mono ?_
  rintro e w1 ⟨rfl, hb⟩
  go_wp2
  go_ret
  exact ⟨rfl, hb⟩
theorem endless_any (l0 : List Nd) (t : Option Int) (T : TypeId) (v : Value) (w : World) (hv : val l0 t = .iface T v) (hl : l0.length ≤ 100) (h : Lie w l0 t) :
    Calls Tryd.prog 19 #[.iface T v] w fun e w' => e = .returned (.bool false) ∧ Below w.heap.size w w' := by
  have hmf : ∀ (fn : Fn) (first cap : Array Value) (w : World), (Instr.makeFunc fn first cap).run Tryd.prog w = .ok (.func fn first cap) w := fun _ _ _ _ => rfl
  have hu : Up w.heap.size w (w.alloc (.cells #[.iface T v] 25)) := (Up.refl w).alloc _
  have c := holds_bel 31 #[.pointer (some ⟨w.heap.size, 0, none⟩)] false (w.alloc (.cells #[.iface T v] 25))
    (endless1_any l0 t T v _ _ (by go_simp) hv hl ((h.alloc _).alloc _)) (enter31 _)
  clear hv h hl
  go_enter Tryd.func19, Tryd.ntmps19
  go_wp2_with fail
  refine c.mono ?_
  rintro e w1 ⟨rfl, hb⟩
  go_wp2
  go_ret
  exact ⟨rfl, (hu.stay hb).1⟩
end Go.Proofs.YtpjpoefcammnoaaDoor
