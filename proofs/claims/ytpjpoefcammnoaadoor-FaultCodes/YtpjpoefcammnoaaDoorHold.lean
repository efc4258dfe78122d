/- holds: what a closure answers; same: are two errors one? -/
import Derived.Test.YtpjpoefcammnoaaDoorBase
import Derived.Defers
import Derived.Recover
namespace Go.Proofs.YtpjpoefcammnoaaDoor
set_option linter.unusedVariables false
open Go.RowKit Go.ChangeShapes

theorem catch_idle (p : Addr) (w : World) :
    CallsD Tryd.prog 33 #[.pointer (some p)] .returning w fun e u' w' => e = .returned (.tuple #[]) ∧ u' = .returning ∧ w' = w := by
  refine callsD_of_wpS Tryd.func33 rfl fun c₀ cs hu => ?_
  apply wpS_seq
  apply wpS_region
  simp [wpOpsS, go_sem, recoverD, hu, Tryd.ntmps33, Exit.thenS]
  refine wpS_cond (t := false) (by simp [Act.eval, Array.replicate]) ?_
  simp only [Bool.false_eq_true, if_false]
  refine wpS_of_wp (wp_skip ?_)
  cases c₀
  simp_all [bodyPostS, results, Tryd.results33]

/-- holds answers what the closure answers; the closure's own world, with the answer in a new variable. -/
theorem holds_any (G : Nat) (cap : Array Value) (r : Bool) (w : World) (R : World → Prop)
    (hG : Calls Tryd.prog G cap (w.alloc (.cells #[.bool false] 4)) fun e w' => e = .returned (.bool r) ∧ R w')
    (hE : ∀ w', (callFunc G cap).run Tryd.prog w' = .ok (.enter G cap) w')
    (hR : ∀ w', R w' → w'.cell? ⟨w.heap.size, 0, none⟩ = some (.bool false) ∧ w'.frozen? ⟨w.heap.size, 0, none⟩ = false) :
    Calls Tryd.prog 20 #[.func (.func G) #[] cap] w fun e w' => e = .returned (.bool r) ∧ ∃ w1, R w1 ∧ w' = w1.setCell ⟨w.heap.size, 0, none⟩ (.bool r) := by
  have hmf : ∀ (fn : Fn) (first cap : Array Value) (w : World), (Instr.makeFunc fn first cap).run Tryd.prog w = .ok (.func fn first cap) w := fun _ _ _ _ => rfl
  go_enter_defers Tryd.func20, Tryd.ntmps20
  go_wp2_with fail
  refine hG.mono ?_
  rintro e w1 ⟨rfl, hw⟩
  obtain ⟨c1, c2⟩ := hR w1 hw
  have HW : Hid (R w1) := hw
  clear hw hR hG hE
  go_wp2
  refine leaves_cons (f := 33) (args := #[.pointer (some ⟨w.heap.size, 0, none⟩)]) (by simp) (by simp [go_sem]) ?_
  refine (catch_idle ⟨w.heap.size, 0, none⟩ _).mono ?_
  rintro e u' w'' ⟨rfl, rfl, rfl⟩
  have hlt := World.block_lt_of_cell? w1 _ c1
  have c3 : (w1.setCell ⟨w.heap.size, 0, none⟩ (.bool r)).cell? ⟨w.heap.size, 0, none⟩ = some (.bool r) := by
    simp [World.cell?_setCell_same, c1]
  simp [Leaves, settle, results, Tryd.results20, go_sem, c3]
  exact ⟨w1, HW.out, rfl⟩
/-- The same, of a closure that makes new memory alone. -/
theorem holds_bel (G : Nat) (cap : Array Value) (r : Bool) (w : World)
    (hG : Calls Tryd.prog G cap (w.alloc (.cells #[.bool false] 4)) fun e w' => e = .returned (.bool r) ∧ Below (w.alloc (.cells #[.bool false] 4)).heap.size (w.alloc (.cells #[.bool false] 4)) w')
    (hE : ∀ w', (callFunc G cap).run Tryd.prog w' = .ok (.enter G cap) w') :
    Calls Tryd.prog 20 #[.func (.func G) #[] cap] w fun e w' => e = .returned (.bool r) ∧ Below w.heap.size w w' := by
  refine (holds_any G cap r w _ hG hE fun w' hb => ?_).mono ?_
  · exact ⟨(hb.cell (by simp)).trans (by simp), (hb.frozen (by simp)).trans (by simp [go_sem])⟩
  · rintro e w' ⟨he, w1, hb, rfl⟩
    exact ⟨he, (((Up.refl w).alloc _).stay hb).1.setCell (Nat.le_refl _) _⟩
theorem enter41 (cap : Array Value) (w : World) : (callFunc 41 cap).run Tryd.prog w = .ok (.enter 41 cap) w := by kernel_rfl
theorem same1_any (p q : Addr) (tx ty : TypeId) (x y : Value) (r : Bool) (w : World) (hp : w.cell? p = some (.iface tx x)) (hq : w.cell? q = some (.iface ty y))
    (h : (Op.equalIn 10000 25 (.iface tx x) (.iface ty y)).run Tryd.prog w = .ok r w) :
    Calls Tryd.prog 41 #[.pointer (some p), .pointer (some q)] w fun e w' => e = .returned (.bool r) ∧ w' = w := by
  have hb : (binOp .eql 25 (.iface tx x) (.iface ty y)).run Tryd.prog w = .ok (.bool r) w := by
    simp only [binOp]
    simp [Op.equal, Op.maxDepth, h]
  have hg : ∀ a b, (eqGuard .eql 25 a b (.iface tx x) (.iface ty y)) = pure () := fun a b => rfl
  clear h
  go_enter Tryd.func41, Tryd.ntmps41
  go_wp2
  go_ret
  exact ⟨rfl, rfl⟩
theorem same1_nil (p q : Addr) (ty : TypeId) (y : Value) (w : World) (hp : w.cell? p = some .nilIface) (hq : w.cell? q = some (.iface ty y)) :
    Calls Tryd.prog 41 #[.pointer (some p), .pointer (some q)] w fun e w' => e = .returned (.bool false) ∧ w' = w := by
  have hb := run_eql_iface_nil_left (P := Tryd.prog) w ty y Tryd.underlying25
  have hg : ∀ a b, (eqGuard .eql 25 a b .nilIface (.iface ty y)) = pure () := fun a b => rfl
  go_enter Tryd.func41, Tryd.ntmps41
  go_wp2
  go_ret
  exact ⟨rfl, rfl⟩
theorem same_any (tx ty : TypeId) (x y : Value) (r : Bool) (w : World)
    (h : ∀ w', Below w.heap.size w w' → (Op.equalIn 10000 25 (.iface tx x) (.iface ty y)).run Tryd.prog w' = .ok r w') :
    Calls Tryd.prog 38 #[.iface tx x, .iface ty y] w fun e w' => e = .returned (.bool r) ∧ Below w.heap.size w w' := by
  have hmf : ∀ (fn : Fn) (first cap : Array Value) (w : World), (Instr.makeFunc fn first cap).run Tryd.prog w = .ok (.func fn first cap) w := fun _ _ _ _ => rfl
  have hu : Up w.heap.size w ((w.alloc (.cells #[.iface tx x] 25)).alloc (.cells #[.iface ty y] 25)) := ((Up.refl w).alloc _).alloc _
  have c := holds_bel 41 #[.pointer (some ⟨w.heap.size, 0, none⟩), .pointer (some ⟨w.heap.size + 1, 0, none⟩)] r ((w.alloc (.cells #[.iface tx x] 25)).alloc (.cells #[.iface ty y] 25))
    ((same1_any _ _ tx ty x y r _ (by go_simp) (by go_simp) (h _ (hu.alloc _).1)).mono fun e w' ⟨he, hw⟩ => ⟨he, by subst hw; exact Below.refl _ _⟩) (enter41 _)
  clear h
  go_enter Tryd.func38, Tryd.ntmps38
  go_wp2_with fail
  refine c.mono ?_
  rintro e w1 ⟨rfl, hb⟩
  go_wp2
  go_ret
  exact ⟨rfl, (hu.stay hb).1⟩
theorem same_nil (ty : TypeId) (y : Value) (w : World) :
    Calls Tryd.prog 38 #[.nilIface, .iface ty y] w fun e w' => e = .returned (.bool false) ∧ Below w.heap.size w w' := by
  have hmf : ∀ (fn : Fn) (first cap : Array Value) (w : World), (Instr.makeFunc fn first cap).run Tryd.prog w = .ok (.func fn first cap) w := fun _ _ _ _ => rfl
  have hu : Up w.heap.size w ((w.alloc (.cells #[.nilIface] 25)).alloc (.cells #[.iface ty y] 25)) := ((Up.refl w).alloc _).alloc _
  have c := holds_bel 41 #[.pointer (some ⟨w.heap.size, 0, none⟩), .pointer (some ⟨w.heap.size + 1, 0, none⟩)] false ((w.alloc (.cells #[.nilIface] 25)).alloc (.cells #[.iface ty y] 25))
    ((same1_nil _ _ ty y _ (by go_simp) (by go_simp)).mono fun e w' ⟨he, hw⟩ => ⟨he, by subst hw; exact Below.refl _ _⟩) (enter41 _)
  go_enter Tryd.func38, Tryd.ntmps38
  go_wp2_with fail
  refine c.mono ?_
  rintro e w1 ⟨rfl, hb⟩
  go_wp2
  go_ret
  exact ⟨rfl, (hu.stay hb).1⟩
end Go.Proofs.YtpjpoefcammnoaaDoor
