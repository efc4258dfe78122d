/- fault's own functions: New, Of, Code, Is, Where, Inner. -/
import Derived.Test.YtpjpoefcammnoaaDoorIs
namespace Go.Proofs.YtpjpoefcammnoaaDoor
set_option linter.unusedVariables false
open Go.RowKit Go.ChangeShapes

theorem circles_nil (w : World) : Calls Tryd.prog 32 #[.nilIface] w fun e w' => e = .returned (.bool false) ∧ w' = w := by
  go_enter Tryd.func32, Tryd.ntmps32
  go_wp2
  go_loopg [0, 3, 4, 5] 0 (fun g err m st nx wr => err = .nilIface ∧ Hid (wr = w))
  case atStart => exact ⟨rfl, rfl⟩
  case round =>
    obtain ⟨rfl, HW⟩ := hrel
    go_wp2
    go_ret
    exact ⟨rfl, HW.out⟩
theorem endless1_nil (p : Addr) (w : World) (hp : w.cell? p = some .nilIface) :
    Calls Tryd.prog 31 #[.pointer (some p)] w fun e w' => e = .returned (.bool false) ∧ Below w.heap.size w w' := by
  have c := circles_nil w
  go_enter Tryd.func31, Tryd.ntmps31
  go_wp2_with fail
  refine c.mono ?_
  rintro e w1 ⟨rfl, rfl⟩
  go_wp2
  go_ret
  exact ⟨rfl, Below.refl _ _⟩
theorem endless_nil (w : World) :
    Calls Tryd.prog 19 #[.nilIface] w fun e w' => e = .returned (.bool false) ∧ Below w.heap.size w w' := by
  have hmf : ∀ (fn : Fn) (first cap : Array Value) (w : World), (Instr.makeFunc fn first cap).run Tryd.prog w = .ok (.func fn first cap) w := fun _ _ _ _ => rfl
  have hu : Up w.heap.size w (w.alloc (.cells #[.nilIface] 25)) := (Up.refl w).alloc _
  have c := holds_bel 31 #[.pointer (some ⟨w.heap.size, 0, none⟩)] false (w.alloc (.cells #[.nilIface] 25))
    (endless1_nil _ _ (by go_simp)) (enter31 _)
  go_enter Tryd.func19, Tryd.ntmps19
  go_wp2_with fail
  refine c.mono ?_
  rintro e w1 ⟨rfl, hb⟩
  go_wp2
  go_ret
  exact ⟨rfl, (hu.stay hb).1⟩

theorem new_nil (s : ByteArray) (n : Int) (w : World) :
    Calls Tryd.prog 14 #[.string s, .int .i64 n, .nilIface] w fun e w' => e = .returned .nilIface ∧ w' = w := by
  go_enter Tryd.func14, Tryd.ntmps14
  go_wp2
  go_ret
  exact ⟨rfl, rfl⟩
theorem new_any (s : ByteArray) (n : Int) (T : TypeId) (v : Value) (w : World) :
    Calls Tryd.prog 14 #[.string s, .int .i64 n, .iface T v] w fun e w' => e = .returned (.iface 42 (.pointer (some ⟨w.heap.size, 0, none⟩))) ∧ w' = w.alloc (.cells #[.string s, .int .i64 n, .iface T v] 46) := by
  go_enter Tryd.func14, Tryd.ntmps14
  go_wp2
  go_ret
  exact ⟨rfl, rfl⟩
theorem of_nil (w : World) :
    Calls Tryd.prog 15 #[.int .i64 0] w fun e w' => e = .returned .nilIface ∧ w' = w := by
  go_enter Tryd.func15, Tryd.ntmps15
  go_wp2
  go_ret
  exact ⟨rfl, rfl⟩
theorem of_any (c : Int) (w : World) (hc : (c == 0) = false) :
    Calls Tryd.prog 15 #[.int .i64 c] w fun e w' => e = .returned (.iface 27 (.int .i64 c)) ∧ w' = w := by
  go_enter Tryd.func15, Tryd.ntmps15
  go_wp2
  go_ret
  exact ⟨rfl, rfl⟩

theorem enter21 (cap : Array Value) (w : World) : (callFunc 21 cap).run Tryd.prog w = .ok (.enter 21 cap) w := by kernel_rfl
theorem enter22 (cap : Array Value) (w : World) : (callFunc 22 cap).run Tryd.prog w = .ok (.enter 22 cap) w := by kernel_rfl
theorem enter34 (cap : Array Value) (w : World) : (callFunc 34 cap).run Tryd.prog w = .ok (.enter 34 cap) w := by kernel_rfl
theorem Set27.bool {tgt : Addr} {w : World} : ∀ {t : Option Int} {e : Ending} {v : World}, Set27 tgt w t e v → e = .returned (.bool t.isSome)
  | some _, _, _, h => h.1
  | none, _, _, h => h.1
theorem Set42.bool {tgt : Addr} {w : World} : ∀ {t : Option Nat} {e : Ending} {v : World}, Set42 tgt w t e v → e = .returned (.bool t.isSome)
  | some _, _, _, h => h.1
  | none, _, _, h => h.1
/-- Code's closure. -/
theorem code1_any (l0 : List Nd) (t : Option Int) (T0 : TypeId) (v0 : Value) (p tgt : Addr) (w : World) (hp : w.cell? p = some (.iface T0 v0)) (hv : val l0 t = .iface T0 v0) (h : Lie w l0 t) (hg : Ety w) (ht : Tgt w tgt) :
    Calls Tryd.prog 21 #[.pointer (some p), .pointer (some tgt)] w (Set27 tgt w t) := by
  have c := As27 l0 t T0 v0 tgt w hv h hg ht
  clear hv h hg ht
  go_enter Tryd.func21, Tryd.ntmps21
  go_wp2_with fail
  refine c.mono ?_
  intro e w1 hs
  have hs2 : Hid (Set27 tgt w t e w1) := hs
  obtain rfl := hs.bool
  clear hs
  go_wp2
  go_ret
  exact hs2.out
theorem outermost1_any (l0 : List Nd) (t : Option Int) (T0 : TypeId) (v0 : Value) (p tgt : Addr) (w : World) (hp : w.cell? p = some (.iface T0 v0)) (hv : val l0 t = .iface T0 v0) (h : Lie w l0 t) (hg : Ety w) (ht : Tgt w tgt) :
    Calls Tryd.prog 34 #[.pointer (some p), .pointer (some tgt)] w (Set42 tgt w (hit l0)) := by
  have c := As42 l0 t T0 v0 tgt w hv h hg ht
  clear hv h hg ht
  go_enter Tryd.func34, Tryd.ntmps34
  go_wp2_with fail
  refine c.mono ?_
  intro e w1 hs
  have hs2 : Hid (Set42 tgt w (hit l0) e w1) := hs
  obtain rfl := hs.bool
  clear hs
  go_wp2
  go_ret
  exact hs2.out
theorem outermost1_nil (p tgt : Addr) (w : World) (hp : w.cell? p = some .nilIface) :
    Calls Tryd.prog 34 #[.pointer (some p), .pointer (some tgt)] w fun e w' => e = .returned (.bool false) ∧ Below w.heap.size w w' := by
  go_enter Tryd.func34, Tryd.ntmps34
  go_wp2_with fail
  refine (As_nil _ _).mono ?_
  rintro e w1 ⟨rfl, rfl⟩
  go_wp2
  go_ret
  exact ⟨rfl, Below.refl _ _⟩
theorem is1_any (l0 : List Nd) (c n : Int) (T0 : TypeId) (v0 : Value) (p q : Addr) (w : World) (hp : w.cell? p = some (.iface T0 v0)) (hq : w.cell? q = some (.int .i64 n)) (hv : val l0 (some c) = .iface T0 v0) (h : Lie w l0 (some c)) :
    Calls Tryd.prog 22 #[.pointer (some p), .pointer (some q)] w fun e w' => e = .returned (.bool (c == n)) ∧ Below w.heap.size w w' := by
  have c := Is_any l0 c n T0 v0 w hv h
  clear hv h
  go_enter Tryd.func22, Tryd.ntmps22
  go_wp2_with fail
  refine c.mono ?_
  rintro e w1 ⟨rfl, hb⟩
  go_wp2
  go_ret
  exact ⟨rfl, hb⟩
theorem is1_nil (n : Int) (p q : Addr) (w : World) (hp : w.cell? p = some .nilIface) (hq : w.cell? q = some (.int .i64 n)) :
    Calls Tryd.prog 22 #[.pointer (some p), .pointer (some q)] w fun e w' => e = .returned (.bool false) ∧ Below w.heap.size w w' := by
  go_enter Tryd.func22, Tryd.ntmps22
  go_wp2_with fail
  refine (Is_nil n _).mono ?_
  rintro e w1 ⟨rfl, rfl⟩
  go_wp2
  go_ret
  exact ⟨rfl, Below.refl _ _⟩
/-- What was found was laid at its target; or none was. -/
def SetV (tgt : Addr) (w : World) : Option Value → Ending → World → Prop
  | some x, e, w' => e = .returned (.bool true) ∧ ∃ w1, Below w.heap.size w w1 ∧ w' = w1.setCell tgt x
  | none, e, w' => e = .returned (.bool false) ∧ Below w.heap.size w w'
def PostF (tgt : Addr) (w : World) (v : Option Value) (e : Ending) (w' : World) : Prop :=
  e = .returned (.bool v.isSome) ∧ (∀ x, v = some x → w'.cell? tgt = some x) ∧ ∀ B a, B ≤ tgt.block → Up B a w → Up B a w'
theorem holdsV (G : Nat) (cap : Array Value) (v : Option Value) (tgt : Addr) (w : World)
    (hG : Calls Tryd.prog G cap (w.alloc (.cells #[.bool false] 4)) (SetV tgt (w.alloc (.cells #[.bool false] 4)) v))
    (hE : ∀ w', (callFunc G cap).run Tryd.prog w' = .ok (.enter G cap) w') (ht : Tgt w tgt) :
    Calls Tryd.prog 20 #[.func (.func G) #[] cap] w (PostF tgt w v) := by
  have hne : tgt.block ≠ w.heap.size := Nat.ne_of_lt ht.1
  match v, hG with
  | none, hG =>
    refine (holds_any G cap false w _ hG hE fun w' hb => ?_).mono ?_
    · exact ⟨(hb.cell (by simp)).trans (by simp), (hb.frozen (by simp)).trans (by simp [go_sem])⟩
    · rintro e w' ⟨he, w1, hb, rfl⟩
      exact ⟨he, fun x hx => (by cases hx), fun B a hB hU => ((hU.alloc _).stay hb).setCell hU.2 _⟩
  | some x, hG =>
    refine (holds_any G cap true w _ hG hE fun w' hb => ?_).mono ?_
    · obtain ⟨w1, hb, rfl⟩ := hb
      rw [World.cell?_setCell_other _ _ _ _ (by intro e; rw [e] at hne; exact hne rfl)]
      refine ⟨(hb.cell (by simp)).trans (by simp), ?_⟩
      exact (World.frozen?_setCell _ _ _ _).trans ((hb.frozen (by simp)).trans (by simp [go_sem]))
    · rintro e w' ⟨he, w1, ⟨w2, hb, rfl⟩, rfl⟩
      refine ⟨he, fun y hy => ?_, fun B a hB hU => (((hU.alloc _).stay hb).setCell hB _).setCell hU.2 _⟩
      injection hy with hy
      subst hy
      obtain ⟨h1, h2, old, h3⟩ := (ht.alloc (.cells #[.bool false] 4)).stay hb
      rw [World.cell?_setCell_other _ _ _ _ (by intro e; rw [← e] at hne; exact hne rfl)]
      simp [World.cell?_setCell_same, h3]
theorem Set27.toV {tgt : Addr} {w : World} : ∀ {t : Option Int} {e : Ending} {v : World}, Set27 tgt w t e v → SetV tgt w (t.map fun c => .int .i64 c) e v
  | some _, _, _, h => h
  | none, _, _, h => h
theorem Set42.toV {tgt : Addr} {w : World} : ∀ {t : Option Nat} {e : Ending} {v : World}, Set42 tgt w t e v → SetV tgt w (t.map fun b => .pointer (some ⟨b, 0, none⟩)) e v
  | some _, _, _, h => h
  | none, _, _, h => h
/-- The number of an error. -/
def numb : Option Int → Int
  | some c => c
  | none => 11
theorem code_nil (w : World) : Calls Tryd.prog 9 #[.nilIface] w fun e w' => e = .returned (.int .i64 0) ∧ Below w.heap.size w w' := by
  go_enter Tryd.func9, Tryd.ntmps9
  go_wp2
  go_ret
  exact ⟨rfl, (Below.refl _ _).alloc (Nat.le_refl _) _⟩
theorem code_any (l0 : List Nd) (t : Option Int) (T0 : TypeId) (v0 : Value) (w : World) (hv : val l0 t = .iface T0 v0) (hl : l0.length ≤ 100) (h : Lie w l0 t) (hg : Ety w) :
    Calls Tryd.prog 9 #[.iface T0 v0] w fun e w' => e = .returned (.int .i64 (numb t)) ∧ Below w.heap.size w w' := by
  have hmf : ∀ (fn : Fn) (first cap : Array Value) (w : World), (Instr.makeFunc fn first cap).run Tryd.prog w = .ok (.func fn first cap) w := fun _ _ _ _ => rfl
  have hu : Hid (Up w.heap.size w ((w.alloc (.cells #[.iface T0 v0] 25)).alloc (.cells #[.int .i64 0] 27))) := ((Up.refl w).alloc _).alloc _
  have c := endless_any l0 t T0 v0 ((w.alloc (.cells #[.iface T0 v0] 25)).alloc (.cells #[.int .i64 0] 27)) hv hl ((h.alloc _).alloc _)
  have HV : Hid (val l0 t = .iface T0 v0) := hv
  have HL : Hid (Lie w l0 t) := h
  have HG : Hid (Ety w) := hg
  clear hv h hg hl
  go_enter Tryd.func9, Tryd.ntmps9
  go_wp2_with fail
  refine c.mono ?_
  rintro e w1 ⟨rfl, hb⟩
  have c0 : Hid (w1.cell? ⟨w.heap.size, 0, none⟩ = some (.iface T0 v0)) := (hb.cell (by simp; omega)).trans (by go_simp)
  have tg : Hid (Tgt w1 ⟨w.heap.size + 1, 0, none⟩) := (show Tgt ((w.alloc (.cells #[.iface T0 v0] 25)).alloc (.cells #[.int .i64 0] 27)) ⟨w.heap.size + 1, 0, none⟩ from ⟨by simp, by simp [go_sem], .int .i64 0, by go_simp⟩).stay hb
  have HU1 : Hid (Up w.heap.size w w1) := hu.out.stay hb
  clear hb c hu
  have c2 := holdsV 21 #[.pointer (some ⟨w.heap.size, 0, none⟩), .pointer (some ⟨w.heap.size + 1, 0, none⟩)] (t.map fun c => .int .i64 c) ⟨w.heap.size + 1, 0, none⟩ w1
    ((code1_any l0 t T0 v0 ⟨w.heap.size, 0, none⟩ ⟨w.heap.size + 1, 0, none⟩ _ (cell_alloc c0.out _) HV.out ((HL.out.stay HU1.out.1).alloc _) ((HG.out.stay HU1.out.1).alloc _) (tg.out.alloc _)).mono
      fun e w' hs => hs.toV)
    (enter21 _) tg.out
  clear c0 tg HL HG HV
  go_wp2_with fail
  refine c2.mono ?_
  rintro e w2 ⟨rfl, hx, hB⟩
  have HU2 : Hid (Up w.heap.size w w2) := hB _ _ (Nat.le_succ _) HU1.out
  clear hB c2 HU1
  cases t with
  | none =>
    clear hx
    go_wp2
    go_ret
    exact ⟨rfl, HU2.out.1⟩
  | some c =>
    have hc := hx _ rfl
    clear hx
    go_wp2
    go_ret
    exact ⟨rfl, HU2.out.1⟩
theorem fis_any (l0 : List Nd) (c n : Int) (T0 : TypeId) (v0 : Value) (w : World) (hv : val l0 (some c) = .iface T0 v0) (hl : l0.length ≤ 100) (h : Lie w l0 (some c)) :
    Calls Tryd.prog 10 #[.iface T0 v0, .int .i64 n] w fun e w' => e = .returned (.bool (c == n)) ∧ Below w.heap.size w w' := by
  have hmf : ∀ (fn : Fn) (first cap : Array Value) (w : World), (Instr.makeFunc fn first cap).run Tryd.prog w = .ok (.func fn first cap) w := fun _ _ _ _ => rfl
  have hu : Hid (Up w.heap.size w ((w.alloc (.cells #[.iface T0 v0] 25)).alloc (.cells #[.int .i64 n] 27))) := ((Up.refl w).alloc _).alloc _
  have ct := endless_any l0 (some c) T0 v0 ((w.alloc (.cells #[.iface T0 v0] 25)).alloc (.cells #[.int .i64 n] 27)) hv hl ((h.alloc _).alloc _)
  have HV : Hid (val l0 (some c) = .iface T0 v0) := hv
  have HL : Hid (Lie w l0 (some c)) := h
  clear hv h hl
  go_enter Tryd.func10, Tryd.ntmps10
  go_wp2_with fail
  refine ct.mono ?_
  rintro e w1 ⟨rfl, hb⟩
  have c0 : Hid (w1.cell? ⟨w.heap.size, 0, none⟩ = some (.iface T0 v0)) := (hb.cell (by simp; omega)).trans (by go_simp)
  have c1 : Hid (w1.cell? ⟨w.heap.size + 1, 0, none⟩ = some (.int .i64 n)) := (hb.cell (by simp)).trans (by go_simp)
  have HU1 : Hid (Up w.heap.size w w1) := hu.out.stay hb
  clear hb ct hu
  have c2 := holds_bel 22 #[.pointer (some ⟨w.heap.size, 0, none⟩), .pointer (some ⟨w.heap.size + 1, 0, none⟩)] (c == n) w1
    (is1_any l0 c n T0 v0 ⟨w.heap.size, 0, none⟩ ⟨w.heap.size + 1, 0, none⟩ _ (cell_alloc c0.out _) (cell_alloc c1.out _) HV.out ((HL.out.stay HU1.out.1).alloc _))
    (enter22 _)
  clear c0 c1 HL HV
  go_wp2_with fail
  refine c2.mono ?_
  rintro e w2 ⟨rfl, hb⟩
  have HU2 : Hid (Up w.heap.size w w2) := HU1.out.stay hb
  clear hb c2 HU1
  go_wp2
  go_ret
  exact ⟨rfl, HU2.out.1⟩
theorem fis_nil (n : Int) (w : World) :
    Calls Tryd.prog 10 #[.nilIface, .int .i64 n] w fun e w' => e = .returned (.bool false) ∧ Below w.heap.size w w' := by
  have hmf : ∀ (fn : Fn) (first cap : Array Value) (w : World), (Instr.makeFunc fn first cap).run Tryd.prog w = .ok (.func fn first cap) w := fun _ _ _ _ => rfl
  have hu : Hid (Up w.heap.size w ((w.alloc (.cells #[.nilIface] 25)).alloc (.cells #[.int .i64 n] 27))) := ((Up.refl w).alloc _).alloc _
  have ct := endless_nil ((w.alloc (.cells #[.nilIface] 25)).alloc (.cells #[.int .i64 n] 27))
  go_enter Tryd.func10, Tryd.ntmps10
  go_wp2_with fail
  refine ct.mono ?_
  rintro e w1 ⟨rfl, hb⟩
  have c0 : Hid (w1.cell? ⟨w.heap.size, 0, none⟩ = some .nilIface) := (hb.cell (by simp; omega)).trans (by go_simp)
  have c1 : Hid (w1.cell? ⟨w.heap.size + 1, 0, none⟩ = some (.int .i64 n)) := (hb.cell (by simp)).trans (by go_simp)
  have HU1 : Hid (Up w.heap.size w w1) := hu.out.stay hb
  clear hb ct hu
  have c2 := holds_bel 22 #[.pointer (some ⟨w.heap.size, 0, none⟩), .pointer (some ⟨w.heap.size + 1, 0, none⟩)] false w1
    (is1_nil n ⟨w.heap.size, 0, none⟩ ⟨w.heap.size + 1, 0, none⟩ _ (cell_alloc c0.out _) (cell_alloc c1.out _))
    (enter22 _)
  clear c0 c1
  go_wp2_with fail
  refine c2.mono ?_
  rintro e w2 ⟨rfl, hb⟩
  have HU2 : Hid (Up w.heap.size w w2) := HU1.out.stay hb
  clear hb c2 HU1
  go_wp2
  go_ret
  exact ⟨rfl, HU2.out.1⟩
/-- The outermost of a list, as a pointer. -/
def ptr : Option Nat → Value
  | some b => .pointer (some ⟨b, 0, none⟩)
  | none => .pointer none
theorem outer_any (l0 : List Nd) (t : Option Int) (T0 : TypeId) (v0 : Value) (w : World) (hv : val l0 t = .iface T0 v0) (h : Lie w l0 t) (hg : Ety w) :
    Calls Tryd.prog 23 #[.iface T0 v0] w fun e w' => e = .returned (ptr (hit l0)) ∧ Below w.heap.size w w' := by
  have hmf : ∀ (fn : Fn) (first cap : Array Value) (w : World), (Instr.makeFunc fn first cap).run Tryd.prog w = .ok (.func fn first cap) w := fun _ _ _ _ => rfl
  have HU1 : Hid (Up w.heap.size w ((w.alloc (.cells #[.iface T0 v0] 25)).alloc (.cells #[.pointer none] 42))) := ((Up.refl w).alloc _).alloc _
  have tg : Tgt ((w.alloc (.cells #[.iface T0 v0] 25)).alloc (.cells #[.pointer none] 42)) ⟨w.heap.size + 1, 0, none⟩ := ⟨by simp, by simp [go_sem], .pointer none, by go_simp⟩
  have c2 := holdsV 34 #[.pointer (some ⟨w.heap.size, 0, none⟩), .pointer (some ⟨w.heap.size + 1, 0, none⟩)] ((hit l0).map fun b => .pointer (some ⟨b, 0, none⟩)) ⟨w.heap.size + 1, 0, none⟩ ((w.alloc (.cells #[.iface T0 v0] 25)).alloc (.cells #[.pointer none] 42))
    ((outermost1_any l0 t T0 v0 ⟨w.heap.size, 0, none⟩ ⟨w.heap.size + 1, 0, none⟩ _ (by go_simp) hv (((h.alloc _).alloc _).alloc _) (((hg.alloc _).alloc _).alloc _) (tg.alloc _)).mono
      fun e w' hs => hs.toV)
    (enter34 _) tg
  clear hv h hg tg
  generalize hit l0 = o at *
  go_enter Tryd.func23, Tryd.ntmps23
  go_wp2_with fail
  refine c2.mono ?_
  rintro e w2 ⟨rfl, hx, hB⟩
  have HU2 : Hid (Up w.heap.size w w2) := hB _ _ (Nat.le_succ _) HU1.out
  clear hB c2 HU1
  cases o with
  | none =>
    clear hx
    go_wp2
    go_ret
    exact ⟨rfl, HU2.out.1⟩
  | some c =>
    have hc := hx _ rfl
    clear hx
    go_wp2
    go_ret
    exact ⟨rfl, HU2.out.1⟩
theorem outer_nil (w : World) :
    Calls Tryd.prog 23 #[.nilIface] w fun e w' => e = .returned (.pointer none) ∧ Below w.heap.size w w' := by
  have hmf : ∀ (fn : Fn) (first cap : Array Value) (w : World), (Instr.makeFunc fn first cap).run Tryd.prog w = .ok (.func fn first cap) w := fun _ _ _ _ => rfl
  have HU1 : Hid (Up w.heap.size w ((w.alloc (.cells #[.nilIface] 25)).alloc (.cells #[.pointer none] 42))) := ((Up.refl w).alloc _).alloc _
  have c2 := holds_bel 34 #[.pointer (some ⟨w.heap.size, 0, none⟩), .pointer (some ⟨w.heap.size + 1, 0, none⟩)] false ((w.alloc (.cells #[.nilIface] 25)).alloc (.cells #[.pointer none] 42))
    (outermost1_nil ⟨w.heap.size, 0, none⟩ ⟨w.heap.size + 1, 0, none⟩ _ (by go_simp))
    (enter34 _)
  go_enter Tryd.func23, Tryd.ntmps23
  go_wp2_with fail
  refine c2.mono ?_
  rintro e w2 ⟨rfl, hb⟩
  have HU2 : Hid (Up w.heap.size w w2) := HU1.out.stay hb
  clear hb c2 HU1
  go_wp2
  go_ret
  exact ⟨rfl, HU2.out.1⟩
end Go.Proofs.YtpjpoefcammnoaaDoor
