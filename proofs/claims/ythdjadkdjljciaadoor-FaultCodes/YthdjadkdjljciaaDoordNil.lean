/- Each over no error at all. -/
import Derived.Test.YthdjadkdjljciaaDoordCod
namespace Go.Proofs.YthdjadkdjljciaaDoor
set_option linter.unusedVariables false
open Go.RowKit Go.ChangeShapes Go.Shelf
attribute [local go_sem] Oper.semAt_some

theorem chain_nil (bw bo : Nat) (mp : Value) (A : Nat) (cap : Array Value) (w : World)
    (hw : Bk w bw #[.slice (some ⟨bo, 0, none⟩) 1 1, mp, .nilIface, .int .i64 0, .int .i64 256, .int .i64 0, .func (.func 29) #[] #[]] 76)
    (ho : Bk w bo #[.nilIface] 25) :
    Calls Tryd.prog 32 #[.pointer (some ⟨bw, 0, none⟩), .func (.func A) #[] cap] w fun e w' =>
      e = .returned (.bool true) ∧ Kpt w.heap.size (· = bw) w w' ∧ w'.cell? ⟨bw, 0, none⟩ = some (.slice (some ⟨bo, 0, none⟩) 0 1) := by
  have c0 := hw.cell 0 rfl
  have f0 := hw.frozen 0
  have d0 := ho.cell 0 rfl
  have hbo := ho.lt
  have hbw := hw.lt
  have hsz : (w.setCell ⟨bw, 0, none⟩ (.slice (some ⟨bo, 0, none⟩) 0 1)).heap.size = w.heap.size := by simp
  have HF : Hid (Kpt w.heap.size (· = bw) w ((((w.setCell ⟨bw, 0, none⟩ (.slice (some ⟨bo, 0, none⟩) 0 1)).alloc (.cells #[.nilIface, .int .i64 0, .int .i64 0] 95))).alloc (.cells #[.nilIface, .int .i64 0, .int .i64 256] 74)) ∧ ((((w.setCell ⟨bw, 0, none⟩ (.slice (some ⟨bo, 0, none⟩) 0 1)).alloc (.cells #[.nilIface, .int .i64 0, .int .i64 0] 95))).alloc (.cells #[.nilIface, .int .i64 0, .int .i64 256] 74)).cell? ⟨bw, 0, none⟩ = some (.slice (some ⟨bo, 0, none⟩) 0 1)) :=
    ⟨(((Kpt.refl w.heap.size (· = bw) w).setCell (q := ⟨bw, 0, none⟩) (Or.inr rfl) _).alloc (by rw [hsz]; exact Nat.le_refl _) _).alloc (by simp) _, (((hw.set 0 (.slice (some ⟨bo, 0, none⟩) 0 1)).alloc _).alloc _).cell 0 rfl⟩
  clear hw ho hsz
  go_enter Tryd.func32, Tryd.ntmps32
  go_wp2
  go_loopg [6] 0 (fun g err wr => err = .nilIface ∧ Hid (Kpt w.heap.size (· = bw) w wr ∧ wr.cell? ⟨bw, 0, none⟩ = some (.slice (some ⟨bo, 0, none⟩) 0 1)))
  case atStart => exact ⟨rfl, HF⟩
  case round =>
    obtain ⟨rfl, HW⟩ := hrel
    go_wp2
    go_ret
    exact ⟨rfl, HW.out⟩
theorem eachA_nil (l : Nat) (pe : Addr) (w : World) (he : w.cell? pe = some .nilIface) :
    Calls Tryd.prog 42 #[.func (.yield l) #[] #[], .pointer (some pe)] w fun e w' => (∃ v, e = .returned v) ∧ Below w.heap.size w w' := by
  have hmf : ∀ (fn : Fn) (first cap : Array Value) (w : World), (Instr.makeFunc fn first cap).run Tryd.prog w = .ok (.func fn first cap) w := fun _ _ _ _ => rfl
  have hmm := @run_makeMap Tryd.prog
  have hsf := fun a (w : World) => run_store Tryd.prog w a (.func (.func 29) #[] #[]) .plain rfl
  have he1 := cell_alloc he (.cells #[.func (.yield l) #[] #[]] 70)
  have hu : Up w.heap.size w ((((w.alloc (.cells #[.func (.yield l) #[] #[]] 70)).alloc (.cells #[.nilIface] 25)).alloc (.map #[] 0)).alloc (.cells #[.slice (some ⟨w.heap.size + 1, 0, none⟩) 1 1, .map (some (w.heap.size + 1 + 1)), .nilIface, .int .i64 0, .int .i64 256, .int .i64 0, .func (.func 29) #[] #[]] 76)) := ((((Up.refl w).alloc _).alloc _).alloc _).alloc _
  have hB3 : Bk ((((w.alloc (.cells #[.func (.yield l) #[] #[]] 70)).alloc (.cells #[.nilIface] 25)).alloc (.map #[] 0)).alloc (.cells #[.slice (some ⟨w.heap.size + 1, 0, none⟩) 1 1, .map (some (w.heap.size + 1 + 1)), .nilIface, .int .i64 0, .int .i64 256, .int .i64 0, .func (.func 29) #[] #[]] 76)) (w.heap.size + 1 + 1 + 1) #[.slice (some ⟨w.heap.size + 1, 0, none⟩) 1 1, .map (some (w.heap.size + 1 + 1)), .nilIface, .int .i64 0, .int .i64 256, .int .i64 0, .func (.func 29) #[] #[]] 76 := by
    have := Bk.new (((w.alloc (.cells #[.func (.yield l) #[] #[]] 70)).alloc (.cells #[.nilIface] 25)).alloc (.map #[] 0)) #[.slice (some ⟨w.heap.size + 1, 0, none⟩) 1 1, .map (some (w.heap.size + 1 + 1)), .nilIface, .int .i64 0, .int .i64 256, .int .i64 0, .func (.func 29) #[] #[]] 76
    simpa using this
  have hB1 : Bk ((((w.alloc (.cells #[.func (.yield l) #[] #[]] 70)).alloc (.cells #[.nilIface] 25)).alloc (.map #[] 0)).alloc (.cells #[.slice (some ⟨w.heap.size + 1, 0, none⟩) 1 1, .map (some (w.heap.size + 1 + 1)), .nilIface, .int .i64 0, .int .i64 256, .int .i64 0, .func (.func 29) #[] #[]] 76)) (w.heap.size + 1) #[.nilIface] 25 := by
    have := ((Bk.new (w.alloc (.cells #[.func (.yield l) #[] #[]] 70)) #[.nilIface] 25).alloc (.map #[] 0)).alloc (.cells #[.slice (some ⟨w.heap.size + 1, 0, none⟩) 1 1, .map (some (w.heap.size + 1 + 1)), .nilIface, .int .i64 0, .int .i64 256, .int .i64 0, .func (.func 29) #[] #[]] 76)
    simpa using this
  have hsz : (((((w.alloc (.cells #[.func (.yield l) #[] #[]] 70)).alloc (.cells #[.nilIface] 25)).alloc (.map #[] 0)).alloc (.cells #[.slice (some ⟨w.heap.size + 1, 0, none⟩) 1 1, .map (some (w.heap.size + 1 + 1)), .nilIface, .int .i64 0, .int .i64 256, .int .i64 0, .func (.func 29) #[] #[]] 76))).heap.size = w.heap.size + 4 := by simp
  go_enter Tryd.func42, Tryd.ntmps42
  go_wp2
  generalize ((((w.alloc (.cells #[.func (.yield l) #[] #[]] 70)).alloc (.cells #[.nilIface] 25)).alloc (.map #[] 0)).alloc (.cells #[.slice (some ⟨w.heap.size + 1, 0, none⟩) 1 1, .map (some (w.heap.size + 1 + 1)), .nilIface, .int .i64 0, .int .i64 256, .int .i64 0, .func (.func 29) #[] #[]] 76)) = W0 at *
  have cc := chain_nil (w.heap.size + 1 + 1 + 1) (w.heap.size + 1) (.map (some (w.heap.size + 1 + 1))) 43 #[.pointer (some ⟨w.heap.size, 0, none⟩)] W0 hB3 hB1
  have d0 := hB3.cell 0 rfl
  have HU : Hid (Up w.heap.size w W0) := hu
  clear hB3 hB1 hsf hmm hmf he he1 hu
  go_loopg [18] 1 (fun g t18 wr => ((g = 1 ∧ Hid (wr = W0)) ∨ (g = 0 ∧ Hid (Below w.heap.size w wr) ∧ wr.cell? ⟨w.heap.size + 1 + 1 + 1, 0, none⟩ = some (.slice (some ⟨w.heap.size + 1, 0, none⟩) 0 1))))
  case atStart => exact Or.inl ⟨rfl, rfl⟩
  case round =>
    rcases hrel with ⟨hg, HW⟩ | ⟨hg, HF, hc⟩
    · obtain rfl := HW.out
      go_wp2_with fail
      refine cc.mono ?_
      rintro e w1 ⟨rfl, hk, hc⟩
      have HF : Hid (Below w.heap.size w w1) := HU.out.1.trans (hk.below (by omega) (by intro k h; omega))
      clear cc hk d0
      go_wp2
      go_roundg 0
      case measure => omega
      case rel => exact Or.inr ⟨rfl, HF, hc⟩
    · clear cc d0
      go_wp2
      go_end0
      exact ⟨⟨_, rfl⟩, HF.out⟩
theorem eachN_nil (l : Nat) (pe : Addr) (w : World) (he : w.cell? pe = some .nilIface) :
    Calls Tryd.prog 28 #[.func (.yield l) #[] #[], .pointer (some pe)] w fun e w' => (∃ v, e = .returned v) ∧ Below w.heap.size w w' := by
  have hmf : ∀ (fn : Fn) (first cap : Array Value) (w : World), (Instr.makeFunc fn first cap).run Tryd.prog w = .ok (.func fn first cap) w := fun _ _ _ _ => rfl
  have hmm := @run_makeMap Tryd.prog
  have hsf := fun a (w : World) => run_store Tryd.prog w a (.func (.func 29) #[] #[]) .plain rfl
  have he1 := cell_alloc he (.cells #[.func (.yield l) #[] #[]] 70)
  have hu : Up w.heap.size w ((((w.alloc (.cells #[.func (.yield l) #[] #[]] 70)).alloc (.cells #[.nilIface] 25)).alloc (.map #[] 0)).alloc (.cells #[.slice (some ⟨w.heap.size + 1, 0, none⟩) 1 1, .map (some (w.heap.size + 1 + 1)), .nilIface, .int .i64 0, .int .i64 256, .int .i64 0, .func (.func 29) #[] #[]] 76)) := ((((Up.refl w).alloc _).alloc _).alloc _).alloc _
  have hB3 : Bk ((((w.alloc (.cells #[.func (.yield l) #[] #[]] 70)).alloc (.cells #[.nilIface] 25)).alloc (.map #[] 0)).alloc (.cells #[.slice (some ⟨w.heap.size + 1, 0, none⟩) 1 1, .map (some (w.heap.size + 1 + 1)), .nilIface, .int .i64 0, .int .i64 256, .int .i64 0, .func (.func 29) #[] #[]] 76)) (w.heap.size + 1 + 1 + 1) #[.slice (some ⟨w.heap.size + 1, 0, none⟩) 1 1, .map (some (w.heap.size + 1 + 1)), .nilIface, .int .i64 0, .int .i64 256, .int .i64 0, .func (.func 29) #[] #[]] 76 := by
    have := Bk.new (((w.alloc (.cells #[.func (.yield l) #[] #[]] 70)).alloc (.cells #[.nilIface] 25)).alloc (.map #[] 0)) #[.slice (some ⟨w.heap.size + 1, 0, none⟩) 1 1, .map (some (w.heap.size + 1 + 1)), .nilIface, .int .i64 0, .int .i64 256, .int .i64 0, .func (.func 29) #[] #[]] 76
    simpa using this
  have hB1 : Bk ((((w.alloc (.cells #[.func (.yield l) #[] #[]] 70)).alloc (.cells #[.nilIface] 25)).alloc (.map #[] 0)).alloc (.cells #[.slice (some ⟨w.heap.size + 1, 0, none⟩) 1 1, .map (some (w.heap.size + 1 + 1)), .nilIface, .int .i64 0, .int .i64 256, .int .i64 0, .func (.func 29) #[] #[]] 76)) (w.heap.size + 1) #[.nilIface] 25 := by
    have := ((Bk.new (w.alloc (.cells #[.func (.yield l) #[] #[]] 70)) #[.nilIface] 25).alloc (.map #[] 0)).alloc (.cells #[.slice (some ⟨w.heap.size + 1, 0, none⟩) 1 1, .map (some (w.heap.size + 1 + 1)), .nilIface, .int .i64 0, .int .i64 256, .int .i64 0, .func (.func 29) #[] #[]] 76)
    simpa using this
  have hsz : (((((w.alloc (.cells #[.func (.yield l) #[] #[]] 70)).alloc (.cells #[.nilIface] 25)).alloc (.map #[] 0)).alloc (.cells #[.slice (some ⟨w.heap.size + 1, 0, none⟩) 1 1, .map (some (w.heap.size + 1 + 1)), .nilIface, .int .i64 0, .int .i64 256, .int .i64 0, .func (.func 29) #[] #[]] 76))).heap.size = w.heap.size + 4 := by simp
  go_enter Tryd.func28, Tryd.ntmps28
  go_wp2
  generalize ((((w.alloc (.cells #[.func (.yield l) #[] #[]] 70)).alloc (.cells #[.nilIface] 25)).alloc (.map #[] 0)).alloc (.cells #[.slice (some ⟨w.heap.size + 1, 0, none⟩) 1 1, .map (some (w.heap.size + 1 + 1)), .nilIface, .int .i64 0, .int .i64 256, .int .i64 0, .func (.func 29) #[] #[]] 76)) = W0 at *
  have cc := chain_nil (w.heap.size + 1 + 1 + 1) (w.heap.size + 1) (.map (some (w.heap.size + 1 + 1))) 30 #[.pointer (some ⟨w.heap.size, 0, none⟩)] W0 hB3 hB1
  have d0 := hB3.cell 0 rfl
  have HU : Hid (Up w.heap.size w W0) := hu
  clear hB3 hB1 hsf hmm hmf he he1 hu
  go_loopg [18] 1 (fun g t18 wr => ((g = 1 ∧ Hid (wr = W0)) ∨ (g = 0 ∧ Hid (Below w.heap.size w wr) ∧ wr.cell? ⟨w.heap.size + 1 + 1 + 1, 0, none⟩ = some (.slice (some ⟨w.heap.size + 1, 0, none⟩) 0 1))))
  case atStart => exact Or.inl ⟨rfl, rfl⟩
  case round =>
    rcases hrel with ⟨hg, HW⟩ | ⟨hg, HF, hc⟩
    · obtain rfl := HW.out
      go_wp2_with fail
      refine cc.mono ?_
      rintro e w1 ⟨rfl, hk, hc⟩
      have HF : Hid (Below w.heap.size w w1) := HU.out.1.trans (hk.below (by omega) (by intro k h; omega))
      clear cc hk d0
      go_wp2
      go_roundg 0
      case measure => omega
      case rel => exact Or.inr ⟨rfl, HF, hc⟩
    · clear cc d0
      go_wp2
      go_end0
      exact ⟨⟨_, rfl⟩, HF.out⟩
theorem each_mk_nil (w : World) :
    Calls Tryd.prog 33 #[.nilIface] w fun e w' => e = .returned (.func (.func 42) #[] #[.pointer (some ⟨w.heap.size, 0, none⟩)]) ∧ w' = w.alloc (.cells #[.nilIface] 25) := by
  have hmf : ∀ (fn : Fn) (first cap : Array Value) (w : World), (Instr.makeFunc fn first cap).run Tryd.prog w = .ok (.func fn first cap) w := fun _ _ _ _ => rfl
  go_enter Tryd.func33, Tryd.ntmps33
  go_wp2
  go_ret
  exact ⟨rfl, rfl⟩
theorem each_mkN_nil (w : World) :
    Calls Tryd.prog 19 #[.nilIface] w fun e w' => e = .returned (.func (.func 28) #[] #[.pointer (some ⟨w.heap.size, 0, none⟩)]) ∧ w' = w.alloc (.cells #[.nilIface] 25) := by
  have hmf : ∀ (fn : Fn) (first cap : Array Value) (w : World), (Instr.makeFunc fn first cap).run Tryd.prog w = .ok (.func fn first cap) w := fun _ _ _ _ => rfl
  go_enter Tryd.func19, Tryd.ntmps19
  go_wp2
  go_ret
  exact ⟨rfl, rfl⟩
end Go.Proofs.YthdjadkdjljciaaDoor
