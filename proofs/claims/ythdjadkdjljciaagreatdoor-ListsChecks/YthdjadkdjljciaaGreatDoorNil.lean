/- Each over no error at all. -/
import Derived.Test.YthdjadkdjljciaaGreatDoorCod
namespace Go.Proofs.YthdjadkdjljciaaGreatDoor
set_option linter.unusedVariables false
open Go.RowKit Go.ChangeShapes Go.Shelf
attribute [local go_sem] Oper.semAt_some

theorem chain_nil (bw bo : Nat) (mp : Value) (A : Nat) (cap : Array Value) (w : World)
    (hw : Bk w bw #[.slice (some ⟨bo, 0, none⟩) 1 1, mp, .nilIface, .int .i64 0, .int .i64 256, .int .i64 0, .func (.func 75) #[] #[]] 122)
    (ho : Bk w bo #[.nilIface] 30) :
    Calls Tryz.prog 78 #[.pointer (some ⟨bw, 0, none⟩), .func (.func A) #[] cap] w fun e w' =>
      e = .returned (.bool true) ∧ Kpt w.heap.size (· = bw) w w' ∧ w'.cell? ⟨bw, 0, none⟩ = some (.slice (some ⟨bo, 0, none⟩) 0 1) := by
  have c0 := hw.cell 0 rfl
  have f0 := hw.frozen 0
  have d0 := ho.cell 0 rfl
  have hbo := ho.lt
  have hbw := hw.lt
  have hsz : (w.setCell ⟨bw, 0, none⟩ (.slice (some ⟨bo, 0, none⟩) 0 1)).heap.size = w.heap.size := by simp
  have HF : Hid (Kpt w.heap.size (· = bw) w ((((w.setCell ⟨bw, 0, none⟩ (.slice (some ⟨bo, 0, none⟩) 0 1)).alloc (.cells #[.nilIface, .int .i64 0, .int .i64 0] 175))).alloc (.cells #[.nilIface, .int .i64 0, .int .i64 256] 120)) ∧ ((((w.setCell ⟨bw, 0, none⟩ (.slice (some ⟨bo, 0, none⟩) 0 1)).alloc (.cells #[.nilIface, .int .i64 0, .int .i64 0] 175))).alloc (.cells #[.nilIface, .int .i64 0, .int .i64 256] 120)).cell? ⟨bw, 0, none⟩ = some (.slice (some ⟨bo, 0, none⟩) 0 1)) :=
    ⟨(((Kpt.refl w.heap.size (· = bw) w).setCell (q := ⟨bw, 0, none⟩) (Or.inr rfl) _).alloc (by rw [hsz]; exact Nat.le_refl _) _).alloc (by simp) _, (((hw.set 0 (.slice (some ⟨bo, 0, none⟩) 0 1)).alloc _).alloc _).cell 0 rfl⟩
  clear hw ho hsz
  go_enter Tryz.func78, Tryz.ntmps78
  go_wp2
  go_loopg [6] 0 (fun g err wr => err = .nilIface ∧ Hid (Kpt w.heap.size (· = bw) w wr ∧ wr.cell? ⟨bw, 0, none⟩ = some (.slice (some ⟨bo, 0, none⟩) 0 1)))
  case atStart => exact ⟨rfl, HF⟩
  case round =>
    obtain ⟨rfl, HW⟩ := hrel
    go_wp2
    go_ret
    exact ⟨rfl, HW.out⟩
theorem eachA_nil (l : Nat) (pe : Addr) (w : World) (he : w.cell? pe = some .nilIface) :
    Calls Tryz.prog 74 #[.func (.yield l) #[] #[], .pointer (some pe)] w fun e w' => (∃ v, e = .returned v) ∧ Below w.heap.size w w' := by
  have hmf : ∀ (fn : Fn) (first cap : Array Value) (w : World), (Instr.makeFunc fn first cap).run Tryz.prog w = .ok (.func fn first cap) w := fun _ _ _ _ => rfl
  have hmm := @run_makeMap Tryz.prog
  have hsf := fun a (w : World) => run_store Tryz.prog w a (.func (.func 75) #[] #[]) .plain rfl
  have he1 := cell_alloc he (.cells #[.func (.yield l) #[] #[]] 116)
  have hu : Up w.heap.size w ((((w.alloc (.cells #[.func (.yield l) #[] #[]] 116)).alloc (.cells #[.nilIface] 30)).alloc (.map #[] 0)).alloc (.cells #[.slice (some ⟨w.heap.size + 1, 0, none⟩) 1 1, .map (some (w.heap.size + 1 + 1)), .nilIface, .int .i64 0, .int .i64 256, .int .i64 0, .func (.func 75) #[] #[]] 122)) := ((((Up.refl w).alloc _).alloc _).alloc _).alloc _
  have hB3 : Bk ((((w.alloc (.cells #[.func (.yield l) #[] #[]] 116)).alloc (.cells #[.nilIface] 30)).alloc (.map #[] 0)).alloc (.cells #[.slice (some ⟨w.heap.size + 1, 0, none⟩) 1 1, .map (some (w.heap.size + 1 + 1)), .nilIface, .int .i64 0, .int .i64 256, .int .i64 0, .func (.func 75) #[] #[]] 122)) (w.heap.size + 1 + 1 + 1) #[.slice (some ⟨w.heap.size + 1, 0, none⟩) 1 1, .map (some (w.heap.size + 1 + 1)), .nilIface, .int .i64 0, .int .i64 256, .int .i64 0, .func (.func 75) #[] #[]] 122 := by
    have := Bk.new (((w.alloc (.cells #[.func (.yield l) #[] #[]] 116)).alloc (.cells #[.nilIface] 30)).alloc (.map #[] 0)) #[.slice (some ⟨w.heap.size + 1, 0, none⟩) 1 1, .map (some (w.heap.size + 1 + 1)), .nilIface, .int .i64 0, .int .i64 256, .int .i64 0, .func (.func 75) #[] #[]] 122
    simpa using this
  have hB1 : Bk ((((w.alloc (.cells #[.func (.yield l) #[] #[]] 116)).alloc (.cells #[.nilIface] 30)).alloc (.map #[] 0)).alloc (.cells #[.slice (some ⟨w.heap.size + 1, 0, none⟩) 1 1, .map (some (w.heap.size + 1 + 1)), .nilIface, .int .i64 0, .int .i64 256, .int .i64 0, .func (.func 75) #[] #[]] 122)) (w.heap.size + 1) #[.nilIface] 30 := by
    have := ((Bk.new (w.alloc (.cells #[.func (.yield l) #[] #[]] 116)) #[.nilIface] 30).alloc (.map #[] 0)).alloc (.cells #[.slice (some ⟨w.heap.size + 1, 0, none⟩) 1 1, .map (some (w.heap.size + 1 + 1)), .nilIface, .int .i64 0, .int .i64 256, .int .i64 0, .func (.func 75) #[] #[]] 122)
    simpa using this
  have hsz : (((((w.alloc (.cells #[.func (.yield l) #[] #[]] 116)).alloc (.cells #[.nilIface] 30)).alloc (.map #[] 0)).alloc (.cells #[.slice (some ⟨w.heap.size + 1, 0, none⟩) 1 1, .map (some (w.heap.size + 1 + 1)), .nilIface, .int .i64 0, .int .i64 256, .int .i64 0, .func (.func 75) #[] #[]] 122))).heap.size = w.heap.size + 4 := by simp
  go_enter Tryz.func74, Tryz.ntmps74
  go_wp2
  generalize ((((w.alloc (.cells #[.func (.yield l) #[] #[]] 116)).alloc (.cells #[.nilIface] 30)).alloc (.map #[] 0)).alloc (.cells #[.slice (some ⟨w.heap.size + 1, 0, none⟩) 1 1, .map (some (w.heap.size + 1 + 1)), .nilIface, .int .i64 0, .int .i64 256, .int .i64 0, .func (.func 75) #[] #[]] 122)) = W0 at *
  have cc := chain_nil (w.heap.size + 1 + 1 + 1) (w.heap.size + 1) (.map (some (w.heap.size + 1 + 1))) 76 #[.pointer (some ⟨w.heap.size, 0, none⟩)] W0 hB3 hB1
  have d0 := hB3.cell 0 rfl
  have HU : Hid (Up w.heap.size w W0) := hu
  clear hB3 hB1 hsf hmm hmf he he1 hu
  go_loopg [18] 1 (fun g t18 wr => ((g = 1 ∧ Hid (wr = W0)) ∨ (g = 0 ∧ Hid (Below w.heap.size w wr) ∧ wr.cell? ⟨w.heap.size + 1 + 1 + 1, 0, none⟩ = some (.slice (some ⟨w.heap.size + 1, 0, none⟩) 0 1))))
  case atStart => exact Or.inl ⟨rfl, rfl⟩
  case round =>
    rcases hrel with ⟨hg, HW⟩ | ⟨hg, HF, hc⟩
    · obtain rfl := HW.out
      go_wp2_with fail
      refine cc.mono ?_
      rintro e w1 ⟨rfl, hk, hc⟩
      have HF : Hid (Below w.heap.size w w1) := HU.out.1.trans (hk.below (by omega) (by intro k h; omega))
      clear cc hk d0
      go_wp2
      go_roundg 0
      case measure => omega
      case rel => exact Or.inr ⟨rfl, HF, hc⟩
    · clear cc d0
      go_wp2
      go_end0
      exact ⟨⟨_, rfl⟩, HF.out⟩
theorem eachN_nil (l : Nat) (pe : Addr) (w : World) (he : w.cell? pe = some .nilIface) :
    Calls Tryz.prog 83 #[.func (.yield l) #[] #[], .pointer (some pe)] w fun e w' => (∃ v, e = .returned v) ∧ Below w.heap.size w w' := by
  have hmf : ∀ (fn : Fn) (first cap : Array Value) (w : World), (Instr.makeFunc fn first cap).run Tryz.prog w = .ok (.func fn first cap) w := fun _ _ _ _ => rfl
  have hmm := @run_makeMap Tryz.prog
  have hsf := fun a (w : World) => run_store Tryz.prog w a (.func (.func 75) #[] #[]) .plain rfl
  have he1 := cell_alloc he (.cells #[.func (.yield l) #[] #[]] 116)
  have hu : Up w.heap.size w ((((w.alloc (.cells #[.func (.yield l) #[] #[]] 116)).alloc (.cells #[.nilIface] 30)).alloc (.map #[] 0)).alloc (.cells #[.slice (some ⟨w.heap.size + 1, 0, none⟩) 1 1, .map (some (w.heap.size + 1 + 1)), .nilIface, .int .i64 0, .int .i64 256, .int .i64 0, .func (.func 75) #[] #[]] 122)) := ((((Up.refl w).alloc _).alloc _).alloc _).alloc _
  have hB3 : Bk ((((w.alloc (.cells #[.func (.yield l) #[] #[]] 116)).alloc (.cells #[.nilIface] 30)).alloc (.map #[] 0)).alloc (.cells #[.slice (some ⟨w.heap.size + 1, 0, none⟩) 1 1, .map (some (w.heap.size + 1 + 1)), .nilIface, .int .i64 0, .int .i64 256, .int .i64 0, .func (.func 75) #[] #[]] 122)) (w.heap.size + 1 + 1 + 1) #[.slice (some ⟨w.heap.size + 1, 0, none⟩) 1 1, .map (some (w.heap.size + 1 + 1)), .nilIface, .int .i64 0, .int .i64 256, .int .i64 0, .func (.func 75) #[] #[]] 122 := by
    have := Bk.new (((w.alloc (.cells #[.func (.yield l) #[] #[]] 116)).alloc (.cells #[.nilIface] 30)).alloc (.map #[] 0)) #[.slice (some ⟨w.heap.size + 1, 0, none⟩) 1 1, .map (some (w.heap.size + 1 + 1)), .nilIface, .int .i64 0, .int .i64 256, .int .i64 0, .func (.func 75) #[] #[]] 122
    simpa using this
  have hB1 : Bk ((((w.alloc (.cells #[.func (.yield l) #[] #[]] 116)).alloc (.cells #[.nilIface] 30)).alloc (.map #[] 0)).alloc (.cells #[.slice (some ⟨w.heap.size + 1, 0, none⟩) 1 1, .map (some (w.heap.size + 1 + 1)), .nilIface, .int .i64 0, .int .i64 256, .int .i64 0, .func (.func 75) #[] #[]] 122)) (w.heap.size + 1) #[.nilIface] 30 := by
    have := ((Bk.new (w.alloc (.cells #[.func (.yield l) #[] #[]] 116)) #[.nilIface] 30).alloc (.map #[] 0)).alloc (.cells #[.slice (some ⟨w.heap.size + 1, 0, none⟩) 1 1, .map (some (w.heap.size + 1 + 1)), .nilIface, .int .i64 0, .int .i64 256, .int .i64 0, .func (.func 75) #[] #[]] 122)
    simpa using this
  have hsz : (((((w.alloc (.cells #[.func (.yield l) #[] #[]] 116)).alloc (.cells #[.nilIface] 30)).alloc (.map #[] 0)).alloc (.cells #[.slice (some ⟨w.heap.size + 1, 0, none⟩) 1 1, .map (some (w.heap.size + 1 + 1)), .nilIface, .int .i64 0, .int .i64 256, .int .i64 0, .func (.func 75) #[] #[]] 122))).heap.size = w.heap.size + 4 := by simp
  go_enter Tryz.func83, Tryz.ntmps83
  go_wp2
  generalize ((((w.alloc (.cells #[.func (.yield l) #[] #[]] 116)).alloc (.cells #[.nilIface] 30)).alloc (.map #[] 0)).alloc (.cells #[.slice (some ⟨w.heap.size + 1, 0, none⟩) 1 1, .map (some (w.heap.size + 1 + 1)), .nilIface, .int .i64 0, .int .i64 256, .int .i64 0, .func (.func 75) #[] #[]] 122)) = W0 at *
  have cc := chain_nil (w.heap.size + 1 + 1 + 1) (w.heap.size + 1) (.map (some (w.heap.size + 1 + 1))) 84 #[.pointer (some ⟨w.heap.size, 0, none⟩)] W0 hB3 hB1
  have d0 := hB3.cell 0 rfl
  have HU : Hid (Up w.heap.size w W0) := hu
  clear hB3 hB1 hsf hmm hmf he he1 hu
  go_loopg [18] 1 (fun g t18 wr => ((g = 1 ∧ Hid (wr = W0)) ∨ (g = 0 ∧ Hid (Below w.heap.size w wr) ∧ wr.cell? ⟨w.heap.size + 1 + 1 + 1, 0, none⟩ = some (.slice (some ⟨w.heap.size + 1, 0, none⟩) 0 1))))
  case atStart => exact Or.inl ⟨rfl, rfl⟩
  case round =>
    rcases hrel with ⟨hg, HW⟩ | ⟨hg, HF, hc⟩
    · obtain rfl := HW.out
      go_wp2_with fail
      refine cc.mono ?_
      rintro e w1 ⟨rfl, hk, hc⟩
      have HF : Hid (Below w.heap.size w w1) := HU.out.1.trans (hk.below (by omega) (by intro k h; omega))
      clear cc hk d0
      go_wp2
      go_roundg 0
      case measure => omega
      case rel => exact Or.inr ⟨rfl, HF, hc⟩
    · clear cc d0
      go_wp2
      go_end0
      exact ⟨⟨_, rfl⟩, HF.out⟩
theorem each_mk_nil (w : World) :
    Calls Tryz.prog 46 #[.nilIface] w fun e w' => e = .returned (.func (.func 74) #[] #[.pointer (some ⟨w.heap.size, 0, none⟩)]) ∧ w' = w.alloc (.cells #[.nilIface] 30) := by
  have hmf : ∀ (fn : Fn) (first cap : Array Value) (w : World), (Instr.makeFunc fn first cap).run Tryz.prog w = .ok (.func fn first cap) w := fun _ _ _ _ => rfl
  go_enter Tryz.func46, Tryz.ntmps46
  go_wp2
  go_ret
  exact ⟨rfl, rfl⟩
theorem each_mkN_nil (w : World) :
    Calls Tryz.prog 48 #[.nilIface] w fun e w' => e = .returned (.func (.func 83) #[] #[.pointer (some ⟨w.heap.size, 0, none⟩)]) ∧ w' = w.alloc (.cells #[.nilIface] 30) := by
  have hmf : ∀ (fn : Fn) (first cap : Array Value) (w : World), (Instr.makeFunc fn first cap).run Tryz.prog w = .ok (.func fn first cap) w := fun _ _ _ _ => rfl
  go_enter Tryz.func48, Tryz.ntmps48
  go_wp2
  go_ret
  exact ⟨rfl, rfl⟩
end Go.Proofs.YthdjadkdjljciaaGreatDoor
