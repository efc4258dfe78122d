/- Each: its closures; each error that tells is handed to yield. -/
import Derived.Test.YthdjadkdjljciaaDoordChn
import Derived.RangeFuncRecord
namespace Go.Proofs.YthdjadkdjljciaaDoor
set_option linter.unusedVariables false
open Go.RowKit Go.ChangeShapes Go.Shelf
attribute [local go_sem] Oper.semAt_some

theorem aloneA_no (c : Int) (py : Addr) (w : World) :
    Calls Tryd.prog 43 #[.iface 27 (.int .i64 c), .pointer (some py)] w fun e w' => e = .returned (.bool true) ∧ w' = w := by
  go_enter Tryd.func43, Tryd.ntmps43
  go_wp2_with fail
  refine (tellsA_num c w).mono ?_
  rintro e w1 ⟨rfl, hw⟩
  subst w1
  go_wp2
  go_ret
  exact ⟨rfl, rfl⟩
theorem aloneN_no (b : Nat) (py : Addr) (w : World) :
    Calls Tryd.prog 30 #[.iface 42 (.pointer (some ⟨b, 0, none⟩)), .pointer (some py)] w fun e w' => e = .returned (.bool true) ∧ w' = w := by
  go_enter Tryd.func30, Tryd.ntmps30
  go_wp2_with fail
  refine (tellsN_at b w).mono ?_
  rintro e w1 ⟨rfl, hw⟩
  subst w1
  go_wp2
  go_ret
  exact ⟨rfl, rfl⟩
theorem aloneA_oth (v : Value) (py : Addr) (w : World) :
    Calls Tryd.prog 43 #[.iface 31 (.agg #[v]), .pointer (some py)] w fun e w' => e = .returned (.bool true) ∧ w' = w := by
  go_enter Tryd.func43, Tryd.ntmps43
  go_wp2_with fail
  refine (tellsA_oth v w).mono ?_
  rintro e w1 ⟨rfl, hw⟩
  subst w1
  go_wp2
  go_ret
  exact ⟨rfl, rfl⟩
theorem aloneN_oth (v : Value) (py : Addr) (w : World) :
    Calls Tryd.prog 30 #[.iface 31 (.agg #[v]), .pointer (some py)] w fun e w' => e = .returned (.bool true) ∧ w' = w := by
  go_enter Tryd.func30, Tryd.ntmps30
  go_wp2_with fail
  refine (tellsN_oth v w).mono ?_
  rintro e w1 ⟨rfl, hw⟩
  subst w1
  go_wp2
  go_ret
  exact ⟨rfl, rfl⟩
theorem aloneA_yes (b l n : Nat) (py : Addr) (w : World) (X Y : World → Prop) (hc : w.cell? py = some (.func (.yield l) #[] #[]))
    (hY : YieldAt Fence.wide n Tryd.prog l #[.iface 100 (.agg #[.iface 42 (.pointer (some ⟨b, 0, none⟩))])] w fun e w' => (e = .returned (.bool true) ∧ X w') ∨ (e = .returned (.bool false) ∧ Y w')) :
    Calls Tryd.prog 43 #[.iface 42 (.pointer (some ⟨b, 0, none⟩)), .pointer (some py)] w fun e w' => (e = .returned (.bool true) ∧ X w') ∨ (e = .returned (.bool false) ∧ Y w') := by
  obtain ⟨fn, tmps, assign, body, hy, hR⟩ := hY
  refine (callsIn_wide (n := n + 1)).1 ?_
  refine callsIn_of_wp Tryd.func43 rfl trivial ?_ rfl
  simp only [Tryd.ntmps43, List.size_toArray, List.length_cons, List.length_nil, Nat.reduceAdd, Nat.reduceSub, Array.replicate_succ, Array.replicate_zero, List.push_toArray, List.append_toArray, List.nil_append, List.cons_append]
  gi_wp2_with (first | (refine ⟨trivial, ?_⟩; gi_at_call 44; refine (callsIn_wide.2 (tellsA_at b w)).mono ?_; rintro e w1 ⟨rfl, hw⟩; subst w1) | fail)
  refine hR.mono ?_
  rintro e w1 (⟨rfl, hx⟩ | ⟨rfl, hx⟩)
  · have HX : Hid (X w1) := hx
    clear hx
    gi_wp2
    go_ret
    exact Or.inl ⟨rfl, HX.out⟩
  · have HX : Hid (Y w1) := hx
    clear hx
    gi_wp2
    go_ret
    exact Or.inr ⟨rfl, HX.out⟩
theorem aloneN_yes (c : Int) (l n : Nat) (py : Addr) (w : World) (X Y : World → Prop) (hc : w.cell? py = some (.func (.yield l) #[] #[]))
    (hY : YieldAt Fence.wide n Tryd.prog l #[.iface 78 (.agg #[.iface 27 (.int .i64 c)])] w fun e w' => (e = .returned (.bool true) ∧ X w') ∨ (e = .returned (.bool false) ∧ Y w')) :
    Calls Tryd.prog 30 #[.iface 27 (.int .i64 c), .pointer (some py)] w fun e w' => (e = .returned (.bool true) ∧ X w') ∨ (e = .returned (.bool false) ∧ Y w') := by
  obtain ⟨fn, tmps, assign, body, hy, hR⟩ := hY
  refine (callsIn_wide (n := n + 1)).1 ?_
  refine callsIn_of_wp Tryd.func30 rfl trivial ?_ rfl
  simp only [Tryd.ntmps30, List.size_toArray, List.length_cons, List.length_nil, Nat.reduceAdd, Nat.reduceSub, Array.replicate_succ, Array.replicate_zero, List.push_toArray, List.append_toArray, List.nil_append, List.cons_append]
  gi_wp2_with (first | (refine ⟨trivial, ?_⟩; gi_at_call 31; refine (callsIn_wide.2 (tellsN_num c w)).mono ?_; rintro e w1 ⟨rfl, hw⟩; subst w1) | fail)
  refine hR.mono ?_
  rintro e w1 (⟨rfl, hx⟩ | ⟨rfl, hx⟩)
  · have HX : Hid (X w1) := hx
    clear hx
    gi_wp2
    go_ret
    exact Or.inl ⟨rfl, HX.out⟩
  · have HX : Hid (Y w1) := hx
    clear hx
    gi_wp2
    go_ret
    exact Or.inr ⟨rfl, HX.out⟩
theorem enterAloneA (cap : Array Value) (w : World) : (callFunc 43 cap).run Tryd.prog w = .ok (.enter 43 cap) w := by kernel_rfl
theorem enterAloneN (cap : Array Value) (w : World) : (callFunc 30 cap).run Tryd.prog w = .ok (.enter 30 cap) w := by kernel_rfl
theorem eachA_any (l0 : List Nd) (c : Option Int) (l n : Nat) (pe : Addr) (n0 : Nat) (p : Nat → Prop) (go : List Nd → Bool) (I : World → Prop) (R : List Nd → World → Prop) (w : World)
    (he : w.cell? pe = some (val l0 c)) (hl : l0.length ≤ 100) (hL : Lie w l0 c) (hn : n0 ≤ w.heap.size) (hx : ∀ x ∈ l0, x.o = false → x.b < n0 ∧ ¬ p x.b) (hp : ∀ k, p k → k < n0) (hI : ∀ W W', (∀ k, p k → W'.heap[k]? = W.heap[k]?) → I W → I W') (hi0 : I w) (hg0 : go [] = true) (hgo : ∀ x k, x.o = true → go (x :: k) = true) (hv : val l0 c ≠ .nilIface)
    (hY : ∀ x k, (x :: k) <:+ l0 → x.o = false → ∀ W, Kpt n0 p w W → I W → YieldAt Fence.wide n Tryd.prog l #[.iface 100 (.agg #[val (x :: k) c])] W fun e W' => (e = .returned (.bool true) ∧ go (x :: k) = true ∧ Kpt W.heap.size p W W' ∧ I W') ∨ (e = .returned (.bool false) ∧ go (x :: k) = false ∧ R (x :: k) W')) :
    Calls Tryd.prog 42 #[.func (.yield l) #[] #[], .pointer (some pe)] w fun e w' => (∃ v, e = .returned v) ∧
      ((fst go l0 = none ∧ Kpt n0 p w w') ∨ ∃ k, fst go l0 = some k ∧ R k w') := by
  have hmf : ∀ (fn : Fn) (first cap : Array Value) (w : World), (Instr.makeFunc fn first cap).run Tryd.prog w = .ok (.func fn first cap) w := fun _ _ _ _ => rfl
  have hmm := @run_makeMap Tryd.prog
  obtain ⟨T0, v0, hv0⟩ := (val_shape l0 c).resolve_left (fun h => hv h.1)
  rw [hv0] at he
  have HV : Hid (val l0 c = .iface T0 v0) := hv0
  clear hv0
  have hsf := fun a (w : World) => run_store Tryd.prog w a (.func (.func 29) #[] #[]) .plain rfl
  have he1 := cell_alloc he (.cells #[.func (.yield l) #[] #[]] 70)
  have hbe := World.block_lt_of_cell? w _ he
  have hu : Up w.heap.size w ((((w.alloc (.cells #[.func (.yield l) #[] #[]] 70)).alloc (.cells #[.iface T0 v0] 25)).alloc (.map #[] 0)).alloc (.cells #[.slice (some ⟨w.heap.size + 1, 0, none⟩) 1 1, .map (some (w.heap.size + 1 + 1)), .nilIface, .int .i64 0, .int .i64 256, .int .i64 0, .func (.func 29) #[] #[]] 76)) := ((((Up.refl w).alloc _).alloc _).alloc _).alloc _
  have hB3 : Bk ((((w.alloc (.cells #[.func (.yield l) #[] #[]] 70)).alloc (.cells #[.iface T0 v0] 25)).alloc (.map #[] 0)).alloc (.cells #[.slice (some ⟨w.heap.size + 1, 0, none⟩) 1 1, .map (some (w.heap.size + 1 + 1)), .nilIface, .int .i64 0, .int .i64 256, .int .i64 0, .func (.func 29) #[] #[]] 76)) (w.heap.size + 1 + 1 + 1) #[.slice (some ⟨w.heap.size + 1, 0, none⟩) 1 1, .map (some (w.heap.size + 1 + 1)), .nilIface, .int .i64 0, .int .i64 256, .int .i64 0, .func (.func 29) #[] #[]] 76 := by
    have := Bk.new (((w.alloc (.cells #[.func (.yield l) #[] #[]] 70)).alloc (.cells #[.iface T0 v0] 25)).alloc (.map #[] 0)) #[.slice (some ⟨w.heap.size + 1, 0, none⟩) 1 1, .map (some (w.heap.size + 1 + 1)), .nilIface, .int .i64 0, .int .i64 256, .int .i64 0, .func (.func 29) #[] #[]] 76
    simpa using this
  have hB1 : Bk ((((w.alloc (.cells #[.func (.yield l) #[] #[]] 70)).alloc (.cells #[.iface T0 v0] 25)).alloc (.map #[] 0)).alloc (.cells #[.slice (some ⟨w.heap.size + 1, 0, none⟩) 1 1, .map (some (w.heap.size + 1 + 1)), .nilIface, .int .i64 0, .int .i64 256, .int .i64 0, .func (.func 29) #[] #[]] 76)) (w.heap.size + 1) #[.iface T0 v0] 25 := by
    have := ((Bk.new (w.alloc (.cells #[.func (.yield l) #[] #[]] 70)) #[.iface T0 v0] 25).alloc (.map #[] 0)).alloc (.cells #[.slice (some ⟨w.heap.size + 1, 0, none⟩) 1 1, .map (some (w.heap.size + 1 + 1)), .nilIface, .int .i64 0, .int .i64 256, .int .i64 0, .func (.func 29) #[] #[]] 76)
    simpa using this
  have hB0 : Bk ((((w.alloc (.cells #[.func (.yield l) #[] #[]] 70)).alloc (.cells #[.iface T0 v0] 25)).alloc (.map #[] 0)).alloc (.cells #[.slice (some ⟨w.heap.size + 1, 0, none⟩) 1 1, .map (some (w.heap.size + 1 + 1)), .nilIface, .int .i64 0, .int .i64 256, .int .i64 0, .func (.func 29) #[] #[]] 76)) w.heap.size #[.func (.yield l) #[] #[]] 70 := (((Bk.new w #[.func (.yield l) #[] #[]] 70).alloc _).alloc _).alloc _
  have hsz : (((((w.alloc (.cells #[.func (.yield l) #[] #[]] 70)).alloc (.cells #[.iface T0 v0] 25)).alloc (.map #[] 0)).alloc (.cells #[.slice (some ⟨w.heap.size + 1, 0, none⟩) 1 1, .map (some (w.heap.size + 1 + 1)), .nilIface, .int .i64 0, .int .i64 256, .int .i64 0, .func (.func 29) #[] #[]] 76))).heap.size = w.heap.size + 4 := by simp
  go_enter Tryd.func42, Tryd.ntmps42
  go_wp2
  generalize ((((w.alloc (.cells #[.func (.yield l) #[] #[]] 70)).alloc (.cells #[.iface T0 v0] 25)).alloc (.map #[] 0)).alloc (.cells #[.slice (some ⟨w.heap.size + 1, 0, none⟩) 1 1, .map (some (w.heap.size + 1 + 1)), .nilIface, .int .i64 0, .int .i64 256, .int .i64 0, .func (.func 29) #[] #[]] 76)) = W0 at *
  rw [← HV.out] at hB1
  have cc := chain_any l0 c (w.heap.size + 1 + 1 + 1) (w.heap.size + 1) (.map (some (w.heap.size + 1 + 1))) 43 #[.pointer (some ⟨w.heap.size, 0, none⟩)] (w.heap.size + 1 + 1 + 1) p go I R W0 hB3 hB1 hl (hL.stay hu.1) (Nat.le_refl _) (fun x h xo => ⟨by have := (hx x h xo).1; omega, (hx x h xo).2⟩) (fun k h => by have := hp k h; omega) hI (hI w W0 (fun k hk => hu.1.block k (by have := hp k hk; omega)) hi0) (fun cp w' => enterAloneA cp w') (fun _ => hg0) hv
    (fun k hk hk0 W hW hIW => by
      have hy : W.cell? ⟨w.heap.size, 0, none⟩ = some (.func (.yield l) #[] #[]) := (hW.cell (q := ⟨w.heap.size, 0, none⟩) (by show w.heap.size < _; omega) (fun h => absurd (hp _ h) (Nat.not_lt_of_le hn))).trans (hB0.cell 0 rfl)
      cases k with
      | nil =>
        cases c with
        | none => exact absurd rfl hk0
        | some c => exact (aloneA_no c _ W).mono fun e w' ⟨h1, h2⟩ => Or.inl ⟨h1, hg0, by subst h2; exact ⟨Kpt.refl _ _ _, hIW⟩⟩
      | cons x k =>
        cases hxo : x.o
        · have := hY x k hk hxo W ((Kpt.of (hu.1.mono hn)).trans (hW.mono (by omega))) hIW
          rw [val_at k c hxo] at this ⊢
          exact aloneA_yes x.b l n _ W _ _ hy this
        · rw [val_oth k c hxo]
          exact (aloneA_oth _ _ W).mono fun e w' ⟨h1, h2⟩ => Or.inl ⟨h1, hgo x k hxo, by subst h2; exact ⟨Kpt.refl _ _ _, hIW⟩⟩)
  have d0 := hB3.cell 0 rfl
  have HU : Hid (Up w.heap.size w W0) := hu
  clear hY hB3 hB1 hB0 hL hsf hmm hmf he he1 hu
  go_loopg [18] 1 (fun g t18 wr => ((g = 1 ∧ Hid (wr = W0)) ∨ (g = 0 ∧ Hid (fst go l0 = none ∧ Kpt n0 p w wr) ∧ wr.cell? ⟨w.heap.size + 1 + 1 + 1, 0, none⟩ = some (.slice (some ⟨w.heap.size + 1, 0, none⟩) 0 1))))
  case atStart => exact Or.inl ⟨rfl, rfl⟩
  case round =>
    rcases hrel with ⟨hg, HW⟩ | ⟨hg, HF, hc⟩
    · obtain rfl := HW.out
      go_wp2_with fail
      refine cc.mono ?_
      rintro e w1 (⟨rfl, hf, hk, hc⟩ | ⟨rfl, k, hf, hR⟩)
      · have HF : Hid (fst go l0 = none ∧ Kpt n0 p w w1) := ⟨hf, (Kpt.of (HU.out.1.mono hn)).trans (hk.mono (by omega))⟩
        clear cc hf hk d0
        go_wp2
        go_roundg 0
        case measure => omega
        case rel => exact Or.inr ⟨rfl, HF, hc⟩
      · have HF : Hid (fst go l0 = some k ∧ R k w1) := ⟨hf, hR⟩
        clear cc hf hR d0
        go_wp2
        go_end0
        exact ⟨⟨_, rfl⟩, Or.inr ⟨k, HF.out⟩⟩
    · clear cc d0
      go_wp2
      go_end0
      exact ⟨⟨_, rfl⟩, Or.inl HF.out⟩
theorem eachN_any (l0 : List Nd) (c : Option Int) (l n : Nat) (pe : Addr) (n0 : Nat) (p : Nat → Prop) (go : List Nd → Bool) (I : World → Prop) (R : List Nd → World → Prop) (w : World)
    (he : w.cell? pe = some (val l0 c)) (hl : l0.length ≤ 100) (hL : Lie w l0 c) (hn : n0 ≤ w.heap.size) (hx : ∀ x ∈ l0, x.o = false → x.b < n0 ∧ ¬ p x.b) (hp : ∀ k, p k → k < n0) (hI : ∀ W W', (∀ k, p k → W'.heap[k]? = W.heap[k]?) → I W → I W') (hi0 : I w) (hg0 : ∀ x k, go (x :: k) = true) (hgn : c = none → go [] = true) (hv : val l0 c ≠ .nilIface)
    (hY : ∀ c', c = some c' → ∀ W, Kpt n0 p w W → I W → YieldAt Fence.wide n Tryd.prog l #[.iface 78 (.agg #[.iface 27 (.int .i64 c')])] W fun e W' => (e = .returned (.bool true) ∧ go [] = true ∧ Kpt W.heap.size p W W' ∧ I W') ∨ (e = .returned (.bool false) ∧ go [] = false ∧ R [] W')) :
    Calls Tryd.prog 28 #[.func (.yield l) #[] #[], .pointer (some pe)] w fun e w' => (∃ v, e = .returned v) ∧
      ((fst go l0 = none ∧ Kpt n0 p w w') ∨ ∃ k, fst go l0 = some k ∧ R k w') := by
  have hmf : ∀ (fn : Fn) (first cap : Array Value) (w : World), (Instr.makeFunc fn first cap).run Tryd.prog w = .ok (.func fn first cap) w := fun _ _ _ _ => rfl
  have hmm := @run_makeMap Tryd.prog
  obtain ⟨T0, v0, hv0⟩ := (val_shape l0 c).resolve_left (fun h => hv h.1)
  rw [hv0] at he
  have HV : Hid (val l0 c = .iface T0 v0) := hv0
  clear hv0
  have hsf := fun a (w : World) => run_store Tryd.prog w a (.func (.func 29) #[] #[]) .plain rfl
  have he1 := cell_alloc he (.cells #[.func (.yield l) #[] #[]] 70)
  have hbe := World.block_lt_of_cell? w _ he
  have hu : Up w.heap.size w ((((w.alloc (.cells #[.func (.yield l) #[] #[]] 70)).alloc (.cells #[.iface T0 v0] 25)).alloc (.map #[] 0)).alloc (.cells #[.slice (some ⟨w.heap.size + 1, 0, none⟩) 1 1, .map (some (w.heap.size + 1 + 1)), .nilIface, .int .i64 0, .int .i64 256, .int .i64 0, .func (.func 29) #[] #[]] 76)) := ((((Up.refl w).alloc _).alloc _).alloc _).alloc _
  have hB3 : Bk ((((w.alloc (.cells #[.func (.yield l) #[] #[]] 70)).alloc (.cells #[.iface T0 v0] 25)).alloc (.map #[] 0)).alloc (.cells #[.slice (some ⟨w.heap.size + 1, 0, none⟩) 1 1, .map (some (w.heap.size + 1 + 1)), .nilIface, .int .i64 0, .int .i64 256, .int .i64 0, .func (.func 29) #[] #[]] 76)) (w.heap.size + 1 + 1 + 1) #[.slice (some ⟨w.heap.size + 1, 0, none⟩) 1 1, .map (some (w.heap.size + 1 + 1)), .nilIface, .int .i64 0, .int .i64 256, .int .i64 0, .func (.func 29) #[] #[]] 76 := by
    have := Bk.new (((w.alloc (.cells #[.func (.yield l) #[] #[]] 70)).alloc (.cells #[.iface T0 v0] 25)).alloc (.map #[] 0)) #[.slice (some ⟨w.heap.size + 1, 0, none⟩) 1 1, .map (some (w.heap.size + 1 + 1)), .nilIface, .int .i64 0, .int .i64 256, .int .i64 0, .func (.func 29) #[] #[]] 76
    simpa using this
  have hB1 : Bk ((((w.alloc (.cells #[.func (.yield l) #[] #[]] 70)).alloc (.cells #[.iface T0 v0] 25)).alloc (.map #[] 0)).alloc (.cells #[.slice (some ⟨w.heap.size + 1, 0, none⟩) 1 1, .map (some (w.heap.size + 1 + 1)), .nilIface, .int .i64 0, .int .i64 256, .int .i64 0, .func (.func 29) #[] #[]] 76)) (w.heap.size + 1) #[.iface T0 v0] 25 := by
    have := ((Bk.new (w.alloc (.cells #[.func (.yield l) #[] #[]] 70)) #[.iface T0 v0] 25).alloc (.map #[] 0)).alloc (.cells #[.slice (some ⟨w.heap.size + 1, 0, none⟩) 1 1, .map (some (w.heap.size + 1 + 1)), .nilIface, .int .i64 0, .int .i64 256, .int .i64 0, .func (.func 29) #[] #[]] 76)
    simpa using this
  have hB0 : Bk ((((w.alloc (.cells #[.func (.yield l) #[] #[]] 70)).alloc (.cells #[.iface T0 v0] 25)).alloc (.map #[] 0)).alloc (.cells #[.slice (some ⟨w.heap.size + 1, 0, none⟩) 1 1, .map (some (w.heap.size + 1 + 1)), .nilIface, .int .i64 0, .int .i64 256, .int .i64 0, .func (.func 29) #[] #[]] 76)) w.heap.size #[.func (.yield l) #[] #[]] 70 := (((Bk.new w #[.func (.yield l) #[] #[]] 70).alloc _).alloc _).alloc _
  have hsz : (((((w.alloc (.cells #[.func (.yield l) #[] #[]] 70)).alloc (.cells #[.iface T0 v0] 25)).alloc (.map #[] 0)).alloc (.cells #[.slice (some ⟨w.heap.size + 1, 0, none⟩) 1 1, .map (some (w.heap.size + 1 + 1)), .nilIface, .int .i64 0, .int .i64 256, .int .i64 0, .func (.func 29) #[] #[]] 76))).heap.size = w.heap.size + 4 := by simp
  go_enter Tryd.func28, Tryd.ntmps28
  go_wp2
  generalize ((((w.alloc (.cells #[.func (.yield l) #[] #[]] 70)).alloc (.cells #[.iface T0 v0] 25)).alloc (.map #[] 0)).alloc (.cells #[.slice (some ⟨w.heap.size + 1, 0, none⟩) 1 1, .map (some (w.heap.size + 1 + 1)), .nilIface, .int .i64 0, .int .i64 256, .int .i64 0, .func (.func 29) #[] #[]] 76)) = W0 at *
  rw [← HV.out] at hB1
  have cc := chain_any l0 c (w.heap.size + 1 + 1 + 1) (w.heap.size + 1) (.map (some (w.heap.size + 1 + 1))) 30 #[.pointer (some ⟨w.heap.size, 0, none⟩)] (w.heap.size + 1 + 1 + 1) p go I R W0 hB3 hB1 hl (hL.stay hu.1) (Nat.le_refl _) (fun x h xo => ⟨by have := (hx x h xo).1; omega, (hx x h xo).2⟩) (fun k h => by have := hp k h; omega) hI (hI w W0 (fun k hk => hu.1.block k (by have := hp k hk; omega)) hi0) (fun cp w' => enterAloneN cp w') hgn hv
    (fun k hk hk0 W hW hIW => by
      have hy : W.cell? ⟨w.heap.size, 0, none⟩ = some (.func (.yield l) #[] #[]) := (hW.cell (q := ⟨w.heap.size, 0, none⟩) (by show w.heap.size < _; omega) (fun h => absurd (hp _ h) (Nat.not_lt_of_le hn))).trans (hB0.cell 0 rfl)
      cases k with
      | nil =>
        cases c with
        | none => exact absurd rfl hk0
        | some c => exact aloneN_yes c l n _ W _ _ hy (hY c rfl W ((Kpt.of (hu.1.mono hn)).trans (hW.mono (by omega))) hIW)
      | cons x k =>
        cases hxo : x.o
        · rw [val_at k c hxo]
          exact (aloneN_no x.b _ W).mono fun e w' ⟨h1, h2⟩ => Or.inl ⟨h1, hg0 x k, by subst h2; exact ⟨Kpt.refl _ _ _, hIW⟩⟩
        · rw [val_oth k c hxo]
          exact (aloneN_oth _ _ W).mono fun e w' ⟨h1, h2⟩ => Or.inl ⟨h1, hg0 x k, by subst h2; exact ⟨Kpt.refl _ _ _, hIW⟩⟩)
  have d0 := hB3.cell 0 rfl
  have HU : Hid (Up w.heap.size w W0) := hu
  clear hY hB3 hB1 hB0 hL hsf hmm hmf he he1 hu
  go_loopg [18] 1 (fun g t18 wr => ((g = 1 ∧ Hid (wr = W0)) ∨ (g = 0 ∧ Hid (fst go l0 = none ∧ Kpt n0 p w wr) ∧ wr.cell? ⟨w.heap.size + 1 + 1 + 1, 0, none⟩ = some (.slice (some ⟨w.heap.size + 1, 0, none⟩) 0 1))))
  case atStart => exact Or.inl ⟨rfl, rfl⟩
  case round =>
    rcases hrel with ⟨hg, HW⟩ | ⟨hg, HF, hc⟩
    · obtain rfl := HW.out
      go_wp2_with fail
      refine cc.mono ?_
      rintro e w1 (⟨rfl, hf, hk, hc⟩ | ⟨rfl, k, hf, hR⟩)
      · have HF : Hid (fst go l0 = none ∧ Kpt n0 p w w1) := ⟨hf, (Kpt.of (HU.out.1.mono hn)).trans (hk.mono (by omega))⟩
        clear cc hf hk d0
        go_wp2
        go_roundg 0
        case measure => omega
        case rel => exact Or.inr ⟨rfl, HF, hc⟩
      · have HF : Hid (fst go l0 = some k ∧ R k w1) := ⟨hf, hR⟩
        clear cc hf hR d0
        go_wp2
        go_end0
        exact ⟨⟨_, rfl⟩, Or.inr ⟨k, HF.out⟩⟩
    · clear cc d0
      go_wp2
      go_end0
      exact ⟨⟨_, rfl⟩, Or.inl HF.out⟩
theorem each_mk (T : TypeId) (v : Value) (w : World) :
    Calls Tryd.prog 33 #[.iface T v] w fun e w' => e = .returned (.func (.func 42) #[] #[.pointer (some ⟨w.heap.size, 0, none⟩)]) ∧ w' = w.alloc (.cells #[.iface T v] 25) := by
  have hmf : ∀ (fn : Fn) (first cap : Array Value) (w : World), (Instr.makeFunc fn first cap).run Tryd.prog w = .ok (.func fn first cap) w := fun _ _ _ _ => rfl
  go_enter Tryd.func33, Tryd.ntmps33
  go_wp2
  go_ret
  exact ⟨rfl, rfl⟩
theorem each_mkN (T : TypeId) (v : Value) (w : World) :
    Calls Tryd.prog 19 #[.iface T v] w fun e w' => e = .returned (.func (.func 28) #[] #[.pointer (some ⟨w.heap.size, 0, none⟩)]) ∧ w' = w.alloc (.cells #[.iface T v] 25) := by
  have hmf : ∀ (fn : Fn) (first cap : Array Value) (w : World), (Instr.makeFunc fn first cap).run Tryd.prog w = .ok (.func fn first cap) w := fun _ _ _ _ => rfl
  go_enter Tryd.func19, Tryd.ntmps19
  go_wp2
  go_ret
  exact ⟨rfl, rfl⟩
end Go.Proofs.YthdjadkdjljciaaDoor
