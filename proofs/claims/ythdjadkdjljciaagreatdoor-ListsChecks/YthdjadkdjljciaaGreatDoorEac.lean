/- Each: its closures; each error that tells is handed to yield. -/
import Derived.Test.YthdjadkdjljciaaGreatDoorChn
import Derived.RangeFuncRecord
namespace Go.Proofs.YthdjadkdjljciaaGreatDoor
set_option linter.unusedVariables false
open Go.RowKit Go.ChangeShapes Go.Shelf
attribute [local go_sem] Oper.semAt_some

theorem aloneA_no (c : Int) (py : Addr) (w : World) :
    Calls Tryz.prog 76 #[.iface 23 (.int .i64 c), .pointer (some py)] w fun e w' => e = .returned (.bool true) ∧ w' = w := by
  go_enter Tryz.func76, Tryz.ntmps76
  go_wp2_with fail
  refine (tellsA_num c w).mono ?_
  rintro e w1 ⟨rfl, hw⟩
  subst w1
  go_wp2
  go_ret
  exact ⟨rfl, rfl⟩
theorem aloneN_no (b : Nat) (py : Addr) (w : World) :
    Calls Tryz.prog 84 #[.iface 81 (.pointer (some ⟨b, 0, none⟩)), .pointer (some py)] w fun e w' => e = .returned (.bool true) ∧ w' = w := by
  go_enter Tryz.func84, Tryz.ntmps84
  go_wp2_with fail
  refine (tellsN_at b w).mono ?_
  rintro e w1 ⟨rfl, hw⟩
  subst w1
  go_wp2
  go_ret
  exact ⟨rfl, rfl⟩
theorem aloneA_yes (b l n : Nat) (py : Addr) (w : World) (X Y : World → Prop) (hc : w.cell? py = some (.func (.yield l) #[] #[]))
    (hY : YieldAt Fence.wide n Tryz.prog l #[.iface 124 (.agg #[.iface 81 (.pointer (some ⟨b, 0, none⟩))])] w fun e w' => (e = .returned (.bool true) ∧ X w') ∨ (e = .returned (.bool false) ∧ Y w')) :
    Calls Tryz.prog 76 #[.iface 81 (.pointer (some ⟨b, 0, none⟩)), .pointer (some py)] w fun e w' => (e = .returned (.bool true) ∧ X w') ∨ (e = .returned (.bool false) ∧ Y w') := by
  obtain ⟨fn, tmps, assign, body, hy, hR⟩ := hY
  refine (callsIn_wide (n := n + 1)).1 ?_
  refine callsIn_of_wp Tryz.func76 rfl trivial ?_ rfl
  simp only [Tryz.ntmps76, List.size_toArray, List.length_cons, List.length_nil, Nat.reduceAdd, Nat.reduceSub, Array.replicate_succ, Array.replicate_zero, List.push_toArray, List.append_toArray, List.nil_append, List.cons_append]
  gi_wp2_with (first | (refine ⟨trivial, ?_⟩; gi_at_call 77; refine (callsIn_wide.2 (tellsA_at b w)).mono ?_; rintro e w1 ⟨rfl, hw⟩; subst w1) | fail)
  refine hR.mono ?_
  rintro e w1 (⟨rfl, hx⟩ | ⟨rfl, hx⟩)
  · have HX : Hid (X w1) := hx
    clear hx
    gi_wp2
    go_ret
    exact Or.inl ⟨rfl, HX.out⟩
  · have HX : Hid (Y w1) := hx
    clear hx
    gi_wp2
    go_ret
    exact Or.inr ⟨rfl, HX.out⟩
theorem aloneN_yes (c : Int) (l n : Nat) (py : Addr) (w : World) (X Y : World → Prop) (hc : w.cell? py = some (.func (.yield l) #[] #[]))
    (hY : YieldAt Fence.wide n Tryz.prog l #[.iface 138 (.agg #[.iface 23 (.int .i64 c)])] w fun e w' => (e = .returned (.bool true) ∧ X w') ∨ (e = .returned (.bool false) ∧ Y w')) :
    Calls Tryz.prog 84 #[.iface 23 (.int .i64 c), .pointer (some py)] w fun e w' => (e = .returned (.bool true) ∧ X w') ∨ (e = .returned (.bool false) ∧ Y w') := by
  obtain ⟨fn, tmps, assign, body, hy, hR⟩ := hY
  refine (callsIn_wide (n := n + 1)).1 ?_
  refine callsIn_of_wp Tryz.func84 rfl trivial ?_ rfl
  simp only [Tryz.ntmps84, List.size_toArray, List.length_cons, List.length_nil, Nat.reduceAdd, Nat.reduceSub, Array.replicate_succ, Array.replicate_zero, List.push_toArray, List.append_toArray, List.nil_append, List.cons_append]
  gi_wp2_with (first | (refine ⟨trivial, ?_⟩; gi_at_call 85; refine (callsIn_wide.2 (tellsN_num c w)).mono ?_; rintro e w1 ⟨rfl, hw⟩; subst w1) | fail)
  refine hR.mono ?_
  rintro e w1 (⟨rfl, hx⟩ | ⟨rfl, hx⟩)
  · have HX : Hid (X w1) := hx
    clear hx
    gi_wp2
    go_ret
    exact Or.inl ⟨rfl, HX.out⟩
  · have HX : Hid (Y w1) := hx
    clear hx
    gi_wp2
    go_ret
    exact Or.inr ⟨rfl, HX.out⟩
theorem enterAloneA (cap : Array Value) (w : World) : (callFunc 76 cap).run Tryz.prog w = .ok (.enter 76 cap) w := by kernel_rfl
theorem enterAloneN (cap : Array Value) (w : World) : (callFunc 84 cap).run Tryz.prog w = .ok (.enter 84 cap) w := by kernel_rfl
theorem eachA_any (l0 : List Nd) (c : Int) (l n : Nat) (pe : Addr) (n0 : Nat) (p : Nat → Prop) (go : List Nd → Bool) (I : World → Prop) (R : List Nd → World → Prop) (w : World)
    (he : w.cell? pe = some (val l0 c)) (hl : l0.length ≤ 100) (hL : Lie w l0 c) (hn : n0 ≤ w.heap.size) (hx : ∀ x ∈ l0, x.b < n0 ∧ ¬ p x.b) (hp : ∀ k, p k → k < n0) (hI : ∀ W W', (∀ k, p k → W'.heap[k]? = W.heap[k]?) → I W → I W') (hi0 : I w) (hg0 : go [] = true)
    (hY : ∀ x k, (x :: k) <:+ l0 → ∀ W, Kpt n0 p w W → I W → YieldAt Fence.wide n Tryz.prog l #[.iface 124 (.agg #[val (x :: k) c])] W fun e W' => (e = .returned (.bool true) ∧ go (x :: k) = true ∧ Kpt W.heap.size p W W' ∧ I W') ∨ (e = .returned (.bool false) ∧ go (x :: k) = false ∧ R (x :: k) W')) :
    Calls Tryz.prog 74 #[.func (.yield l) #[] #[], .pointer (some pe)] w fun e w' => (∃ v, e = .returned v) ∧
      ((fst go l0 = none ∧ Kpt n0 p w w') ∨ ∃ k, fst go l0 = some k ∧ R k w') := by
  have hmf : ∀ (fn : Fn) (first cap : Array Value) (w : World), (Instr.makeFunc fn first cap).run Tryz.prog w = .ok (.func fn first cap) w := fun _ _ _ _ => rfl
  have hmm := @run_makeMap Tryz.prog
  obtain ⟨T0, v0, hv0⟩ := val_shape l0 c
  rw [hv0] at he
  have HV : Hid (val l0 c = .iface T0 v0) := hv0
  clear hv0
  have hsf := fun a (w : World) => run_store Tryz.prog w a (.func (.func 75) #[] #[]) .plain rfl
  have he1 := cell_alloc he (.cells #[.func (.yield l) #[] #[]] 116)
  have hbe := World.block_lt_of_cell? w _ he
  have hu : Up w.heap.size w ((((w.alloc (.cells #[.func (.yield l) #[] #[]] 116)).alloc (.cells #[.iface T0 v0] 30)).alloc (.map #[] 0)).alloc (.cells #[.slice (some ⟨w.heap.size + 1, 0, none⟩) 1 1, .map (some (w.heap.size + 1 + 1)), .nilIface, .int .i64 0, .int .i64 256, .int .i64 0, .func (.func 75) #[] #[]] 122)) := ((((Up.refl w).alloc _).alloc _).alloc _).alloc _
  have hB3 : Bk ((((w.alloc (.cells #[.func (.yield l) #[] #[]] 116)).alloc (.cells #[.iface T0 v0] 30)).alloc (.map #[] 0)).alloc (.cells #[.slice (some ⟨w.heap.size + 1, 0, none⟩) 1 1, .map (some (w.heap.size + 1 + 1)), .nilIface, .int .i64 0, .int .i64 256, .int .i64 0, .func (.func 75) #[] #[]] 122)) (w.heap.size + 1 + 1 + 1) #[.slice (some ⟨w.heap.size + 1, 0, none⟩) 1 1, .map (some (w.heap.size + 1 + 1)), .nilIface, .int .i64 0, .int .i64 256, .int .i64 0, .func (.func 75) #[] #[]] 122 := by
    have := Bk.new (((w.alloc (.cells #[.func (.yield l) #[] #[]] 116)).alloc (.cells #[.iface T0 v0] 30)).alloc (.map #[] 0)) #[.slice (some ⟨w.heap.size + 1, 0, none⟩) 1 1, .map (some (w.heap.size + 1 + 1)), .nilIface, .int .i64 0, .int .i64 256, .int .i64 0, .func (.func 75) #[] #[]] 122
    simpa using this
  have hB1 : Bk ((((w.alloc (.cells #[.func (.yield l) #[] #[]] 116)).alloc (.cells #[.iface T0 v0] 30)).alloc (.map #[] 0)).alloc (.cells #[.slice (some ⟨w.heap.size + 1, 0, none⟩) 1 1, .map (some (w.heap.size + 1 + 1)), .nilIface, .int .i64 0, .int .i64 256, .int .i64 0, .func (.func 75) #[] #[]] 122)) (w.heap.size + 1) #[.iface T0 v0] 30 := by
    have := ((Bk.new (w.alloc (.cells #[.func (.yield l) #[] #[]] 116)) #[.iface T0 v0] 30).alloc (.map #[] 0)).alloc (.cells #[.slice (some ⟨w.heap.size + 1, 0, none⟩) 1 1, .map (some (w.heap.size + 1 + 1)), .nilIface, .int .i64 0, .int .i64 256, .int .i64 0, .func (.func 75) #[] #[]] 122)
    simpa using this
  have hB0 : Bk ((((w.alloc (.cells #[.func (.yield l) #[] #[]] 116)).alloc (.cells #[.iface T0 v0] 30)).alloc (.map #[] 0)).alloc (.cells #[.slice (some ⟨w.heap.size + 1, 0, none⟩) 1 1, .map (some (w.heap.size + 1 + 1)), .nilIface, .int .i64 0, .int .i64 256, .int .i64 0, .func (.func 75) #[] #[]] 122)) w.heap.size #[.func (.yield l) #[] #[]] 116 := (((Bk.new w #[.func (.yield l) #[] #[]] 116).alloc _).alloc _).alloc _
  have hsz : (((((w.alloc (.cells #[.func (.yield l) #[] #[]] 116)).alloc (.cells #[.iface T0 v0] 30)).alloc (.map #[] 0)).alloc (.cells #[.slice (some ⟨w.heap.size + 1, 0, none⟩) 1 1, .map (some (w.heap.size + 1 + 1)), .nilIface, .int .i64 0, .int .i64 256, .int .i64 0, .func (.func 75) #[] #[]] 122))).heap.size = w.heap.size + 4 := by simp
  go_enter Tryz.func74, Tryz.ntmps74
  go_wp2
  generalize ((((w.alloc (.cells #[.func (.yield l) #[] #[]] 116)).alloc (.cells #[.iface T0 v0] 30)).alloc (.map #[] 0)).alloc (.cells #[.slice (some ⟨w.heap.size + 1, 0, none⟩) 1 1, .map (some (w.heap.size + 1 + 1)), .nilIface, .int .i64 0, .int .i64 256, .int .i64 0, .func (.func 75) #[] #[]] 122)) = W0 at *
  rw [← HV.out] at hB1
  have cc := chain_any l0 c (w.heap.size + 1 + 1 + 1) (w.heap.size + 1) (.map (some (w.heap.size + 1 + 1))) 76 #[.pointer (some ⟨w.heap.size, 0, none⟩)] (w.heap.size + 1 + 1 + 1) p go I R W0 hB3 hB1 hl (hL.stay hu.1) (Nat.le_refl _) (fun x h => ⟨by have := (hx x h).1; omega, (hx x h).2⟩) (fun k h => by have := hp k h; omega) hI (hI w W0 (fun k hk => hu.1.block k (by have := hp k hk; omega)) hi0) (fun cp w' => enterAloneA cp w')
    (fun k hk W hW hIW => by
      have hy : W.cell? ⟨w.heap.size, 0, none⟩ = some (.func (.yield l) #[] #[]) := (hW.cell (q := ⟨w.heap.size, 0, none⟩) (by show w.heap.size < _; omega) (fun h => absurd (hp _ h) (Nat.not_lt_of_le hn))).trans (hB0.cell 0 rfl)
      cases k with
      | nil => exact (aloneA_no c _ W).mono fun e w' ⟨h1, h2⟩ => Or.inl ⟨h1, hg0, by subst h2; exact ⟨Kpt.refl _ _ _, hIW⟩⟩
      | cons x k => exact aloneA_yes x.b l n _ W _ _ hy (hY x k hk W ((Kpt.of (hu.1.mono hn)).trans (hW.mono (by omega))) hIW))
  have d0 := hB3.cell 0 rfl
  have HU : Hid (Up w.heap.size w W0) := hu
  clear hY hB3 hB1 hB0 hL hsf hmm hmf he he1 hu
  go_loopg [18] 1 (fun g t18 wr => ((g = 1 ∧ Hid (wr = W0)) ∨ (g = 0 ∧ Hid (fst go l0 = none ∧ Kpt n0 p w wr) ∧ wr.cell? ⟨w.heap.size + 1 + 1 + 1, 0, none⟩ = some (.slice (some ⟨w.heap.size + 1, 0, none⟩) 0 1))))
  case atStart => exact Or.inl ⟨rfl, rfl⟩
  case round =>
    rcases hrel with ⟨hg, HW⟩ | ⟨hg, HF, hc⟩
    · obtain rfl := HW.out
      go_wp2_with fail
      refine cc.mono ?_
      rintro e w1 (⟨rfl, hf, hk, hc⟩ | ⟨rfl, k, hf, hR⟩)
      · have HF : Hid (fst go l0 = none ∧ Kpt n0 p w w1) := ⟨hf, (Kpt.of (HU.out.1.mono hn)).trans (hk.mono (by omega))⟩
        clear cc hf hk d0
        go_wp2
        go_roundg 0
        case measure => omega
        case rel => exact Or.inr ⟨rfl, HF, hc⟩
      · have HF : Hid (fst go l0 = some k ∧ R k w1) := ⟨hf, hR⟩
        clear cc hf hR d0
        go_wp2
        go_end0
        exact ⟨⟨_, rfl⟩, Or.inr ⟨k, HF.out⟩⟩
    · clear cc d0
      go_wp2
      go_end0
      exact ⟨⟨_, rfl⟩, Or.inl HF.out⟩
theorem eachN_any (l0 : List Nd) (c : Int) (l n : Nat) (pe : Addr) (n0 : Nat) (p : Nat → Prop) (go : List Nd → Bool) (I : World → Prop) (R : List Nd → World → Prop) (w : World)
    (he : w.cell? pe = some (val l0 c)) (hl : l0.length ≤ 100) (hL : Lie w l0 c) (hn : n0 ≤ w.heap.size) (hx : ∀ x ∈ l0, x.b < n0 ∧ ¬ p x.b) (hp : ∀ k, p k → k < n0) (hI : ∀ W W', (∀ k, p k → W'.heap[k]? = W.heap[k]?) → I W → I W') (hi0 : I w) (hg0 : ∀ x k, go (x :: k) = true)
    (hY : ∀ W, Kpt n0 p w W → I W → YieldAt Fence.wide n Tryz.prog l #[.iface 138 (.agg #[.iface 23 (.int .i64 c)])] W fun e W' => (e = .returned (.bool true) ∧ go [] = true ∧ Kpt W.heap.size p W W' ∧ I W') ∨ (e = .returned (.bool false) ∧ go [] = false ∧ R [] W')) :
    Calls Tryz.prog 83 #[.func (.yield l) #[] #[], .pointer (some pe)] w fun e w' => (∃ v, e = .returned v) ∧
      ((fst go l0 = none ∧ Kpt n0 p w w') ∨ ∃ k, fst go l0 = some k ∧ R k w') := by
  have hmf : ∀ (fn : Fn) (first cap : Array Value) (w : World), (Instr.makeFunc fn first cap).run Tryz.prog w = .ok (.func fn first cap) w := fun _ _ _ _ => rfl
  have hmm := @run_makeMap Tryz.prog
  obtain ⟨T0, v0, hv0⟩ := val_shape l0 c
  rw [hv0] at he
  have HV : Hid (val l0 c = .iface T0 v0) := hv0
  clear hv0
  have hsf := fun a (w : World) => run_store Tryz.prog w a (.func (.func 75) #[] #[]) .plain rfl
  have he1 := cell_alloc he (.cells #[.func (.yield l) #[] #[]] 116)
  have hbe := World.block_lt_of_cell? w _ he
  have hu : Up w.heap.size w ((((w.alloc (.cells #[.func (.yield l) #[] #[]] 116)).alloc (.cells #[.iface T0 v0] 30)).alloc (.map #[] 0)).alloc (.cells #[.slice (some ⟨w.heap.size + 1, 0, none⟩) 1 1, .map (some (w.heap.size + 1 + 1)), .nilIface, .int .i64 0, .int .i64 256, .int .i64 0, .func (.func 75) #[] #[]] 122)) := ((((Up.refl w).alloc _).alloc _).alloc _).alloc _
  have hB3 : Bk ((((w.alloc (.cells #[.func (.yield l) #[] #[]] 116)).alloc (.cells #[.iface T0 v0] 30)).alloc (.map #[] 0)).alloc (.cells #[.slice (some ⟨w.heap.size + 1, 0, none⟩) 1 1, .map (some (w.heap.size + 1 + 1)), .nilIface, .int .i64 0, .int .i64 256, .int .i64 0, .func (.func 75) #[] #[]] 122)) (w.heap.size + 1 + 1 + 1) #[.slice (some ⟨w.heap.size + 1, 0, none⟩) 1 1, .map (some (w.heap.size + 1 + 1)), .nilIface, .int .i64 0, .int .i64 256, .int .i64 0, .func (.func 75) #[] #[]] 122 := by
    have := Bk.new (((w.alloc (.cells #[.func (.yield l) #[] #[]] 116)).alloc (.cells #[.iface T0 v0] 30)).alloc (.map #[] 0)) #[.slice (some ⟨w.heap.size + 1, 0, none⟩) 1 1, .map (some (w.heap.size + 1 + 1)), .nilIface, .int .i64 0, .int .i64 256, .int .i64 0, .func (.func 75) #[] #[]] 122
    simpa using this
  have hB1 : Bk ((((w.alloc (.cells #[.func (.yield l) #[] #[]] 116)).alloc (.cells #[.iface T0 v0] 30)).alloc (.map #[] 0)).alloc (.cells #[.slice (some ⟨w.heap.size + 1, 0, none⟩) 1 1, .map (some (w.heap.size + 1 + 1)), .nilIface, .int .i64 0, .int .i64 256, .int .i64 0, .func (.func 75) #[] #[]] 122)) (w.heap.size + 1) #[.iface T0 v0] 30 := by
    have := ((Bk.new (w.alloc (.cells #[.func (.yield l) #[] #[]] 116)) #[.iface T0 v0] 30).alloc (.map #[] 0)).alloc (.cells #[.slice (some ⟨w.heap.size + 1, 0, none⟩) 1 1, .map (some (w.heap.size + 1 + 1)), .nilIface, .int .i64 0, .int .i64 256, .int .i64 0, .func (.func 75) #[] #[]] 122)
    simpa using this
  have hB0 : Bk ((((w.alloc (.cells #[.func (.yield l) #[] #[]] 116)).alloc (.cells #[.iface T0 v0] 30)).alloc (.map #[] 0)).alloc (.cells #[.slice (some ⟨w.heap.size + 1, 0, none⟩) 1 1, .map (some (w.heap.size + 1 + 1)), .nilIface, .int .i64 0, .int .i64 256, .int .i64 0, .func (.func 75) #[] #[]] 122)) w.heap.size #[.func (.yield l) #[] #[]] 116 := (((Bk.new w #[.func (.yield l) #[] #[]] 116).alloc _).alloc _).alloc _
  have hsz : (((((w.alloc (.cells #[.func (.yield l) #[] #[]] 116)).alloc (.cells #[.iface T0 v0] 30)).alloc (.map #[] 0)).alloc (.cells #[.slice (some ⟨w.heap.size + 1, 0, none⟩) 1 1, .map (some (w.heap.size + 1 + 1)), .nilIface, .int .i64 0, .int .i64 256, .int .i64 0, .func (.func 75) #[] #[]] 122))).heap.size = w.heap.size + 4 := by simp
  go_enter Tryz.func83, Tryz.ntmps83
  go_wp2
  generalize ((((w.alloc (.cells #[.func (.yield l) #[] #[]] 116)).alloc (.cells #[.iface T0 v0] 30)).alloc (.map #[] 0)).alloc (.cells #[.slice (some ⟨w.heap.size + 1, 0, none⟩) 1 1, .map (some (w.heap.size + 1 + 1)), .nilIface, .int .i64 0, .int .i64 256, .int .i64 0, .func (.func 75) #[] #[]] 122)) = W0 at *
  rw [← HV.out] at hB1
  have cc := chain_any l0 c (w.heap.size + 1 + 1 + 1) (w.heap.size + 1) (.map (some (w.heap.size + 1 + 1))) 84 #[.pointer (some ⟨w.heap.size, 0, none⟩)] (w.heap.size + 1 + 1 + 1) p go I R W0 hB3 hB1 hl (hL.stay hu.1) (Nat.le_refl _) (fun x h => ⟨by have := (hx x h).1; omega, (hx x h).2⟩) (fun k h => by have := hp k h; omega) hI (hI w W0 (fun k hk => hu.1.block k (by have := hp k hk; omega)) hi0) (fun cp w' => enterAloneN cp w')
    (fun k hk W hW hIW => by
      have hy : W.cell? ⟨w.heap.size, 0, none⟩ = some (.func (.yield l) #[] #[]) := (hW.cell (q := ⟨w.heap.size, 0, none⟩) (by show w.heap.size < _; omega) (fun h => absurd (hp _ h) (Nat.not_lt_of_le hn))).trans (hB0.cell 0 rfl)
      cases k with
      | nil => exact aloneN_yes c l n _ W _ _ hy (hY W ((Kpt.of (hu.1.mono hn)).trans (hW.mono (by omega))) hIW)
      | cons x k => exact (aloneN_no x.b _ W).mono fun e w' ⟨h1, h2⟩ => Or.inl ⟨h1, hg0 x k, by subst h2; exact ⟨Kpt.refl _ _ _, hIW⟩⟩)
  have d0 := hB3.cell 0 rfl
  have HU : Hid (Up w.heap.size w W0) := hu
  clear hY hB3 hB1 hB0 hL hsf hmm hmf he he1 hu
  go_loopg [18] 1 (fun g t18 wr => ((g = 1 ∧ Hid (wr = W0)) ∨ (g = 0 ∧ Hid (fst go l0 = none ∧ Kpt n0 p w wr) ∧ wr.cell? ⟨w.heap.size + 1 + 1 + 1, 0, none⟩ = some (.slice (some ⟨w.heap.size + 1, 0, none⟩) 0 1))))
  case atStart => exact Or.inl ⟨rfl, rfl⟩
  case round =>
    rcases hrel with ⟨hg, HW⟩ | ⟨hg, HF, hc⟩
    · obtain rfl := HW.out
      go_wp2_with fail
      refine cc.mono ?_
      rintro e w1 (⟨rfl, hf, hk, hc⟩ | ⟨rfl, k, hf, hR⟩)
      · have HF : Hid (fst go l0 = none ∧ Kpt n0 p w w1) := ⟨hf, (Kpt.of (HU.out.1.mono hn)).trans (hk.mono (by omega))⟩
        clear cc hf hk d0
        go_wp2
        go_roundg 0
        case measure => omega
        case rel => exact Or.inr ⟨rfl, HF, hc⟩
      · have HF : Hid (fst go l0 = some k ∧ R k w1) := ⟨hf, hR⟩
        clear cc hf hR d0
        go_wp2
        go_end0
        exact ⟨⟨_, rfl⟩, Or.inr ⟨k, HF.out⟩⟩
    · clear cc d0
      go_wp2
      go_end0
      exact ⟨⟨_, rfl⟩, Or.inl HF.out⟩
theorem each_mk (T : TypeId) (v : Value) (w : World) :
    Calls Tryz.prog 46 #[.iface T v] w fun e w' => e = .returned (.func (.func 74) #[] #[.pointer (some ⟨w.heap.size, 0, none⟩)]) ∧ w' = w.alloc (.cells #[.iface T v] 30) := by
  have hmf : ∀ (fn : Fn) (first cap : Array Value) (w : World), (Instr.makeFunc fn first cap).run Tryz.prog w = .ok (.func fn first cap) w := fun _ _ _ _ => rfl
  go_enter Tryz.func46, Tryz.ntmps46
  go_wp2
  go_ret
  exact ⟨rfl, rfl⟩
theorem each_mkN (T : TypeId) (v : Value) (w : World) :
    Calls Tryz.prog 48 #[.iface T v] w fun e w' => e = .returned (.func (.func 83) #[] #[.pointer (some ⟨w.heap.size, 0, none⟩)]) ∧ w' = w.alloc (.cells #[.iface T v] 30) := by
  have hmf : ∀ (fn : Fn) (first cap : Array Value) (w : World), (Instr.makeFunc fn first cap).run Tryz.prog w = .ok (.func fn first cap) w := fun _ _ _ _ => rfl
  go_enter Tryz.func48, Tryz.ntmps48
  go_wp2
  go_ret
  exact ⟨rfl, rfl⟩
end Go.Proofs.YthdjadkdjljciaaGreatDoor
