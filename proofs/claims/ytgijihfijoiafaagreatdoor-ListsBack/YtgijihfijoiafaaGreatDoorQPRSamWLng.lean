/- The reference's Same. -/
import Derived.Test.YtgijihfijoiafaaGreatDoorQPSrcRPut
import Derived.Test.YtgijihfijoiafaaGreatDoorQPFixExm
namespace Go.Proofs.YtgijihfijoiafaaGreatDoor
set_option linter.unusedVariables false
open Go.RowKit Go.ChangeShapes
set_option maxHeartbeats 1000000 in
/-- Same of two lists that are the same. -/
theorem rsame_cells (L : List ByteArray) (g g' c c' : Nat) (w : World) (hn : L.length ≤ 9223372036854775807) (h : ∀ j, (hj : j < L.length) → w.cell? ⟨g, j, none⟩ = some (.string L[j])) (h' : ∀ j, (hj : j < L.length) → w.cell? ⟨g', j, none⟩ = some (.string L[j])) :
    Calls Tryz.prog 17 #[.slice (some ⟨g, 0, none⟩) L.length c, .slice (some ⟨g', 0, none⟩) L.length c'] w fun e w' => e = .returned (.bool true) ∧ Below w.heap.size w w' := by
  have H : Hid (∀ j, (hj : j < L.length) → w.cell? ⟨g, j, none⟩ = some (.string L[j])) := h
  have H' : Hid (∀ j, (hj : j < L.length) → w.cell? ⟨g', j, none⟩ = some (.string L[j])) := h'
  clear h h'
  obtain ⟨k, hk⟩ : ∃ k, L.length = k := ⟨_, rfl⟩
  have HK : Hid (L.length = k) := hk
  rw [hk] at hn ⊢
  clear hk
  go_enter Tryz.func17, Tryz.ntmps17
  go_wp2
  go_loopg [5] k (fun n i wr => ∃ j : Nat, j ≤ k ∧ n = k - j ∧ i = .int .i64 j ∧ Hid (Up w.heap.size w wr))
  case atStart => exact ⟨0, Nat.zero_le _, rfl, rfl, Up.refl w⟩
  case round =>
    obtain ⟨j, hj, hn, rfl, HU⟩ := hrel
    by_cases hlt : j < k
    · have z0 : (0 : Int) ≤ (j : Int) := by omega
      have z1 : (j : Int) < (k : Int) := by omega
      have hl : j < L.length := by rw [HK.out]; exact hlt
      have a1 := (HU.out.1.cell (World.block_lt_of_cell? w _ (H.out j hl))).trans (H.out j hl)
      have a2 := (HU.out.1.cell (World.block_lt_of_cell? w _ (H'.out j hl))).trans (H'.out j hl)
      generalize L[j] = x at a1 a2
      clear hl
      go_wp2_with fail
      go_quiet (fail)
      go_wp2
      go_roundg (k - (j + 1))
      case measure => omega
      case rel => exact ⟨j + 1, by omega, rfl, by go_num, HU.out.stay (Go.below_drewN (Below.refl _ _) _)⟩
    · obtain rfl : j = k := by omega
      go_wp2_with fail
      go_ret
      exact ⟨rfl, HU.out.1⟩
theorem rsame_zero (ad ad' : Option Addr) (c c' : Nat) (w : World) :
    Calls Tryz.prog 17 #[.slice ad 0 c, .slice ad' 0 c'] w fun e w' => e = .returned (.bool true) ∧ w' = w := by
  go_enter Tryz.func17, Tryz.ntmps17
  go_wp2
  go_loopg [5] (0) (fun g i wr => i = .int .i64 0 ∧ wr = w)
  case atStart => exact ⟨rfl, rfl⟩
  case round =>
    obtain ⟨rfl, rfl⟩ := hrel
    go_wp2_with fail
    go_ret
    exact ⟨rfl, rfl⟩
theorem rsame_any (L : List ByteArray) (b b' : Nat) (v v' : Value) (w : World) (h : w.ownsRow b 9 1 v L.length (L.map Value.string)) (h' : w.ownsRow b' 9 1 v' L.length (L.map Value.string)) :
    Calls Tryz.prog 17 #[v, v'] w fun e w' => e = .returned (.bool true) ∧ Below w.heap.size w w' := by
  have h0 := h
  have h0' := h'
  have hz : ∀ ad c ad' c', Calls Tryz.prog 17 #[.slice ad 0 c, .slice ad' 0 c'] w fun e w' => e = .returned (.bool true) ∧ Below w.heap.size w w' := fun ad c ad' c' => (rsame_zero ad ad' c c' w).mono (by
    rintro e w' ⟨rfl, rfl⟩
    exact ⟨rfl, Below.refl _ _⟩)
  obtain ⟨_, ⟨rfl, e1⟩ | ⟨g, cap, cur, rfl, _, _, hnc, hcm, _⟩⟩ := h
  · obtain ⟨_, ⟨rfl, _⟩ | ⟨g', cap', cur', rfl, _⟩⟩ := h'
    · exact hz _ _ _ _
    · rw [e1]; exact hz _ _ _ _
  · obtain ⟨_, ⟨rfl, e1⟩ | ⟨g', cap', cur', rfl, _⟩⟩ := h'
    · rw [e1]; exact hz _ _ _ _
    · exact rsame_cells L g g' cap cap' w (by unfold maxLen at hcm; omega) (own_cells h0) (own_cells h0')
end Go.Proofs.YtgijihfijoiafaaGreatDoor
/- Words and Fixes of bytes with a line that is too long. -/
namespace Go.Proofs.YtgijihfijoiafaaGreatDoor
set_option linter.unusedVariables false
open Go.RowKit Go.ChangeShapes
set_option maxRecDepth 100000 in
theorem words_long (s : ByteArray) (v : Value) (w : World) (hs : s.size ≤ 40000) (hT : Tabs w) (hb : Lns.BSl w v s) (j : Nat) (hL : longL (linesL s) 0 = j + 1) :
    Calls Tryz.prog 14 #[v] w fun e w' => ∃ b c, e = .returned (.tuple #[.slice none 0 0, val [⟨c, nmW, 0⟩, ⟨b, ⟨#[]⟩, j + 1⟩] 3]) ∧ Lie w' [⟨c, nmW, 0⟩, ⟨b, ⟨#[]⟩, j + 1⟩] 3 ∧ Below w.heap.size w w' := by
  have hmm := @run_makeMap Tryz.prog
  have hmf : ∀ (fn : Fn) (first cap : Array Value) (w : World), (Instr.makeFunc fn first cap).run Tryz.prog w = .ok (.func fn first cap) w := fun _ _ _ _ => rfl
  have HB : Hid (Lns.BSl w v s) := hb
  have HT : Hid (Tabs w) := hT
  have HL : Hid (longL (linesL s) 0 = j + 1) := hL
  obtain ⟨vd, vc, rfl⟩ := hb.form
  clear hb hT hL
  go_enter Tryz.func14, Tryz.ntmps14
  go_wp2_with fail
  have hbs : Below w.heap.size w ((((w.alloc (.cells #[.slice none 0 0] 28)).alloc (.map #[] 0)).alloc (.cells #[.int .i64 0] 3)).alloc (.cells #[.map (some (w.heap.size + 1))] 63)) := (((((Up.refl w).alloc _).alloc _).alloc _).alloc _).1
  generalize (((w.alloc (.cells #[.slice none 0 0] 28)).alloc (.map #[] 0)).alloc (.cells #[.int .i64 0] 3)).alloc (.cells #[.map (some (w.heap.size + 1))] 63) = W at hbs ⊢
  refine (each_long nmW s (.slice vd s.size vc) _ W hs (tabs_up HT.out hbs) (HB.out.stay hbs) j HL.out).mono ?_
  rintro e w1 ⟨b, c, h1, h2, rfl, hlie, hb1⟩
  have HE : Hid (Lie w1 [⟨c, nmW, 0⟩, ⟨b, ⟨#[]⟩, j + 1⟩] 3 ∧ Below w.heap.size w w1) := ⟨hlie, hbs.trans (hb1.mono hbs.size)⟩
  clear hlie hb1 h1 h2 hbs
  unfold val
  go_wp2
  refine bodyPost_ret (v := .tuple #[.slice none 0 0, val [⟨c, nmW, 0⟩, ⟨b, ⟨#[]⟩, j + 1⟩] 3]) (by simp [results, Tryz.results14, go_sem, val]) rfl ?_
  exact ⟨b, c, rfl, HE.out⟩
set_option maxRecDepth 100000 in
theorem fixes_long (s : ByteArray) (v : Value) (w : World) (hs : s.size ≤ 40000) (hT : Tabs w) (hb : Lns.BSl w v s) (j : Nat) (hL : longL (linesL s) 0 = j + 1) :
    Calls Tryz.prog 18 #[v] w fun e w' => ∃ b c, e = .returned (.tuple #[.slice none 0 0, val [⟨c, nmF, 0⟩, ⟨b, ⟨#[]⟩, j + 1⟩] 3]) ∧ Lie w' [⟨c, nmF, 0⟩, ⟨b, ⟨#[]⟩, j + 1⟩] 3 ∧ Below w.heap.size w w' := by
  have hmm := @run_makeMap Tryz.prog
  have hmf : ∀ (fn : Fn) (first cap : Array Value) (w : World), (Instr.makeFunc fn first cap).run Tryz.prog w = .ok (.func fn first cap) w := fun _ _ _ _ => rfl
  have HB : Hid (Lns.BSl w v s) := hb
  have HT : Hid (Tabs w) := hT
  have HL : Hid (longL (linesL s) 0 = j + 1) := hL
  obtain ⟨vd, vc, rfl⟩ := hb.form
  clear hb hT hL
  go_enter Tryz.func18, Tryz.ntmps18
  go_wp2_with fail
  have hbs : Below w.heap.size w (((w.alloc (.cells #[.slice none 0 0] 38)).alloc (.map #[] 0)).alloc (.cells #[.map (some (w.heap.size + 1))] 63)) := ((((Up.refl w).alloc _).alloc _).alloc _).1
  generalize ((w.alloc (.cells #[.slice none 0 0] 38)).alloc (.map #[] 0)).alloc (.cells #[.map (some (w.heap.size + 1))] 63) = W at hbs ⊢
  refine (each_long nmF s (.slice vd s.size vc) _ W hs (tabs_up HT.out hbs) (HB.out.stay hbs) j HL.out).mono ?_
  rintro e w1 ⟨b, c, h1, h2, rfl, hlie, hb1⟩
  have HE : Hid (Lie w1 [⟨c, nmF, 0⟩, ⟨b, ⟨#[]⟩, j + 1⟩] 3 ∧ Below w.heap.size w w1) := ⟨hlie, hbs.trans (hb1.mono hbs.size)⟩
  clear hlie hb1 h1 h2 hbs
  unfold val
  go_wp2
  refine bodyPost_ret (v := .tuple #[.slice none 0 0, val [⟨c, nmF, 0⟩, ⟨b, ⟨#[]⟩, j + 1⟩] 3]) (by simp [results, Tryz.results18, go_sem, val]) rfl ?_
  exact ⟨b, c, rfl, HE.out⟩
end Go.Proofs.YtgijihfijoiafaaGreatDoor
