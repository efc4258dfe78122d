/- LinesSplit. -/
import Derived.Test.YtihplafalbokdaaDoorWalksZ
namespace Go.Proofs.YtihplafalbokdaaDoor
set_option linter.unusedVariables false
open Go.RowKit Go.ChangeShapes
theorem split_big (s : ByteArray) (v : Value) (n : Int) (w : World) (hm : s.size ≤ maxLen) (hs : 3000 < s.size) (hT : Tabs w) (h : BSl w v s) :
    Calls Tryd.prog 3 #[v, .int .i64 n] w fun e w' => e = .returned (.bool true) ∧ Below w.heap.size w w' := by
  obtain ⟨ad, c, rfl⟩ := h.form
  clear h
  have hs' : (3000 : Int) < (s.size : Int) := by omega
  go_enter Tryd.func3, Tryd.ntmps3
  go_wp2_with fail
  refine (awake_any _ hT).mono ?_
  rintro e w1 ⟨rfl, hb1⟩
  go_wp2
  go_ret
  exact ⟨rfl, hb1⟩
set_option maxRecDepth 100000 in
set_option maxHeartbeats 4000000 in
theorem split_small (s : ByteArray) (v : Value) (n : Int) (w : World) (hs : s.size ≤ 3000) (hT : Tabs w) (h : BSl w v s) :
    Calls Tryd.prog 3 #[v, .int .i64 n] w fun e w' => e = .returned (.bool true) ∧ Below w.heap.size w w' := by
  obtain ⟨ad, c, rfl⟩ := h.form
  have HB : Hid (BSl w (.slice ad s.size c) s) := h
  have HT : Hid (Tabs w) := hT
  have hs' : ¬ (3000 : Int) < (s.size : Int) := by omega
  have hnl := nL_le s
  clear h hT
  go_enter Tryd.func3, Tryd.ntmps3
  go_wp2_with fail
  refine (awake_any _ HT.out).mono ?_
  rintro e w1 ⟨rfl, hb1⟩
  have HU1 : Hid (Up w.heap.size w w1) := (Up.refl w).stay hb1
  clear hb1
  go_wp2_with fail
  refine (new_any s _ w1 (by omega) (tabs_stay HT.out HU1.out.1) (HB.out.stay HU1.out.1)).mono ?_
  rintro e w2 ⟨K, x, rfl, hx, hb2⟩
  have HX2 : Hid (Idx w2 x s K) := hx
  have HU2 : Hid (Up w.heap.size w w2) := HU1.out.stay hb2
  clear hx hb2 HU1
  go_wp2_with fail
  refine (rlines_any s _ w2 (by omega) (HB.out.stay HU2.out.1)).mono ?_
  rintro e w3 ⟨vl, rfl, hl, hb3⟩
  have HL3 : Hid (TSl w3 vl (nL s) (line s)) := tsl_own hl
  have HX3 : Hid (Idx w3 x s K) := HX2.out.stay hb3
  have HU3 : Hid (Up w.heap.size w w3) := HU2.out.stay hb3
  clear hl hb3 HX2 HU2
  obtain ⟨al, cl, rfl⟩ := HL3.out.form
  go_wp2_with fail
  refine (lines_any s K x w3 HX3.out).mono ?_
  rintro e w4 ⟨rfl, rfl⟩
  go_wp2_with fail
  refine (split_any s _ w4 (by omega) (tabs_stay HT.out HU3.out.1) (HB.out.stay HU3.out.1)).mono ?_
  rintro e w5 ⟨vs, rfl, hl5, hb5⟩
  have HS5 : Hid (TSl w5 vs (nL s) (line s)) := tsl_own hl5
  have HL5 : Hid (TSl w5 (.slice al (nL s) cl) (nL s) (line s)) := HL3.out.stay hb5
  have HX5 : Hid (Idx w5 x s K) := HX3.out.stay hb5
  have HU5 : Hid (Up w.heap.size w w5) := HU3.out.stay hb5
  clear hl5 hb5 HX3 HU3 HL3
  go_wp2_with fail
  refine (same_any (line s) (nL s) vs _ w5 (by omega) HS5.out HL5.out).mono ?_
  rintro e w6 ⟨rfl, hb6⟩
  have HL6 : Hid (TSl w6 (.slice al (nL s) cl) (nL s) (line s)) := HL5.out.stay hb6
  have HX6 : Hid (Idx w6 x s K) := HX5.out.stay hb6
  have HU6 : Hid (Up w.heap.size w w6) := HU5.out.stay hb6
  clear hb6 HX5 HU5 HL5 HS5
  go_wp2
  go_loopg [7, 37] (nL s) (fun g av iv wr => ∃ i : Nat, i ≤ nL s ∧ g = nL s - i ∧ iv = .int .i64 i ∧ av = .int .i64 (S s i) ∧ Hid (Up w6.heap.size w6 wr))
  case atStart => exact ⟨0, Nat.zero_le _, rfl, rfl, by rw [S_zero]; rfl, Up.refl w6⟩
  case round =>
    obtain ⟨i, hin, hg, rfl, rfl, HU⟩ := hrel
    by_cases hlt : i < nL s
    · have z0 : (0 : Int) ≤ (i : Int) := by omega
      have z1 : (i : Int) < (nL s : Int) := by omega
      have hcell : ∃ gl, al = some ⟨gl, 0, none⟩ ∧ wr.cell? ⟨gl, i, none⟩ = some (.string (line s i)) := by
        rcases HL6.out.stay HU.out.1 with ⟨a', c', hv, hz⟩ | ⟨gl, c', hv, hc⟩
        · omega
        · injection hv with hv1 _ _
          exact ⟨gl, hv1, hc i hlt⟩
      obtain ⟨gl, rfl, hc⟩ := hcell
      have hls := line_size s i
      have hsm := S_mono_le s (show i ≤ i + 1 by omega)
      have hse := S_le s (i + 1)
      have HZ : Hid ((line s i).size = S s (i + 1) - S s i) := hls
      go_wp2_with fail
      refine (span_ok s K x i wr (by omega) hlt (HX6.out.stay HU.out.1)).mono ?_
      rintro e w7 ⟨rfl, hb7⟩
      have HU7 : Hid (Up w6.heap.size w6 w7) := HU.out.stay hb7
      clear hb7 HU
      have y1 : ((S s (i + 1) : Nat) : Int) - (S s i : Int) = ((line s i).size : Int) := by omega
      rw [y1]
      have y3 : (S s i : Int) + ((line s i).size : Int) ≤ 5000 := by omega
      clear hls y1
      generalize line s i = tx at *
      go_wp2
      go_roundg (nL s - (i + 1))
      case measure => omega
      case rel => exact ⟨i + 1, hlt, rfl, by go_num, congrArg (Value.int .i64) (by have := HZ.out; omega), HU7.out.alloc _⟩
    · obtain rfl : i = nL s := by omega
      have HUE : Hid (Up w.heap.size w wr) := HU6.out.stay HU.out.1
      by_cases hn : n < 1 ∨ (nL s : Int) < n
      · have HX8 := HX6.out.stay HU.out.1
        go_wp2_with fail
        refine (span_no s K x n wr hn HX8).mono ?_
        rintro e w8 ⟨rfl, hb8⟩
        have HU8 : Hid (Up w.heap.size w w8) := HUE.out.stay hb8
        clear hb8 HX8
        by_cases h1 : n < 1
        · have h1' : ¬ (1 : Int) ≤ n := by omega
          go_wp2
          go_ret
          exact ⟨rfl, (HU8.out.alloc _).1⟩
        · have h1' : (1 : Int) ≤ n := by omega
          have h2' : ¬ n ≤ (nL s : Int) := by omega
          go_wp2
          go_ret
          refine ⟨?_, (HU8.out.alloc _).1⟩
          show Ending.returned (Value.bool (!decide (n ≤ (nL s : Int)))) = _
          rw [decide_eq_false (show ¬ n ≤ (nL s : Int) by omega)]
          rfl
      · obtain ⟨j, rfl⟩ : ∃ j : Nat, n = (j : Int) + 1 := ⟨(n - 1).toNat, by omega⟩
        have hj : j < nL s := by omega
        have HX8 := HX6.out.stay HU.out.1
        go_wp2_with fail
        refine (span_ok s K x j wr (by omega) hj HX8).mono ?_
        rintro e w8 ⟨rfl, hb8⟩
        have HU8 : Hid (Up w.heap.size w w8) := HUE.out.stay hb8
        clear hb8 HX8
        have h1' : (1 : Int) ≤ (j : Int) + 1 := by omega
        have h2' : (j : Int) + 1 ≤ (nL s : Int) := by omega
        generalize S s j = p
        generalize S s (j + 1) = q
        go_wp2
        go_ret
        exact ⟨rfl, (HU8.out.alloc _).1⟩
theorem split_all (s : ByteArray) (v : Value) (n : Int) (w : World) (hm : s.size ≤ maxLen) (hT : Tabs w) (h : BSl w v s) :
    Calls Tryd.prog 3 #[v, .int .i64 n] w fun e w' => e = .returned (.bool true) ∧ Below w.heap.size w w' := by
  by_cases hs : 3000 < s.size
  · exact split_big s v n w hm hs hT h
  · exact split_small s v n w (by omega) hT h
end Go.Proofs.YtihplafalbokdaaDoor
