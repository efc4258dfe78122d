/- The law DistRaw. -/
import Derived.Test.YtkgabdmicpfnmaaqAwk
import Derived.Test.YtkgabdmicpfnmaaqNxt
namespace Go.Proofs.Ytkgabdmicpfnmaa
set_option linter.unusedVariables false
open Go.RowKit Go.ChangeShapes
theorem next_none {w : World} {aw al : Option Addr} {k q cw cl : Nat} {vb : Value} (h : ¬ q = k + 1) (hk : k ≤ 100) (hq : q ≤ 1000) (p r : Int) :
    Calls Try.prog 13 #[.slice aw k cw, .slice al q cl, vb, .int .i32 p, .int .i32 r] w fun e w' => e = .returned (.slice none 0 0) ∧ w' = w := by
  have h' : ¬ (q : Int) = (k : Int) + 1 := by omega
  go_enter Try.func13, Try.ntmps13
  go_wp2
  go_ret
  exact ⟨rfl, rfl⟩
theorem lst_zero : ∀ k, lst (fun i => (i : Int)) k = 0
  | 0 => rfl
  | k + 1 => by
    show min (lst (fun i => (i : Int)) k) ((k + 1 : Nat) : Int) = 0
    rw [lst_zero k]
    omega
theorem Up.drewN' {B : Nat} {a w : World} (h : Up B a w) : ∀ n, Up B a (w.drewN n)
  | 0 => h
  | n + 1 => by
    have := (Up.drewN' h n).drew
    exact this
set_option maxHeartbeats 1000000 in
set_option maxRecDepth 100000 in
theorem raw_law {w : World} {aw al ab : Option Addr} {cw cl cb : Nat} {W L B : List Int} (hW : RSl w (.slice aw W.length cw) W.length (at_ W)) (hL : ISl w (.slice al L.length cl) L.length (at_ L)) (hB : ISl w (.slice ab B.length cb) B.length (at_ B)) (mW : W.length ≤ maxLen) (mL : L.length ≤ maxLen) (mB : B.length ≤ maxLen) (p r n : Int) :
    Calls Try.prog 7 #[.slice aw W.length cw, .slice al L.length cl, .slice ab B.length cb, .int .i32 p, .int .i32 r, .int .i64 n] w fun e w' => e = .returned (.bool true) ∧ Below w.heap.size w w' := by
  have HW : Hid (RSl w (.slice aw W.length cw) W.length (at_ W)) := hW
  have HL : Hid (ISl w (.slice al L.length cl) L.length (at_ L)) := hL
  have HB : Hid (ISl w (.slice ab B.length cb) B.length (at_ B)) := hB
  clear hW hL hB
  have c0 := awake_any w
  generalize e1 : W.length = k at *
  generalize e2 : L.length = q at *
  generalize e3 : B.length = m at *
  generalize e4 : at_ W = R at *
  generalize e5 : at_ L = N at *
  generalize e6 : at_ B = F at *
  clear e1 e2 e3 e4 e5 e6
  by_cases h1 : 100 < k ∨ 100 < q ∨ 100 < m
  · have z : (100 : Int) < (k : Int) ∨ (¬ (100 : Int) < (k : Int) ∧ (100 : Int) < (q : Int)) ∨ (¬ (100 : Int) < (k : Int) ∧ ¬ (100 : Int) < (q : Int) ∧ (100 : Int) < (m : Int)) := by omega
    clear h1
    rcases z with z1 | ⟨z1, z2⟩ | ⟨z1, z2, z3⟩
    · go_enter Try.func7, Try.ntmps7
      go_wp2_with fail
      refine c0.mono ?_
      rintro e w1 ⟨rfl, hU1⟩
      have HU : Hid (Up w.heap.size w w1) := hU1
      clear hU1 c0
      go_wp2
      go_ret
      exact ⟨rfl, HU.out.1⟩
    · go_enter Try.func7, Try.ntmps7
      go_wp2_with fail
      refine c0.mono ?_
      rintro e w1 ⟨rfl, hU1⟩
      have HU : Hid (Up w.heap.size w w1) := hU1
      clear hU1 c0
      go_wp2
      go_ret
      exact ⟨rfl, HU.out.1⟩
    · go_enter Try.func7, Try.ntmps7
      go_wp2_with fail
      refine c0.mono ?_
      rintro e w1 ⟨rfl, hU1⟩
      have HU : Hid (Up w.heap.size w w1) := hU1
      clear hU1 c0
      go_wp2
      go_ret
      exact ⟨rfl, HU.out.1⟩
  have z1 : ¬ (100 : Int) < (k : Int) := by omega
  have z2 : ¬ (100 : Int) < (q : Int) := by omega
  have z3 : ¬ (100 : Int) < (m : Int) := by omega
  have b1 : k ≤ 100 := by omega
  have b2 : q ≤ 100 := by omega
  have b3 : m ≤ 100 := by omega
  clear h1
  by_cases hq : q = k + 1
  · subst hq
    obtain ⟨lb, lo, rfl, hLs⟩ := HL.out.at (by omega)
    have HLs : Hid (Is w lb lo (k + 1) N) := hLs
    clear hLs HL
    go_enter Try.func7, Try.ntmps7
    go_wp2_with fail
    refine c0.mono ?_
    rintro e w1 ⟨rfl, hU1⟩
    have HU : Hid (Up w.heap.size w w1) := hU1
    clear hU1 c0
    have c1 := next_any (cl := cl) (HW.out.stay HU.out.1) (HLs.out.stay HU.out.1) (HB.out.stay HU.out.1) b1 (by omega) p r
    go_wp2_with fail
    refine c1.mono ?_
    rintro e w2 ⟨rfl, hI2, hU2⟩
    have HI2 : Hid (Is w2 w1.heap.size 0 (k + 1) (nx R N F (decide (m = k + 1)) p r)) := hI2
    have HU2 : Hid (Up w.heap.size w w2) := HU.out.stay hU2.1
    obtain ⟨g2, eg2⟩ : ∃ x, w1.heap.size = x := ⟨_, rfl⟩
    rw [eg2] at HI2 ⊢
    clear hI2 hU2 c1 eg2
    have c2 := first_any n w2
    go_wp2_with fail
    refine c2.mono ?_
    rintro e w3 ⟨rfl, hI3, hU3⟩
    have HI3 : Hid (Is w3 w2.heap.size 0 (fN n + 1) (fun i => (i : Int))) := hI3
    have HI23 : Hid (Is w3 g2 0 (k + 1) (nx R N F (decide (m = k + 1)) p r)) := HI2.out.stay hU3.1
    have HU3 : Hid (Up w.heap.size w w3) := HU2.out.stay hU3.1
    obtain ⟨g3, eg3⟩ : ∃ x, w2.heap.size = x := ⟨_, rfl⟩
    obtain ⟨f, ef⟩ : ∃ x, fN n = x := ⟨_, rfl⟩
    rw [eg3, ef] at HI3
    rw [eg3, ef]
    have b4 : f ≤ 64 := by rw [← ef]; unfold fN; omega
    have hmm : max (min n 64) 0 = (f : Int) := by rw [← ef]; unfold fN; omega
    clear hI3 hU3 c2 eg3 ef HI2
    go_wp2
    go_loopg [15, 52] (k + 1) (fun g lv iv wr => ∃ (i : Nat) (z : Int), i ≤ k + 1 ∧ g = k + 1 - i ∧ lv = .int .i64 z ∧ iv = .int .i64 i ∧ Hid (∀ i', i = i' + 1 → z = lst N i') ∧ wr = w3)
    case atStart => exact ⟨0, 0, Nat.zero_le _, rfl, rfl, rfl, fun i' h => by omega, rfl⟩
    case round =>
      obtain ⟨i, z, hi, hg, rfl, rfl, HZ, rfl⟩ := hrel
      have x2 : (0 : Int) ≤ (i : Int) := by omega
      by_cases hlt : i < k + 1
      · have x1 : (i : Int) < (k : Int) + 1 := by omega
        have hc := (HLs.out.stay HU3.out.1) i hlt
        obtain ⟨y, ey⟩ : ∃ y, N i = y := ⟨_, rfl⟩
        rw [ey] at hc
        have EY : Hid (N i = y) := ey
        clear ey
        rcases Nat.eq_zero_or_pos i with h0 | h0
        · subst h0
          rw [Nat.add_zero] at hc
          go_wp2
          go_roundg (k + 1 - (0 + 1))
          case measure => omega
          case rel =>
            refine ⟨0 + 1, y, by omega, rfl, rfl, by go_num, fun i' h => ?_, rfl⟩
            obtain rfl : i' = 0 := by omega
            exact EY.out.symm
        · obtain ⟨i', rfl⟩ : ∃ i', i = i' + 1 := ⟨i - 1, by omega⟩
          have hz := HZ.out i' rfl
          have HZ2 : Hid (z = lst N i') := hz
          have x3 : ¬ ((i' : Int) + 1 = 0) := by omega
          have x3' : ((i' : Int) + 1 == 0) = false := by simpa using x3
          clear hz HZ
          by_cases hyz : y < z
          · go_wp2
            go_roundg (k + 1 - (i' + 1 + 1))
            case measure => omega
            case rel =>
              refine ⟨i' + 1 + 1, y, by omega, rfl, rfl, by go_num, fun j h => ?_, rfl⟩
              obtain rfl : j = i' + 1 := by omega
              show y = min (lst N i') (N (i' + 1))
              rw [EY.out, ← HZ2.out]
              omega
          · go_wp2
            go_roundg (k + 1 - (i' + 1 + 1))
            case measure => omega
            case rel =>
              refine ⟨i' + 1 + 1, z, by omega, rfl, rfl, by go_num, fun j h => ?_, rfl⟩
              obtain rfl : j = i' + 1 := by omega
              show z = min (lst N i') (N (i' + 1))
              rw [EY.out, ← HZ2.out]
              omega
      · obtain rfl : i = k + 1 := by omega
        have x1 : ¬ ((k : Int) + 1 < (k : Int) + 1) := by omega
        have hz := HZ.out k rfl
        have hIo := HI23.out 0 (by omega)
        have hIl := (HLs.out.stay HU3.out.1) 0 (by omega)
        rw [Nat.zero_add] at hIo
        rw [Nat.add_zero] at hIl
        obtain ⟨l0, el0⟩ : ∃ x, N 0 = x := ⟨_, rfl⟩
        obtain ⟨a0, ea0⟩ : ∃ x, wrap64 (l0 + 1) = x := ⟨_, rfl⟩
        have ea0' : IntKind.i64.wrap (l0 + 1) = a0 := (wrap_is _).trans ea0
        have hn0 : nx R N F (decide (m = k + 1)) p r 0 = a0 := by
          show wrap64 (N 0 + 1) = a0
          rw [el0, ea0]
        rw [hn0] at hIo
        rw [el0] at hIl
        have c3 := last_any (c := f + 1) HI3.out (by omega)
        have c4 := least_any (c := f + 1) HI3.out (by omega)
        rw [lst_zero] at c4
        have c5 := least_any (c := cl) (HLs.out.stay HU3.out.1) (by omega)
        rw [← hz] at c5
        have C3 : Hid (∀ nq : Nat, Calls Try.prog 14 #[.slice (some ⟨g3, 0, none⟩) (f + 1) (f + 1)] (wr.drewN nq) fun e w' => e = .returned (.int .i64 (f : Int)) ∧ w' = wr.drewN nq) := fun nq => last_any (c := f + 1) (w := wr.drewN nq) HI3.out (by omega)
        have C4 : Hid (∀ nq : Nat, Calls Try.prog 15 #[.slice (some ⟨g3, 0, none⟩) (f + 1) (f + 1)] (wr.drewN nq) fun e w' => e = .returned (.int .i64 0) ∧ w' = wr.drewN nq) := fun nq => by
          have := least_any (c := f + 1) (w := wr.drewN nq) HI3.out (by omega)
          rw [lst_zero] at this
          exact this
        have C5 : Hid (∀ nq : Nat, Calls Try.prog 15 #[.slice (some ⟨lb, lo, none⟩) (k + 1) cl] (wr.drewN nq) fun e w' => e = .returned (.int .i64 z) ∧ w' = wr.drewN nq) := fun nq => by
          have := least_any (c := cl) (w := wr.drewN nq) (HLs.out.stay (HU3.out.drewN' nq).1) (by omega)
          rw [← hz] at this
          exact this
        obtain ⟨u, eu⟩ : ∃ u, min n 64 = u := ⟨_, rfl⟩
        rw [eu] at hmm
        have x3 : (0 : Int) < (k : Int) + 1 := by omega
        have x4 : (0 : Int) ≤ (f : Int) := by omega
        have x5 : IntKind.i64.wrap ((f : Int) + 1) = (f : Int) + 1 := (wrap_is _).trans (IntWalk.wrap64_in _ (by omega))
        have x6 : IntKind.i64.wrap (f : Int) = (f : Int) := (wrap_is _).trans (IntWalk.wrap64_in _ (by omega))
        have x7 : (f : Int) + 1 - 1 = (f : Int) := by omega
        clear c3 c4 c5 hz HZ hn0 el0 ea0
        go_upto_region 16 with fail
        go_quiet (first | (go_at_call_of 14 g3; exact Calls.quiet_of_same (C3.out _)) | (go_at_call_of 15 g3; exact Calls.quiet_of_same (C4.out _)) | (go_at_call_of 15 lb; exact Calls.quiet_of_same (C5.out _)) | (go_at_call 14; exact Calls.quiet_of_same (last_none none 0 _)) | (go_at_call 15; exact Calls.quiet_of_same (least_none none 0 _)))
        go_wp2
        go_ret
        exact ⟨rfl, (HU3.out.drewN' _).1⟩
  · go_enter Try.func7, Try.ntmps7
    go_wp2_with fail
    refine c0.mono ?_
    rintro e w1 ⟨rfl, hU1⟩
    have HU : Hid (Up w.heap.size w w1) := hU1
    clear hU1 c0
    have c1 := next_none (w := w1) (aw := aw) (al := al) (cw := cw) (cl := cl) (vb := .slice ab m cb) hq b1 (by omega) p r
    have hq' : ¬ (q : Int) = (k : Int) + 1 := by omega
    have hq'' : ((q : Int) == (k : Int) + 1) = false := by simpa using hq'
    go_wp2_with fail
    refine c1.mono ?_
    rintro e w2 ⟨rfl, h2⟩
    subst w2
    clear c1
    go_wp2
    go_ret
    exact ⟨rfl, HU.out.1⟩
end Go.Proofs.Ytkgabdmicpfnmaa
