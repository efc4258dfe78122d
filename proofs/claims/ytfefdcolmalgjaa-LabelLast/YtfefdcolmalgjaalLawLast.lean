/- The law LabelLast. -/
import Derived.Test.YtfefdcolmalgjaalBk
namespace Go.Proofs.Ytfefdcolmalgjaa
set_option linter.unusedVariables false
open Go.RowKit Go.ChangeShapes
theorem setL_in {L : Nat → Int} {l f t : Int} {i : Nat} (h1 : f ≤ (i : Int)) (h2 : (i : Int) < t) : setL L l f t i = l := by
  unfold setL
  rw [if_pos ⟨h1, h2⟩]
theorem setL_out {L : Nat → Int} {l f t : Int} {i : Nat} (h : ¬ (f ≤ (i : Int)) ∨ ¬ ((i : Int) < t)) : setL L l f t i = L i := by
  unfold setL
  rw [if_neg (by omega)]
set_option maxHeartbeats 1000000 in
set_option maxRecDepth 100000 in
theorem last_law (n : Nat) (hn : n < 256) (a0 a1 b0 b1 x y : Int) (ha0 : 0 ≤ a0 ∧ a0 < 256) (ha1 : 0 ≤ a1 ∧ a1 < 256) (hb0 : 0 ≤ b0 ∧ b0 < 256) (hb1 : 0 ≤ b1 ∧ b1 < 256) (w : World) :
    Calls Try.prog 7 #[.int .u8 n, .agg #[.int .u8 a0, .int .u8 a1], .agg #[.int .u8 b0, .int .u8 b1], .int .u8 x, .int .u8 y] w fun e w' => e = .returned (.bool true) ∧ Below w.heap.size w w' := by
  have wn : IntKind.i64.wrap (n : Int) = (n : Int) := (wrap_is _).trans (IntWalk.wrap64_in _ (by omega))
  have wa0 : IntKind.i64.wrap a0 = a0 := (wrap_is _).trans (IntWalk.wrap64_in _ (by omega))
  have wa1 : IntKind.i64.wrap a1 = a1 := (wrap_is _).trans (IntWalk.wrap64_in _ (by omega))
  have wb0 : IntKind.i64.wrap b0 = b0 := (wrap_is _).trans (IntWalk.wrap64_in _ (by omega))
  have wb1 : IntKind.i64.wrap b1 = b1 := (wrap_is _).trans (IntWalk.wrap64_in _ (by omega))
  obtain ⟨W, hW⟩ : ∃ W, (w.alloc (.cells #[.int .u8 a0, .int .u8 a1] 53)).alloc (.cells #[.int .u8 b0, .int .u8 b1] 53) = W := ⟨_, rfl⟩
  have HA : Hid (Bk W w.heap.size #[.int .u8 a0, .int .u8 a1] 53) := by show Bk _ _ _ _; rw [← hW]; exact (Bk.new _ _ _).alloc _
  have HB : Hid (Bk W (w.heap.size + 1) #[.int .u8 b0, .int .u8 b1] 53) := by
    show Bk _ _ _ _
    have := Bk.new (w.alloc (.cells #[.int .u8 a0, .int .u8 a1] 53)) #[.int .u8 b0, .int .u8 b1] 53
    rw [World.size_alloc] at this
    rw [← hW]
    exact this
  have HU : Hid (Up w.heap.size w W) := by show Up _ _ _; rw [← hW]; exact ((Up.refl w).alloc _).alloc _
  have c0 := awake_any W
  go_enter Try.func7, Try.ntmps7
  go_wp2_with fail
  refine c0.mono ?_
  rintro e w1 ⟨rfl, hU⟩
  have HA1 : Hid (Bk w1 w.heap.size #[.int .u8 a0, .int .u8 a1] 53) := HA.out.stay hU.1
  have HB1 : Hid (Bk w1 (w.heap.size + 1) #[.int .u8 b0, .int .u8 b1] 53) := HB.out.stay hU.1
  have HU1 : Hid (Up w.heap.size w w1) := HU.out.stay hU.1
  clear c0 hU hW HA HB HU W
  go_wp2_with fail
  refine (new_ok n (by omega) w1).mono ?_
  rintro e w2 ⟨T, g, rfl, hT, hg, hS, hU⟩
  have hA2 := HA1.out.stay hU.1
  have hB2 := HB1.out.stay hU.1
  have HN : Hid (w.heap.size ≤ g ∧ some w.heap.size ≠ some g ∧ some (w.heap.size + 1) ≠ some g) := by
    have h1 := HA1.out.lt
    have h2 := HB1.out.lt
    exact ⟨by omega, fun e => by cases e; omega, fun e => by cases e; omega⟩
  have HU2 : Hid (Up w.heap.size w w2) := HU1.out.stay hU.1
  have cA0 := hA2.cell 0 rfl
  have cA1 := hA2.cell 1 rfl
  have c3 := set_any hS (by omega) x a0 a1
  have HA2 : Hid (Bk w2 w.heap.size #[.int .u8 a0, .int .u8 a1] 53) := hA2
  have HB2 : Hid (Bk w2 (w.heap.size + 1) #[.int .u8 b0, .int .u8 b1] 53) := hB2
  clear hT hg hS hU HU1 HA1 HB1 hA2 hB2
  go_wp2_with fail
  refine c3.mono ?_
  rintro e w3 ⟨rfl, hS, hG, _⟩
  have hB3 := HB2.out.grown hG HN.out.2.2
  have HA3 : Hid (Bk w3 w.heap.size #[.int .u8 a0, .int .u8 a1] 53) := HA2.out.grown hG HN.out.2.1
  have HU3 : Hid (Up w.heap.size w w3) := HU2.out.grown hG (fun k hk => by cases hk; exact HN.out.1)
  have cB0 := hB3.cell 0 rfl
  have cB1 := hB3.cell 1 rfl
  have HB3 : Hid (Bk w3 (w.heap.size + 1) #[.int .u8 b0, .int .u8 b1] 53) := hB3
  have c4 := set_any hS (by omega) y b0 b1
  clear c3 hS hG HA2 HB2 HU2 hB3 cA0 cA1
  go_wp2_with fail
  refine c4.mono ?_
  rintro e w4 ⟨rfl, hS, hG, _⟩
  have hA4 := HA3.out.grown hG HN.out.2.1
  have hB4 := HB3.out.grown hG HN.out.2.2
  have HU4 : Hid (Up w.heap.size w w4) := HU3.out.grown hG (fun k hk => by cases hk; exact HN.out.1)
  have HS : Hid (Sh w4 T g n (setL (setL (fun _ => 1) x a0 a1) y b0 b1)) := hS
  have cA0 := hA4.cell 0 rfl
  have cA1 := hA4.cell 1 rfl
  have dB0 := hB4.cell 0 rfl
  have dB1 := hB4.cell 1 rfl
  clear c4 hS hG HA3 HB3 HU3 cB0 cB1 hA4 hB4
  go_wp2
  go_loopg [43] n (fun q iv wr => ∃ i : Nat, i ≤ n ∧ q = n - i ∧ iv = .int .i64 i ∧ wr = w4)
  case atStart => exact ⟨0, Nat.zero_le _, rfl, rfl, rfl⟩
  case round =>
    obtain ⟨i, hi, hq, rfl, rfl⟩ := hrel
    by_cases hlt : i < n
    · have z1 : (i : Int) < (n : Int) := by omega
      have hat := at_any HS.out i hlt
      have hsp : ((¬ b0 ≤ (i : Int)) ∨ (b0 ≤ (i : Int) ∧ ¬ (i : Int) < b1) ∨ (b0 ≤ (i : Int) ∧ (i : Int) < b1)) := by omega
      have hsq : ((¬ a0 ≤ (i : Int)) ∨ (a0 ≤ (i : Int) ∧ ¬ (i : Int) < a1) ∨ (a0 ≤ (i : Int) ∧ (i : Int) < a1)) := by omega
      rcases hsp with p1 | ⟨p1, p2⟩ | ⟨p1, p2⟩ <;> rcases hsq with q1 | ⟨q1, q2⟩ | ⟨q1, q2⟩
      all_goals
        first
          | rw [setL_in p1 p2] at hat
          | rw [setL_out (by omega), setL_in q1 q2] at hat
          | rw [setL_out (by omega), setL_out (by omega)] at hat
        go_wp2_with fail
        refine hat.mono ?_
        rintro e w5 ⟨rfl, h5⟩
        subst w5
        clear hat
        go_wp2
        go_roundg (n - (i + 1))
        case measure => omega
        case rel => exact ⟨i + 1, by omega, rfl, by go_num, rfl⟩
    · obtain rfl : i = n := by omega
      have z1 : ¬ (i : Int) < (i : Int) := by omega
      go_wp2
      go_ret
      exact ⟨rfl, HU4.out.1⟩
end Go.Proofs.Ytfefdcolmalgjaa
