/- The law LabelNew. -/
import Derived.Test.YtfefdcolmalgjaalAwk
namespace Go.Proofs.Ytfefdcolmalgjaa
set_option linter.unusedVariables false
open Go.RowKit Go.ChangeShapes
theorem sg_one (l : Int) (n : Nat) : sg (fun _ => l) (n + 1) = [⟨l, 0, n + 1⟩] := by
  have := sg_run (L := fun _ => l) (i := 0) (begB_zero _) n (fun _ _ _ => rfl)
  rw [Nat.zero_add] at this
  exact this
set_option maxHeartbeats 1000000 in
set_option maxRecDepth 100000 in
theorem new_law (n a : Int) (w : World) : Calls Try.prog 4 #[.int .i64 n, .int .i64 a] w fun e w' => e = .returned (.bool true) ∧ Below w.heap.size w w' := by
  have c0 := awake_any w
  by_cases hb : n < 0 ∨ 65536 < n
  · have c1 := fun w1 => new_no n hb w1
    by_cases h1 : n < 0
    · clear hb
      go_enter Try.func4, Try.ntmps4
      go_wp2_with fail
      refine c0.mono ?_
      rintro e w1 ⟨rfl, hU⟩
      have HU : Hid (Up w.heap.size w w1) := hU
      clear c0 hU
      go_wp2_with fail
      refine (c1 w1).mono ?_
      rintro e w2 ⟨rfl, hw⟩
      subst w2
      clear c1
      go_wp2
      go_ret
      exact ⟨rfl, HU.out.1⟩
    · have h2 : 65536 < n := by omega
      clear hb
      go_enter Try.func4, Try.ntmps4
      go_wp2_with fail
      refine c0.mono ?_
      rintro e w1 ⟨rfl, hU⟩
      have HU : Hid (Up w.heap.size w w1) := hU
      clear c0 hU
      go_wp2_with fail
      refine (c1 w1).mono ?_
      rintro e w2 ⟨rfl, hw⟩
      subst w2
      clear c1
      go_wp2
      go_ret
      exact ⟨rfl, HU.out.1⟩
  · obtain ⟨k, rfl⟩ : ∃ k : Nat, n = (k : Int) := ⟨n.toNat, by omega⟩
    have hk : k ≤ 65536 := by omega
    have z1 : ¬ (k : Int) < 0 := by omega
    have z2 : ¬ (65536 : Int) < (k : Int) := by omega
    clear hb
    have key : ∀ (T g : Nat) (w2 : World), Sh w2 T g k (fun _ => 1) → ∃ x : Int, (0 ≤ a ∧ a < (k : Int) ∧ x = 1 ∨ (¬ (0 ≤ a) ∨ 0 ≤ a ∧ ¬ a < (k : Int)) ∧ x = 0) ∧ Calls Try.prog 17 #[.pointer (some ⟨T, 0, none⟩), .int .i64 a] w2 fun e w' => e = .returned (.int .u8 x) ∧ w' = w2 := by
      intro T g w2 hS
      by_cases h1 : 0 ≤ a ∧ a < (k : Int)
      · obtain ⟨j, rfl⟩ : ∃ j : Nat, a = (j : Int) := ⟨a.toNat, by omega⟩
        exact ⟨1, Or.inl ⟨h1.1, h1.2, rfl⟩, at_any hS j (by omega)⟩
      · exact ⟨0, Or.inr ⟨by omega, rfl⟩, at_no hS a (by omega)⟩
    go_enter Try.func4, Try.ntmps4
    go_wp2_with fail
    refine c0.mono ?_
    rintro e w1 ⟨rfl, hU⟩
    have HU : Hid (Up w.heap.size w w1) := hU
    clear c0 hU
    go_wp2_with fail
    refine (new_ok k hk w1).mono ?_
    rintro e w2 ⟨T, g, rfl, hT, hg, hS, hU⟩
    have HU2 : Hid (Up w.heap.size w w2) := HU.out.stay hU.1
    have c3 := segs_any hS hk
    have HS : Hid (Sh w2 T g k (fun _ => 1)) := hS
    clear hT hg hS hU HU
    obtain ⟨x, hx, -⟩ := key T g w2 HS.out
    have HX : Hid (∀ w3, Sh w3 T g k (fun _ => 1) → Calls Try.prog 17 #[.pointer (some ⟨T, 0, none⟩), .int .i64 a] w3 fun e w' => e = .returned (.int .u8 x) ∧ w' = w3) := by
      intro w3 h3
      obtain ⟨y, hy, c⟩ := key T g w3 h3
      obtain rfl : y = x := by omega
      exact c
    clear key
    rcases hx with ⟨h1, h2, rfl⟩ | ⟨h1 | ⟨h1, h2⟩, rfl⟩
    all_goals
      go_wp2_with fail
      refine c3.mono ?_
      rintro e w3 ⟨v, rfl, hR, hU⟩
      have HU3 : Hid (Up w.heap.size w w3) := HU2.out.stay hU.1
      have c4 := len_any (HS.out.stay hU.1)
      have c5 := HX.out w3 (HS.out.stay hU.1)
      clear c3 hU HU2 HS HX
      cases k with
      | zero =>
        obtain ⟨ad, c, rfl⟩ := hR.form
        change SR w3 w2.heap.size (.slice ad 0 c) [] at hR
        show _
        clear hR
        go_wp2_with fail
        refine c4.mono ?_
        rintro e w4 ⟨rfl, h4⟩
        subst w4
        clear c4
        go_wp2_with fail
        refine c5.mono ?_
        rintro e w4 ⟨rfl, h4⟩
        subst w4
        clear c5
        go_wp2
        all_goals
          go_ret
          exact ⟨rfl, HU3.out.1⟩
      | succ k =>
        rw [sg_one] at hR
        obtain ⟨ad, c, rfl⟩ := hR.form
        obtain ⟨gp, rfl, -, -⟩ := own_at (n := 1) hR (by omega)
        obtain ⟨a1, a2, a3⟩ := hR.cells rfl (i := 0) (s := ⟨1, 0, k + 1⟩) rfl
        dsimp only at a1 a2 a3
        have y1 : ¬ ((k : Int) + 1 = 0) := by omega
        have y2 : ((k : Int) + 1 == 0) = false := by simpa using y1
        clear hR
        go_wp2_with fail
        refine c4.mono ?_
        rintro e w4 ⟨rfl, h4⟩
        subst w4
        clear c4
        go_wp2_with fail
        refine c5.mono ?_
        rintro e w4 ⟨rfl, h4⟩
        subst w4
        clear c5
        go_wp2
        go_ret
        exact ⟨rfl, HU3.out.1⟩
end Go.Proofs.Ytfefdcolmalgjaa
