/- sort.Search over rising places; lines.ahead. -/
import Derived.Test.YtihplafalbokdaaDoorWalksE
import Derived.Test.YtihplafalbokdaaDoorLPure
namespace Go.Proofs.YtihplafalbokdaaDoor
set_option linter.unusedVariables false
open Go.RowKit Go.ChangeShapes

/-- A slice of places, wherever. -/
def ISl (w : World) (v : Value) (k : Nat) (P : Nat → Nat) : Prop := (∃ ad c, v = .slice ad 0 c ∧ k = 0) ∨ ∃ b c, v = .slice (some ⟨b, 0, none⟩) k c ∧ ∀ i, i < k → w.cell? ⟨b, i, none⟩ = some (.int .i64 (P i))
theorem ISl.stay {w w' : World} {v : Value} {k : Nat} {P : Nat → Nat} (h : ISl w v k P) (hb : Below w.heap.size w w') : ISl w' v k P := by
  rcases h with h | ⟨b, c, rfl, h⟩
  · exact Or.inl h
  · exact Or.inr ⟨b, c, rfl, fun j hj => (hb.cell (World.block_lt_of_cell? w _ (h j hj))).trans (h j hj)⟩
theorem ISl.form {w : World} {v : Value} {k : Nat} {P : Nat → Nat} (h : ISl w v k P) : ∃ ad c, v = .slice ad k c := by
  rcases h with ⟨ad, c, rfl, rfl⟩ | ⟨b, c, rfl, _⟩
  · exact ⟨ad, c, rfl⟩
  · exact ⟨_, c, rfl⟩
theorem ask_any (b k c i p Bp Ba : Nat) (x : Int) (w : World) (hi : i < k) (hp : w.cell? ⟨Bp, 0, none⟩ = some (.slice (some ⟨b, 0, none⟩) k c)) (ha : w.cell? ⟨Ba, 0, none⟩ = some (.int .i64 x)) (hc : w.cell? ⟨b, i, none⟩ = some (.int .i64 p)) :
    Calls Tryd.prog 28 #[.int .i64 i, .pointer (some ⟨Bp, 0, none⟩), .pointer (some ⟨Ba, 0, none⟩)] w fun e w' => e = .returned (.bool (decide (x ≤ (p : Int)))) ∧ ∃ m, w' = w.drewN m := by
  have z0 : (0 : Int) ≤ (i : Int) := by omega
  have z1 : (i : Int) < (k : Int) := by omega
  go_enter Tryd.func28, Tryd.ntmps28
  go_wp2_with fail
  go_quiet (fail)
  go_wp2
  go_ret
  exact ⟨rfl, _, rfl⟩
set_option maxHeartbeats 1000000 in
theorem search_at (P : Nat → Nat) (b k c Bp Ba : Nat) (x : Int) (w : World) (hk : k ≤ 5000) (hP : ∀ i j, i ≤ j → j < k → P i ≤ P j)
    (hp : w.cell? ⟨Bp, 0, none⟩ = some (.slice (some ⟨b, 0, none⟩) k c)) (ha : w.cell? ⟨Ba, 0, none⟩ = some (.int .i64 x)) (hc : ∀ i, i < k → w.cell? ⟨b, i, none⟩ = some (.int .i64 (P i))) :
    Calls Tryd.prog 27 #[.int .i64 k, .func (.func 28) #[] #[.pointer (some ⟨Bp, 0, none⟩), .pointer (some ⟨Ba, 0, none⟩)]] w fun e w' => ∃ i : Nat, e = .returned (.int .i64 i) ∧ Ahd k P x i ∧ ∃ m, w' = w.drewN m := by
  have HP : Hid (∀ i j, i ≤ j → j < k → P i ≤ P j) := hP
  have HC : Hid (∀ i, i < k → w.cell? ⟨b, i, none⟩ = some (.int .i64 (P i))) := hc
  have CP : Hid (w.cell? ⟨Bp, 0, none⟩ = some (.slice (some ⟨b, 0, none⟩) k c)) := hp
  have CA : Hid (w.cell? ⟨Ba, 0, none⟩ = some (.int .i64 x)) := ha
  clear hP hc hp ha
  go_enter Tryd.func27, Tryd.ntmps27
  go_wp2
  go_loopg [5, 6] k (fun g vi vj wr => ∃ i j : Nat, i ≤ j ∧ j ≤ k ∧ g = j - i ∧ vi = .int .i64 i ∧ vj = .int .i64 j ∧ Hid ((∀ t, t < i → (P t : Int) < x) ∧ (∀ t, j ≤ t → t < k → x ≤ (P t : Int))) ∧ Hid (∃ m, wr = w.drewN m))
  case atStart => exact ⟨0, k, Nat.zero_le _, Nat.le_refl _, rfl, rfl, rfl, ⟨fun t ht => absurd ht (Nat.not_lt_zero t), fun t h1 h2 => absurd h2 (by omega)⟩, ⟨0, rfl⟩⟩
  case round =>
    obtain ⟨i, j, hij, hjk, hg, rfl, rfl, HI, HD⟩ := hrel
    obtain ⟨m, rfl⟩ := HD.out
    clear HD
    by_cases hlt : i < j
    · have z1 : (i : Int) < (j : Int) := by omega
      obtain ⟨h, hh⟩ : ∃ h : Nat, h = (i + j) / 2 := ⟨_, rfl⟩
      have hh1 : i ≤ h := by omega
      have hh2 : h < j := by omega
      go_wp2_with fail
      rw [show ((i : Int) + (j : Int)) / 2 = ((h : Nat) : Int) by omega]
      refine (ask_any b k c h (P h) Bp Ba x (w.drewN m) (by omega) CP.out CA.out (HC.out h (by omega))).mono ?_
      rintro e w1 ⟨rfl, m1, rfl⟩
      by_cases hx : x ≤ (P h : Int)
      · rw [decide_eq_true hx]
        go_wp2
        go_roundg (h - i)
        case measure => omega
        case rel => exact ⟨i, h, hh1, by omega, rfl, rfl, congrArg (Value.int .i64) (by omega), ⟨HI.out.1, fun t h1 h2 => by have := HP.out h t h1 h2; omega⟩, ⟨_, rfl⟩⟩
      · rw [decide_eq_false hx]
        go_wp2
        go_roundg (j - (h + 1))
        case measure => omega
        case rel => exact ⟨h + 1, j, hh2, hjk, rfl, by go_num, rfl, ⟨fun t h1 => by have := HP.out t h (by omega) (by omega); omega, HI.out.2⟩, ⟨_, rfl⟩⟩
    · have z1 : ¬ (i : Int) < (j : Int) := by omega
      obtain rfl : i = j := by omega
      go_wp2_with fail
      go_ret
      exact ⟨i, rfl, ⟨hjk, HI.out.1, HI.out.2⟩, m, rfl⟩
theorem search_zero (f : Value) (w : World) :
    Calls Tryd.prog 27 #[.int .i64 0, f] w fun e w' => e = .returned (.int .i64 0) ∧ w' = w := by
  go_enter Tryd.func27, Tryd.ntmps27
  go_wp2
  go_loopg [5, 6] (0) (fun g vi vj wr => vi = .int .i64 0 ∧ vj = .int .i64 0 ∧ wr = w)
  case atStart => exact ⟨rfl, rfl, rfl⟩
  case round =>
    obtain ⟨rfl, rfl, rfl⟩ := hrel
    go_wp2_with fail
    go_ret
    exact ⟨rfl, rfl⟩
theorem ahead_any (P : Nat → Nat) (k : Nat) (v : Value) (x : Int) (w : World) (hk : k ≤ 5000) (hP : ∀ i j, i ≤ j → j < k → P i ≤ P j) (h : ISl w v k P) :
    Calls Tryd.prog 22 #[v, .int .i64 x] w fun e w' => ∃ i : Nat, e = .returned (.int .i64 i) ∧ Ahd k P x i ∧ Below w.heap.size w w' := by
  have hmf : ∀ (fn : Fn) (first cap : Array Value) (w : World), (Instr.makeFunc fn first cap).run Tryd.prog w = .ok (.func fn first cap) w := fun _ _ _ _ => rfl
  rcases h with ⟨ad, c, rfl, rfl⟩ | ⟨b, c, rfl, h⟩
  · go_enter Tryd.func22, Tryd.ntmps22
    go_wp2_with fail
    refine (search_zero _ _).mono ?_
    rintro e w1 ⟨rfl, rfl⟩
    go_wp2
    go_ret
    exact ⟨0, rfl, ⟨Nat.le_refl _, fun j hj => absurd hj (Nat.not_lt_zero j), fun j _ hj => absurd hj (Nat.not_lt_zero j)⟩, ((Below.refl _ _).alloc (Nat.le_refl _) _).alloc (by simp only [World.size_alloc]; omega) _⟩
  · have HU : Hid (Up w.heap.size w ((w.alloc (.cells #[.slice (some ⟨b, 0, none⟩) k c] 52)).alloc (.cells #[.int .i64 x] 3))) := ((Up.refl w).alloc _).alloc _
    have ct := search_at P b k c w.heap.size (w.heap.size + 1) x ((w.alloc (.cells #[.slice (some ⟨b, 0, none⟩) k c] 52)).alloc (.cells #[.int .i64 x] 3)) hk hP (by simp) (by simp) (fun i hi => (HU.out.1.cell (World.block_lt_of_cell? w _ (h i hi))).trans (h i hi))
    clear h
    go_enter Tryd.func22, Tryd.ntmps22
    go_wp2_with fail
    refine ct.mono ?_
    rintro e w1 ⟨i, rfl, ha, m, rfl⟩
    go_wp2
    go_ret
    exact ⟨i, rfl, ha, Go.below_drewN HU.out.1 m⟩
end Go.Proofs.YtihplafalbokdaaDoor
