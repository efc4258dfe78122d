/- SpanPlaces returns true for any two spans and any place, and writes nothing that was there. -/
import Derived.Test.YtmhbdiaihjhmiaaWalksK
namespace Go.Proofs.Ytmhbdiaihjhmiaa
open Go.RowKit Go.ChangeShapes
theorem has_iff (a l p : Int) : hasB a l p = true ↔ ((0 ≤ a ∧ a ≤ 65536) ∧ 0 ≤ l ∧ l ≤ 65536) ∧ a ≤ p ∧ p < a + l := by
  rw [← snd_iff]; simp [hasB]
theorem meet_iff (a l b m : Int) : meetB a l b m = true ↔ (((0 ≤ a ∧ a ≤ 65536) ∧ 0 ≤ l ∧ l ≤ 65536) ∧ (0 ≤ b ∧ b ≤ 65536) ∧ 0 ≤ m ∧ m ≤ 65536) ∧ max a b < min (a + l) (b + m) := by
  rw [← snd_iff, ← snd_iff]; simp [meetB]
theorem has_meet (a l b m p : Int) : hasB (meetAt a l b m) (meetLen a l b m) p = (hasB a l p && hasB b m p) := by
  rw [Bool.eq_iff_iff, Bool.and_eq_true, has_iff, has_iff, has_iff]
  cases h : meetB a l b m
  · have h' := (not_congr (meet_iff a l b m)).1 (by simp [h])
    simp only [meetAt, meetLen, h, Bool.false_eq_true, if_false]
    omega
  · have h' := (meet_iff a l b m).1 h
    simp only [meetAt, meetLen, h, if_true]
    omega
theorem has_join (a l b m p : Int) (hq : bothB a l b m = true) (hg : decide (65536 < joinLen a l b m) = false) (hxy : (hasB a l p || hasB b m p) = true) : hasB (joinAt a l b m) (joinLen a l b m) p = true := by
  obtain ⟨h1, h2⟩ := both_snd a l b m hq
  have q1 := (snd_iff _ _).1 h1
  have q2 := (snd_iff _ _).1 h2
  have hg' := of_decide_eq_false hg
  rw [Bool.or_eq_true, has_iff, has_iff] at hxy
  rw [has_iff]
  simp only [joinAt, joinLen, hq, if_true] at hg' ⊢
  omega
def PlR (w : World) (u v : Nat) (a l b m : Int) (w' : World) : Prop := Lies w' w.heap.size a l ∧ Lies w' (w.heap.size + 1) b m ∧ Lies w' u (meetAt a l b m) (meetLen a l b m) ∧ Lies w' v (joinAt a l b m) (joinLen a l b m) ∧ Up w.heap.size w w'
theorem PlS_of {w w' : World} {u v : Nat} {a l b m : Int} (h : PlR w u v a l b m w') : (fun w' => w'.cell? ⟨w.heap.size, 0, none⟩ = some (.int .i64 a) ∧ w'.cell? ⟨w.heap.size, 1, none⟩ = some (.int .i64 l) ∧ w'.cell? ⟨w.heap.size + 1, 0, none⟩ = some (.int .i64 b) ∧ w'.cell? ⟨w.heap.size + 1, 1, none⟩ = some (.int .i64 m) ∧ PlR w u v a l b m w') w' := ⟨h.1.1, h.1.2.1, h.2.1.1, h.2.1.2.1, h⟩
theorem PlS_stay (w : World) (u v : Nat) (a l b m : Int) : ∀ k k', (fun w' => w'.cell? ⟨w.heap.size, 0, none⟩ = some (.int .i64 a) ∧ w'.cell? ⟨w.heap.size, 1, none⟩ = some (.int .i64 l) ∧ w'.cell? ⟨w.heap.size + 1, 0, none⟩ = some (.int .i64 b) ∧ w'.cell? ⟨w.heap.size + 1, 1, none⟩ = some (.int .i64 m) ∧ PlR w u v a l b m w') k → Below k.heap.size k k' → (fun w' => w'.cell? ⟨w.heap.size, 0, none⟩ = some (.int .i64 a) ∧ w'.cell? ⟨w.heap.size, 1, none⟩ = some (.int .i64 l) ∧ w'.cell? ⟨w.heap.size + 1, 0, none⟩ = some (.int .i64 b) ∧ w'.cell? ⟨w.heap.size + 1, 1, none⟩ = some (.int .i64 m) ∧ PlR w u v a l b m w') k' :=
  fun _ _ h hb => PlS_of ⟨h.2.2.2.2.1.stay hb, h.2.2.2.2.2.1.stay hb, h.2.2.2.2.2.2.1.stay hb, h.2.2.2.2.2.2.2.1.stay hb, h.2.2.2.2.2.2.2.2.stay hb⟩
theorem PlS_drew {w k : World} {u v : Nat} {a l b m : Int} (h : (fun w' => w'.cell? ⟨w.heap.size, 0, none⟩ = some (.int .i64 a) ∧ w'.cell? ⟨w.heap.size, 1, none⟩ = some (.int .i64 l) ∧ w'.cell? ⟨w.heap.size + 1, 0, none⟩ = some (.int .i64 b) ∧ w'.cell? ⟨w.heap.size + 1, 1, none⟩ = some (.int .i64 m) ∧ PlR w u v a l b m w') k) : (fun w' => w'.cell? ⟨w.heap.size, 0, none⟩ = some (.int .i64 a) ∧ w'.cell? ⟨w.heap.size, 1, none⟩ = some (.int .i64 l) ∧ w'.cell? ⟨w.heap.size + 1, 0, none⟩ = some (.int .i64 b) ∧ w'.cell? ⟨w.heap.size + 1, 1, none⟩ = some (.int .i64 m) ∧ PlR w u v a l b m w') k.drew := PlS_stay w u v a l b m k _ h ((Below.refl _ _).drew)
set_option maxHeartbeats 2000000 in
theorem places_case (a l b m p : Int) (w : World) (x y q g z : Bool) (hx : hasB a l p = x) (hy : hasB b m p = y) (hq : bothB a l b m = q) (hg : decide (65536 < joinLen a l b m) = g) (hm : hasB (meetAt a l b m) (meetLen a l b m) p = (x && y)) (hj : hasB (joinAt a l b m) (joinLen a l b m) p = z) (hz : q = true → g = false → (x || y) = true → z = true) :
    Calls Try.prog 5 #[.agg #[.int .i64 a, .int .i64 l], .agg #[.int .i64 b, .int .i64 m], .int .i64 p] w fun e w' => e = .returned (.bool true) ∧ Below w.heap.size w w' := by
  have E0 : errB false = 2 := by decide
  have E1 : errB true = 0 := by decide
  have HZ : Hid (q = true → g = false → (x || y) = true → z = true) := hz
  clear hz
  go_enter Try.func5, Try.ntmps5
  go_wp2_with fail
  refine (awake_any _).mono ?_
  rintro e w1 ⟨rfl, hb1⟩
  have g1 := ((Up.refl w).alloc _).step hb1
  have La1 : Lies w1 w.heap.size a l := (Lies.new w _ _).step hb1
  have Lb1 : Lies w1 (w.heap.size + 1) b m := by simpa using Lies.fresh hb1
  clear hb1
  obtain ⟨ca0, ca1, ca2⟩ := id La1
  obtain ⟨cb0, cb1, cb2⟩ := id Lb1
  go_wp2_with fail
  refine (meet_any a l b m _).mono ?_
  rintro e w2 ⟨rfl, hb2⟩
  have g2 := g1.stay hb2
  have La2 : Lies w2 w.heap.size a l := La1.stay hb2
  have Lb2 : Lies w2 (w.heap.size + 1) b m := Lb1.stay hb2
  clear hb2 g1 La1 ca0 ca1 ca2 Lb1 cb0 cb1 cb2
  obtain ⟨ca0, ca1, ca2⟩ := id La2
  obtain ⟨cb0, cb1, cb2⟩ := id Lb2
  go_wp2_with fail
  refine (join_any a l b m _).mono ?_
  rintro e w3 ⟨rfl, hb3⟩
  have g3 := g2.step hb3
  have La3 : Lies w3 w.heap.size a l := La2.step hb3
  have Lb3 : Lies w3 (w.heap.size + 1) b m := Lb2.step hb3
  have Lm3 : Lies w3 w2.heap.size (meetAt a l b m) (meetLen a l b m) := Lies.fresh hb3
  clear hb3 g2 La2 ca0 ca1 ca2 Lb2 cb0 cb1 cb2
  obtain ⟨ca0, ca1, ca2⟩ := id La3
  obtain ⟨cb0, cb1, cb2⟩ := id Lb3
  obtain ⟨cm0, cm1, cm2⟩ := id Lm3
  go_wp2_with fail
  have hS : (fun w' => w'.cell? ⟨w.heap.size, 0, none⟩ = some (.int .i64 a) ∧ w'.cell? ⟨w.heap.size, 1, none⟩ = some (.int .i64 l) ∧ w'.cell? ⟨w.heap.size + 1, 0, none⟩ = some (.int .i64 b) ∧ w'.cell? ⟨w.heap.size + 1, 1, none⟩ = some (.int .i64 m) ∧ PlR w w2.heap.size w3.heap.size a l b m w') (w3.alloc (.cells #[.int .i64 (joinAt a l b m), .int .i64 (joinLen a l b m)] 23)) := PlS_of ⟨La3.alloc _, Lb3.alloc _, Lm3.alloc _, Lies.new _ _ _, g3.alloc _⟩
  clear La3 Lb3 Lm3 g3 ca0 ca1 ca2 cb0 cb1 cb2 cm0 cm1 cm2
  go_region_held3 (fun w' => w'.cell? ⟨w.heap.size, 0, none⟩ = some (.int .i64 a) ∧ w'.cell? ⟨w.heap.size, 1, none⟩ = some (.int .i64 l) ∧ w'.cell? ⟨w.heap.size + 1, 0, none⟩ = some (.int .i64 b) ∧ w'.cell? ⟨w.heap.size + 1, 1, none⟩ = some (.int .i64 m) ∧ PlR w w2.heap.size w3.heap.size a l b m w') (first | assumption | exact PlS_drew ‹_›) (first | (go_at_call_of 13 a; refine (has_S _ (PlS_stay w _ _ a l b m) a l p _ (by assumption)).mono ?_; rintro e w' ⟨rfl, hw'⟩) | (go_at_call_of 13 b; refine (has_S _ (PlS_stay w _ _ a l b m) b m p _ (by assumption)).mono ?_; rintro e w' ⟨rfl, hw'⟩))
  obtain ⟨_, _, _, _, R⟩ := hw'
  obtain ⟨La, Lb, Lm, Lj, U⟩ := R
  clear hS
  obtain ⟨cm0, cm1, cm2⟩ := id Lm
  clear La Lb
  go_wp2_with fail
  refine (has_any (meetAt a l b m) (meetLen a l b m) p _).mono ?_
  rintro e w5 ⟨rfl, hb5⟩
  have Lj5 := Lj.stay hb5
  have U5 : Hid (Up w.heap.size w w5) := U.stay hb5
  obtain ⟨cj0, cj1, cj2⟩ := id Lj5
  clear Lj Lm U hb5 cm0 cm1 cm2
  have hz := HZ.out
  clear HZ
  cases q
  · clear hz
    cases x <;> cases y
    all_goals
      go_wp2
      go_ret
      exact ⟨rfl, U5.out.1⟩
  · cases g
    · cases x <;> cases y
      · clear hz
        go_wp2
        go_ret
        exact ⟨rfl, U5.out.1⟩
      all_goals
        have hz' := hz rfl rfl rfl
        clear hz
        subst hz'
        go_wp2_with fail
        refine (has_any (joinAt a l b m) (joinLen a l b m) p _).mono ?_
        rintro e w6 ⟨rfl, hb6⟩
        have U6 : Hid (Up w.heap.size w w6) := U5.out.stay hb6
        clear hb6 U5
        go_wp2
        go_ret
        exact ⟨rfl, U6.out.1⟩
    · clear hz
      cases x <;> cases y
      all_goals
        go_wp2
        go_ret
        exact ⟨rfl, U5.out.1⟩
theorem places_any (a l b m p : Int) (w : World) :
    Calls Try.prog 5 #[.agg #[.int .i64 a, .int .i64 l], .agg #[.int .i64 b, .int .i64 m], .int .i64 p] w fun e w' => e = .returned (.bool true) ∧ Below w.heap.size w w' :=
  places_case a l b m p w _ _ _ _ _ rfl rfl rfl rfl (has_meet a l b m p) rfl (fun h1 h2 h3 => has_join a l b m p h1 h2 h3)
end Go.Proofs.Ytmhbdiaihjhmiaa
