/- SpanSelf returns true for any two spans, and writes nothing that was there. -/
import Derived.Test.YtmhbdiaihjhmiaaKit
namespace Go.Proofs.Ytmhbdiaihjhmiaa
open Go.RowKit Go.ChangeShapes
theorem meetB_self (a l : Int) : meetB a l a l = (sndB a l && decide (0 < l)) := by
  cases h : sndB a l
  · simp [meetB, h]
  · simp only [meetB, h, Bool.true_and]
    congr 1
    apply propext
    constructor <;> intro _ <;> omega
theorem meetAt_self (a l : Int) (h : meetB a l a l = true) : meetAt a l a l = a ∧ meetLen a l a l = l := by
  simp only [meetAt, meetLen, h, if_true]
  constructor <;> omega
theorem bothB_comm (a l b m : Int) : bothB b m a l = bothB a l b m := by simp only [bothB, Bool.and_comm]
theorem meetB_comm (a l b m : Int) : meetB b m a l = meetB a l b m := by
  simp only [meetB, Bool.and_comm (sndB b m), Int.max_comm b a, Int.min_comm (b + m)]
theorem meetAt_comm (a l b m : Int) : meetAt b m a l = meetAt a l b m := by simp only [meetAt, meetB_comm a l b m, Int.max_comm b a]
theorem meetLen_comm (a l b m : Int) : meetLen b m a l = meetLen a l b m := by simp only [meetLen, meetB_comm a l b m, Int.max_comm b a, Int.min_comm (b + m)]
theorem joinAt_comm (a l b m : Int) : joinAt b m a l = joinAt a l b m := by simp only [joinAt, bothB_comm a l b m, Int.min_comm b a]
theorem joinLen_comm (a l b m : Int) : joinLen b m a l = joinLen a l b m := by simp only [joinLen, bothB_comm a l b m, Int.min_comm b a, Int.max_comm (b + m)]
set_option maxHeartbeats 2000000 in
theorem self_case (a l b m x0 x1 : Int) (w : World) (s wh v : Bool) (hs : sndB a l = s) (hl : decide (0 < l) = wh) (hv : meetB a l a l = v) (hsv : (s && wh) = v) (hx0 : meetAt a l a l = x0) (hx1 : meetLen a l a l = x1) (hx : v = true → x0 = a ∧ x1 = l) :
    Calls Try.prog 7 #[.agg #[.int .i64 a, .int .i64 l], .agg #[.int .i64 b, .int .i64 m]] w fun e w' => e = .returned (.bool true) ∧ Below w.heap.size w w' := by
  have k1 := meetB_comm a l b m
  have k2 := meetAt_comm a l b m
  have k3 := meetLen_comm a l b m
  have k4 := joinAt_comm a l b m
  have k5 := joinLen_comm a l b m
  have k6 := bothB_comm a l b m
  have HX : Hid (v = true → x0 = a ∧ x1 = l) := hx
  have HL : Hid (decide (0 < l) = wh) := hl
  have HS : Hid ((s && wh) = v) := hsv
  clear hx hl hsv
  go_enter Try.func7, Try.ntmps7
  go_wp2_with fail
  refine (awake_any _).mono ?_
  rintro e w1 ⟨rfl, hb1⟩
  have g1 := ((Up.refl w).alloc _).step hb1
  have La1 : Lies w1 w.heap.size a l := (Lies.new w _ _).step hb1
  have Lb1 : Lies w1 (w.heap.size + 1) b m := by simpa using Lies.fresh hb1
  clear hb1
  obtain ⟨ca0, ca1, ca2⟩ := id La1
  obtain ⟨cb0, cb1, cb2⟩ := id Lb1
  go_wp2_with fail
  refine (meet_any a l a l _).mono ?_
  rintro e w2 ⟨rfl, hb2⟩
  have g2 := g1.stay hb2
  have La2 : Lies w2 w.heap.size a l := La1.stay hb2
  have Lb2 : Lies w2 (w.heap.size + 1) b m := Lb1.stay hb2
  clear hb2 g1 La1 ca0 ca1 ca2 Lb1 cb0 cb1 cb2
  obtain ⟨ca0, ca1, ca2⟩ := id La2
  obtain ⟨cb0, cb1, cb2⟩ := id Lb2
  go_wp2_with fail
  refine (meet_any a l b m _).mono ?_
  rintro e w3 ⟨rfl, hb3⟩
  have g3 := g2.step hb3
  have La3 : Lies w3 w.heap.size a l := La2.step hb3
  have Lb3 : Lies w3 (w.heap.size + 1) b m := Lb2.step hb3
  have Lm3 : Lies w3 w2.heap.size x0 x1 := Lies.fresh hb3
  clear hb3 g2 La2 ca0 ca1 ca2 Lb2 cb0 cb1 cb2
  obtain ⟨ca0, ca1, ca2⟩ := id La3
  obtain ⟨cb0, cb1, cb2⟩ := id Lb3
  obtain ⟨cm0, cm1, cm2⟩ := id Lm3
  go_wp2_with fail
  refine (meet_any b m a l _).mono ?_
  rintro e w4 ⟨rfl, hb4⟩
  have g4 := g3.step hb4
  have La4 : Lies w4 w.heap.size a l := La3.step hb4
  have Lb4 : Lies w4 (w.heap.size + 1) b m := Lb3.step hb4
  have Lm4 : Lies w4 w2.heap.size x0 x1 := Lm3.step hb4
  have Lx4 : Lies w4 w3.heap.size (meetAt a l b m) (meetLen a l b m) := Lies.fresh hb4
  clear hb4 g3 La3 ca0 ca1 ca2 Lb3 cb0 cb1 cb2 Lm3 cm0 cm1 cm2
  obtain ⟨ca0, ca1, ca2⟩ := id La4
  obtain ⟨cb0, cb1, cb2⟩ := id Lb4
  obtain ⟨cm0, cm1, cm2⟩ := id Lm4
  obtain ⟨cx0, cx1, cx2⟩ := id Lx4
  go_wp2_with fail
  refine (join_any a l b m _).mono ?_
  rintro e w5 ⟨rfl, hb5⟩
  have g5 := g4.step hb5
  have La5 : Lies w5 w.heap.size a l := La4.step hb5
  have Lb5 : Lies w5 (w.heap.size + 1) b m := Lb4.step hb5
  have Lm5 : Lies w5 w2.heap.size x0 x1 := Lm4.step hb5
  have Lx5 : Lies w5 w3.heap.size (meetAt a l b m) (meetLen a l b m) := Lx4.step hb5
  have Ly5 : Lies w5 w4.heap.size (meetAt a l b m) (meetLen a l b m) := Lies.fresh hb5
  clear hb5 g4 La4 ca0 ca1 ca2 Lb4 cb0 cb1 cb2 Lm4 cm0 cm1 cm2 Lx4 cx0 cx1 cx2
  obtain ⟨ca0, ca1, ca2⟩ := id La5
  obtain ⟨cb0, cb1, cb2⟩ := id Lb5
  obtain ⟨cm0, cm1, cm2⟩ := id Lm5
  obtain ⟨cx0, cx1, cx2⟩ := id Lx5
  obtain ⟨cy0, cy1, cy2⟩ := id Ly5
  go_wp2_with fail
  refine (join_any b m a l _).mono ?_
  rintro e w6 ⟨rfl, hb6⟩
  have g6 := g5.step hb6
  have La6 : Lies w6 w.heap.size a l := La5.step hb6
  have Lb6 : Lies w6 (w.heap.size + 1) b m := Lb5.step hb6
  have Lm6 : Lies w6 w2.heap.size x0 x1 := Lm5.step hb6
  have Lx6 : Lies w6 w3.heap.size (meetAt a l b m) (meetLen a l b m) := Lx5.step hb6
  have Ly6 : Lies w6 w4.heap.size (meetAt a l b m) (meetLen a l b m) := Ly5.step hb6
  have Lz6 : Lies w6 w5.heap.size (joinAt a l b m) (joinLen a l b m) := Lies.fresh hb6
  clear hb6 g5 La5 ca0 ca1 ca2 Lb5 cb0 cb1 cb2 Lm5 cm0 cm1 cm2 Lx5 cx0 cx1 cx2 Ly5 cy0 cy1 cy2
  obtain ⟨ca0, ca1, ca2⟩ := id La6
  obtain ⟨cb0, cb1, cb2⟩ := id Lb6
  obtain ⟨cm0, cm1, cm2⟩ := id Lm6
  obtain ⟨cx0, cx1, cx2⟩ := id Lx6
  obtain ⟨cy0, cy1, cy2⟩ := id Ly6
  obtain ⟨cz0, cz1, cz2⟩ := id Lz6
  go_wp2_with fail
  refine (refSound_bel a l _).mono ?_
  rintro e w7 ⟨rfl, hb7⟩
  have g7 := g6.step hb7
  have La7 : Lies w7 w.heap.size a l := La6.step hb7
  have Lb7 : Lies w7 (w.heap.size + 1) b m := Lb6.step hb7
  have Lm7 : Lies w7 w2.heap.size x0 x1 := Lm6.step hb7
  have Lx7 : Lies w7 w3.heap.size (meetAt a l b m) (meetLen a l b m) := Lx6.step hb7
  have Ly7 : Lies w7 w4.heap.size (meetAt a l b m) (meetLen a l b m) := Ly6.step hb7
  have Lz7 : Lies w7 w5.heap.size (joinAt a l b m) (joinLen a l b m) := Lz6.step hb7
  have Lu7 : Lies w7 w6.heap.size (joinAt a l b m) (joinLen a l b m) := Lies.fresh hb7
  clear hb7 g6 La6 ca0 ca1 ca2 Lb6 cb0 cb1 cb2 Lm6 cm0 cm1 cm2 Lx6 cx0 cx1 cx2 Ly6 cy0 cy1 cy2 Lz6 cz0 cz1 cz2
  obtain ⟨ca0, ca1, ca2⟩ := id La7
  obtain ⟨cb0, cb1, cb2⟩ := id Lb7
  obtain ⟨cm0, cm1, cm2⟩ := id Lm7
  obtain ⟨cx0, cx1, cx2⟩ := id Lx7
  obtain ⟨cy0, cy1, cy2⟩ := id Ly7
  obtain ⟨cz0, cz1, cz2⟩ := id Lz7
  obtain ⟨cu0, cu1, cu2⟩ := id Lu7
  have hl := HL.out
  have hsv := HS.out
  have hx := HX.out
  clear HL HS HX k1 k2 k3 k4 k5 k6 La7 Lb7 Lm7 Lx7 Ly7 Lz7 Lu7
  have G : Hid (Up w.heap.size w w7) := g7
  clear g7
  cases s
  · obtain rfl : v = false := by simpa using hsv.symm
    clear hx hsv
    go_wp2
    go_ret
    exact ⟨rfl, G.out.1⟩
  · cases wh
    · obtain rfl : v = false := by simpa using hsv.symm
      clear hx hsv
      go_wp2
      go_ret
      exact ⟨rfl, G.out.1⟩
    · obtain rfl : v = true := by simpa using hsv.symm
      obtain ⟨rfl, rfl⟩ := hx rfl
      clear hx hsv
      go_wp2
      go_ret
      exact ⟨rfl, G.out.1⟩
theorem self_any (a l b m : Int) (w : World) :
    Calls Try.prog 7 #[.agg #[.int .i64 a, .int .i64 l], .agg #[.int .i64 b, .int .i64 m]] w fun e w' => e = .returned (.bool true) ∧ Below w.heap.size w w' :=
  self_case a l b m _ _ w _ _ _ rfl rfl rfl (meetB_self a l).symm rfl rfl (fun h => meetAt_self a l h)
end Go.Proofs.Ytmhbdiaihjhmiaa
