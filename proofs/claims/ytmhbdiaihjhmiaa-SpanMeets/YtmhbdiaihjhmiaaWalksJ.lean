/- SpanMeets returns true for any two spans, and writes nothing that was there. -/
import Derived.Test.YtmhbdiaihjhmiaaKit
namespace Go.Proofs.Ytmhbdiaihjhmiaa
open Go.RowKit Go.ChangeShapes
set_option maxHeartbeats 2000000 in
theorem meets_any (a l b m : Int) (w : World) :
    Calls Try.prog 4 #[.agg #[.int .i64 a, .int .i64 l], .agg #[.int .i64 b, .int .i64 m]] w fun e w' => e = .returned (.bool true) ∧ Below w.heap.size w w' := by
  go_enter Try.func4, Try.ntmps4
  go_wp2_with fail
  refine (awake_any _).mono ?_
  rintro e w1 ⟨rfl, hb1⟩
  have g1 := ((Up.refl w).alloc _).step hb1
  have La1 : Lies w1 w.heap.size a l := (Lies.new w _ _).step hb1
  have Lb1 : Lies w1 (w.heap.size + 1) b m := by simpa using Lies.fresh hb1
  clear hb1
  obtain ⟨ca0, ca1, ca2⟩ := id La1
  obtain ⟨cb0, cb1, cb2⟩ := id Lb1
  go_wp2_with fail
  refine (meet_any a l b m _).mono ?_
  rintro e w2 ⟨rfl, hb2⟩
  have g2 := g1.stay hb2
  have La2 : Lies w2 w.heap.size a l := La1.stay hb2
  have Lb2 : Lies w2 (w.heap.size + 1) b m := Lb1.stay hb2
  clear hb2 g1 La1 ca0 ca1 ca2 Lb1 cb0 cb1 cb2
  obtain ⟨ca0, ca1, ca2⟩ := id La2
  obtain ⟨cb0, cb1, cb2⟩ := id Lb2
  go_wp2_with fail
  refine (refMeet_any a l b m _).mono ?_
  rintro e w3 ⟨rfl, hb3⟩
  have g3 := g2.step hb3
  have La3 : Lies w3 w.heap.size a l := La2.step hb3
  have Lb3 : Lies w3 (w.heap.size + 1) b m := Lb2.step hb3
  have Lx3 : Lies w3 w2.heap.size (meetAt a l b m) (meetLen a l b m) := Lies.fresh hb3
  clear hb3 g2 La2 ca0 ca1 ca2 Lb2 cb0 cb1 cb2
  obtain ⟨ca0, ca1, ca2⟩ := id La3
  obtain ⟨cb0, cb1, cb2⟩ := id Lb3
  obtain ⟨cx0, cx1, cx2⟩ := id Lx3
  go_wp2_with fail
  refine (join_any a l b m _).mono ?_
  rintro e w4 ⟨rfl, hb4⟩
  have g4 := g3.step hb4
  have La4 : Lies w4 w.heap.size a l := La3.step hb4
  have Lb4 : Lies w4 (w.heap.size + 1) b m := Lb3.step hb4
  have Lx4 : Lies w4 w2.heap.size (meetAt a l b m) (meetLen a l b m) := Lx3.step hb4
  have Ly4 : Lies w4 w3.heap.size (meetAt a l b m) (meetLen a l b m) := Lies.fresh hb4
  clear hb4 g3 La3 ca0 ca1 ca2 Lb3 cb0 cb1 cb2 Lx3 cx0 cx1 cx2
  obtain ⟨ca0, ca1, ca2⟩ := id La4
  obtain ⟨cb0, cb1, cb2⟩ := id Lb4
  obtain ⟨cx0, cx1, cx2⟩ := id Lx4
  obtain ⟨cy0, cy1, cy2⟩ := id Ly4
  go_wp2_with fail
  refine (refJoin_any a l b m _).mono ?_
  rintro e w5 ⟨rfl, hb5⟩
  have g5 := g4.step hb5
  have La5 : Lies w5 w.heap.size a l := La4.step hb5
  have Lb5 : Lies w5 (w.heap.size + 1) b m := Lb4.step hb5
  have Lx5 : Lies w5 w2.heap.size (meetAt a l b m) (meetLen a l b m) := Lx4.step hb5
  have Ly5 : Lies w5 w3.heap.size (meetAt a l b m) (meetLen a l b m) := Ly4.step hb5
  have Lz5 : Lies w5 w4.heap.size (joinAt a l b m) (joinLen a l b m) := Lies.fresh hb5
  clear hb5 g4 La4 ca0 ca1 ca2 Lb4 cb0 cb1 cb2 Lx4 cx0 cx1 cx2 Ly4 cy0 cy1 cy2
  obtain ⟨ca0, ca1, ca2⟩ := id La5
  obtain ⟨cb0, cb1, cb2⟩ := id Lb5
  obtain ⟨cx0, cx1, cx2⟩ := id Lx5
  obtain ⟨cy0, cy1, cy2⟩ := id Ly5
  obtain ⟨cz0, cz1, cz2⟩ := id Lz5
  clear La5 Lb5 Lx5 Ly5 Lz5
  have G : Hid (Up w.heap.size w w5) := g5
  clear g5
  cases q : bothB a l b m
  · have E : errB false = 2 := by decide
    go_wp2
    go_ret
    exact ⟨rfl, (G.out.alloc _).1⟩
  · have E : errB true = 0 := by decide
    go_wp2
    go_ret
    exact ⟨rfl, (G.out.alloc _).1⟩
end Go.Proofs.Ytmhbdiaihjhmiaa
