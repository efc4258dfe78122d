/- The law DistParts. -/
import Derived.Test.YtkgabdmicpfnmaaqSrc
namespace Go.Proofs.Ytkgabdmicpfnmaa
set_option linter.unusedVariables false
open Go.RowKit Go.ChangeShapes
theorem join_any {w : World} {vx vy : Value} {X Y : List Int} (hX : RSl w vx X.length (at_ X)) (hY : RSl w vy Y.length (at_ Y)) (h1 : X.length ≤ 1000) (h2 : Y.length ≤ 1000) :
    Calls Try.prog 16 #[vx, vy] w fun e w' => ∃ v, e = .returned v ∧ OR w' w.heap.size v (X ++ Y) ∧ Up w.heap.size w w' := by
  have HX : Hid (RSl w vx X.length (at_ X)) := hX
  have HY : Hid (RSl w vy Y.length (at_ Y)) := hY
  obtain ⟨ax, cx, rfl⟩ := hX.form
  obtain ⟨ay, cy, rfl⟩ := hY.form
  clear hX hY
  have H0 : Hid (OR (w.alloc (.cells #[] 21)) w.heap.size (.slice (some ⟨w.heap.size, 0, none⟩) 0 0) []) := or_empty w _ (Nat.le_refl _)
  have HU0 : Hid (Up w.heap.size w (w.alloc (.cells #[] 21))) := (Up.refl w).alloc _
  obtain ⟨w0, hw0⟩ : ∃ x, w.alloc (.cells #[] 21) = x := ⟨_, rfl⟩
  rw [hw0] at H0 HU0
  go_enter Try.func16, Try.ntmps16
  go_wp2_with (refine app_runes rfl _ _ rfl w.heap.size _ [] rfl H0.out _ X rfl (HX.out.stay HU0.out.1) (by simp; omega) HU0.out.2 ?_)
  intro v1 w1 hO1 hg1
  have HO1 : Hid (OR w1 w.heap.size v1 ([] ++ X)) := hO1
  have HU1 : Hid (Up w.heap.size w w1) := HU0.out.grown hg1 (fun k hk => own_base H0.out k hk)
  clear hO1 hg1 H0 HU0
  go_wp2_with (refine app_runes rfl _ _ rfl w.heap.size _ ([] ++ X) rfl HO1.out _ Y rfl (HY.out.stay HU1.out.1) (by simp; omega) HU1.out.2 ?_)
  intro v2 w2 hO2 hg2
  have HO2 : Hid (OR w2 w.heap.size v2 (X ++ Y)) := hO2
  have HU2 : Hid (Up w.heap.size w w2) := HU1.out.grown hg2 (fun k hk => own_base HO1.out k hk)
  clear hO2 hg2 HO1 HU1
  go_wp2
  go_ret
  exact ⟨v2, rfl, HO2.out, HU2.out⟩
theorem run_max4 {P : Program} (w : World) (ts : Array TypeId) (t : TypeId) (k : IntKind) (x y z u m : Int) (hm : max (max (max x y) z) u = m) :
    (Builtin.max_ ts t #[.int k x, .int k y, .int k z, .int k u]).run P w = .ok (.int k m) w := by
  have e : ∀ x y : Int, (if y > x then y else x) = max x y := fun x y => by
    rw [Int.max_def]
    split <;> split <;> omega
  subst hm
  simp [Builtin.max_, Builtin.max2, e]
set_option maxHeartbeats 1000000 in
set_option maxRecDepth 100000 in
theorem parts_law {w : World} {va vb vc vd : Value} {A B C D : List Int} (hA : RSl w va A.length (at_ A)) (hB : RSl w vb B.length (at_ B)) (hC : RSl w vc C.length (at_ C)) (hD : RSl w vd D.length (at_ D)) (mA : A.length ≤ maxLen) (mB : B.length ≤ maxLen) (mC : C.length ≤ maxLen) (mD : D.length ≤ maxLen) :
    Calls Try.prog 8 #[va, vb, vc, vd] w fun e w' => e = .returned (.bool true) ∧ Below w.heap.size w w' := by
  have HA : Hid (RSl w va A.length (at_ A)) := hA
  obtain ⟨aa, ca, rfl⟩ := hA.form
  have HB : Hid (RSl w vb B.length (at_ B)) := hB
  obtain ⟨ab, cb, rfl⟩ := hB.form
  have HC : Hid (RSl w vc C.length (at_ C)) := hC
  obtain ⟨ac, cc, rfl⟩ := hC.form
  have HD : Hid (RSl w vd D.length (at_ D)) := hD
  obtain ⟨ad, cd, rfl⟩ := hD.form
  clear hA hB hC hD
  have c0 := awake_any w
  obtain ⟨q, hq⟩ : ∃ q : Int, max (max (max (A.length : Int) (B.length : Int)) (C.length : Int)) (D.length : Int) = q := ⟨_, rfl⟩
  have hm4 : ∀ w : World, (Builtin.max_ #[3, 3, 3, 3] 3 #[.int .i64 (A.length : Int), .int .i64 (B.length : Int), .int .i64 (C.length : Int), .int .i64 (D.length : Int)]).run Try.prog w = .ok (.int .i64 q) w := fun w => run_max4 w _ _ _ _ _ _ _ _ hq
  by_cases h1 : 30 < q
  · clear hq
    go_enter Try.func8, Try.ntmps8
    go_wp2_with fail
    refine c0.mono ?_
    rintro e w1 ⟨rfl, hU1⟩
    have HU : Hid (Up w.heap.size w w1) := hU1
    clear hU1 c0
    go_wp2
    go_ret
    exact ⟨rfl, HU.out.1⟩
  have lA : Hid (A.length ≤ 30 ∧ B.length ≤ 30 ∧ C.length ≤ 30 ∧ D.length ≤ 30) := by show _ ∧ _; omega
  clear hq
  have f0 := far_cat A B C D
  have f1 := far_cat A A C D
  have f2 := far_cat A B C C
  rw [far_self] at f1 f2
  obtain ⟨x0, e0⟩ : ∃ x, far (A ++ C) (B ++ D) = x := ⟨_, rfl⟩
  obtain ⟨x1, e1⟩ : ∃ x, far A B = x := ⟨_, rfl⟩
  obtain ⟨x2, e2⟩ : ∃ x, far C D = x := ⟨_, rfl⟩
  obtain ⟨x3, e3⟩ : ∃ x, far (A ++ C) (A ++ D) = x := ⟨_, rfl⟩
  obtain ⟨x4, e4⟩ : ∃ x, far (A ++ C) (B ++ C) = x := ⟨_, rfl⟩
  have n1 := (far_max A B).1
  have n2 := (far_max C D).1
  rw [e0, e1, e2] at f0
  rw [e3, e2] at f1
  rw [e4, e1] at f2
  rw [e1] at n1
  rw [e2] at n2
  have g0 : (x0 : Int) ≤ (x1 : Int) + (x2 : Int) := by omega
  have g1 : (x3 : Int) ≤ (x2 : Int) := by omega
  have g2 : (x4 : Int) ≤ (x1 : Int) := by omega
  have g3 : (x1 : Int) ≤ 100 := by have := lA.out; omega
  have g4 : (x2 : Int) ≤ 100 := by have := lA.out; omega
  have g5 : (0 : Int) ≤ (x1 : Int) := by omega
  have g6 : (0 : Int) ≤ (x2 : Int) := by omega
  have E : Hid (far (A ++ C) (B ++ D) = x0 ∧ far A B = x1 ∧ far C D = x2 ∧ far (A ++ C) (A ++ D) = x3 ∧ far (A ++ C) (B ++ C) = x4) := ⟨e0, e1, e2, e3, e4⟩
  clear e0 e1 e2 e3 e4 f0 f1 f2 n1 n2
  go_enter Try.func8, Try.ntmps8
  go_wp2_with fail
  refine c0.mono ?_
  rintro e w1 ⟨rfl, hU1⟩
  have HU1 : Hid (Up w.heap.size w w1) := hU1
  clear hU1 c0
  have c1 := join_any (HA.out.stay HU1.out.1) (HC.out.stay HU1.out.1) (by have := lA.out; omega) (by have := lA.out; omega)
  go_wp2_with fail
  refine c1.mono ?_
  rintro e w2 ⟨v2, rfl, hO, hU⟩
  have HO2 : Hid (OR w2 w1.heap.size v2 (A ++ C)) := hO
  have HU2 : Hid (Up w.heap.size w w2) := HU1.out.stay hU.1
  clear hO hU c1
  have HP : Hid (RSl w2 v2 (A ++ C).length (at_ (A ++ C))) := HO2.out.rsl
  have c2 := join_any (HB.out.stay HU2.out.1) (HD.out.stay HU2.out.1) (by have := lA.out; omega) (by have := lA.out; omega)
  go_wp2_with fail
  refine c2.mono ?_
  rintro e w3 ⟨v3, rfl, hO, hU⟩
  have HO3 : Hid (OR w3 w2.heap.size v3 (B ++ D)) := hO
  have HU3 : Hid (Up w.heap.size w w3) := HU2.out.stay hU.1
  have HR2at3 : Hid (RSl w3 v2 (A ++ C).length (at_ (A ++ C))) := HP.out.stay hU.1
  have HR3at3 : Hid (RSl w3 v3 (B ++ D).length (at_ (B ++ D))) := HO3.out.rsl
  clear hO hU c2 HP HO2 HO3
  have c3 := of_far HR2at3.out HR3at3.out (by have := lA.out; simp only [List.length_append]; omega) (by have := lA.out; simp only [List.length_append]; omega)
  rw [E.out.1] at c3
  go_wp2_with fail
  refine c3.mono ?_
  rintro e w4 ⟨rfl, hU⟩
  have HU4 : Hid (Up w.heap.size w w4) := HU3.out.stay hU
  clear hU c3
  clear HR2at3 HR3at3
  have c4 := of_far (HA.out.stay HU4.out.1) (HB.out.stay HU4.out.1) (by have := lA.out; omega) (by have := lA.out; omega)
  rw [E.out.2.1] at c4
  go_wp2_with fail
  refine c4.mono ?_
  rintro e w5 ⟨rfl, hU⟩
  have HU5 : Hid (Up w.heap.size w w5) := HU4.out.stay hU
  clear hU c4
  have c5 := of_far (HC.out.stay HU5.out.1) (HD.out.stay HU5.out.1) (by have := lA.out; omega) (by have := lA.out; omega)
  rw [E.out.2.2.1] at c5
  go_wp2_with fail
  refine c5.mono ?_
  rintro e w6 ⟨rfl, hU⟩
  have HU6 : Hid (Up w.heap.size w w6) := HU5.out.stay hU
  clear hU c5
  have c6 := join_any (HA.out.stay HU6.out.1) (HC.out.stay HU6.out.1) (by have := lA.out; omega) (by have := lA.out; omega)
  go_wp2_with fail
  refine c6.mono ?_
  rintro e w7 ⟨v7, rfl, hO, hU⟩
  have HO7 : Hid (OR w7 w6.heap.size v7 (A ++ C)) := hO
  have HU7 : Hid (Up w.heap.size w w7) := HU6.out.stay hU.1
  clear hO hU c6
  have HP : Hid (RSl w7 v7 (A ++ C).length (at_ (A ++ C))) := HO7.out.rsl
  have c7 := join_any (HA.out.stay HU7.out.1) (HD.out.stay HU7.out.1) (by have := lA.out; omega) (by have := lA.out; omega)
  go_wp2_with fail
  refine c7.mono ?_
  rintro e w8 ⟨v8, rfl, hO, hU⟩
  have HO8 : Hid (OR w8 w7.heap.size v8 (A ++ D)) := hO
  have HU8 : Hid (Up w.heap.size w w8) := HU7.out.stay hU.1
  have HR7at8 : Hid (RSl w8 v7 (A ++ C).length (at_ (A ++ C))) := HP.out.stay hU.1
  have HR8at8 : Hid (RSl w8 v8 (A ++ D).length (at_ (A ++ D))) := HO8.out.rsl
  clear hO hU c7 HP HO7 HO8
  have c8 := of_far HR7at8.out HR8at8.out (by have := lA.out; simp only [List.length_append]; omega) (by have := lA.out; simp only [List.length_append]; omega)
  rw [E.out.2.2.2.1] at c8
  go_wp2_with fail
  refine c8.mono ?_
  rintro e w9 ⟨rfl, hU⟩
  have HU9 : Hid (Up w.heap.size w w9) := HU8.out.stay hU
  clear hU c8
  clear HR7at8 HR8at8
  have c9 := of_far (HC.out.stay HU9.out.1) (HD.out.stay HU9.out.1) (by have := lA.out; omega) (by have := lA.out; omega)
  rw [E.out.2.2.1] at c9
  go_wp2_with fail
  refine c9.mono ?_
  rintro e w10 ⟨rfl, hU⟩
  have HU10 : Hid (Up w.heap.size w w10) := HU9.out.stay hU
  clear hU c9
  have c10 := join_any (HA.out.stay HU10.out.1) (HC.out.stay HU10.out.1) (by have := lA.out; omega) (by have := lA.out; omega)
  go_wp2_with fail
  refine c10.mono ?_
  rintro e w11 ⟨v11, rfl, hO, hU⟩
  have HO11 : Hid (OR w11 w10.heap.size v11 (A ++ C)) := hO
  have HU11 : Hid (Up w.heap.size w w11) := HU10.out.stay hU.1
  clear hO hU c10
  have HP : Hid (RSl w11 v11 (A ++ C).length (at_ (A ++ C))) := HO11.out.rsl
  have c11 := join_any (HB.out.stay HU11.out.1) (HC.out.stay HU11.out.1) (by have := lA.out; omega) (by have := lA.out; omega)
  go_wp2_with fail
  refine c11.mono ?_
  rintro e w12 ⟨v12, rfl, hO, hU⟩
  have HO12 : Hid (OR w12 w11.heap.size v12 (B ++ C)) := hO
  have HU12 : Hid (Up w.heap.size w w12) := HU11.out.stay hU.1
  have HR11at12 : Hid (RSl w12 v11 (A ++ C).length (at_ (A ++ C))) := HP.out.stay hU.1
  have HR12at12 : Hid (RSl w12 v12 (B ++ C).length (at_ (B ++ C))) := HO12.out.rsl
  clear hO hU c11 HP HO11 HO12
  have c12 := of_far HR11at12.out HR12at12.out (by have := lA.out; simp only [List.length_append]; omega) (by have := lA.out; simp only [List.length_append]; omega)
  rw [E.out.2.2.2.2] at c12
  go_wp2_with fail
  refine c12.mono ?_
  rintro e w13 ⟨rfl, hU⟩
  have HU13 : Hid (Up w.heap.size w w13) := HU12.out.stay hU
  clear hU c12
  clear HR11at12 HR12at12
  have c13 := of_far (HA.out.stay HU13.out.1) (HB.out.stay HU13.out.1) (by have := lA.out; omega) (by have := lA.out; omega)
  rw [E.out.2.1] at c13
  go_wp2_with fail
  refine c13.mono ?_
  rintro e w14 ⟨rfl, hU⟩
  have HU14 : Hid (Up w.heap.size w w14) := HU13.out.stay hU
  clear hU c13
  go_wp2
  go_ret
  exact ⟨rfl, HU14.out.1⟩
end Go.Proofs.Ytkgabdmicpfnmaa
