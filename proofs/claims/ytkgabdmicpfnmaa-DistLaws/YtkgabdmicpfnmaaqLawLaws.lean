/- The law DistLaws. -/
import Derived.Test.YtkgabdmicpfnmaaqSrc
import Derived.Test.YtkgabdmicpfnmaaqRef
namespace Go.Proofs.Ytkgabdmicpfnmaa
set_option linter.unusedVariables false
open Go.RowKit Go.ChangeShapes
set_option maxHeartbeats 1000000 in
set_option maxRecDepth 100000 in
theorem laws_law {w : World} {va vb : Value} {A B : List Int} (hA : RSl w va A.length (at_ A)) (hB : RSl w vb B.length (at_ B)) (mA : A.length ≤ maxLen) (mB : B.length ≤ maxLen) (r : Int) :
    Calls Try.prog 5 #[va, vb, .int .i32 r] w fun e w' => e = .returned (.bool true) ∧ Below w.heap.size w w' := by
  have HA : Hid (RSl w va A.length (at_ A)) := hA
  have HB : Hid (RSl w vb B.length (at_ B)) := hB
  obtain ⟨aa, ca, rfl⟩ := hA.form
  obtain ⟨ab, cb, rfl⟩ := hB.form
  clear hA hB
  have c0 := awake_any w
  generalize ek : A.length = k at *
  generalize en : B.length = n at *
  have EK : Hid (A.length = k) := ek
  have EN : Hid (B.length = n) := en
  clear ek en
  by_cases h1 : 60 < k
  · have z1 : (60 : Int) < (k : Int) := by omega
    clear h1
    go_enter Try.func5, Try.ntmps5
    go_wp2_with fail
    refine c0.mono ?_
    rintro e w1 ⟨rfl, hU1⟩
    have HU : Hid (Up w.heap.size w w1) := hU1
    clear hU1 c0
    go_wp2
    go_ret
    exact ⟨rfl, HU.out.1⟩
  have z1 : ¬ (60 : Int) < (k : Int) := by omega
  by_cases h2 : 60 < n
  · have z2 : (60 : Int) < (n : Int) := by omega
    clear h2
    go_enter Try.func5, Try.ntmps5
    go_wp2_with fail
    refine c0.mono ?_
    rintro e w1 ⟨rfl, hU1⟩
    have HU : Hid (Up w.heap.size w w1) := hU1
    clear hU1 c0
    go_wp2
    go_ret
    exact ⟨rfl, HU.out.1⟩
  have z2 : ¬ (60 : Int) < (n : Int) := by omega
  have CO : Hid (∀ w' : World, Below w.heap.size w w' → Calls Try.prog 10 #[.slice aa k ca, .slice ab n cb] w' fun e w'' => e = .returned (.int .i64 (far A B : Int)) ∧ Below w'.heap.size w' w'') := fun w' hb => of_far (by rw [EK.out]; exact HA.out.stay hb) (by rw [EN.out]; exact HB.out.stay hb) (by rw [EK.out]; omega) (by rw [EN.out]; omega)
  have CB : Hid (∀ w' : World, Below w.heap.size w w' → Calls Try.prog 10 #[.slice ab n cb, .slice aa k ca] w' fun e w'' => e = .returned (.int .i64 (far A B : Int)) ∧ Below w'.heap.size w' w'') := fun w' hb => by
    rw [far_comm A B]
    exact of_far (by rw [EN.out]; exact HB.out.stay hb) (by rw [EK.out]; exact HA.out.stay hb) (by rw [EN.out]; omega) (by rw [EK.out]; omega)
  have CM : Hid (∀ (w' : World) (v : Value) (base : Nat), Below w.heap.size w w' → OR w' base v (A ++ [r]) → Calls Try.prog 10 #[v, .slice ab n cb] w' fun e w'' => e = .returned (.int .i64 (far (A ++ [r]) B : Int)) ∧ Below w'.heap.size w' w'') := fun w' v base hb ho =>
    of_far ho.rsl (by rw [EN.out]; exact HB.out.stay hb) (by rw [List.length_append, EK.out]; simp; omega) (by rw [EN.out]; omega)
  have f1 := far_max A B
  rw [EK.out, EN.out] at f1
  have f2 := far_more A B r
  have f3 := far_zero A B
  obtain ⟨x, ex⟩ : ∃ x, far A B = x := ⟨_, rfl⟩
  obtain ⟨y, ey⟩ : ∃ x, far (A ++ [r]) B = x := ⟨_, rfl⟩
  rw [ex] at CO CB f1 f2 f3
  rw [ey] at CM f2
  have FX : Hid (x ≤ max k n ∧ k - n ≤ x ∧ n - k ≤ x) := f1
  have FY : Hid (y ≤ x + 1 ∧ x ≤ y + 1) := f2
  have FZ : Hid (x = 0 ↔ A = B) := f3
  clear f1 f2 f3 ex ey
  go_enter Try.func5, Try.ntmps5
  go_wp2_with fail
  refine c0.mono ?_
  rintro e w1 ⟨rfl, hU1⟩
  have HU : Hid (Up w.heap.size w w1) := hU1
  clear hU1 c0
  have c1 := CO.out w1 HU.out.1
  go_wp2_with fail
  refine c1.mono ?_
  rintro e w2 ⟨rfl, hU2⟩
  have HU2 : Hid (Up w.heap.size w w2) := HU.out.stay hU2
  clear hU2 c1
  go_wp2
  go_loopg [8, 9] (k) (fun g sv iv wr => ∃ (i : Nat) (s : Bool), i ≤ k ∧ g = k - i ∧ sv = .bool s ∧ iv = .int .i64 i ∧ Hid (s = true → k = n ∧ ∀ j, j < i → at_ A j = at_ B j) ∧ Hid (s = false → A ≠ B) ∧ Hid (Up w.heap.size w wr))
  case atStart =>
    refine ⟨0, decide (k = n), Nat.zero_le _, rfl, ?_, rfl, fun h => ⟨of_decide_eq_true h, fun j hj => absurd hj (Nat.not_lt_zero j)⟩, fun h e => of_decide_eq_false h (by rw [← EK.out, ← EN.out, e]), HU2.out⟩
    congr 1
    by_cases h : k = n
    · simp [h]
    · have h' : ¬ (k : Int) = (n : Int) := by omega
      simp [h, h']
  case round =>
    obtain ⟨i, s, hi, hg, rfl, rfl, HS, HF, HU3⟩ := hrel
    have z3 : (0 : Int) ≤ (i : Int) := by omega
    by_cases hgo : s = true ∧ i < k
    · obtain ⟨rfl, hlt⟩ := hgo
      have hkn := (HS.out rfl).1
      have hj := (HS.out rfl).2
      have HKN : Hid (k = n) := hkn
      have HJ : Hid (∀ j, j < i → at_ A j = at_ B j) := hj
      have z4 : (i : Int) < (k : Int) := by omega
      have z5 : (i : Int) < (n : Int) := by omega
      obtain ⟨fa, oa, rfl, hRA⟩ := HA.out.at (by omega)
      obtain ⟨fb, ob, rfl, hRB⟩ := HB.out.at (by omega)
      have ca' := (hRA.stay HU3.out.1) i (by omega)
      have cb' := (hRB.stay HU3.out.1) i (by omega)
      clear hRA hRB hkn hj HS HF
      go_upto_region 10 with fail
      go_quiet (fail)
      go_wp2
      go_roundg (k - (i + 1))
      case measure => omega
      case rel =>
        refine ⟨i + 1, at_ A i == at_ B i, by omega, rfl, ?_, by go_num, fun h => ⟨HKN.out, fun j hj => ?_⟩, fun h e => ?_, HU3.out.drewN _⟩
        · rfl
        · rcases Nat.lt_or_ge j i with q | q
          · exact HJ.out j q
          · obtain rfl : j = i := by omega
            simpa using h
        · rw [e] at h
          simp at h
    cases s
    · have hne := HF.out rfl
      have hx : ¬ x = 0 := fun h => hne (FZ.out.1 h)
      have hx' : ((x : Int) == 0) = false := by simp; omega
      clear hne HS HF hgo
      obtain ⟨wa, hwa⟩ : ∃ x, wr.alloc (.cells #[] 21) = x := ⟨_, rfl⟩
      have H0 : Hid (OR wa wr.heap.size (.slice (some ⟨wr.heap.size, 0, none⟩) 0 0) []) := by show OR _ _ _ _; rw [← hwa]; exact or_empty wr _ (Nat.le_refl _)
      have HUa : Hid (Up wr.heap.size wr wa) := by show Up _ _ _; rw [← hwa]; exact (Up.refl wr).alloc _
      go_wp2_with (refine app_runes rfl _ _ rfl wr.heap.size _ [] rfl H0.out _ A rfl (by rw [EK.out]; exact HA.out.stay (HU3.out.stay HUa.out.1).1) (by rw [EK.out]; simp; omega) HUa.out.2 ?_)
      intro v4 w4 hO4 hg4
      have HO4 : Hid (OR w4 wr.heap.size v4 A) := hO4
      have HU4 : Hid (Up wr.heap.size wr w4) := HUa.out.grown hg4 (fun k hk => own_base H0.out k hk)
      clear hO4 hg4 H0 HUa hwa wa
      obtain ⟨wb, hwb⟩ : ∃ x, w4.alloc (.cells #[.int .i32 r] 21) = x := ⟨_, rfl⟩
      have HR5 : Hid (RSl wb (.slice (some ⟨w4.heap.size, 0, none⟩) 1 1) [r].length (at_ [r])) := by show RSl _ _ _ _; rw [← hwb]; exact Or.inr ⟨_, _, _, rfl, rs_new w4 [r]⟩
      have HUb : Hid (Up w4.heap.size w4 wb) := by show Up _ _ _; rw [← hwb]; exact (Up.refl w4).alloc _
      have HO5 : Hid (OR wb wr.heap.size v4 A) := HO4.out.stay HUb.out.1
      have HU5 : Hid (Up wr.heap.size wr wb) := HU4.out.stay HUb.out.1
      clear HO4 HU4 HUb
      go_wp2_with (refine app_runes rfl _ _ rfl wr.heap.size _ A rfl HO5.out _ [r] rfl HR5.out (by rw [EK.out]; simp; omega) HU5.out.2 ?_)
      intro v6 w6 hO6 hg6
      have HO6 : Hid (OR w6 wr.heap.size v6 (A ++ [r])) := hO6
      have HU6 : Hid (Up wr.heap.size wr w6) := HU5.out.grown hg6 (fun k hk => own_base HO5.out k hk)
      clear hO6 hg6 HO5 HU5 HR5 hwb wb
      have c6 := CM.out w6 v6 _ (HU3.out.stay HU6.out.1).1 HO6.out
      go_wp2_with fail
      refine c6.mono ?_
      rintro e w7 ⟨rfl, hU7⟩
      have HU7 : Hid (Up w.heap.size w w7) := (HU3.out.stay HU6.out.1).stay hU7
      clear hU7 c6 HU6 HO6
      have c7 := CB.out w7 HU7.out.1
      go_wp2_with fail
      refine c7.mono ?_
      rintro e w8 ⟨rfl, hU8⟩
      have HU8 : Hid (Up w.heap.size w w8) := HU7.out.stay hU8
      clear hU8 c7
      obtain ⟨p1, p2, p3⟩ := FX.out
      obtain ⟨p4, p5⟩ := FY.out
      have q1 : (x : Int) ≤ max (k : Int) (n : Int) := by omega
      have q2 : max (k : Int) (n : Int) - min (k : Int) (n : Int) ≤ (x : Int) := by omega
      have q3 : (y : Int) ≤ (x : Int) + 1 := by omega
      have q4 : (x : Int) - 1 ≤ (y : Int) := by omega
      have q5 : (x : Int) ≤ 100 := by omega
      have q6 : (0 : Int) ≤ (x : Int) := by omega
      have q7 : (0 : Int) ≤ max (k : Int) (n : Int) ∧ max (k : Int) (n : Int) ≤ 100 := by omega
      have q8 : (0 : Int) ≤ min (k : Int) (n : Int) ∧ min (k : Int) (n : Int) ≤ 100 := by omega
      clear p1 p2 p3 p4 p5
      go_wp2
      go_ret
      exact ⟨rfl, HU8.out.1⟩
    · obtain rfl : i = k := by
        rcases Nat.lt_or_ge i k with q | q
        · exact absurd ⟨rfl, q⟩ hgo
        · omega
      have he : A = B := same_all (by rw [EK.out, EN.out]; exact (HS.out rfl).1) (by rw [EK.out]; exact (HS.out rfl).2)
      have hx : x = 0 := FZ.out.2 he
      have hx' : ((x : Int) == 0) = true := by simp; omega
      have HX0 : Hid (x = 0) := hx
      clear he HS HF hgo hx
      have z4 : ¬ (i : Int) < (i : Int) := by omega
      obtain ⟨wa, hwa⟩ : ∃ x, wr.alloc (.cells #[] 21) = x := ⟨_, rfl⟩
      have H0 : Hid (OR wa wr.heap.size (.slice (some ⟨wr.heap.size, 0, none⟩) 0 0) []) := by show OR _ _ _ _; rw [← hwa]; exact or_empty wr _ (Nat.le_refl _)
      have HUa : Hid (Up wr.heap.size wr wa) := by show Up _ _ _; rw [← hwa]; exact (Up.refl wr).alloc _
      go_wp2_with (refine app_runes rfl _ _ rfl wr.heap.size _ [] rfl H0.out _ A rfl (by rw [EK.out]; exact HA.out.stay (HU3.out.stay HUa.out.1).1) (by rw [EK.out]; simp; omega) HUa.out.2 ?_)
      intro v4 w4 hO4 hg4
      have HO4 : Hid (OR w4 wr.heap.size v4 A) := hO4
      have HU4 : Hid (Up wr.heap.size wr w4) := HUa.out.grown hg4 (fun k hk => own_base H0.out k hk)
      clear hO4 hg4 H0 HUa hwa wa
      obtain ⟨wb, hwb⟩ : ∃ x, w4.alloc (.cells #[.int .i32 r] 21) = x := ⟨_, rfl⟩
      have HR5 : Hid (RSl wb (.slice (some ⟨w4.heap.size, 0, none⟩) 1 1) [r].length (at_ [r])) := by show RSl _ _ _ _; rw [← hwb]; exact Or.inr ⟨_, _, _, rfl, rs_new w4 [r]⟩
      have HUb : Hid (Up w4.heap.size w4 wb) := by show Up _ _ _; rw [← hwb]; exact (Up.refl w4).alloc _
      have HO5 : Hid (OR wb wr.heap.size v4 A) := HO4.out.stay HUb.out.1
      have HU5 : Hid (Up wr.heap.size wr wb) := HU4.out.stay HUb.out.1
      clear HO4 HU4 HUb
      go_wp2_with (refine app_runes rfl _ _ rfl wr.heap.size _ A rfl HO5.out _ [r] rfl HR5.out (by rw [EK.out]; simp; omega) HU5.out.2 ?_)
      intro v6 w6 hO6 hg6
      have HO6 : Hid (OR w6 wr.heap.size v6 (A ++ [r])) := hO6
      have HU6 : Hid (Up wr.heap.size wr w6) := HU5.out.grown hg6 (fun k hk => own_base HO5.out k hk)
      clear hO6 hg6 HO5 HU5 HR5 hwb wb
      have c6 := CM.out w6 v6 _ (HU3.out.stay HU6.out.1).1 HO6.out
      go_wp2_with fail
      refine c6.mono ?_
      rintro e w7 ⟨rfl, hU7⟩
      have HU7 : Hid (Up w.heap.size w w7) := (HU3.out.stay HU6.out.1).stay hU7
      clear hU7 c6 HU6 HO6
      have c7 := CB.out w7 HU7.out.1
      go_wp2_with fail
      refine c7.mono ?_
      rintro e w8 ⟨rfl, hU8⟩
      have HU8 : Hid (Up w.heap.size w w8) := HU7.out.stay hU8
      clear hU8 c7
      obtain ⟨p1, p2, p3⟩ := FX.out
      obtain ⟨p4, p5⟩ := FY.out
      have q1 : (x : Int) ≤ max (i : Int) (n : Int) := by omega
      have q2 : max (i : Int) (n : Int) - min (i : Int) (n : Int) ≤ (x : Int) := by omega
      have q3 : (y : Int) ≤ (x : Int) + 1 := by omega
      have q4 : (x : Int) - 1 ≤ (y : Int) := by omega
      have q5 : (x : Int) ≤ 100 := by omega
      have q6 : (0 : Int) ≤ (x : Int) := by omega
      have q7 : (0 : Int) ≤ max (i : Int) (n : Int) ∧ max (i : Int) (n : Int) ≤ 100 := by omega
      have q8 : (0 : Int) ≤ min (i : Int) (n : Int) ∧ min (i : Int) (n : Int) ≤ 100 := by omega
      clear p1 p2 p3 p4 p5
      go_wp2
      go_ret
      exact ⟨rfl, HU8.out.1⟩
end Go.Proofs.Ytkgabdmicpfnmaa
