/- The law DistEdits. -/
import Derived.Test.YtkgabdmicpfnmaaqEdt
namespace Go.Proofs.Ytkgabdmicpfnmaa
set_option linter.unusedVariables false
open Go.RowKit Go.ChangeShapes
set_option maxHeartbeats 2000000 in
set_option maxRecDepth 100000 in
theorem edits_law {w : World} {aa : Option Addr} {ca : Nat} {A : List Int} (hA : RSl w (.slice aa A.length ca) A.length (at_ A)) (mA : A.length ≤ maxLen) (hca : A.length ≤ ca) (t0 r kd0 : Int) (wt : (Lit.int .u8 t0).wf = true) (wk : (Lit.int .u8 kd0).wf = true) :
    Calls Try.prog 6 #[.slice aa A.length ca, .int .u8 t0, .int .i32 r, .int .u8 kd0] w fun e w' => e = .returned (.bool true) ∧ Below w.heap.size w w' := by
  obtain ⟨t, rfl, ht⟩ := u8_nat wt
  obtain ⟨kd, rfl, hkd⟩ := u8_nat wk
  clear wt wk
  have HA : Hid (RSl w (.slice aa A.length ca) A.length (at_ A)) := hA
  clear hA
  have c0 := awake_any w
  generalize ek : A.length = k at *
  have EK : Hid (A.length = k) := ek
  clear ek
  by_cases h1 : k = 0 ∨ 60 < k
  · have z : (k : Int) = 0 ∨ (¬ (k : Int) = 0 ∧ (60 : Int) < (k : Int)) := by omega
    clear h1
    rcases z with z1 | ⟨z1, z2⟩
    · have z1' : ((k : Int) == 0) = true := by simpa using z1
      go_enter Try.func6, Try.ntmps6
      go_wp2_with fail
      refine c0.mono ?_
      rintro e w1 ⟨rfl, hU1⟩
      have HU : Hid (Up w.heap.size w w1) := hU1
      clear hU1 c0
      go_wp2
      go_ret
      exact ⟨rfl, HU.out.1⟩
    · have z1' : ((k : Int) == 0) = false := by simpa using z1
      go_enter Try.func6, Try.ntmps6
      go_wp2_with fail
      refine c0.mono ?_
      rintro e w1 ⟨rfl, hU1⟩
      have HU : Hid (Up w.heap.size w w1) := hU1
      clear hU1 c0
      go_wp2
      go_ret
      exact ⟨rfl, HU.out.1⟩
  have z1 : ¬ (k : Int) = 0 := by omega
  have z1' : ((k : Int) == 0) = false := by simpa using z1
  have z2 : ¬ (60 : Int) < (k : Int) := by omega
  have hk0 : 0 < k := by omega
  have hk1 : k ≤ 60 := by omega
  obtain ⟨fa, oa, rfl, hRs⟩ := HA.out.at hk0
  have HRs : Hid (Rs w fa oa k (at_ A)) := hRs
  clear hRs
  obtain ⟨i, ei⟩ : ∃ i, t % k = i := ⟨_, rfl⟩
  have hi : i < k := by rw [← ei]; exact Nat.mod_lt _ hk0
  have ti : (t : Int).tmod (k : Int) = (i : Int) := by rw [← ei]; rfl
  obtain ⟨kk, ekk⟩ : ∃ kk, kd % 4 = kk := ⟨_, rfl⟩
  have hkk : kk < 4 := by rw [← ekk]; exact Nat.mod_lt _ (by decide)
  have tk : (kd : Int).tmod 4 = (kk : Int) := by rw [← ekk]; rfl
  clear ei ekk h1
  go_enter Try.func6, Try.ntmps6
  go_wp2_with fail
  refine c0.mono ?_
  rintro e w1 ⟨rfl, hU1⟩
  have HU : Hid (Up w.heap.size w w1) := hU1
  clear hU1 c0
  obtain ⟨wa, hwa⟩ : ∃ x, w1.alloc (.cells #[] 21) = x := ⟨_, rfl⟩
  have H0 : Hid (OR wa w1.heap.size (.slice (some ⟨w1.heap.size, 0, none⟩) 0 0) []) := by show OR _ _ _ _; rw [← hwa]; exact or_empty w1 _ (Nat.le_refl _)
  have HUa : Hid (Up w1.heap.size w1 wa) := by show Up _ _ _; rw [← hwa]; exact (Up.refl w1).alloc _
  go_wp2_with (refine app_runes rfl _ _ rfl w1.heap.size _ [] rfl H0.out _ A rfl (by rw [EK.out]; exact HA.out.stay (HU.out.stay HUa.out.1).1) (by rw [EK.out]; simp; omega) HUa.out.2 ?_)
  intro v4 w4 hO4 hg4
  have HO4 : Hid (OR w4 w1.heap.size v4 A) := hO4
  have HU4 : Hid (Up w1.heap.size w1 w4) := HUa.out.grown hg4 (fun k hk => own_base H0.out k hk)
  have HU5 : Hid (Up w.heap.size w w4) := HU.out.stay HU4.out.1
  clear hO4 hg4 H0 HUa hwa wa
  obtain ⟨gb, cb, rfl⟩ : ∃ gb cb, v4 = .slice (some ⟨gb, 0, none⟩) k cb := by
    obtain ⟨_, ⟨_, h0⟩ | ⟨g, cap, _, e, _⟩⟩ := HO4.out
    · rw [EK.out] at h0; omega
    · rw [EK.out] at e; exact ⟨g, cap, e⟩
  have x1 : (i : Int) ≤ (k : Int) := by omega
  have x2 : (0 : Int) ≤ (i : Int) := by omega
  have x3 : (i : Int) < (k : Int) := by omega
  have x4 : (i : Int) ≤ (ca : Int) := by omega
  have x5 : i ≤ ca := by omega
  have x6 : i ≤ k := by omega
  have x7 : ¬ ca = i := by omega
  have x8 : (k : Int) ≤ (ca : Int) := by omega
  obtain rfl | rfl | rfl | rfl : kk = 0 ∨ kk = 1 ∨ kk = 2 ∨ kk = 3 := by omega
  · have HTA : Hid (RSl w4 (.slice (some ⟨fa, oa, none⟩) i ca) (List.take i A).length (at_ (List.take i A))) := RSl.take (HRs.out.stay HU5.out.1) EK.out (by omega)
    have HTD : Hid (RSl w4 (.slice (some ⟨fa, oa + i, none⟩) (k - i) (ca - i)) (List.drop i A).length (at_ (List.drop i A))) := RSl.drop (HRs.out.stay HU5.out.1) EK.out (by omega) rfl (fun _ => rfl)
    have EK' := EK.out
    go_upto_region 11 with fail
    refine wp_region_held_drew (S := fun w' => Up w4.heap.size w4 w') (by kernel_rfl) ((Up.refl w4).drew) (fun hHeld => ?_)
    (try dsimp only at hHeld)
    obtain ⟨x0, hx0⟩ : ∃ x0, w4.drew = x0 := ⟨_, rfl⟩
    rw [hx0] at hHeld ⊢
    clear hx0
    refine takeH (i := 1) (v := ?_) (d := (some 55)) rfl (by kernel_rfl) (by kernel_rfl) (by kernel_rfl) rfl (fun _ _ _ h => h) (Or.inl ⟨by kernel_rfl, ?_⟩) (by assumption) ?_; rotate_left
    · (intro w hSw; (try dsimp only at hSw); first | (go_simp; done) | (go_simp; with_reducible rfl))
    (try simp only [Act.put, List.setIfInBounds_toArray, List.set_cons_zero, List.set_cons_succ])
    refine takeH (i := 2) (v := ?_) (d := (some 56)) rfl (by kernel_rfl) (by kernel_rfl) (by kernel_rfl) rfl (fun _ _ _ h => h) (Or.inl ⟨by kernel_rfl, ?_⟩) (by assumption) ?_; rotate_left
    · (intro w hSw; (try dsimp only at hSw); first | (go_simp; done) | (go_simp; with_reducible rfl))
    (try simp only [Act.put, List.setIfInBounds_toArray, List.set_cons_zero, List.set_cons_succ])
    refine takeH (i := 3) (v := ?_) (d := (some 57)) rfl (by kernel_rfl) (by kernel_rfl) (by kernel_rfl) rfl (fun _ _ _ h => h) (Or.inl ⟨by kernel_rfl, ?_⟩) (by assumption) ?_; rotate_left
    · (intro w hSw; (try dsimp only at hSw); first | (go_simp; done) | (go_simp; with_reducible rfl))
    (try simp only [Act.put, List.setIfInBounds_toArray, List.set_cons_zero, List.set_cons_succ])
    refine takeH (i := 5) (v := ?_) (d := (some 59)) rfl (by kernel_rfl) (by kernel_rfl) (by kernel_rfl) rfl (fun _ _ _ h => h) (Or.inl ⟨by kernel_rfl, ?_⟩) (by assumption) ?_; rotate_left
    · (intro w hSw; (try dsimp only at hSw); first | (go_simp; done) | (go_simp; with_reducible rfl))
    (try simp only [Act.put, List.setIfInBounds_toArray, List.set_cons_zero, List.set_cons_succ])
    refine takeH (i := 8) (v := ?_) (d := (some 62)) rfl (by kernel_rfl) (by kernel_rfl) (by kernel_rfl) rfl (fun _ _ _ h => h) (Or.inl ⟨by kernel_rfl, ?_⟩) (by assumption) ?_; rotate_left
    · (intro w hSw; (try dsimp only at hSw); first | (go_simp; done) | (go_simp; with_reducible rfl))
    (try simp only [Act.put, List.setIfInBounds_toArray, List.set_cons_zero, List.set_cons_succ])
    refine takeH (i := 9) (v := ?_) (d := (some 63)) rfl (by kernel_rfl) (by kernel_rfl) (by kernel_rfl) rfl (fun _ _ _ h => h) (Or.inl ⟨by kernel_rfl, ?_⟩) (by assumption) ?_; rotate_left
    · (intro w hSw; (try dsimp only at hSw); first | (go_simp; done) | (go_simp; with_reducible rfl))
    (try simp only [Act.put, List.setIfInBounds_toArray, List.set_cons_zero, List.set_cons_succ])
    refine takeH (i := 10) (v := ?_) (d := (some 64)) rfl (by kernel_rfl) (by kernel_rfl) (by kernel_rfl) rfl (fun _ _ _ h => h) (Or.inl ⟨by kernel_rfl, ?_⟩) (by assumption) ?_; rotate_left
    · (intro w hSw; (try dsimp only at hSw); first | (go_simp; done) | (go_simp; with_reducible rfl))
    (try simp only [Act.put, List.setIfInBounds_toArray, List.set_cons_zero, List.set_cons_succ])
    refine wpAnyH_ready (rs := [0, 6]) (by kernel_rfl) (by simp) (AllReadyH.cons rfl (fun K hK => ?_) (AllReadyH.cons rfl (fun K hK => ?_) AllReadyH.nil))
    · rw [if_pos (by kernel_rfl)]
      go_simp
      have O20 : Hid (OR (x0.alloc (.cells #[] 21)) w4.heap.size (.slice (some ⟨x0.heap.size, 0, none⟩) 0 0) []) := or_empty x0 _ hHeld.2
      refine hK.out _ _ (hHeld.alloc _ : Up w4.heap.size w4 _) (fun hHeld => ?_)
      clear hK K
      (try dsimp only at hHeld)
      (try simp only [Act.put, List.setIfInBounds_toArray, List.set_cons_zero, List.set_cons_succ])
      obtain ⟨x1, hx1⟩ : ∃ x1, x0.alloc (.cells #[] 21) = x1 := ⟨_, rfl⟩
      rw [hx1] at hHeld O20 ⊢
      refine wpAnyH_ready (rs := [4, 6]) (by kernel_rfl) (by simp) (AllReadyH.cons rfl (fun K hK => ?_) (AllReadyH.cons rfl (fun K hK => ?_) AllReadyH.nil))
      · rw [if_pos (by kernel_rfl)]
        refine app_runes_wp (.tmp 54) (.tmp 57) rfl w4.heap.size _ [] rfl O20.out _ (List.take i A) rfl (HTA.out.stay hHeld.1) (by simp; omega) hHeld.2 ?_
        intro v24 x2 ho24 hg24
        change K (Act.put _ (some 58) _) _
        have O24 : Hid (OR x2 w4.heap.size v24 ([] ++ (List.take i A))) := ho24
        have hu24 : Up w4.heap.size w4 x2 := hHeld.grown hg24 (own_base O20.out)
        clear ho24 hg24 O20
        refine hK.out _ _ (hu24 : Up w4.heap.size w4 _) (fun hHeld => ?_)
        clear hK K
        (try dsimp only at hHeld)
        (try simp only [Act.put, List.setIfInBounds_toArray, List.set_cons_zero, List.set_cons_succ])
        clear hu24
        refine wpAnyH_ready (rs := [6]) (by kernel_rfl) (by simp) (AllReadyH.cons rfl (fun K hK => ?_) AllReadyH.nil)
        rw [if_pos (by kernel_rfl)]
        go_simp
        have S26 : Hid (RSl (x2.alloc (.cells #[.int .i32 r] 21)) (.slice (some ⟨x2.heap.size, 0, none⟩) 1 1) [r].length (at_ [r])) := Or.inr ⟨_, _, _, rfl, rs_new x2 [r]⟩
        have O24' := O24.out.stay ((Below.refl _ _).alloc (Nat.le_refl _) (.cells #[.int .i32 r] 21))
        clear O24
        have O24 : Hid (OR _ _ _ _) := O24'
        clear O24'
        refine hK.out _ _ (hHeld.alloc _ : Up w4.heap.size w4 _) (fun hHeld => ?_)
        clear hK K
        (try dsimp only at hHeld)
        (try simp only [Act.put, List.setIfInBounds_toArray, List.set_cons_zero, List.set_cons_succ])
        obtain ⟨x3, hx3⟩ : ∃ x3, x2.alloc (.cells #[.int .i32 r] 21) = x3 := ⟨_, rfl⟩
        rw [hx3] at hHeld O24 S26 ⊢
        refine wpAnyH_ready (rs := [7]) (by kernel_rfl) (by simp) (AllReadyH.cons rfl (fun K hK => ?_) AllReadyH.nil)
        rw [if_pos (by kernel_rfl)]
        refine app_runes_wp (.tmp 58) (.tmp 60) rfl w4.heap.size _ ([] ++ (List.take i A)) rfl O24.out _ [r] rfl S26.out (by simp; omega) hHeld.2 ?_
        intro v27 y1 ho27 hg27
        change K (Act.put _ (some 61) _) _
        have O27 : Hid (OR y1 w4.heap.size v27 ([] ++ (List.take i A) ++ [r])) := ho27
        have hu27 : Up w4.heap.size w4 y1 := hHeld.grown hg27 (own_base O24.out)
        clear ho27 hg27 O24 S26
        refine hK.out _ _ (hu27 : Up w4.heap.size w4 _) (fun hHeld => ?_)
        clear hK K
        (try dsimp only at hHeld)
        (try simp only [Act.put, List.setIfInBounds_toArray, List.set_cons_zero, List.set_cons_succ])
        clear hu27
        refine wpAnyH_ready (rs := [11]) (by kernel_rfl) (by simp) (AllReadyH.cons rfl (fun K hK => ?_) AllReadyH.nil)
        rw [if_pos (by kernel_rfl)]
        refine app_runes_wp (.tmp 61) (.tmp 64) rfl w4.heap.size _ ([] ++ (List.take i A) ++ [r]) rfl O27.out _ (List.drop i A) rfl (HTD.out.stay hHeld.1) (by simp; omega) hHeld.2 ?_
        intro v31 y2 ho31 hg31
        change K (Act.put _ (some 65) _) _
        have O31 : Hid (OR y2 w4.heap.size v31 ([] ++ (List.take i A) ++ [r] ++ (List.drop i A))) := ho31
        have hu31 : Up w4.heap.size w4 y2 := hHeld.grown hg31 (own_base O27.out)
        clear ho31 hg31 O27
        refine hK.out _ _ (hu31 : Up w4.heap.size w4 _) (fun hHeld => ?_)
        clear hK K
        (try dsimp only at hHeld)
        (try simp only [Act.put, List.setIfInBounds_toArray, List.set_cons_zero, List.set_cons_succ])
        clear hu31
        refine takeH (i := 12) (v := ?_) (d := (some 10)) rfl (by kernel_rfl) (by kernel_rfl) (by kernel_rfl) rfl (fun _ _ _ h => h) (Or.inl ⟨by kernel_rfl, ?_⟩) (by assumption) ?_; rotate_left
        · (intro w hSw; (try dsimp only at hSw); first | (go_simp; done) | (go_simp; with_reducible rfl))
        (try simp only [Act.put, List.setIfInBounds_toArray, List.set_cons_zero, List.set_cons_succ])
        refine wpAnyH_done (by kernel_rfl) ?_ _
        have HU6 : Hid (Up w.heap.size w y2) := HU5.out.stay hHeld.1
        clear hHeld
        have FR : far A ([] ++ (List.take i A) ++ [r] ++ (List.drop i A)) ≤ 1 := far_ins A i r
        have LL : Hid (([] ++ (List.take i A) ++ [r] ++ (List.drop i A)).length ≤ 64) := by show _ ≤ _; first | (simp; omega) | omega
        have HRb : Hid (RSl y2 _ ([] ++ (List.take i A) ++ [r] ++ (List.drop i A)).length (at_ ([] ++ (List.take i A) ++ [r] ++ (List.drop i A)))) := O31.out.rsl
        have cA := of_far (A := A) (by rw [EK.out]; exact HA.out.stay HU6.out.1) HRb.out (by rw [EK.out]; omega) LL.out
        have CBx : Hid (∀ w' : World, Below y2.heap.size y2 w' → Calls Try.prog 10 #[_, .slice (some ⟨fa, oa, none⟩) k ca] w' fun e w'' => e = .returned (.int .i64 (far A ([] ++ (List.take i A) ++ [r] ++ (List.drop i A)) : Int)) ∧ Below w'.heap.size w' w'') := fun w' hb => by
          rw [far_comm]
          exact of_far (HRb.out.stay hb) (by rw [EK.out]; exact HA.out.stay (HU6.out.stay hb).1) LL.out (by rw [EK.out]; omega)
        obtain ⟨z, ez⟩ : ∃ z, far A ([] ++ (List.take i A) ++ [r] ++ (List.drop i A)) = z := ⟨_, rfl⟩
        rw [ez] at FR cA CBx
        have FZ : (z : Int) ≤ 1 := by omega
        clear ez FR
        go_wp2_with fail
        refine cA.mono ?_
        rintro e w8 ⟨rfl, hU8⟩
        have HU8 : Hid (Up w.heap.size w w8) := HU6.out.stay hU8
        have cB := CBx.out w8 hU8
        clear hU8 cA CBx
        go_wp2_with fail
        refine cB.mono ?_
        rintro e w9 ⟨rfl, hU9⟩
        have HU9 : Hid (Up w.heap.size w w9) := HU8.out.stay hU9
        clear hU9 cB
        go_wp2
        go_ret
        exact ⟨rfl, HU9.out.1⟩
      · rw [if_pos (by kernel_rfl)]
        go_simp
        have S26 : Hid (RSl (x1.alloc (.cells #[.int .i32 r] 21)) (.slice (some ⟨x1.heap.size, 0, none⟩) 1 1) [r].length (at_ [r])) := Or.inr ⟨_, _, _, rfl, rs_new x1 [r]⟩
        have O20' := O20.out.stay ((Below.refl _ _).alloc (Nat.le_refl _) (.cells #[.int .i32 r] 21))
        clear O20
        have O20 : Hid (OR _ _ _ _) := O20'
        clear O20'
        have hne : x0.heap.size < x1.heap.size := by rw [← hx1]; simp
        refine hK.out _ _ (hHeld.alloc _ : Up w4.heap.size w4 _) (fun hHeld => ?_)
        clear hK K
        (try dsimp only at hHeld)
        (try simp only [Act.put, List.setIfInBounds_toArray, List.set_cons_zero, List.set_cons_succ])
        obtain ⟨x2, hx2⟩ : ∃ x2, x1.alloc (.cells #[.int .i32 r] 21) = x2 := ⟨_, rfl⟩
        rw [hx2] at hHeld O20 S26 ⊢
        refine wpAnyH_ready (rs := [4]) (by kernel_rfl) (by simp) (AllReadyH.cons rfl (fun K hK => ?_) AllReadyH.nil)
        rw [if_pos (by kernel_rfl)]
        refine app_runes_wp (.tmp 54) (.tmp 57) rfl w4.heap.size _ [] rfl O20.out _ (List.take i A) rfl (HTA.out.stay hHeld.1) (by simp; omega) hHeld.2 ?_
        intro v24 x3 ho24 hg24
        change K (Act.put _ (some 58) _) _
        have O24 : Hid (OR x3 w4.heap.size v24 ([] ++ (List.take i A))) := ho24
        have S26' := S26.out.grown hg24 (fun e => by have e' : some x0.heap.size = some x1.heap.size := e; injection e' with e'; omega)
        clear S26
        have S26 : Hid (RSl _ _ _ _) := S26'
        clear S26'
        have hu24 : Up w4.heap.size w4 x3 := hHeld.grown hg24 (own_base O20.out)
        clear ho24 hg24 O20
        refine hK.out _ _ (hu24 : Up w4.heap.size w4 _) (fun hHeld => ?_)
        clear hK K
        (try dsimp only at hHeld)
        (try simp only [Act.put, List.setIfInBounds_toArray, List.set_cons_zero, List.set_cons_succ])
        clear hu24
        refine wpAnyH_ready (rs := [7]) (by kernel_rfl) (by simp) (AllReadyH.cons rfl (fun K hK => ?_) AllReadyH.nil)
        rw [if_pos (by kernel_rfl)]
        refine app_runes_wp (.tmp 58) (.tmp 60) rfl w4.heap.size _ ([] ++ (List.take i A)) rfl O24.out _ [r] rfl S26.out (by simp; omega) hHeld.2 ?_
        intro v27 y1 ho27 hg27
        change K (Act.put _ (some 61) _) _
        have O27 : Hid (OR y1 w4.heap.size v27 ([] ++ (List.take i A) ++ [r])) := ho27
        have hu27 : Up w4.heap.size w4 y1 := hHeld.grown hg27 (own_base O24.out)
        clear ho27 hg27 O24 S26
        refine hK.out _ _ (hu27 : Up w4.heap.size w4 _) (fun hHeld => ?_)
        clear hK K
        (try dsimp only at hHeld)
        (try simp only [Act.put, List.setIfInBounds_toArray, List.set_cons_zero, List.set_cons_succ])
        clear hu27
        refine wpAnyH_ready (rs := [11]) (by kernel_rfl) (by simp) (AllReadyH.cons rfl (fun K hK => ?_) AllReadyH.nil)
        rw [if_pos (by kernel_rfl)]
        refine app_runes_wp (.tmp 61) (.tmp 64) rfl w4.heap.size _ ([] ++ (List.take i A) ++ [r]) rfl O27.out _ (List.drop i A) rfl (HTD.out.stay hHeld.1) (by simp; omega) hHeld.2 ?_
        intro v31 y2 ho31 hg31
        change K (Act.put _ (some 65) _) _
        have O31 : Hid (OR y2 w4.heap.size v31 ([] ++ (List.take i A) ++ [r] ++ (List.drop i A))) := ho31
        have hu31 : Up w4.heap.size w4 y2 := hHeld.grown hg31 (own_base O27.out)
        clear ho31 hg31 O27
        refine hK.out _ _ (hu31 : Up w4.heap.size w4 _) (fun hHeld => ?_)
        clear hK K
        (try dsimp only at hHeld)
        (try simp only [Act.put, List.setIfInBounds_toArray, List.set_cons_zero, List.set_cons_succ])
        clear hu31
        refine takeH (i := 12) (v := ?_) (d := (some 10)) rfl (by kernel_rfl) (by kernel_rfl) (by kernel_rfl) rfl (fun _ _ _ h => h) (Or.inl ⟨by kernel_rfl, ?_⟩) (by assumption) ?_; rotate_left
        · (intro w hSw; (try dsimp only at hSw); first | (go_simp; done) | (go_simp; with_reducible rfl))
        (try simp only [Act.put, List.setIfInBounds_toArray, List.set_cons_zero, List.set_cons_succ])
        refine wpAnyH_done (by kernel_rfl) ?_ _
        have HU6 : Hid (Up w.heap.size w y2) := HU5.out.stay hHeld.1
        clear hHeld
        have FR : far A ([] ++ (List.take i A) ++ [r] ++ (List.drop i A)) ≤ 1 := far_ins A i r
        have LL : Hid (([] ++ (List.take i A) ++ [r] ++ (List.drop i A)).length ≤ 64) := by show _ ≤ _; first | (simp; omega) | omega
        have HRb : Hid (RSl y2 _ ([] ++ (List.take i A) ++ [r] ++ (List.drop i A)).length (at_ ([] ++ (List.take i A) ++ [r] ++ (List.drop i A)))) := O31.out.rsl
        have cA := of_far (A := A) (by rw [EK.out]; exact HA.out.stay HU6.out.1) HRb.out (by rw [EK.out]; omega) LL.out
        have CBx : Hid (∀ w' : World, Below y2.heap.size y2 w' → Calls Try.prog 10 #[_, .slice (some ⟨fa, oa, none⟩) k ca] w' fun e w'' => e = .returned (.int .i64 (far A ([] ++ (List.take i A) ++ [r] ++ (List.drop i A)) : Int)) ∧ Below w'.heap.size w' w'') := fun w' hb => by
          rw [far_comm]
          exact of_far (HRb.out.stay hb) (by rw [EK.out]; exact HA.out.stay (HU6.out.stay hb).1) LL.out (by rw [EK.out]; omega)
        obtain ⟨z, ez⟩ : ∃ z, far A ([] ++ (List.take i A) ++ [r] ++ (List.drop i A)) = z := ⟨_, rfl⟩
        rw [ez] at FR cA CBx
        have FZ : (z : Int) ≤ 1 := by omega
        clear ez FR
        go_wp2_with fail
        refine cA.mono ?_
        rintro e w8 ⟨rfl, hU8⟩
        have HU8 : Hid (Up w.heap.size w w8) := HU6.out.stay hU8
        have cB := CBx.out w8 hU8
        clear hU8 cA CBx
        go_wp2_with fail
        refine cB.mono ?_
        rintro e w9 ⟨rfl, hU9⟩
        have HU9 : Hid (Up w.heap.size w w9) := HU8.out.stay hU9
        clear hU9 cB
        go_wp2
        go_ret
        exact ⟨rfl, HU9.out.1⟩
    · rw [if_pos (by kernel_rfl)]
      go_simp
      have S26 : Hid (RSl (x0.alloc (.cells #[.int .i32 r] 21)) (.slice (some ⟨x0.heap.size, 0, none⟩) 1 1) [r].length (at_ [r])) := Or.inr ⟨_, _, _, rfl, rs_new x0 [r]⟩
      refine hK.out _ _ (hHeld.alloc _ : Up w4.heap.size w4 _) (fun hHeld => ?_)
      clear hK K
      (try dsimp only at hHeld)
      (try simp only [Act.put, List.setIfInBounds_toArray, List.set_cons_zero, List.set_cons_succ])
      obtain ⟨x1, hx1⟩ : ∃ x1, x0.alloc (.cells #[.int .i32 r] 21) = x1 := ⟨_, rfl⟩
      rw [hx1] at hHeld S26 ⊢
      refine wpAnyH_ready (rs := [0]) (by kernel_rfl) (by simp) (AllReadyH.cons rfl (fun K hK => ?_) AllReadyH.nil)
      rw [if_pos (by kernel_rfl)]
      go_simp
      have O20 : Hid (OR (x1.alloc (.cells #[] 21)) w4.heap.size (.slice (some ⟨x1.heap.size, 0, none⟩) 0 0) []) := or_empty x1 _ hHeld.2
      have S26' := S26.out.stay ((Below.refl _ _).alloc (Nat.le_refl _) (.cells #[] 21))
      clear S26
      have S26 : Hid (RSl _ _ _ _) := S26'
      clear S26'
      have hne : x0.heap.size < x1.heap.size := by rw [← hx1]; simp
      refine hK.out _ _ (hHeld.alloc _ : Up w4.heap.size w4 _) (fun hHeld => ?_)
      clear hK K
      (try dsimp only at hHeld)
      (try simp only [Act.put, List.setIfInBounds_toArray, List.set_cons_zero, List.set_cons_succ])
      obtain ⟨x2, hx2⟩ : ∃ x2, x1.alloc (.cells #[] 21) = x2 := ⟨_, rfl⟩
      rw [hx2] at hHeld O20 S26 ⊢
      refine wpAnyH_ready (rs := [4]) (by kernel_rfl) (by simp) (AllReadyH.cons rfl (fun K hK => ?_) AllReadyH.nil)
      rw [if_pos (by kernel_rfl)]
      refine app_runes_wp (.tmp 54) (.tmp 57) rfl w4.heap.size _ [] rfl O20.out _ (List.take i A) rfl (HTA.out.stay hHeld.1) (by simp; omega) hHeld.2 ?_
      intro v24 x3 ho24 hg24
      change K (Act.put _ (some 58) _) _
      have O24 : Hid (OR x3 w4.heap.size v24 ([] ++ (List.take i A))) := ho24
      have S26' := S26.out.grown hg24 (fun e => by have e' : some x1.heap.size = some x0.heap.size := e; injection e' with e'; omega)
      clear S26
      have S26 : Hid (RSl _ _ _ _) := S26'
      clear S26'
      have hu24 : Up w4.heap.size w4 x3 := hHeld.grown hg24 (own_base O20.out)
      clear ho24 hg24 O20
      refine hK.out _ _ (hu24 : Up w4.heap.size w4 _) (fun hHeld => ?_)
      clear hK K
      (try dsimp only at hHeld)
      (try simp only [Act.put, List.setIfInBounds_toArray, List.set_cons_zero, List.set_cons_succ])
      clear hu24
      refine wpAnyH_ready (rs := [7]) (by kernel_rfl) (by simp) (AllReadyH.cons rfl (fun K hK => ?_) AllReadyH.nil)
      rw [if_pos (by kernel_rfl)]
      refine app_runes_wp (.tmp 58) (.tmp 60) rfl w4.heap.size _ ([] ++ (List.take i A)) rfl O24.out _ [r] rfl S26.out (by simp; omega) hHeld.2 ?_
      intro v27 y1 ho27 hg27
      change K (Act.put _ (some 61) _) _
      have O27 : Hid (OR y1 w4.heap.size v27 ([] ++ (List.take i A) ++ [r])) := ho27
      have hu27 : Up w4.heap.size w4 y1 := hHeld.grown hg27 (own_base O24.out)
      clear ho27 hg27 O24 S26
      refine hK.out _ _ (hu27 : Up w4.heap.size w4 _) (fun hHeld => ?_)
      clear hK K
      (try dsimp only at hHeld)
      (try simp only [Act.put, List.setIfInBounds_toArray, List.set_cons_zero, List.set_cons_succ])
      clear hu27
      refine wpAnyH_ready (rs := [11]) (by kernel_rfl) (by simp) (AllReadyH.cons rfl (fun K hK => ?_) AllReadyH.nil)
      rw [if_pos (by kernel_rfl)]
      refine app_runes_wp (.tmp 61) (.tmp 64) rfl w4.heap.size _ ([] ++ (List.take i A) ++ [r]) rfl O27.out _ (List.drop i A) rfl (HTD.out.stay hHeld.1) (by simp; omega) hHeld.2 ?_
      intro v31 y2 ho31 hg31
      change K (Act.put _ (some 65) _) _
      have O31 : Hid (OR y2 w4.heap.size v31 ([] ++ (List.take i A) ++ [r] ++ (List.drop i A))) := ho31
      have hu31 : Up w4.heap.size w4 y2 := hHeld.grown hg31 (own_base O27.out)
      clear ho31 hg31 O27
      refine hK.out _ _ (hu31 : Up w4.heap.size w4 _) (fun hHeld => ?_)
      clear hK K
      (try dsimp only at hHeld)
      (try simp only [Act.put, List.setIfInBounds_toArray, List.set_cons_zero, List.set_cons_succ])
      clear hu31
      refine takeH (i := 12) (v := ?_) (d := (some 10)) rfl (by kernel_rfl) (by kernel_rfl) (by kernel_rfl) rfl (fun _ _ _ h => h) (Or.inl ⟨by kernel_rfl, ?_⟩) (by assumption) ?_; rotate_left
      · (intro w hSw; (try dsimp only at hSw); first | (go_simp; done) | (go_simp; with_reducible rfl))
      (try simp only [Act.put, List.setIfInBounds_toArray, List.set_cons_zero, List.set_cons_succ])
      refine wpAnyH_done (by kernel_rfl) ?_ _
      have HU6 : Hid (Up w.heap.size w y2) := HU5.out.stay hHeld.1
      clear hHeld
      have FR : far A ([] ++ (List.take i A) ++ [r] ++ (List.drop i A)) ≤ 1 := far_ins A i r
      have LL : Hid (([] ++ (List.take i A) ++ [r] ++ (List.drop i A)).length ≤ 64) := by show _ ≤ _; first | (simp; omega) | omega
      have HRb : Hid (RSl y2 _ ([] ++ (List.take i A) ++ [r] ++ (List.drop i A)).length (at_ ([] ++ (List.take i A) ++ [r] ++ (List.drop i A)))) := O31.out.rsl
      have cA := of_far (A := A) (by rw [EK.out]; exact HA.out.stay HU6.out.1) HRb.out (by rw [EK.out]; omega) LL.out
      have CBx : Hid (∀ w' : World, Below y2.heap.size y2 w' → Calls Try.prog 10 #[_, .slice (some ⟨fa, oa, none⟩) k ca] w' fun e w'' => e = .returned (.int .i64 (far A ([] ++ (List.take i A) ++ [r] ++ (List.drop i A)) : Int)) ∧ Below w'.heap.size w' w'') := fun w' hb => by
        rw [far_comm]
        exact of_far (HRb.out.stay hb) (by rw [EK.out]; exact HA.out.stay (HU6.out.stay hb).1) LL.out (by rw [EK.out]; omega)
      obtain ⟨z, ez⟩ : ∃ z, far A ([] ++ (List.take i A) ++ [r] ++ (List.drop i A)) = z := ⟨_, rfl⟩
      rw [ez] at FR cA CBx
      have FZ : (z : Int) ≤ 1 := by omega
      clear ez FR
      go_wp2_with fail
      refine cA.mono ?_
      rintro e w8 ⟨rfl, hU8⟩
      have HU8 : Hid (Up w.heap.size w w8) := HU6.out.stay hU8
      have cB := CBx.out w8 hU8
      clear hU8 cA CBx
      go_wp2_with fail
      refine cB.mono ?_
      rintro e w9 ⟨rfl, hU9⟩
      have HU9 : Hid (Up w.heap.size w w9) := HU8.out.stay hU9
      clear hU9 cB
      go_wp2
      go_ret
      exact ⟨rfl, HU9.out.1⟩
  · have HTA : Hid (RSl w4 (.slice (some ⟨fa, oa, none⟩) i ca) (List.take i A).length (at_ (List.take i A))) := RSl.take (HRs.out.stay HU5.out.1) EK.out (by omega)
    obtain ⟨ad, had⟩ : ∃ ad : Option Addr, (if ca = i + 1 then some (⟨fa, oa, none⟩ : Addr) else some ⟨fa, oa + (i + 1), none⟩) = ad := ⟨_, rfl⟩
    have HTD1 : Hid (RSl w4 (.slice ad (k - (i + 1)) (ca - (i + 1))) (List.drop (i + 1) A).length (at_ (List.drop (i + 1) A))) := RSl.drop (HRs.out.stay HU5.out.1) EK.out (by omega) rfl (fun h => by rw [← had, if_neg (by omega)])
    have EK' := EK.out
    have x9 : IntKind.i64.wrap ((i : Int) + 1) = (i : Int) + 1 := (IntWalk.i64_left _).trans (IntWalk.wrap64_in _ (by omega))
    have x10 : (i : Int) + 1 ≤ (k : Int) := by omega
    have x11 : (0 : Int) ≤ (i : Int) + 1 := by omega
    have x12 : (i : Int) + 1 ≤ (ca : Int) := by omega
    have x13 : ((i : Int) + 1).toNat = i + 1 := by omega
    go_upto_region 13 with fail
    refine wp_region_held_drew (S := fun w' => Up w4.heap.size w4 w') (by kernel_rfl) ((Up.refl w4).drew) (fun hHeld => ?_)
    (try dsimp only at hHeld)
    obtain ⟨x0, hx0⟩ : ∃ x0, w4.drew = x0 := ⟨_, rfl⟩
    rw [hx0] at hHeld ⊢
    clear hx0
    refine takeH (i := 1) (v := ?_) (d := (some 69)) rfl (by kernel_rfl) (by kernel_rfl) (by kernel_rfl) rfl (fun _ _ _ h => h) (Or.inl ⟨by kernel_rfl, ?_⟩) (by assumption) ?_; rotate_left
    · (intro w hSw; (try dsimp only at hSw); first | (go_simp; done) | (go_simp; with_reducible rfl))
    (try simp only [Act.put, List.setIfInBounds_toArray, List.set_cons_zero, List.set_cons_succ])
    refine takeH (i := 2) (v := ?_) (d := (some 70)) rfl (by kernel_rfl) (by kernel_rfl) (by kernel_rfl) rfl (fun _ _ _ h => h) (Or.inl ⟨by kernel_rfl, ?_⟩) (by assumption) ?_; rotate_left
    · (intro w hSw; (try dsimp only at hSw); first | (go_simp; done) | (go_simp; with_reducible rfl))
    (try simp only [Act.put, List.setIfInBounds_toArray, List.set_cons_zero, List.set_cons_succ])
    refine takeH (i := 3) (v := ?_) (d := (some 71)) rfl (by kernel_rfl) (by kernel_rfl) (by kernel_rfl) rfl (fun _ _ _ h => h) (Or.inl ⟨by kernel_rfl, ?_⟩) (by assumption) ?_; rotate_left
    · (intro w hSw; (try dsimp only at hSw); first | (go_simp; done) | (go_simp; with_reducible rfl))
    (try simp only [Act.put, List.setIfInBounds_toArray, List.set_cons_zero, List.set_cons_succ])
    refine takeH (i := 5) (v := ?_) (d := (some 73)) rfl (by kernel_rfl) (by kernel_rfl) (by kernel_rfl) rfl (fun _ _ _ h => h) (Or.inl ⟨by kernel_rfl, ?_⟩) (by assumption) ?_; rotate_left
    · (intro w hSw; (try dsimp only at hSw); first | (go_simp; done) | (go_simp; with_reducible rfl))
    (try simp only [Act.put, List.setIfInBounds_toArray, List.set_cons_zero, List.set_cons_succ])
    refine takeH (i := 6) (v := ?_) (d := (some 74)) rfl (by kernel_rfl) (by kernel_rfl) (by kernel_rfl) rfl (fun _ _ _ h => h) (Or.inl ⟨by kernel_rfl, ?_⟩) (by assumption) ?_; rotate_left
    · (intro w hSw; (try dsimp only at hSw); first | (go_simp; done) | (go_simp; with_reducible rfl))
    (try simp only [Act.put, List.setIfInBounds_toArray, List.set_cons_zero, List.set_cons_succ])
    refine takeH (i := 7) (v := ?_) (d := (some 75)) rfl (by kernel_rfl) (by kernel_rfl) (by kernel_rfl) rfl (fun _ _ _ h => h) (Or.inl ⟨by kernel_rfl, ?_⟩) (by assumption) ?_; rotate_left
    · (intro w hSw; (try dsimp only at hSw); first | (go_simp; done) | (go_simp; with_reducible rfl))
    (try simp only [Act.put, List.setIfInBounds_toArray, List.set_cons_zero, List.set_cons_succ])
    refine takeH (i := 8) (v := ?_) (d := (some 76)) rfl (by kernel_rfl) (by kernel_rfl) (by kernel_rfl) rfl (fun _ _ _ h => h) (Or.inl ⟨by kernel_rfl, ?_⟩) (by assumption) ?_; rotate_left
    · (intro w hSw; (try dsimp only at hSw); first | (go_simp; done) | (go_simp; with_reducible rfl))
    (try simp only [Act.put, List.setIfInBounds_toArray, List.set_cons_zero, List.set_cons_succ])
    refine wpAnyH_ready (rs := [0]) (by kernel_rfl) (by simp) (AllReadyH.cons rfl (fun K hK => ?_) AllReadyH.nil)
    rw [if_pos (by kernel_rfl)]
    go_simp
    have O20 : Hid (OR (x0.alloc (.cells #[] 21)) w4.heap.size (.slice (some ⟨x0.heap.size, 0, none⟩) 0 0) []) := or_empty x0 _ hHeld.2
    refine hK.out _ _ (hHeld.alloc _ : Up w4.heap.size w4 _) (fun hHeld => ?_)
    clear hK K
    (try dsimp only at hHeld)
    (try simp only [Act.put, List.setIfInBounds_toArray, List.set_cons_zero, List.set_cons_succ])
    obtain ⟨x1, hx1⟩ : ∃ x1, x0.alloc (.cells #[] 21) = x1 := ⟨_, rfl⟩
    rw [hx1] at hHeld O20 ⊢
    refine wpAnyH_ready (rs := [4]) (by kernel_rfl) (by simp) (AllReadyH.cons rfl (fun K hK => ?_) AllReadyH.nil)
    rw [if_pos (by kernel_rfl)]
    refine app_runes_wp (.tmp 68) (.tmp 71) rfl w4.heap.size _ [] rfl O20.out _ (List.take i A) rfl (HTA.out.stay hHeld.1) (by simp; omega) hHeld.2 ?_
    intro v24 x2 ho24 hg24
    change K (Act.put _ (some 72) _) _
    have O24 : Hid (OR x2 w4.heap.size v24 ([] ++ (List.take i A))) := ho24
    have hu24 : Up w4.heap.size w4 x2 := hHeld.grown hg24 (own_base O20.out)
    clear ho24 hg24 O20
    refine hK.out _ _ (hu24 : Up w4.heap.size w4 _) (fun hHeld => ?_)
    clear hK K
    (try dsimp only at hHeld)
    (try simp only [Act.put, List.setIfInBounds_toArray, List.set_cons_zero, List.set_cons_succ])
    clear hu24
    refine wpAnyH_ready (rs := [9]) (by kernel_rfl) (by simp) (AllReadyH.cons rfl (fun K hK => ?_) AllReadyH.nil)
    rw [if_pos (by kernel_rfl)]
    refine app_runes_wp (.tmp 72) (.tmp 76) rfl w4.heap.size _ ([] ++ (List.take i A)) rfl O24.out _ (List.drop (i + 1) A) rfl (HTD1.out.stay hHeld.1) (by simp; omega) hHeld.2 ?_
    intro v31 y2 ho31 hg31
    change K (Act.put _ (some 77) _) _
    have O31 : Hid (OR y2 w4.heap.size v31 ([] ++ (List.take i A) ++ (List.drop (i + 1) A))) := ho31
    have hu31 : Up w4.heap.size w4 y2 := hHeld.grown hg31 (own_base O24.out)
    clear ho31 hg31 O24
    refine hK.out _ _ (hu31 : Up w4.heap.size w4 _) (fun hHeld => ?_)
    clear hK K
    (try dsimp only at hHeld)
    (try simp only [Act.put, List.setIfInBounds_toArray, List.set_cons_zero, List.set_cons_succ])
    clear hu31
    refine takeH (i := 10) (v := ?_) (d := (some 10)) rfl (by kernel_rfl) (by kernel_rfl) (by kernel_rfl) rfl (fun _ _ _ h => h) (Or.inl ⟨by kernel_rfl, ?_⟩) (by assumption) ?_; rotate_left
    · (intro w hSw; (try dsimp only at hSw); first | (go_simp; done) | (go_simp; with_reducible rfl))
    (try simp only [Act.put, List.setIfInBounds_toArray, List.set_cons_zero, List.set_cons_succ])
    refine wpAnyH_done (by kernel_rfl) ?_ _
    have HU6 : Hid (Up w.heap.size w y2) := HU5.out.stay hHeld.1
    clear hHeld
    have FR : far A ([] ++ (List.take i A) ++ (List.drop (i + 1) A)) ≤ 1 := far_cut A i (by rw [EK.out]; omega)
    have LL : Hid (([] ++ (List.take i A) ++ (List.drop (i + 1) A)).length ≤ 64) := by show _ ≤ _; first | (simp; omega) | omega
    have HRb : Hid (RSl y2 _ ([] ++ (List.take i A) ++ (List.drop (i + 1) A)).length (at_ ([] ++ (List.take i A) ++ (List.drop (i + 1) A)))) := O31.out.rsl
    have cA := of_far (A := A) (by rw [EK.out]; exact HA.out.stay HU6.out.1) HRb.out (by rw [EK.out]; omega) LL.out
    have CBx : Hid (∀ w' : World, Below y2.heap.size y2 w' → Calls Try.prog 10 #[_, .slice (some ⟨fa, oa, none⟩) k ca] w' fun e w'' => e = .returned (.int .i64 (far A ([] ++ (List.take i A) ++ (List.drop (i + 1) A)) : Int)) ∧ Below w'.heap.size w' w'') := fun w' hb => by
      rw [far_comm]
      exact of_far (HRb.out.stay hb) (by rw [EK.out]; exact HA.out.stay (HU6.out.stay hb).1) LL.out (by rw [EK.out]; omega)
    obtain ⟨z, ez⟩ : ∃ z, far A ([] ++ (List.take i A) ++ (List.drop (i + 1) A)) = z := ⟨_, rfl⟩
    rw [ez] at FR cA CBx
    have FZ : (z : Int) ≤ 1 := by omega
    clear ez FR
    go_wp2_with fail
    refine cA.mono ?_
    rintro e w8 ⟨rfl, hU8⟩
    have HU8 : Hid (Up w.heap.size w w8) := HU6.out.stay hU8
    have cB := CBx.out w8 hU8
    clear hU8 cA CBx
    go_wp2_with fail
    refine cB.mono ?_
    rintro e w9 ⟨rfl, hU9⟩
    have HU9 : Hid (Up w.heap.size w w9) := HU8.out.stay hU9
    clear hU9 cB
    go_wp2
    go_ret
    exact ⟨rfl, HU9.out.1⟩
  · have hs := HO4.out.put i r EK.out.symm
    have HO6 : Hid (OR (w4.setCell ⟨gb, i, none⟩ (.int .i32 r)) w1.heap.size (.slice (some ⟨gb, 0, none⟩) k cb) (A.set i r)) := hs.1
    have HU6 : Hid (Up w.heap.size w (w4.setCell ⟨gb, i, none⟩ (.int .i32 r))) := by
      have := HU4.out.grown hs.2 (fun q hq => by injection hq with hq; subst hq; exact own_base HO4.out _ rfl)
      exact HU.out.stay this.1
    have hcell : w4.cell? ⟨gb, i, none⟩ = some (.int .i32 (at_ A i)) := by
      have := HO4.out.rsl
      rw [EK.out] at this
      obtain ⟨b', o', e', hr'⟩ := this.at hk0
      cases e'
      have := hr' i hi
      rw [Nat.zero_add] at this
      exact this
    have hfz : w4.frozen? ⟨gb, i, none⟩ = false := World.ownsRow.frozenAt (show w4.ownsRow w1.heap.size 21 1 (.slice (some ⟨gb, 0, none⟩) k cb) k (A.map i32c) by have := HO4.out; unfold OR at this; rw [EK.out] at this; exact this) i
    have EK' := EK.out
    clear hs
    obtain ⟨w6, hw6⟩ : ∃ x, w4.setCell ⟨gb, i, none⟩ (.int .i32 r) = x := ⟨_, rfl⟩
    rw [hw6] at HO6 HU6
    clear HO4 HU4
    have FR : far A (A.set i r) ≤ 1 := far_at A i (by rw [EK.out]; omega) r
    have LL : Hid ((A.set i r).length ≤ 64) := by show _ ≤ _; first | (simp; omega) | omega
    have HRb : Hid (RSl w6 _ (A.set i r).length (at_ (A.set i r))) := HO6.out.rsl
    have cA := of_far (A := A) (by rw [EK.out]; exact HA.out.stay HU6.out.1) HRb.out (by rw [EK.out]; omega) LL.out
    have CBx : Hid (∀ w' : World, Below w6.heap.size w6 w' → Calls Try.prog 10 #[_, .slice (some ⟨fa, oa, none⟩) k ca] w' fun e w'' => e = .returned (.int .i64 (far A (A.set i r) : Int)) ∧ Below w'.heap.size w' w'') := fun w' hb => by
      rw [far_comm]
      exact of_far (HRb.out.stay hb) (by rw [EK.out]; exact HA.out.stay (HU6.out.stay hb).1) LL.out (by rw [EK.out]; omega)
    obtain ⟨z, ez⟩ : ∃ z, far A (A.set i r) = z := ⟨_, rfl⟩
    rw [ez] at FR cA CBx
    have FZ : (z : Int) ≤ 1 := by omega
    clear ez FR
    go_wp2_with fail
    refine cA.mono ?_
    rintro e w8 ⟨rfl, hU8⟩
    have HU8 : Hid (Up w.heap.size w w8) := HU6.out.stay hU8
    have cB := CBx.out w8 hU8
    clear hU8 cA CBx
    go_wp2_with fail
    refine cB.mono ?_
    rintro e w9 ⟨rfl, hU9⟩
    have HU9 : Hid (Up w.heap.size w w9) := HU8.out.stay hU9
    clear hU9 cB
    go_wp2
    go_ret
    exact ⟨rfl, HU9.out.1⟩
  · by_cases hlast : i + 1 < k
    · have y1 : (i : Int) + 1 < (k : Int) := by omega
      have y2 : IntKind.i64.wrap ((i : Int) + 1) = (i : Int) + 1 := (IntWalk.i64_left _).trans (IntWalk.wrap64_in _ (by omega))
      have y3 : (0 : Int) ≤ (i : Int) + 1 := by omega
      have hown : w4.ownsRow w1.heap.size 21 1 (.slice (some ⟨gb, 0, none⟩) k cb) k (A.map i32c) := by have := HO4.out; unfold OR at this; rw [EK.out] at this; exact this
      have f0 : w4.frozen? ⟨gb, i, none⟩ = false := World.ownsRow.frozenAt hown i
      have f1 : w4.frozen? ⟨gb, i + 1, none⟩ = false := World.ownsRow.frozenAt hown (i + 1)
      have hrr := HO4.out.rsl
      rw [EK.out] at hrr
      obtain ⟨b', o', e', hr'⟩ := hrr.at hk0
      cases e'
      have b0 := hr' i hi
      have b1 := hr' (i + 1) hlast
      rw [Nat.zero_add] at b0 b1
      have a0 := (HRs.out.stay HU5.out.1) i hi
      have a1 := (HRs.out.stay HU5.out.1) (i + 1) hlast
      obtain ⟨p0, ep0⟩ : ∃ x, at_ A i = x := ⟨_, rfl⟩
      obtain ⟨p1, ep1⟩ : ∃ x, at_ A (i + 1) = x := ⟨_, rfl⟩
      have hs := HO4.out.put i p1 EK.out.symm
      have HO5 : Hid (OR (w4.setCell ⟨gb, i, none⟩ (.int .i32 p1)) w1.heap.size (.slice (some ⟨gb, 0, none⟩) k cb) (A.set i p1)) := hs.1
      have hs2 := HO5.out.put (i + 1) p0 (by rw [List.length_set, EK.out])
      have HU6a := HU4.out.grown hs.2 (fun q hq => by injection hq with hq; subst hq; exact own_base HO4.out _ rfl)
      have HU6b := HU6a.grown hs2.2 (fun q hq => by injection hq with hq; subst hq; exact own_base HO4.out _ rfl)
      have HO6 : Hid (OR ((w4.setCell ⟨gb, i, none⟩ (.int .i32 p1)).setCell ⟨gb, i + 1, none⟩ (.int .i32 p0)) w1.heap.size (.slice (some ⟨gb, 0, none⟩) k cb) ((A.set i p1).set (i + 1) p0)) := hs2.1
      have HU6 : Hid (Up w.heap.size w ((w4.setCell ⟨gb, i, none⟩ (.int .i32 p1)).setCell ⟨gb, i + 1, none⟩ (.int .i32 p0))) := HU.out.stay HU6b.1
      have FS : Hid (far A ((A.set i p1).set (i + 1) p0) ≤ 1) := by show _ ≤ _; rw [← ep0, ← ep1]; exact far_swap A i (by rw [EK.out]; omega)
      rw [ep0] at b0 a0
      rw [ep1] at b1 a1
      have hgb : w1.heap.size ≤ gb := own_base HO4.out gb rfl
      have hfa : fa < gb := by
        have h1 := World.block_lt_of_cell? w _ (HRs.out i hi)
        have h1' : fa < w.heap.size := h1
        have := HU.out.2
        omega
      have EK' := EK.out
      clear hs hs2 HU6a HU6b hown hrr hr' ep0 ep1 HO5
      obtain ⟨w6, hw6⟩ : ∃ x, (w4.setCell ⟨gb, i, none⟩ (.int .i32 p1)).setCell ⟨gb, i + 1, none⟩ (.int .i32 p0) = x := ⟨_, rfl⟩
      rw [hw6] at HO6 HU6
      have HO7 : Hid (OR w6.drew w1.heap.size (.slice (some ⟨gb, 0, none⟩) k cb) ((A.set i p1).set (i + 1) p0)) := HO6.out.drew
      have HU7 : Hid (Up w.heap.size w w6.drew) := HU6.out.drew
      go_upto_region 9 with fail
      go_region
      obtain ⟨w7, hw7⟩ : ∃ x, w6.drew = x := ⟨_, rfl⟩
      rw [hw7] at HO7 HU7
      clear HO4 HU4 HO6 HU6
      have FR : far A ((A.set i p1).set (i + 1) p0) ≤ 1 := FS.out
      have LL : Hid (((A.set i p1).set (i + 1) p0).length ≤ 64) := by show _ ≤ _; first | (simp; omega) | omega
      have HRb : Hid (RSl w7 _ ((A.set i p1).set (i + 1) p0).length (at_ ((A.set i p1).set (i + 1) p0))) := HO7.out.rsl
      have cA := of_far (A := A) (by rw [EK.out]; exact HA.out.stay HU7.out.1) HRb.out (by rw [EK.out]; omega) LL.out
      have CBx : Hid (∀ w' : World, Below w7.heap.size w7 w' → Calls Try.prog 10 #[_, .slice (some ⟨fa, oa, none⟩) k ca] w' fun e w'' => e = .returned (.int .i64 (far A ((A.set i p1).set (i + 1) p0) : Int)) ∧ Below w'.heap.size w' w'') := fun w' hb => by
        rw [far_comm]
        exact of_far (HRb.out.stay hb) (by rw [EK.out]; exact HA.out.stay (HU7.out.stay hb).1) LL.out (by rw [EK.out]; omega)
      obtain ⟨z, ez⟩ : ∃ z, far A ((A.set i p1).set (i + 1) p0) = z := ⟨_, rfl⟩
      rw [ez] at FR cA CBx
      have FZ : (z : Int) ≤ 1 := by omega
      clear ez FR
      go_wp2_with fail
      refine cA.mono ?_
      rintro e w8 ⟨rfl, hU8⟩
      have HU8 : Hid (Up w.heap.size w w8) := HU7.out.stay hU8
      have cB := CBx.out w8 hU8
      clear hU8 cA CBx
      go_wp2_with fail
      refine cB.mono ?_
      rintro e w9 ⟨rfl, hU9⟩
      have HU9 : Hid (Up w.heap.size w w9) := HU8.out.stay hU9
      clear hU9 cB
      go_wp2
      go_ret
      exact ⟨rfl, HU9.out.1⟩
    · have y1 : ¬ (i : Int) + 1 < (k : Int) := by omega
      have HU6 : Hid (Up w.heap.size w w4) := HU5.out
      have HO6 : Hid (OR w4 w1.heap.size (.slice (some ⟨gb, 0, none⟩) k cb) A) := HO4.out
      have EK' := EK.out
      have FR : far A (A) ≤ 1 := by rw [far_self]; omega
      have LL : Hid ((A).length ≤ 64) := by show _ ≤ _; first | (simp; omega) | omega
      have HRb : Hid (RSl w4 _ (A).length (at_ (A))) := HO6.out.rsl
      have cA := of_far (A := A) (by rw [EK.out]; exact HA.out.stay HU6.out.1) HRb.out (by rw [EK.out]; omega) LL.out
      have CBx : Hid (∀ w' : World, Below w4.heap.size w4 w' → Calls Try.prog 10 #[_, .slice (some ⟨fa, oa, none⟩) k ca] w' fun e w'' => e = .returned (.int .i64 (far A (A) : Int)) ∧ Below w'.heap.size w' w'') := fun w' hb => by
        rw [far_comm]
        exact of_far (HRb.out.stay hb) (by rw [EK.out]; exact HA.out.stay (HU6.out.stay hb).1) LL.out (by rw [EK.out]; omega)
      obtain ⟨z, ez⟩ : ∃ z, far A (A) = z := ⟨_, rfl⟩
      rw [ez] at FR cA CBx
      have FZ : (z : Int) ≤ 1 := by omega
      clear ez FR
      go_wp2_with fail
      refine cA.mono ?_
      rintro e w8 ⟨rfl, hU8⟩
      have HU8 : Hid (Up w.heap.size w w8) := HU6.out.stay hU8
      have cB := CBx.out w8 hU8
      clear hU8 cA CBx
      go_wp2_with fail
      refine cB.mono ?_
      rintro e w9 ⟨rfl, hU9⟩
      have HU9 : Hid (Up w.heap.size w w9) := HU8.out.stay hU9
      clear hU9 cB
      go_wp2
      go_ret
      exact ⟨rfl, HU9.out.1⟩
end Go.Proofs.Ytkgabdmicpfnmaa
