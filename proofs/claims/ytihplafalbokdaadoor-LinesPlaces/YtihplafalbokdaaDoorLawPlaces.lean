/- LinesPlaces. -/
import Derived.Test.YtihplafalbokdaaDoorWalksZ
namespace Go.Proofs.YtihplafalbokdaaDoor
set_option linter.unusedVariables false
open Go.RowKit Go.ChangeShapes
theorem places_big (s : ByteArray) (v : Value) (n : Int) (r : Bool) (w : World) (hm : s.size ≤ maxLen) (hs : 2000 < s.size) (hT : Tabs w) (h : BSl w v s) :
    Calls Tryd.prog 4 #[v, .int .i64 n, .bool r] w fun e w' => e = .returned (.bool true) ∧ Below w.heap.size w w' := by
  obtain ⟨ad, c, rfl⟩ := h.form
  clear h
  have hs' : (2000 : Int) < (s.size : Int) := by omega
  go_enter Tryd.func4, Tryd.ntmps4
  go_wp2_with fail
  refine (awake_any _ hT).mono ?_
  rintro e w1 ⟨rfl, hb1⟩
  go_wp2
  go_ret
  exact ⟨rfl, hb1⟩
set_option maxRecDepth 100000 in
set_option maxHeartbeats 4000000 in
theorem places_out (s : ByteArray) (v : Value) (n : Int) (w : World) (hs : s.size ≤ 2000) (hn : n < 0 ∨ (s.size : Int) < n) (hT : Tabs w) (h : BSl w v s) :
    Calls Tryd.prog 4 #[v, .int .i64 n, .bool true] w fun e w' => e = .returned (.bool true) ∧ Below w.heap.size w w' := by
  obtain ⟨ad, c, rfl⟩ := h.form
  have HB : Hid (BSl w (.slice ad s.size c) s) := h
  have HT : Hid (Tabs w) := hT
  have hs' : ¬ (2000 : Int) < (s.size : Int) := by omega
  clear h hT
  go_enter Tryd.func4, Tryd.ntmps4
  go_wp2_with fail
  refine (awake_any _ HT.out).mono ?_
  rintro e w1 ⟨rfl, hb1⟩
  have HU1 : Hid (Up w.heap.size w w1) := (Up.refl w).stay hb1
  clear hb1
  go_wp2_with fail
  refine (new_any s _ w1 (by omega) (tabs_stay HT.out HU1.out.1) (HB.out.stay HU1.out.1)).mono ?_
  rintro e w2 ⟨K, x, rfl, hx, hb2⟩
  have HX2 : Hid (Idx w2 x s K) := hx
  have HU2 : Hid (Up w.heap.size w w2) := HU1.out.stay hb2
  clear hx hb2 HU1
  go_wp2_with fail
  refine (line_no s K x n w2 hn HX2.out).mono ?_
  rintro e w3 ⟨rfl, hb3⟩
  have HX3 : Hid (Idx w3 x s K) := HX2.out.stay hb3
  have HU3 : Hid (Up w.heap.size w w3) := HU2.out.stay hb3
  clear hb3 HX2 HU2
  go_wp2_with fail
  refine (place_no s K x n w3 hn HX3.out).mono ?_
  rintro e w4 ⟨rfl, hb4⟩
  have HU4 : Hid (Up w.heap.size w w4) := HU3.out.stay hb4
  clear hb4 HX3 HU3
  by_cases h1 : n < 0
  · go_wp2
    go_ret
    exact ⟨rfl, (HU4.out.alloc _).1⟩
  · have h2 : (s.size : Int) < n := by omega
    go_wp2
    go_ret
    exact ⟨rfl, (HU4.out.alloc _).1⟩
set_option maxRecDepth 100000 in
set_option maxHeartbeats 4000000 in
theorem places_in (s : ByteArray) (v : Value) (p : Nat) (w : World) (hs : s.size ≤ 2000) (hp : p ≤ s.size) (hT : Tabs w) (h : BSl w v s) :
    Calls Tryd.prog 4 #[v, .int .i64 p, .bool true] w fun e w' => e = .returned (.bool true) ∧ Below w.heap.size w w' := by
  obtain ⟨ad, c, rfl⟩ := h.form
  have HB : Hid (BSl w (.slice ad s.size c) s) := h
  have HT : Hid (Tabs w) := hT
  have hs' : ¬ (2000 : Int) < (s.size : Int) := by omega
  clear h hT
  go_enter Tryd.func4, Tryd.ntmps4
  go_wp2_with fail
  refine (awake_any _ HT.out).mono ?_
  rintro e w1 ⟨rfl, hb1⟩
  have HU1 : Hid (Up w.heap.size w w1) := (Up.refl w).stay hb1
  clear hb1
  go_wp2_with fail
  refine (new_any s _ w1 (by omega) (tabs_stay HT.out HU1.out.1) (HB.out.stay HU1.out.1)).mono ?_
  rintro e w2 ⟨K, x, rfl, hx, hb2⟩
  have HX2 : Hid (Idx w2 x s K) := hx
  have HU2 : Hid (Up w.heap.size w w2) := HU1.out.stay hb2
  clear hx hb2 HU1
  go_wp2_with fail
  refine (line_ok s K x p w2 (by omega) hp HX2.out).mono ?_
  rintro e w3 ⟨m, rfl, ho, hb3⟩
  have HO : Hid (OnL s p m) := ho
  have HX3 : Hid (Idx w3 x s K) := HX2.out.stay hb3
  have HU3 : Hid (Up w.heap.size w w3) := HU2.out.stay hb3
  clear hb3 HX2 HU2 ho
  go_wp2_with fail
  refine (place_ok s K x p w3 (by omega) hp HX3.out).mono ?_
  rintro e w4 ⟨m2, cc, rfl, hp4, hb4⟩
  have hm2 : m2 = m := by
    obtain ⟨_, _, _, _, ho2, _⟩ := hp4
    exact ho2.one HO.out
  subst hm2
  have HP : Hid (Plc s p m2 cc) := hp4
  have HU4 : Hid (Up w.heap.size w w4) := HU3.out.stay hb4
  clear hb4 HX3 HU3 hp4
  have z1 : ¬ (p : Int) < 0 := by omega
  have z2 : ¬ (s.size : Int) < (p : Int) := by omega
  have q0 : (w4.alloc (.cells #[.int .i64 m2, .int .i64 cc] 40)).cell? ⟨w4.heap.size, 0, none⟩ = some (.int .i64 m2) := by simp
  have q1 : (w4.alloc (.cells #[.int .i64 m2, .int .i64 cc] 40)).cell? ⟨w4.heap.size, 1, none⟩ = some (.int .i64 cc) := by simp
  have HUW : Hid (Up w.heap.size w (w4.alloc (.cells #[.int .i64 m2, .int .i64 cc] 40))) := HU4.out.alloc _
  obtain ⟨W, hW⟩ : ∃ W, w4.alloc (.cells #[.int .i64 m2, .int .i64 cc] 40) = W := ⟨_, rfl⟩
  rw [hW] at q0 q1 HUW
  have Q0 : Hid (W.cell? ⟨w4.heap.size, 0, none⟩ = some (.int .i64 m2)) := q0
  have Q1 : Hid (W.cell? ⟨w4.heap.size, 1, none⟩ = some (.int .i64 cc)) := q1
  clear q0 q1
  go_wp2_with fail
  refine (rline_any s _ p W (by omega) hp (HB.out.stay HUW.out.1)).mono ?_
  rintro e w5 ⟨m5, rfl, ho5, hb5⟩
  obtain rfl : m5 = m2 := ho5.one HO.out
  have HV5 : Hid (Up W.heap.size W w5) := (Up.refl W).stay hb5
  clear hb5 ho5 hW HU4
  generalize S s (m5 - 1) = f5
  go_wp2_with fail
  refine wp_region_held_drew (S := fun w' => Up W.heap.size W w') (by kernel_rfl) (Up.drew HV5.out) (fun hHeld => ?_)
  (try dsimp only at hHeld)
  clear HV5
  obtain ⟨x0, hx0⟩ : ∃ x0, w5.drew = x0 := ⟨_, rfl⟩
  rw [hx0] at hHeld ⊢
  clear hx0
  refine takeH (i := 0) (v := ?_) (d := (some 72)) rfl (by kernel_rfl) (by kernel_rfl) (by kernel_rfl) rfl (fun _ _ _ h => h) (Or.inl ⟨by kernel_rfl, ?_⟩) (by assumption) ?_; rotate_left; · (intro w' hSw; (try dsimp only at hSw); first | (go_simp; done) | (go_simp; with_reducible rfl)); (try simp only [Act.put, List.setIfInBounds_toArray, List.set_cons_zero, List.set_cons_succ])
  refine takeH (i := 1) (v := ?_) (d := (some 73)) rfl (by kernel_rfl) (by kernel_rfl) (by kernel_rfl) rfl (fun _ _ _ h => h) (Or.inl ⟨by kernel_rfl, ?_⟩) (by assumption) ?_; rotate_left; · (intro w' hSw; (try dsimp only at hSw); first | (go_simp; done) | (go_simp; with_reducible rfl)); (try simp only [Act.put, List.setIfInBounds_toArray, List.set_cons_zero, List.set_cons_succ])
  refine takeH (i := 2) (v := ?_) (d := (some 74)) rfl (by kernel_rfl) (by kernel_rfl) (by kernel_rfl) rfl (fun _ _ _ h => h) (Or.inl ⟨by kernel_rfl, ?_⟩) (by assumption) ?_; rotate_left; · (intro w' hSw; (try dsimp only at hSw); first | (go_simp; done) | (go_simp; with_reducible rfl)); (try simp only [Act.put, List.setIfInBounds_toArray, List.set_cons_zero, List.set_cons_succ])
  refine takeH (i := 3) (v := ?_) (d := (some 75)) rfl (by kernel_rfl) (by kernel_rfl) (by kernel_rfl) rfl (fun _ _ _ h => h) (Or.inl ⟨by kernel_rfl, ?_⟩) (by assumption) ?_; rotate_left; · (intro w' hSw; (try dsimp only at hSw); first | (go_simp; done) | (go_simp; with_reducible rfl)); (try simp only [Act.put, List.setIfInBounds_toArray, List.set_cons_zero, List.set_cons_succ])
  refine takeH (i := 4) (v := ?_) (d := (some 76)) rfl (by kernel_rfl) (by kernel_rfl) (by kernel_rfl) rfl (fun _ _ _ h => h) (Or.inl ⟨by kernel_rfl, ?_⟩) (by assumption) ?_; rotate_left; · (intro w' hSw; (try dsimp only at hSw); first | (go_simp; done) | (go_simp; with_reducible rfl)); (try simp only [Act.put, List.setIfInBounds_toArray, List.set_cons_zero, List.set_cons_succ])
  refine takeH (i := 5) (v := ?_) (d := (some 77)) rfl (by kernel_rfl) (by kernel_rfl) (by kernel_rfl) rfl (fun _ _ _ h => h) (Or.inl ⟨by kernel_rfl, ?_⟩) (by assumption) ?_; rotate_left; · (intro w' hSw; (try dsimp only at hSw); first | (go_simp; done) | (go_simp; with_reducible rfl)); (try simp only [Act.put, List.setIfInBounds_toArray, List.set_cons_zero, List.set_cons_succ])
  refine takeH (i := 6) (v := ?_) (d := (some 78)) rfl (by kernel_rfl) (by kernel_rfl) (by kernel_rfl) rfl (fun _ _ _ h => h) (Or.inl ⟨by kernel_rfl, ?_⟩) (by assumption) ?_; rotate_left; · (intro w' hSw; (try dsimp only at hSw); first | (go_simp; done) | (go_simp; with_reducible rfl)); (try simp only [Act.put, List.setIfInBounds_toArray, List.set_cons_zero, List.set_cons_succ])
  refine takeH (i := 7) (v := ?_) (d := (some 79)) rfl (by kernel_rfl) (by kernel_rfl) (by kernel_rfl) rfl (fun _ _ _ h => h) (Or.inl ⟨by kernel_rfl, ?_⟩) (by assumption) ?_; rotate_left; · (intro w' hSw; (try dsimp only at hSw); first | (go_simp; done) | (go_simp; with_reducible rfl)); (try simp only [Act.put, List.setIfInBounds_toArray, List.set_cons_zero, List.set_cons_succ])
  refine takeH (i := 8) (v := ?_) (d := (some 80)) rfl (by kernel_rfl) (by kernel_rfl) (by kernel_rfl) rfl (fun _ _ _ h => h) (Or.inl ⟨by kernel_rfl, ?_⟩) (by assumption) ?_; rotate_left; · (intro w' hSw; (try dsimp only at hSw); first | (go_simp; done) | (go_simp; with_reducible rfl)); (try simp only [Act.put, List.setIfInBounds_toArray, List.set_cons_zero, List.set_cons_succ])
  refine takeH (i := 9) (v := ?_) (d := (some 81)) rfl (by kernel_rfl) (by kernel_rfl) (by kernel_rfl) rfl (fun _ _ _ h => h) (Or.inl ⟨by kernel_rfl, ?_⟩) (by assumption) ?_; rotate_left; · (intro w' hSw; (try dsimp only at hSw); first | (go_simp; done) | (go_simp; with_reducible rfl)); (try simp only [Act.put, List.setIfInBounds_toArray, List.set_cons_zero, List.set_cons_succ])
  refine takeH (i := 10) (v := ?_) (d := (some 82)) rfl (by kernel_rfl) (by kernel_rfl) (by kernel_rfl) rfl (fun _ _ _ h => h) (Or.inl ⟨by kernel_rfl, ?_⟩) (by assumption) ?_; rotate_left; · (intro w' hSw; (try dsimp only at hSw); first | (go_simp; done) | (go_simp; with_reducible rfl)); (try simp only [Act.put, List.setIfInBounds_toArray, List.set_cons_zero, List.set_cons_succ])
  refine takeH (i := 11) (v := ?_) (d := (some 83)) rfl (by kernel_rfl) (by kernel_rfl) (by kernel_rfl) rfl (fun _ _ _ h => h) (Or.inl ⟨by kernel_rfl, ?_⟩) (by assumption) ?_; rotate_left; · (intro w' hSw; (try dsimp only at hSw); first | (go_simp; done) | (go_simp; with_reducible rfl)); (try simp only [Act.put, List.setIfInBounds_toArray, List.set_cons_zero, List.set_cons_succ])
  refine takeH (i := 12) (v := ?_) (d := (some 84)) rfl (by kernel_rfl) (by kernel_rfl) (by kernel_rfl) rfl (fun _ _ _ h => h) (Or.inl ⟨by kernel_rfl, ?_⟩) (by assumption) ?_; rotate_left; · (intro w' hSw; (try dsimp only at hSw); have cc0 := hSw.cell Q0.out; have cc1 := hSw.cell Q1.out; first | (go_simp; done) | (go_simp; with_reducible rfl)); (try simp only [Act.put, List.setIfInBounds_toArray, List.set_cons_zero, List.set_cons_succ])
  refine takeH (i := 13) (v := ?_) (d := (some 85)) rfl (by kernel_rfl) (by kernel_rfl) (by kernel_rfl) rfl (fun _ _ _ h => h) (Or.inl ⟨by kernel_rfl, ?_⟩) (by assumption) ?_; rotate_left; · (intro w' hSw; (try dsimp only at hSw); first | (go_simp; done) | (go_simp; with_reducible rfl)); (try simp only [Act.put, List.setIfInBounds_toArray, List.set_cons_zero, List.set_cons_succ])
  refine takeH (i := 14) (v := ?_) (d := (some 86)) rfl (by kernel_rfl) (by kernel_rfl) (by kernel_rfl) rfl (fun _ _ _ h => h) (Or.inl ⟨by kernel_rfl, ?_⟩) (by assumption) ?_; rotate_left; · (intro w' hSw; (try dsimp only at hSw); first | (go_simp; done) | (go_simp; with_reducible rfl)); (try simp only [Act.put, List.setIfInBounds_toArray, List.set_cons_zero, List.set_cons_succ])
  refine wpAnyH_ready (rs := [15]) (by kernel_rfl) (by simp) ?_
  refine AllReadyH.cons rfl (fun K' hK => ?_) AllReadyH.nil
  rw [if_pos (by kernel_rfl)]
  go_simp
  refine (rplace_any s _ p x0 (by omega) hp (HB.out.stay (HUW.out.stay hHeld.1).1)).mono ?_
  rintro e x1 ⟨m6, c6, rfl, hp6, hb6⟩
  obtain ⟨rfl, rfl⟩ := hp6.one HP.out
  have hw' : Up W.heap.size W x1 := hHeld.stay hb6
  clear hb6 hp6
  go_wp2_with fail
  refine hK.out _ _ hw' (fun hHeld => ?_)
  clear hK K' hw'
  (try dsimp only at hHeld)
  (try simp only [Act.put, List.setIfInBounds_toArray, List.set_cons_zero, List.set_cons_succ])
  refine takeH (i := 16) (v := ?_) (d := (some 88)) rfl (by kernel_rfl) (by kernel_rfl) (by kernel_rfl) rfl (fun _ _ _ h => h) (Or.inl ⟨by kernel_rfl, ?_⟩) (by assumption) ?_; rotate_left; · (intro w' hSw; (try dsimp only at hSw); first | (go_simp; done) | (go_simp; with_reducible rfl)); (try simp only [Act.put, List.setIfInBounds_toArray, List.set_cons_zero, List.set_cons_succ])
  refine takeH (i := 17) (v := ?_) (d := (some 89)) rfl (by kernel_rfl) (by kernel_rfl) (by kernel_rfl) rfl (fun _ _ _ h => h) (Or.inl ⟨by kernel_rfl, ?_⟩) (by assumption) ?_; rotate_left; · (intro w' hSw; (try dsimp only at hSw); first | (go_simp; done) | (go_simp; with_reducible rfl)); (try simp only [Act.put, List.setIfInBounds_toArray, List.set_cons_zero, List.set_cons_succ])
  refine takeH (i := 18) (v := ?_) (d := (some 6)) rfl (by kernel_rfl) (by kernel_rfl) (by kernel_rfl) rfl (fun _ _ _ h => h) (Or.inl ⟨by kernel_rfl, ?_⟩) (by assumption) ?_; rotate_left; · (intro w' hSw; (try dsimp only at hSw); first | (go_simp; done) | (go_simp; with_reducible rfl)); (try simp only [Act.put, List.setIfInBounds_toArray, List.set_cons_zero, List.set_cons_succ])
  refine wpAnyH_done (by kernel_rfl) ?_ _
  have HE : Hid (Up w.heap.size w x1) := HUW.out.stay hHeld.1
  clear hHeld
  go_wp2
  go_ret
  exact ⟨rfl, HE.out.1⟩
set_option maxRecDepth 100000 in
set_option maxHeartbeats 4000000 in
theorem places_mod (s : ByteArray) (v : Value) (n : Int) (w : World) (hs : s.size ≤ 2000)  (hT : Tabs w) (h : BSl w v s) :
    Calls Tryd.prog 4 #[v, .int .i64 n, .bool false] w fun e w' => e = .returned (.bool true) ∧ Below w.heap.size w w' := by
  obtain ⟨ad, c, rfl⟩ := h.form
  have HB : Hid (BSl w (.slice ad s.size c) s) := h
  have HT : Hid (Tabs w) := hT
  have hs' : ¬ (2000 : Int) < (s.size : Int) := by omega
  clear h hT
  obtain ⟨p, hp, hpe⟩ : ∃ p : Nat, p ≤ s.size ∧ wrap64 ((IntKind.u64.wrap n).tmod ((s.size : Int) + 1)) = p := by
    have h0 : 0 ≤ IntKind.u64.wrap n := by rw [IntKind.wrap_u64]; omega
    rw [Int.tmod_eq_emod_of_nonneg h0]
    have h1 := Int.emod_nonneg (IntKind.u64.wrap n) (show (s.size : Int) + 1 ≠ 0 by omega)
    have h2 := Int.emod_lt_of_pos (IntKind.u64.wrap n) (show (0 : Int) < (s.size : Int) + 1 by omega)
    generalize IntKind.u64.wrap n % ((s.size : Int) + 1) = y at *
    exact ⟨y.toNat, by omega, by unfold wrap64; omega⟩
  go_enter Tryd.func4, Tryd.ntmps4
  go_wp2_with fail
  refine (awake_any _ HT.out).mono ?_
  rintro e w1 ⟨rfl, hb1⟩
  have HU1 : Hid (Up w.heap.size w w1) := (Up.refl w).stay hb1
  clear hb1
  go_wp2_with fail
  refine (new_any s _ w1 (by omega) (tabs_stay HT.out HU1.out.1) (HB.out.stay HU1.out.1)).mono ?_
  rintro e w2 ⟨K, x, rfl, hx, hb2⟩
  have HX2 : Hid (Idx w2 x s K) := hx
  have HU2 : Hid (Up w.heap.size w w2) := HU1.out.stay hb2
  clear hx hb2 HU1
  go_wp2_with fail
  refine (line_ok s K x p w2 (by omega) hp HX2.out).mono ?_
  rintro e w3 ⟨m, rfl, ho, hb3⟩
  have HO : Hid (OnL s p m) := ho
  have HX3 : Hid (Idx w3 x s K) := HX2.out.stay hb3
  have HU3 : Hid (Up w.heap.size w w3) := HU2.out.stay hb3
  clear hb3 HX2 HU2 ho
  go_wp2_with fail
  refine (place_ok s K x p w3 (by omega) hp HX3.out).mono ?_
  rintro e w4 ⟨m2, cc, rfl, hp4, hb4⟩
  have hm2 : m2 = m := by
    obtain ⟨_, _, _, _, ho2, _⟩ := hp4
    exact ho2.one HO.out
  subst hm2
  have HP : Hid (Plc s p m2 cc) := hp4
  have HU4 : Hid (Up w.heap.size w w4) := HU3.out.stay hb4
  clear hb4 HX3 HU3 hp4
  have z1 : ¬ (p : Int) < 0 := by omega
  have z2 : ¬ (s.size : Int) < (p : Int) := by omega
  have q0 : (w4.alloc (.cells #[.int .i64 m2, .int .i64 cc] 40)).cell? ⟨w4.heap.size, 0, none⟩ = some (.int .i64 m2) := by simp
  have q1 : (w4.alloc (.cells #[.int .i64 m2, .int .i64 cc] 40)).cell? ⟨w4.heap.size, 1, none⟩ = some (.int .i64 cc) := by simp
  have HUW : Hid (Up w.heap.size w (w4.alloc (.cells #[.int .i64 m2, .int .i64 cc] 40))) := HU4.out.alloc _
  obtain ⟨W, hW⟩ : ∃ W, w4.alloc (.cells #[.int .i64 m2, .int .i64 cc] 40) = W := ⟨_, rfl⟩
  rw [hW] at q0 q1 HUW
  have Q0 : Hid (W.cell? ⟨w4.heap.size, 0, none⟩ = some (.int .i64 m2)) := q0
  have Q1 : Hid (W.cell? ⟨w4.heap.size, 1, none⟩ = some (.int .i64 cc)) := q1
  clear q0 q1
  go_wp2_with fail
  refine (rline_any s _ p W (by omega) hp (HB.out.stay HUW.out.1)).mono ?_
  rintro e w5 ⟨m5, rfl, ho5, hb5⟩
  obtain rfl : m5 = m2 := ho5.one HO.out
  have HV5 : Hid (Up W.heap.size W w5) := (Up.refl W).stay hb5
  clear hb5 ho5 hW HU4
  generalize S s (m5 - 1) = f5
  go_wp2_with fail
  refine wp_region_held_drew (S := fun w' => Up W.heap.size W w') (by kernel_rfl) (Up.drew HV5.out) (fun hHeld => ?_)
  (try dsimp only at hHeld)
  clear HV5
  obtain ⟨x0, hx0⟩ : ∃ x0, w5.drew = x0 := ⟨_, rfl⟩
  rw [hx0] at hHeld ⊢
  clear hx0
  refine takeH (i := 0) (v := ?_) (d := (some 72)) rfl (by kernel_rfl) (by kernel_rfl) (by kernel_rfl) rfl (fun _ _ _ h => h) (Or.inl ⟨by kernel_rfl, ?_⟩) (by assumption) ?_; rotate_left; · (intro w' hSw; (try dsimp only at hSw); first | (go_simp; done) | (go_simp; with_reducible rfl)); (try simp only [Act.put, List.setIfInBounds_toArray, List.set_cons_zero, List.set_cons_succ])
  refine takeH (i := 1) (v := ?_) (d := (some 73)) rfl (by kernel_rfl) (by kernel_rfl) (by kernel_rfl) rfl (fun _ _ _ h => h) (Or.inl ⟨by kernel_rfl, ?_⟩) (by assumption) ?_; rotate_left; · (intro w' hSw; (try dsimp only at hSw); first | (go_simp; done) | (go_simp; with_reducible rfl)); (try simp only [Act.put, List.setIfInBounds_toArray, List.set_cons_zero, List.set_cons_succ])
  refine takeH (i := 2) (v := ?_) (d := (some 74)) rfl (by kernel_rfl) (by kernel_rfl) (by kernel_rfl) rfl (fun _ _ _ h => h) (Or.inl ⟨by kernel_rfl, ?_⟩) (by assumption) ?_; rotate_left; · (intro w' hSw; (try dsimp only at hSw); first | (go_simp; done) | (go_simp; with_reducible rfl)); (try simp only [Act.put, List.setIfInBounds_toArray, List.set_cons_zero, List.set_cons_succ])
  refine takeH (i := 3) (v := ?_) (d := (some 75)) rfl (by kernel_rfl) (by kernel_rfl) (by kernel_rfl) rfl (fun _ _ _ h => h) (Or.inl ⟨by kernel_rfl, ?_⟩) (by assumption) ?_; rotate_left; · (intro w' hSw; (try dsimp only at hSw); first | (go_simp; done) | (go_simp; with_reducible rfl)); (try simp only [Act.put, List.setIfInBounds_toArray, List.set_cons_zero, List.set_cons_succ])
  refine takeH (i := 4) (v := ?_) (d := (some 76)) rfl (by kernel_rfl) (by kernel_rfl) (by kernel_rfl) rfl (fun _ _ _ h => h) (Or.inl ⟨by kernel_rfl, ?_⟩) (by assumption) ?_; rotate_left; · (intro w' hSw; (try dsimp only at hSw); first | (go_simp; done) | (go_simp; with_reducible rfl)); (try simp only [Act.put, List.setIfInBounds_toArray, List.set_cons_zero, List.set_cons_succ])
  refine takeH (i := 5) (v := ?_) (d := (some 77)) rfl (by kernel_rfl) (by kernel_rfl) (by kernel_rfl) rfl (fun _ _ _ h => h) (Or.inl ⟨by kernel_rfl, ?_⟩) (by assumption) ?_; rotate_left; · (intro w' hSw; (try dsimp only at hSw); first | (go_simp; done) | (go_simp; with_reducible rfl)); (try simp only [Act.put, List.setIfInBounds_toArray, List.set_cons_zero, List.set_cons_succ])
  refine takeH (i := 6) (v := ?_) (d := (some 78)) rfl (by kernel_rfl) (by kernel_rfl) (by kernel_rfl) rfl (fun _ _ _ h => h) (Or.inl ⟨by kernel_rfl, ?_⟩) (by assumption) ?_; rotate_left; · (intro w' hSw; (try dsimp only at hSw); first | (go_simp; done) | (go_simp; with_reducible rfl)); (try simp only [Act.put, List.setIfInBounds_toArray, List.set_cons_zero, List.set_cons_succ])
  refine takeH (i := 7) (v := ?_) (d := (some 79)) rfl (by kernel_rfl) (by kernel_rfl) (by kernel_rfl) rfl (fun _ _ _ h => h) (Or.inl ⟨by kernel_rfl, ?_⟩) (by assumption) ?_; rotate_left; · (intro w' hSw; (try dsimp only at hSw); first | (go_simp; done) | (go_simp; with_reducible rfl)); (try simp only [Act.put, List.setIfInBounds_toArray, List.set_cons_zero, List.set_cons_succ])
  refine takeH (i := 8) (v := ?_) (d := (some 80)) rfl (by kernel_rfl) (by kernel_rfl) (by kernel_rfl) rfl (fun _ _ _ h => h) (Or.inl ⟨by kernel_rfl, ?_⟩) (by assumption) ?_; rotate_left; · (intro w' hSw; (try dsimp only at hSw); first | (go_simp; done) | (go_simp; with_reducible rfl)); (try simp only [Act.put, List.setIfInBounds_toArray, List.set_cons_zero, List.set_cons_succ])
  refine takeH (i := 9) (v := ?_) (d := (some 81)) rfl (by kernel_rfl) (by kernel_rfl) (by kernel_rfl) rfl (fun _ _ _ h => h) (Or.inl ⟨by kernel_rfl, ?_⟩) (by assumption) ?_; rotate_left; · (intro w' hSw; (try dsimp only at hSw); first | (go_simp; done) | (go_simp; with_reducible rfl)); (try simp only [Act.put, List.setIfInBounds_toArray, List.set_cons_zero, List.set_cons_succ])
  refine takeH (i := 10) (v := ?_) (d := (some 82)) rfl (by kernel_rfl) (by kernel_rfl) (by kernel_rfl) rfl (fun _ _ _ h => h) (Or.inl ⟨by kernel_rfl, ?_⟩) (by assumption) ?_; rotate_left; · (intro w' hSw; (try dsimp only at hSw); first | (go_simp; done) | (go_simp; with_reducible rfl)); (try simp only [Act.put, List.setIfInBounds_toArray, List.set_cons_zero, List.set_cons_succ])
  refine takeH (i := 11) (v := ?_) (d := (some 83)) rfl (by kernel_rfl) (by kernel_rfl) (by kernel_rfl) rfl (fun _ _ _ h => h) (Or.inl ⟨by kernel_rfl, ?_⟩) (by assumption) ?_; rotate_left; · (intro w' hSw; (try dsimp only at hSw); first | (go_simp; done) | (go_simp; with_reducible rfl)); (try simp only [Act.put, List.setIfInBounds_toArray, List.set_cons_zero, List.set_cons_succ])
  refine takeH (i := 12) (v := ?_) (d := (some 84)) rfl (by kernel_rfl) (by kernel_rfl) (by kernel_rfl) rfl (fun _ _ _ h => h) (Or.inl ⟨by kernel_rfl, ?_⟩) (by assumption) ?_; rotate_left; · (intro w' hSw; (try dsimp only at hSw); have cc0 := hSw.cell Q0.out; have cc1 := hSw.cell Q1.out; first | (go_simp; done) | (go_simp; with_reducible rfl)); (try simp only [Act.put, List.setIfInBounds_toArray, List.set_cons_zero, List.set_cons_succ])
  refine takeH (i := 13) (v := ?_) (d := (some 85)) rfl (by kernel_rfl) (by kernel_rfl) (by kernel_rfl) rfl (fun _ _ _ h => h) (Or.inl ⟨by kernel_rfl, ?_⟩) (by assumption) ?_; rotate_left; · (intro w' hSw; (try dsimp only at hSw); first | (go_simp; done) | (go_simp; with_reducible rfl)); (try simp only [Act.put, List.setIfInBounds_toArray, List.set_cons_zero, List.set_cons_succ])
  refine takeH (i := 14) (v := ?_) (d := (some 86)) rfl (by kernel_rfl) (by kernel_rfl) (by kernel_rfl) rfl (fun _ _ _ h => h) (Or.inl ⟨by kernel_rfl, ?_⟩) (by assumption) ?_; rotate_left; · (intro w' hSw; (try dsimp only at hSw); first | (go_simp; done) | (go_simp; with_reducible rfl)); (try simp only [Act.put, List.setIfInBounds_toArray, List.set_cons_zero, List.set_cons_succ])
  refine wpAnyH_ready (rs := [15]) (by kernel_rfl) (by simp) ?_
  refine AllReadyH.cons rfl (fun K' hK => ?_) AllReadyH.nil
  rw [if_pos (by kernel_rfl)]
  go_simp
  refine (rplace_any s _ p x0 (by omega) hp (HB.out.stay (HUW.out.stay hHeld.1).1)).mono ?_
  rintro e x1 ⟨m6, c6, rfl, hp6, hb6⟩
  obtain ⟨rfl, rfl⟩ := hp6.one HP.out
  have hw' : Up W.heap.size W x1 := hHeld.stay hb6
  clear hb6 hp6
  go_wp2_with fail
  refine hK.out _ _ hw' (fun hHeld => ?_)
  clear hK K' hw'
  (try dsimp only at hHeld)
  (try simp only [Act.put, List.setIfInBounds_toArray, List.set_cons_zero, List.set_cons_succ])
  refine takeH (i := 16) (v := ?_) (d := (some 88)) rfl (by kernel_rfl) (by kernel_rfl) (by kernel_rfl) rfl (fun _ _ _ h => h) (Or.inl ⟨by kernel_rfl, ?_⟩) (by assumption) ?_; rotate_left; · (intro w' hSw; (try dsimp only at hSw); first | (go_simp; done) | (go_simp; with_reducible rfl)); (try simp only [Act.put, List.setIfInBounds_toArray, List.set_cons_zero, List.set_cons_succ])
  refine takeH (i := 17) (v := ?_) (d := (some 89)) rfl (by kernel_rfl) (by kernel_rfl) (by kernel_rfl) rfl (fun _ _ _ h => h) (Or.inl ⟨by kernel_rfl, ?_⟩) (by assumption) ?_; rotate_left; · (intro w' hSw; (try dsimp only at hSw); first | (go_simp; done) | (go_simp; with_reducible rfl)); (try simp only [Act.put, List.setIfInBounds_toArray, List.set_cons_zero, List.set_cons_succ])
  refine takeH (i := 18) (v := ?_) (d := (some 6)) rfl (by kernel_rfl) (by kernel_rfl) (by kernel_rfl) rfl (fun _ _ _ h => h) (Or.inl ⟨by kernel_rfl, ?_⟩) (by assumption) ?_; rotate_left; · (intro w' hSw; (try dsimp only at hSw); first | (go_simp; done) | (go_simp; with_reducible rfl)); (try simp only [Act.put, List.setIfInBounds_toArray, List.set_cons_zero, List.set_cons_succ])
  refine wpAnyH_done (by kernel_rfl) ?_ _
  have HE : Hid (Up w.heap.size w x1) := HUW.out.stay hHeld.1
  clear hHeld
  go_wp2
  go_ret
  exact ⟨rfl, HE.out.1⟩
theorem places_all (s : ByteArray) (v : Value) (n : Int) (r : Bool) (w : World) (hm : s.size ≤ maxLen) (wn : (Lit.int .i64 n).wf = true) (hT : Tabs w) (h : BSl w v s) :
    Calls Tryd.prog 4 #[v, .int .i64 n, .bool r] w fun e w' => e = .returned (.bool true) ∧ Below w.heap.size w w' := by
  by_cases hs : 2000 < s.size
  · exact places_big s v n r w hm hs hT h
  · cases r
    · exact places_mod s v n w (by omega) hT h
    · by_cases hn : n < 0 ∨ (s.size : Int) < n
      · exact places_out s v n w (by omega) hn hT h
      · obtain ⟨p, rfl⟩ : ∃ p : Nat, n = (p : Int) := ⟨n.toNat, by omega⟩
        exact places_in s v p w (by omega) (by omega) hT h
end Go.Proofs.YtihplafalbokdaaDoor
