/- LinesOwn. -/
import Derived.Test.YtihplafalbokdaaDoorWalksZ
import Derived.Test.YtihplafalbokdaaDoorWalksWB
namespace Go.Proofs.YtihplafalbokdaaDoor
set_option linter.unusedVariables false
open Go.RowKit Go.ChangeShapes
theorem owns_big (s : ByteArray) (v : Value) (n : Int) (w : World) (hm : s.size ≤ maxLen) (hs : 300 < s.size) (hT : Tabs w) (h : BSl w v s) :
    Calls Tryd.prog 6 #[v, .int .i64 n] w fun e w' => e = .returned (.bool true) ∧ Below w.heap.size w w' := by
  obtain ⟨ad, c, rfl⟩ := h.form
  clear h
  have hs' : (300 : Int) < (s.size : Int) := by omega
  go_enter Tryd.func6, Tryd.ntmps6
  go_wp2_with fail
  refine (awake_any _ hT).mono ?_
  rintro e w1 ⟨rfl, hb1⟩
  go_wp2
  go_ret
  exact ⟨rfl, hb1⟩
theorem nums_range (s : ByteArray) : ∀ x, x ∈ numsOf s → 0 ≤ x ∧ x < 256 := by
  intro x hx
  obtain ⟨j, _, rfl⟩ := List.mem_map.1 hx
  have := (s.get! j).toNat_lt
  omega
set_option maxRecDepth 100000 in
set_option maxHeartbeats 6000000 in
theorem owns_small (s : ByteArray) (v : Value) (n : Int) (w : World) (hs : s.size ≤ 300) (hT : Tabs w) (h : BSl w v s) :
    Calls Tryd.prog 6 #[v, .int .i64 n] w fun e w' => e = .returned (.bool true) ∧ Below w.heap.size w w' := by
  obtain ⟨ad, c, rfl⟩ := h.form
  have HB : Hid (BSl w (.slice ad s.size c) s) := h
  have HT : Hid (Tabs w) := hT
  have hs' : ¬ (300 : Int) < (s.size : Int) := by omega
  clear h hT
  obtain ⟨i0, hi, hz0, hz1, hz2⟩ := info_parts info5
  go_enter Tryd.func6, Tryd.ntmps6
  go_wp2_with fail
  refine (awake_any _ HT.out).mono ?_
  rintro e w1 ⟨rfl, hb1⟩
  have HU1 : Hid (Up w.heap.size w w1) := (Up.refl w).stay hb1
  have HB1 : Hid (BSl w1 (.slice ad s.size c) s) := HB.out.stay hb1
  clear hb1
  go_wp2_with (at_builtin; refine app_bsl rfl _ _ 22 rfl w1.heap.size i0 _ Tryd.underlying22 hi hz0 hz1 hz2 rfl _ _ _ rfl (lit5_own _) _ s rfl (HB1.out.stay ((Below.refl _ _).alloc (Nat.le_refl _) _)) ?c3 ?c4 ?c5 ?_)
  case c3 => unfold maxLen; omega
  case c4 => omega
  case c5 => simp only [World.size_alloc]; omega
  intro v3 w3 hown3 hgr3
  have hown3' : w3.ownsRow w1.heap.size 5 1 v3 s.size (cellsOf (numsOf s)) := by simpa using hown3
  have HV3 : Hid (Up w1.heap.size w1 w3) := ((Up.refl w1).alloc _).grown hgr3 (fun k hk => by cases hk; exact Nat.le_refl _)
  have HU3 : Hid (Up w.heap.size w w3) := HU1.out.stay HV3.out.1
  have HBI : Hid (BSl w3 v3 s) := by
    have h5 := bsl_own hown3' (nums_range s)
    rw [show strOfNums (numsOf s) = s from nums_of s] at h5
    exact h5
  have HW1 : Hid (w.heap.size ≤ w1.heap.size) := HU1.out.2
  have hform : ∃ a3 c3, v3 = .slice a3 s.size c3 ∧ (0 < s.size → ∃ g cur, a3 = some ⟨g, 0, none⟩ ∧ w1.heap.size ≤ g ∧ g < w3.heap.size ∧ w3.heap[g]? = some (.cells cur 5 (0, 0)) ∧ s.size ≤ cur.size ∧ ∀ j, j < s.size → cur[j]? = some (.int .u8 (bt s j))) := by
    have h0 := hown3'
    obtain ⟨_, ⟨rfl, hz⟩ | ⟨g, cap, cur, rfl, hg, hh, h3, h4, h5, h6⟩⟩ := hown3'
    · exact ⟨none, 0, by rw [hz], fun h => by omega⟩
    · refine ⟨_, cap, rfl, fun _ => ⟨g, cur, rfl, hg, (Array.getElem?_eq_some_iff.1 hh).1, hh, by omega, fun j hj => ?_⟩⟩
      have h7 := h0.cellAt j (by omega)
      rw [cell_of_row w3 g j cur 5 (0, 0) hh] at h7
      rw [h7]
      simp only [cellsOf, List.getElem?_map, numsOf_at s j hj, Option.map_some]
  obtain ⟨a3, c3, rfl, hrow⟩ := hform
  have HRW : Hid (0 < s.size → ∃ g cur, a3 = some ⟨g, 0, none⟩ ∧ w1.heap.size ≤ g ∧ g < w3.heap.size ∧ w3.heap[g]? = some (.cells cur 5 (0, 0)) ∧ s.size ≤ cur.size ∧ ∀ j, j < s.size → cur[j]? = some (.int .u8 (bt s j))) := hrow
  clear hown3 hown3' hgr3 hrow
  go_wp2_with fail
  refine (new_any_far s _ w3 (by omega) (tabs_stay HT.out HU3.out.1) HBI.out).mono ?_
  rintro e w4 ⟨K, x, rfl, hx, hfar, hb4⟩
  have HFA : Hid (∀ w2 : World, (∀ b, w3.heap.size ≤ b → w2.heap[b]? = w4.heap[b]?) → Idx w2 x s K) := hfar
  have HU4 : Hid (Up w.heap.size w w4) := HU3.out.stay hb4
  have HRW4 : Hid (0 < s.size → ∃ g cur, a3 = some ⟨g, 0, none⟩ ∧ w1.heap.size ≤ g ∧ g < w3.heap.size ∧ w4.heap[g]? = some (.cells cur 5 (0, 0)) ∧ s.size ≤ cur.size ∧ ∀ j, j < s.size → cur[j]? = some (.int .u8 (bt s j))) := fun h => by
    obtain ⟨g, cur, h1, h2, h3, h4, h5⟩ := HRW.out h
    exact ⟨g, cur, h1, h2, h3, (hb4.block g h3).trans h4, h5⟩
  clear hx hfar hb4 HRW HU3 HV3 HU1 HBI HB1
  go_wp2
  go_loopg [29] s.size (fun m iv wr => ∃ i : Nat, i ≤ s.size ∧ m = s.size - i ∧ iv = .int .i64 i ∧ Hid (Up w.heap.size w wr) ∧ Hid (∀ b, w3.heap.size ≤ b → wr.heap[b]? = w4.heap[b]?) ∧ Hid (0 < s.size → ∃ g cur, a3 = some ⟨g, 0, none⟩ ∧ w1.heap.size ≤ g ∧ g < w3.heap.size ∧ wr.heap[g]? = some (.cells cur 5 (0, 0)) ∧ s.size ≤ cur.size ∧ ∀ j, i ≤ j → j < s.size → cur[j]? = some (.int .u8 (bt s j))))
  case atStart => exact ⟨0, Nat.zero_le _, rfl, rfl, HU4, fun _ _ => rfl, fun h => by
    obtain ⟨g, cur, h1, h2, h3, h4, h5, h6⟩ := HRW4.out h
    exact ⟨g, cur, h1, h2, h3, h4, h5, fun j _ hj => h6 j hj⟩⟩
  case round =>
  obtain ⟨i, hin, hm, rfl, HU, HF, HR⟩ := hrel
  by_cases hlt : i < s.size
  · have z0 : (0 : Int) ≤ (i : Int) := by omega
    have z1 : (i : Int) < (s.size : Int) := by omega
    obtain ⟨g, cur, hg1, hg2, hg3, hg4, hg5, hg6⟩ := HR.out (by omega)
    subst hg1
    have hc : wr.cell? ⟨g, i, none⟩ = some (.int .u8 (bt s i)) := by rw [cell_of_row wr g i cur 5 (0, 0) hg4]; exact hg6 i (Nat.le_refl _) hlt
    have hf : wr.frozen? ⟨g, i, none⟩ = false := frozen_of_row wr g i cur 5 hg4
    have HG4 : Hid (wr.heap[g]? = some (.cells cur 5 (0, 0))) := hg4
    have HG6 : Hid (∀ j, i ≤ j → j < s.size → cur[j]? = some (.int .u8 (bt s j))) := hg6
    have HWg : Hid (w.heap.size ≤ g) := Nat.le_trans HW1.out hg2
    clear hg4 hg6 HR
    generalize bt s i = bi at hc ⊢
    go_wp2
    go_roundg (s.size - (i + 1))
    case measure => omega
    case rel => exact ⟨i + 1, hlt, rfl, by go_num, ⟨HU.out.1.setCell HWg.out _, by simp only [World.size_setCell]; exact HU.out.2⟩, fun b hb => (Below.heap_setCell _ _ _ b (by show b ≠ g; omega)).trans (HF.out b hb), fun _ => ⟨g, cur.setIfInBounds i _, rfl, hg2, hg3, heap_setCell_same wr g i cur 5 _ HG4.out, by simp only [Array.size_setIfInBounds]; exact hg5, fun j h1 h2 => by rw [Array.getElem?_setIfInBounds_ne (by omega)]; exact HG6.out j (by omega) h2⟩⟩
  · obtain rfl : i = s.size := by omega
    have HX5 : Hid (Idx wr x s K) := HFA.out wr HF.out
    clear HF HR HFA HRW4 HU4 hlt
    go_wp2_with fail
    refine (span_nil n wr).mono ?_
    rintro e w5 ⟨rfl, hb5⟩
    have HX5' : Hid (Idx (w5.alloc (.cells #[.int .i64 0, .int .i64 0] 31)) x s K) := HX5.out.stay (((Up.refl wr).stay hb5).alloc _).1
    have HU5 : Hid (Up w.heap.size w (w5.alloc (.cells #[.int .i64 0, .int .i64 0] 31))) := (HU.out.stay hb5).alloc _
    have a0 : (w5.alloc (.cells #[.int .i64 0, .int .i64 0] 31)).cell? ⟨w5.heap.size, 0, none⟩ = some (.int .i64 0) := by simp
    have a1 : (w5.alloc (.cells #[.int .i64 0, .int .i64 0] 31)).cell? ⟨w5.heap.size, 1, none⟩ = some (.int .i64 0) := by simp
    obtain ⟨W5, hW5⟩ : ∃ W, w5.alloc (.cells #[.int .i64 0, .int .i64 0] 31) = W := ⟨_, rfl⟩
    rw [hW5] at HX5' HU5 a0 a1
    have HW5 : Hid (w5.alloc (.cells #[.int .i64 0, .int .i64 0] 31) = W5) := hW5
    clear hb5 HX5 HU hW5
    go_wp2_with fail
    rw [HW5.out]
    refine (line_nil n W5).mono ?_
    rintro e w6 ⟨rfl, rfl⟩
    go_wp2_with fail
    refine (place_nil n w6).mono ?_
    rintro e w7 ⟨rfl, hb7⟩
    have hv7 : Up w6.heap.size w6 (w7.alloc (.cells #[.int .i64 0, .int .i64 0] 40)) := ((Up.refl w6).stay hb7).alloc _
    have HX7 : Hid (Idx (w7.alloc (.cells #[.int .i64 0, .int .i64 0] 40)) x s K) := HX5'.out.stay hv7.1
    have HU7 : Hid (Up w.heap.size w (w7.alloc (.cells #[.int .i64 0, .int .i64 0] 40))) := HU5.out.stay hv7.1
    have b0 := hv7.cell a0
    have b1 := hv7.cell a1
    have d0 : (w7.alloc (.cells #[.int .i64 0, .int .i64 0] 40)).cell? ⟨w7.heap.size, 0, none⟩ = some (.int .i64 0) := by simp
    have d1 : (w7.alloc (.cells #[.int .i64 0, .int .i64 0] 40)).cell? ⟨w7.heap.size, 1, none⟩ = some (.int .i64 0) := by simp
    obtain ⟨W7, hW7⟩ : ∃ W, w7.alloc (.cells #[.int .i64 0, .int .i64 0] 40) = W := ⟨_, rfl⟩
    rw [hW7] at HX7 HU7 b0 b1 d0 d1
    have HW7 : Hid (w7.alloc (.cells #[.int .i64 0, .int .i64 0] 40) = W7) := hW7
    clear hb7 hv7 a0 a1 HX5' HU5 HW5 hW7
    go_wp2_with fail
    rw [HW7.out]
    refine (place_ok s K x s.size W7 (by omega) (Nat.le_refl _) HX7.out).mono ?_
    rintro e w8 ⟨m, cc, rfl, hp8, hb8⟩
    have HP : Hid (Plc s s.size m cc) := hp8
    have hv8 : Up W7.heap.size W7 (w8.alloc (.cells #[.int .i64 m, .int .i64 cc] 40)) := ((Up.refl W7).stay hb8).alloc _
    have HU8 : Hid (Up w.heap.size w (w8.alloc (.cells #[.int .i64 m, .int .i64 cc] 40))) := HU7.out.stay hv8.1
    have B0 := hv8.cell b0
    have B1 := hv8.cell b1
    have D0 := hv8.cell d0
    have D1 := hv8.cell d1
    have e0 : (w8.alloc (.cells #[.int .i64 m, .int .i64 cc] 40)).cell? ⟨w8.heap.size, 0, none⟩ = some (.int .i64 m) := by simp
    have e1 : (w8.alloc (.cells #[.int .i64 m, .int .i64 cc] 40)).cell? ⟨w8.heap.size, 1, none⟩ = some (.int .i64 cc) := by simp
    obtain ⟨W, hW⟩ : ∃ W, w8.alloc (.cells #[.int .i64 m, .int .i64 cc] 40) = W := ⟨_, rfl⟩
    rw [hW] at HU8 B0 B1 D0 D1 e0 e1
    have CB0 : Hid (W.cell? ⟨w5.heap.size, 0, none⟩ = some (.int .i64 0)) := B0
    have CB1 : Hid (W.cell? ⟨w5.heap.size, 1, none⟩ = some (.int .i64 0)) := B1
    have CD0 : Hid (W.cell? ⟨w7.heap.size, 0, none⟩ = some (.int .i64 0)) := D0
    have CD1 : Hid (W.cell? ⟨w7.heap.size, 1, none⟩ = some (.int .i64 0)) := D1
    have CE0 : Hid (W.cell? ⟨w8.heap.size, 0, none⟩ = some (.int .i64 m)) := e0
    have CE1 : Hid (W.cell? ⟨w8.heap.size, 1, none⟩ = some (.int .i64 cc)) := e1
    clear hp8 hb8 hv8 b0 b1 d0 d1 B0 B1 D0 D1 e0 e1 HX7 HU7 HW7
    go_wp2_with fail
    refine wp_region_held_drew (S := fun w' => Up W.heap.size W w') (by kernel_rfl) (Up.drew (Up.refl W)) (fun hHeld => ?_)
    (try dsimp only at hHeld)
    obtain ⟨x0, hx0⟩ : ∃ x0, W.drew = x0 := ⟨_, rfl⟩
    rw [hx0] at hHeld ⊢
    clear hx0 hW
    refine takeH (i := 0) (v := ?_) (d := (some 64)) rfl (by kernel_rfl) (by kernel_rfl) (by kernel_rfl) rfl (fun _ _ _ h => h) (Or.inl ⟨by kernel_rfl, ?_⟩) (by assumption) ?_; rotate_left; · (intro w' hSw; (try dsimp only at hSw); first | (go_simp; done) | (go_simp; with_reducible rfl))
    simp only [Act.put, List.setIfInBounds_toArray, List.set_cons_zero, List.set_cons_succ]
    refine takeH (i := 1) (v := ?_) (d := (some 65)) rfl (by kernel_rfl) (by kernel_rfl) (by kernel_rfl) rfl (fun _ _ _ h => h) (Or.inl ⟨by kernel_rfl, ?_⟩) (by assumption) ?_; rotate_left; · (intro w' hSw; (try dsimp only at hSw); first | (go_simp; done) | (go_simp; with_reducible rfl))
    simp only [Act.put, List.setIfInBounds_toArray, List.set_cons_zero, List.set_cons_succ]
    refine takeH (i := 2) (v := ?_) (d := (some 66)) rfl (by kernel_rfl) (by kernel_rfl) (by kernel_rfl) rfl (fun _ _ _ h => h) (Or.inl ⟨by kernel_rfl, ?_⟩) (by assumption) ?_; rotate_left; · (intro w' hSw; (try dsimp only at hSw); first | (go_simp; done) | (go_simp; with_reducible rfl))
    simp only [Act.put, List.setIfInBounds_toArray, List.set_cons_zero, List.set_cons_succ]
    refine takeH (i := 3) (v := ?_) (d := (some 67)) rfl (by kernel_rfl) (by kernel_rfl) (by kernel_rfl) rfl (fun _ _ _ h => h) (Or.inl ⟨by kernel_rfl, ?_⟩) (by assumption) ?_; rotate_left; · (intro w' hSw; (try dsimp only at hSw); have c0 := hSw.cell CE0.out; have c1 := hSw.cell CE1.out; first | (go_simp; done) | (go_simp; with_reducible rfl))
    simp only [Act.put, List.setIfInBounds_toArray, List.set_cons_zero, List.set_cons_succ]
    refine takeH (i := 4) (v := ?_) (d := (some 68)) rfl (by kernel_rfl) (by kernel_rfl) (by kernel_rfl) rfl (fun _ _ _ h => h) (Or.inl ⟨by kernel_rfl, ?_⟩) (by assumption) ?_; rotate_left; · (intro w' hSw; (try dsimp only at hSw); first | (go_simp; done) | (go_simp; with_reducible rfl))
    simp only [Act.put, List.setIfInBounds_toArray, List.set_cons_zero, List.set_cons_succ]
    refine takeH (i := 5) (v := ?_) (d := (some 69)) rfl (by kernel_rfl) (by kernel_rfl) (by kernel_rfl) rfl (fun _ _ _ h => h) (Or.inl ⟨by kernel_rfl, ?_⟩) (by assumption) ?_; rotate_left; · (intro w' hSw; (try dsimp only at hSw); first | (go_simp; done) | (go_simp; with_reducible rfl))
    simp only [Act.put, List.setIfInBounds_toArray, List.set_cons_zero, List.set_cons_succ]
    refine takeH (i := 6) (v := ?_) (d := (some 70)) rfl (by kernel_rfl) (by kernel_rfl) (by kernel_rfl) rfl (fun _ _ _ h => h) (Or.inl ⟨by kernel_rfl, ?_⟩) (by assumption) ?_; rotate_left; · (intro w' hSw; (try dsimp only at hSw); first | (go_simp; done) | (go_simp; with_reducible rfl))
    simp only [Act.put, List.setIfInBounds_toArray, List.set_cons_zero, List.set_cons_succ]
    refine wpAnyH_ready (rs := [7]) (by kernel_rfl) (by simp) ?_
    refine AllReadyH.cons rfl (fun K' hK => ?_) AllReadyH.nil
    rw [if_pos (by kernel_rfl)]
    go_simp
    refine (rplace_any s _ s.size x0 (by omega) (Nat.le_refl _) (HB.out.stay (HU8.out.stay hHeld.1).1)).mono ?_
    rintro e x1 ⟨m6, c6, rfl, hp6, hb6⟩
    obtain ⟨rfl, rfl⟩ := hp6.one HP.out
    have hw' : Up W.heap.size W x1 := hHeld.stay hb6
    clear hb6 hp6
    go_wp2_with fail
    refine hK.out _ _ hw' (fun hHeld => ?_)
    clear hK K' hw'
    (try dsimp only at hHeld)
    (try simp only [Act.put, List.setIfInBounds_toArray, List.set_cons_zero, List.set_cons_succ])
    refine takeH (i := 8) (v := ?_) (d := (some 72)) rfl (by kernel_rfl) (by kernel_rfl) (by kernel_rfl) rfl (fun _ _ _ h => h) (Or.inl ⟨by kernel_rfl, ?_⟩) (by assumption) ?_; rotate_left; · (intro w' hSw; (try dsimp only at hSw); first | (go_simp; done) | (go_simp; with_reducible rfl))
    simp only [Act.put, List.setIfInBounds_toArray, List.set_cons_zero, List.set_cons_succ]
    refine takeH (i := 9) (v := ?_) (d := (some 73)) rfl (by kernel_rfl) (by kernel_rfl) (by kernel_rfl) rfl (fun _ _ _ h => h) (Or.inl ⟨by kernel_rfl, ?_⟩) (by assumption) ?_; rotate_left; · (intro w' hSw; (try dsimp only at hSw); first | (go_simp; done) | (go_simp; with_reducible rfl))
    simp only [Act.put, List.setIfInBounds_toArray, List.set_cons_zero, List.set_cons_succ]
    refine takeH (i := 10) (v := ?_) (d := (some 74)) rfl (by kernel_rfl) (by kernel_rfl) (by kernel_rfl) rfl (fun _ _ _ h => h) (Or.inl ⟨by kernel_rfl, ?_⟩) (by assumption) ?_; rotate_left; · (intro w' hSw; (try dsimp only at hSw); first | (go_simp; done) | (go_simp; with_reducible rfl))
    simp only [Act.put, List.setIfInBounds_toArray, List.set_cons_zero, List.set_cons_succ]
    refine takeH (i := 11) (v := ?_) (d := (some 75)) rfl (by kernel_rfl) (by kernel_rfl) (by kernel_rfl) rfl (fun _ _ _ h => h) (Or.inl ⟨by kernel_rfl, ?_⟩) (by assumption) ?_; rotate_left; · (intro w' hSw; (try dsimp only at hSw); first | (go_simp; done) | (go_simp; with_reducible rfl))
    simp only [Act.put, List.setIfInBounds_toArray, List.set_cons_zero, List.set_cons_succ]
    refine wpAnyH_ready (rs := [12]) (by kernel_rfl) (by simp) ?_
    refine AllReadyH.cons rfl (fun K' hK => ?_) AllReadyH.nil
    rw [if_pos (by kernel_rfl)]
    go_simp
    refine (lines_nil x1).mono ?_
    rintro e x2 ⟨rfl, rfl⟩
    have hw' : Up W.heap.size W x2 := hHeld
    go_wp2_with fail
    refine hK.out _ _ hw' (fun hHeld => ?_)
    clear hK K' hw'
    (try dsimp only at hHeld)
    (try simp only [Act.put, List.setIfInBounds_toArray, List.set_cons_zero, List.set_cons_succ])
    refine takeH (i := 13) (v := ?_) (d := (some 77)) rfl (by kernel_rfl) (by kernel_rfl) (by kernel_rfl) rfl (fun _ _ _ h => h) (Or.inl ⟨by kernel_rfl, ?_⟩) (by assumption) ?_; rotate_left; · (intro w' hSw; (try dsimp only at hSw); first | (go_simp; done) | (go_simp; with_reducible rfl))
    simp only [Act.put, List.setIfInBounds_toArray, List.set_cons_zero, List.set_cons_succ]
    refine takeH (i := 14) (v := ?_) (d := (some 78)) rfl (by kernel_rfl) (by kernel_rfl) (by kernel_rfl) rfl (fun _ _ _ h => h) (Or.inl ⟨by kernel_rfl, ?_⟩) (by assumption) ?_; rotate_left; · (intro w' hSw; (try dsimp only at hSw); first | (go_simp; done) | (go_simp; with_reducible rfl))
    simp only [Act.put, List.setIfInBounds_toArray, List.set_cons_zero, List.set_cons_succ]
    refine takeH (i := 15) (v := ?_) (d := (some 79)) rfl (by kernel_rfl) (by kernel_rfl) (by kernel_rfl) rfl (fun _ _ _ h => h) (Or.inl ⟨by kernel_rfl, ?_⟩) (by assumption) ?_; rotate_left; · (intro w' hSw; (try dsimp only at hSw); first | (go_simp; done) | (go_simp; with_reducible rfl))
    simp only [Act.put, List.setIfInBounds_toArray, List.set_cons_zero, List.set_cons_succ]
    refine takeH (i := 16) (v := ?_) (d := (some 80)) rfl (by kernel_rfl) (by kernel_rfl) (by kernel_rfl) rfl (fun _ _ _ h => h) (Or.inl ⟨by kernel_rfl, ?_⟩) (by assumption) ?_; rotate_left; · (intro w' hSw; (try dsimp only at hSw); have c0 := hSw.cell CB0.out; have c1 := hSw.cell CB1.out; first | (go_simp; done) | (go_simp; with_reducible rfl))
    simp only [Act.put, List.setIfInBounds_toArray, List.set_cons_zero, List.set_cons_succ]
    refine takeH (i := 17) (v := ?_) (d := (some 81)) rfl (by kernel_rfl) (by kernel_rfl) (by kernel_rfl) rfl (fun _ _ _ h => h) (Or.inl ⟨by kernel_rfl, ?_⟩) (by assumption) ?_; rotate_left; · (intro w' hSw; (try dsimp only at hSw); first | (go_simp; done) | (go_simp; with_reducible rfl))
    simp only [Act.put, List.setIfInBounds_toArray, List.set_cons_zero, List.set_cons_succ]
    refine takeH (i := 18) (v := ?_) (d := (some 82)) rfl (by kernel_rfl) (by kernel_rfl) (by kernel_rfl) rfl (fun _ _ _ h => h) (Or.inl ⟨by kernel_rfl, ?_⟩) (by assumption) ?_; rotate_left; · (intro w' hSw; (try dsimp only at hSw); first | (go_simp; done) | (go_simp; with_reducible rfl))
    simp only [Act.put, List.setIfInBounds_toArray, List.set_cons_zero, List.set_cons_succ]
    refine takeH (i := 19) (v := ?_) (d := (some 83)) rfl (by kernel_rfl) (by kernel_rfl) (by kernel_rfl) rfl (fun _ _ _ h => h) (Or.inl ⟨by kernel_rfl, ?_⟩) (by assumption) ?_; rotate_left; · (intro w' hSw; (try dsimp only at hSw); first | (go_simp; done) | (go_simp; with_reducible rfl))
    simp only [Act.put, List.setIfInBounds_toArray, List.set_cons_zero, List.set_cons_succ]
    refine takeH (i := 20) (v := ?_) (d := (some 84)) rfl (by kernel_rfl) (by kernel_rfl) (by kernel_rfl) rfl (fun _ _ _ h => h) (Or.inl ⟨by kernel_rfl, ?_⟩) (by assumption) ?_; rotate_left; · (intro w' hSw; (try dsimp only at hSw); first | (go_simp; done) | (go_simp; with_reducible rfl))
    simp only [Act.put, List.setIfInBounds_toArray, List.set_cons_zero, List.set_cons_succ]
    refine takeH (i := 21) (v := ?_) (d := (some 85)) rfl (by kernel_rfl) (by kernel_rfl) (by kernel_rfl) rfl (fun _ _ _ h => h) (Or.inl ⟨by kernel_rfl, ?_⟩) (by assumption) ?_; rotate_left; · (intro w' hSw; (try dsimp only at hSw); first | (go_simp; done) | (go_simp; with_reducible rfl))
    simp only [Act.put, List.setIfInBounds_toArray, List.set_cons_zero, List.set_cons_succ]
    refine takeH (i := 22) (v := ?_) (d := (some 86)) rfl (by kernel_rfl) (by kernel_rfl) (by kernel_rfl) rfl (fun _ _ _ h => h) (Or.inl ⟨by kernel_rfl, ?_⟩) (by assumption) ?_; rotate_left; · (intro w' hSw; (try dsimp only at hSw); first | (go_simp; done) | (go_simp; with_reducible rfl))
    simp only [Act.put, List.setIfInBounds_toArray, List.set_cons_zero, List.set_cons_succ]
    refine takeH (i := 23) (v := ?_) (d := (some 87)) rfl (by kernel_rfl) (by kernel_rfl) (by kernel_rfl) rfl (fun _ _ _ h => h) (Or.inl ⟨by kernel_rfl, ?_⟩) (by assumption) ?_; rotate_left; · (intro w' hSw; (try dsimp only at hSw); first | (go_simp; done) | (go_simp; with_reducible rfl))
    simp only [Act.put, List.setIfInBounds_toArray, List.set_cons_zero, List.set_cons_succ]
    refine takeH (i := 24) (v := ?_) (d := (some 88)) rfl (by kernel_rfl) (by kernel_rfl) (by kernel_rfl) rfl (fun _ _ _ h => h) (Or.inl ⟨by kernel_rfl, ?_⟩) (by assumption) ?_; rotate_left; · (intro w' hSw; (try dsimp only at hSw); first | (go_simp; done) | (go_simp; with_reducible rfl))
    simp only [Act.put, List.setIfInBounds_toArray, List.set_cons_zero, List.set_cons_succ]
    refine takeH (i := 25) (v := ?_) (d := (some 89)) rfl (by kernel_rfl) (by kernel_rfl) (by kernel_rfl) rfl (fun _ _ _ h => h) (Or.inl ⟨by kernel_rfl, ?_⟩) (by assumption) ?_; rotate_left; · (intro w' hSw; (try dsimp only at hSw); first | (go_simp; done) | (go_simp; with_reducible rfl))
    simp only [Act.put, List.setIfInBounds_toArray, List.set_cons_zero, List.set_cons_succ]
    refine takeH (i := 26) (v := ?_) (d := (some 90)) rfl (by kernel_rfl) (by kernel_rfl) (by kernel_rfl) rfl (fun _ _ _ h => h) (Or.inl ⟨by kernel_rfl, ?_⟩) (by assumption) ?_; rotate_left; · (intro w' hSw; (try dsimp only at hSw); first | (go_simp; done) | (go_simp; with_reducible rfl))
    simp only [Act.put, List.setIfInBounds_toArray, List.set_cons_zero, List.set_cons_succ]
    refine takeH (i := 27) (v := ?_) (d := (some 91)) rfl (by kernel_rfl) (by kernel_rfl) (by kernel_rfl) rfl (fun _ _ _ h => h) (Or.inl ⟨by kernel_rfl, ?_⟩) (by assumption) ?_; rotate_left; · (intro w' hSw; (try dsimp only at hSw); first | (go_simp; done) | (go_simp; with_reducible rfl))
    simp only [Act.put, List.setIfInBounds_toArray, List.set_cons_zero, List.set_cons_succ]
    refine takeH (i := 28) (v := ?_) (d := (some 92)) rfl (by kernel_rfl) (by kernel_rfl) (by kernel_rfl) rfl (fun _ _ _ h => h) (Or.inl ⟨by kernel_rfl, ?_⟩) (by assumption) ?_; rotate_left; · (intro w' hSw; (try dsimp only at hSw); first | (go_simp; done) | (go_simp; with_reducible rfl))
    simp only [Act.put, List.setIfInBounds_toArray, List.set_cons_zero, List.set_cons_succ]
    refine takeH (i := 29) (v := ?_) (d := (some 93)) rfl (by kernel_rfl) (by kernel_rfl) (by kernel_rfl) rfl (fun _ _ _ h => h) (Or.inl ⟨by kernel_rfl, ?_⟩) (by assumption) ?_; rotate_left; · (intro w' hSw; (try dsimp only at hSw); first | (go_simp; done) | (go_simp; with_reducible rfl))
    simp only [Act.put, List.setIfInBounds_toArray, List.set_cons_zero, List.set_cons_succ]
    refine takeH (i := 30) (v := ?_) (d := (some 94)) rfl (by kernel_rfl) (by kernel_rfl) (by kernel_rfl) rfl (fun _ _ _ h => h) (Or.inl ⟨by kernel_rfl, ?_⟩) (by assumption) ?_; rotate_left; · (intro w' hSw; (try dsimp only at hSw); first | (go_simp; done) | (go_simp; with_reducible rfl))
    simp only [Act.put, List.setIfInBounds_toArray, List.set_cons_zero, List.set_cons_succ]
    refine takeH (i := 31) (v := ?_) (d := (some 95)) rfl (by kernel_rfl) (by kernel_rfl) (by kernel_rfl) rfl (fun _ _ _ h => h) (Or.inl ⟨by kernel_rfl, ?_⟩) (by assumption) ?_; rotate_left; · (intro w' hSw; (try dsimp only at hSw); first | (go_simp; done) | (go_simp; with_reducible rfl))
    simp only [Act.put, List.setIfInBounds_toArray, List.set_cons_zero, List.set_cons_succ]
    refine takeH (i := 32) (v := ?_) (d := (some 96)) rfl (by kernel_rfl) (by kernel_rfl) (by kernel_rfl) rfl (fun _ _ _ h => h) (Or.inl ⟨by kernel_rfl, ?_⟩) (by assumption) ?_; rotate_left; · (intro w' hSw; (try dsimp only at hSw); first | (go_simp; done) | (go_simp; with_reducible rfl))
    simp only [Act.put, List.setIfInBounds_toArray, List.set_cons_zero, List.set_cons_succ]
    refine takeH (i := 33) (v := ?_) (d := (some 97)) rfl (by kernel_rfl) (by kernel_rfl) (by kernel_rfl) rfl (fun _ _ _ h => h) (Or.inl ⟨by kernel_rfl, ?_⟩) (by assumption) ?_; rotate_left; · (intro w' hSw; (try dsimp only at hSw); have c0 := hSw.cell CD0.out; have c1 := hSw.cell CD1.out; first | (go_simp; done) | (go_simp; with_reducible rfl))
    simp only [Act.put, List.setIfInBounds_toArray, List.set_cons_zero, List.set_cons_succ]
    refine takeH (i := 34) (v := ?_) (d := (some 98)) rfl (by kernel_rfl) (by kernel_rfl) (by kernel_rfl) rfl (fun _ _ _ h => h) (Or.inl ⟨by kernel_rfl, ?_⟩) (by assumption) ?_; rotate_left; · (intro w' hSw; (try dsimp only at hSw); first | (go_simp; done) | (go_simp; with_reducible rfl))
    simp only [Act.put, List.setIfInBounds_toArray, List.set_cons_zero, List.set_cons_succ]
    refine takeH (i := 35) (v := ?_) (d := (some 99)) rfl (by kernel_rfl) (by kernel_rfl) (by kernel_rfl) rfl (fun _ _ _ h => h) (Or.inl ⟨by kernel_rfl, ?_⟩) (by assumption) ?_; rotate_left; · (intro w' hSw; (try dsimp only at hSw); first | (go_simp; done) | (go_simp; with_reducible rfl))
    simp only [Act.put, List.setIfInBounds_toArray, List.set_cons_zero, List.set_cons_succ]
    refine takeH (i := 36) (v := ?_) (d := (some 100)) rfl (by kernel_rfl) (by kernel_rfl) (by kernel_rfl) rfl (fun _ _ _ h => h) (Or.inl ⟨by kernel_rfl, ?_⟩) (by assumption) ?_; rotate_left; · (intro w' hSw; (try dsimp only at hSw); first | (go_simp; done) | (go_simp; with_reducible rfl))
    simp only [Act.put, List.setIfInBounds_toArray, List.set_cons_zero, List.set_cons_succ]
    refine takeH (i := 37) (v := ?_) (d := (some 101)) rfl (by kernel_rfl) (by kernel_rfl) (by kernel_rfl) rfl (fun _ _ _ h => h) (Or.inl ⟨by kernel_rfl, ?_⟩) (by assumption) ?_; rotate_left; · (intro w' hSw; (try dsimp only at hSw); first | (go_simp; done) | (go_simp; with_reducible rfl))
    simp only [Act.put, List.setIfInBounds_toArray, List.set_cons_zero, List.set_cons_succ]
    refine takeH (i := 38) (v := ?_) (d := (some 102)) rfl (by kernel_rfl) (by kernel_rfl) (by kernel_rfl) rfl (fun _ _ _ h => h) (Or.inl ⟨by kernel_rfl, ?_⟩) (by assumption) ?_; rotate_left; · (intro w' hSw; (try dsimp only at hSw); first | (go_simp; done) | (go_simp; with_reducible rfl))
    simp only [Act.put, List.setIfInBounds_toArray, List.set_cons_zero, List.set_cons_succ]
    refine takeH (i := 39) (v := ?_) (d := (some 103)) rfl (by kernel_rfl) (by kernel_rfl) (by kernel_rfl) rfl (fun _ _ _ h => h) (Or.inl ⟨by kernel_rfl, ?_⟩) (by assumption) ?_; rotate_left; · (intro w' hSw; (try dsimp only at hSw); first | (go_simp; done) | (go_simp; with_reducible rfl))
    simp only [Act.put, List.setIfInBounds_toArray, List.set_cons_zero, List.set_cons_succ]
    refine takeH (i := 40) (v := ?_) (d := (some 104)) rfl (by kernel_rfl) (by kernel_rfl) (by kernel_rfl) rfl (fun _ _ _ h => h) (Or.inl ⟨by kernel_rfl, ?_⟩) (by assumption) ?_; rotate_left; · (intro w' hSw; (try dsimp only at hSw); first | (go_simp; done) | (go_simp; with_reducible rfl))
    simp only [Act.put, List.setIfInBounds_toArray, List.set_cons_zero, List.set_cons_succ]
    refine takeH (i := 41) (v := ?_) (d := (some 4)) rfl (by kernel_rfl) (by kernel_rfl) (by kernel_rfl) rfl (fun _ _ _ h => h) (Or.inl ⟨by kernel_rfl, ?_⟩) (by assumption) ?_; rotate_left; · (intro w' hSw; (try dsimp only at hSw); first | (go_simp; done) | (go_simp; with_reducible rfl))
    simp only [Act.put, List.setIfInBounds_toArray, List.set_cons_zero, List.set_cons_succ]
    refine wpAnyH_done (by kernel_rfl) ?_ _
    have HE : Hid (Up w.heap.size w x2) := HU8.out.stay hHeld.1
    clear hHeld
    go_wp2
    go_ret
    exact ⟨rfl, HE.out.1⟩
theorem owns_all (s : ByteArray) (v : Value) (n : Int) (w : World) (hm : s.size ≤ maxLen) (hT : Tabs w) (h : BSl w v s) :
    Calls Tryd.prog 6 #[v, .int .i64 n] w fun e w' => e = .returned (.bool true) ∧ Below w.heap.size w w' := by
  by_cases hs : 300 < s.size
  · exact owns_big s v n w hm hs hT h
  · exact owns_small s v n w (by omega) hT h
end Go.Proofs.YtihplafalbokdaaDoor
