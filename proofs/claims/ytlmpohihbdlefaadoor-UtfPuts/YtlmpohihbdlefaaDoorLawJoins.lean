/- UtfJoins. -/
import Derived.Test.YtlmpohihbdlefaaDoorLawReads
import Derived.Test.YtlmpohihbdlefaaDoorPureB
namespace Go.Proofs.YtlmpohihbdlefaaDoor
set_option linter.unusedVariables false
open Go.RowKit Go.ChangeShapes
theorem RSl.form {w : World} {v : Value} {k : Nat} {R : Nat → Int} (h : RSl w v k R) : ∃ ad c, v = .slice ad k c := by
  rcases h with ⟨ad, c, rfl, rfl⟩ | ⟨b, off, c, rfl, _⟩
  · exact ⟨ad, c, rfl⟩
  · exact ⟨_, c, rfl⟩
theorem app_own_wp {P : Program} {w : World} {o : Oper} {a : Act} {K : Act → World → Prop} {Q : Exit → Act → World → Prop} (s x : Operand) (t : TypeId)
    (ho : o.op = .call { callee := .builtin .append, args := #[s, x], argTypes := #[t, t] })
    (base : Nat) (e : TypeId) (i : TypeInfo) (z : Value) (size bytes : Nat) (ht : P.underlying t = some (.slice e)) (hi : P.info? e = some i) (hz : i.zero = some z)
    (hsize : i.size = size) (hby : i.bytes = bytes) (hzs : z.cells.size = size) (hsz : 0 < size)
    (v : Value) (n : Nat) (xs : List Value) (hs : a.eval s = v) (hown : w.ownsRow base e size v n xs)
    (base2 : Nat) (v2 : Value) (m : Nat) (news : List Value) (hx : a.eval x = v2) (hsrc : w.ownsRow base2 e size v2 m news) (h1 : ∀ u ∈ news, u.oneCell' = true)
    (h63 : n + m ≤ maxLen) (hbytes : (n + m) * bytes ≤ 140737488355328) (hbase : base ≤ w.heap.size)
    (h : ∀ v' w', w'.ownsRow base e size v' (n + m) (xs ++ news) → w.grownBy w' v.ownBlock → K (a.put o.dst v') w') : o.wp P a w K Q := by
  have hc := @World.ownsRow.cells _ _ _ _ _ _ _ hsrc
  obtain ⟨hl, ⟨rfl, rfl⟩ | ⟨g, cap, cur, rfl, hg, hh, h3⟩⟩ := hsrc
  · obtain rfl : news = [] := List.eq_nil_of_length_eq_zero (by simpa using hl)
    have hrun := run_append_owned_none (P := P) (w := w) base t o.type e i size ht hi v n xs hown
    unfold Oper.wp
    simp [execOp, ho, resolve, invoke, builtin, hs, hx, hrun, Result.andThen]
    exact h v w (by rw [List.append_nil]; exact hown) (World.grownBy.refl _ _)
  · exact wp_append_own w s x t ho base e i z size bytes ht hi hz hsize hby hzs hsz v n xs hs hown ⟨g, 0, none⟩ m cap news hx hl (hc rfl) h1 h63 hbytes hbase (fun v' w' h2 h3 _ => h v' w' h2 h3)
theorem rcells_one (s : ByteArray) (k : Nat) : ∀ u ∈ rcells s k, u.oneCell' = true := by
  intro u hu
  obtain ⟨x, _, rfl⟩ := List.mem_map.1 hu
  rfl
theorem rcells_len (s : ByteArray) (k : Nat) : (rcells s k).length = k := by simp [rcells]
theorem rcells_join {a b : ByteArray} {k m : Nat} (hw : Whole a k) (he : Ends a k) : rcells a k ++ rcells b m = rcells (a ++ b) (k + m) := by
  apply List.ext_getElem?
  intro j
  by_cases h : j < k
  · rw [List.getElem?_append_left (by rw [rcells_len]; exact h), rcells_at a k j h, rcells_at _ _ j (by omega), join_rn b hw j h]
  · by_cases h2 : j < k + m
    · obtain ⟨i, rfl⟩ : ∃ i, j = k + i := ⟨j - k, by omega⟩
      rw [List.getElem?_append_right (by rw [rcells_len]; omega), rcells_len, show k + i - k = i by omega, rcells_at b m i (by omega), rcells_at _ _ (k + i) h2, join_rn_right b hw he i]
    · rw [List.getElem?_eq_none (by rw [List.length_append, rcells_len, rcells_len]; omega), List.getElem?_eq_none (by rw [rcells_len]; omega)]
theorem joins_big (v : Value) (k : Nat) (R : Nat → Int) (s : ByteArray) (v1 : Value) (w : World) (m0 : k ≤ maxLen) (m1 : s.size ≤ maxLen) (hk : 500 < k ∨ 1000 < s.size) (hT : Tabs w) (h0 : RSl w v k R) (h1 : BSl w v1 s) :
    Calls Tryd.prog 6 #[v, v1] w fun e w' => e = .returned (.bool true) ∧ Below w.heap.size w w' := by
  obtain ⟨ad, c, rfl⟩ := h0.form
  obtain ⟨ad1, c1, rfl⟩ := h1.form
  clear h0 h1
  by_cases h5 : 500 < k
  · have h5' : (500 : Int) < (k : Int) := by omega
    go_enter Tryd.func6, Tryd.ntmps6
    go_wp2_with fail
    refine (awake_any _ hT).mono ?_
    rintro e w1 ⟨rfl, hb1⟩
    go_wp2
    go_ret
    exact ⟨rfl, hb1⟩
  · have h5' : ¬ (500 : Int) < (k : Int) := by omega
    have h6' : (1000 : Int) < (s.size : Int) := by omega
    go_enter Tryd.func6, Tryd.ntmps6
    go_wp2_with fail
    refine (awake_any _ hT).mono ?_
    rintro e w1 ⟨rfl, hb1⟩
    go_wp2
    go_ret
    exact ⟨rfl, hb1⟩
set_option maxRecDepth 100000 in
set_option maxHeartbeats 4000000 in
theorem joins_small (v : Value) (k : Nat) (R : Nat → Int) (s : ByteArray) (v1 : Value) (w : World) (hk : k ≤ 500) (hs : s.size ≤ 1000) (hT : Tabs w) (h0 : RSl w v k R) (h1 : BSl w v1 s) :
    Calls Tryd.prog 6 #[v, v1] w fun e w' => e = .returned (.bool true) ∧ Below w.heap.size w w' := by
  obtain ⟨ad, c, rfl⟩ := h0.form
  obtain ⟨ad1, c1, rfl⟩ := h1.form
  have HR : Hid (RSl w (.slice ad k c) k R) := h0
  have HB : Hid (BSl w (.slice ad1 s.size c1) s) := h1
  have HT : Hid (Tabs w) := hT
  have h5' : ¬ (500 : Int) < (k : Int) := by omega
  have h6' : ¬ (1000 : Int) < (s.size : Int) := by omega
  have hal : (strOfNums (txt R k)).size ≤ 2000 := by rw [strOfNums_size]; have := txt_le R k; omega
  have HA : Hid (Ends (strOfNums (txt R k)) (oks R k).length ∧ Whole (strOfNums (txt R k)) (oks R k).length) := text_ends R k
  have ct := fun w' (hu : Up w.heap.size w w') => text_any R k (.slice ad k c) w' (by omega) (HR.out.stay hu.1)
  clear h0 h1 hT HR
  generalize strOfNums (txt R k) = a at hal HA ct
  generalize (oks R k).length = ka at HA
  have hj : (a ++ s).size ≤ 3000 := by rw [join_size]; omega
  obtain ⟨i0, hi, hz0, hz1, hz2⟩ := info_parts info21
  go_enter Tryd.func6, Tryd.ntmps6
  go_wp2_with fail
  refine (awake_any _ HT.out).mono ?_
  rintro e w1 ⟨rfl, hb1⟩
  have HU1 : Hid (Up w.heap.size w w1) := (Up.refl w).stay hb1
  clear hb1
  go_wp2_with fail
  refine (ct _ HU1.out).mono ?_
  rintro e w2 ⟨rfl, hb2⟩
  have HU2 : Hid (Up w.heap.size w w2) := HU1.out.stay hb2
  clear hb2 HU1 ct
  go_wp2_with fail
  refine wp_region_held_drew (S := fun w' => Up w.heap.size w w') (by kernel_rfl) (Up.drew HU2.out) (fun hHeld => ?_)
  (try dsimp only at hHeld)
  clear HU2
  obtain ⟨x0, hx0⟩ : ∃ x0, w2.drew = x0 := ⟨_, rfl⟩
  rw [hx0] at hHeld ⊢
  clear hx0
  refine takeH (i := 0) (v := ?_) (d := (some 21)) rfl (by kernel_rfl) (by kernel_rfl) (by kernel_rfl) rfl (fun _ _ _ h => h) (Or.inl ⟨by kernel_rfl, ?_⟩) (by assumption) ?_; rotate_left; · (intro w hSw; (try dsimp only at hSw); first | (go_simp; done) | (go_simp; with_reducible rfl)); (try simp only [Act.put, List.setIfInBounds_toArray, List.set_cons_zero, List.set_cons_succ])
  refine takeH (i := 2) (v := ?_) (d := (some 23)) rfl (by kernel_rfl) (by kernel_rfl) (by kernel_rfl) rfl (fun _ _ _ h => h) (Or.inl ⟨by kernel_rfl, ?_⟩) (by assumption) ?_; rotate_left; · (intro w hSw; (try dsimp only at hSw); first | (go_simp; done) | (go_simp; with_reducible rfl)); (try simp only [Act.put, List.setIfInBounds_toArray, List.set_cons_zero, List.set_cons_succ])
  refine takeH (i := 3) (v := ?_) (d := (some 24)) rfl (by kernel_rfl) (by kernel_rfl) (by kernel_rfl) rfl (fun _ _ _ h => h) (Or.inl ⟨by kernel_rfl, ?_⟩) (by assumption) ?_; rotate_left; · (intro w hSw; (try dsimp only at hSw); have hcv := str_of (HB.out.stay hSw.1); first | (go_simp; done) | (go_simp; with_reducible rfl)); (try simp only [Act.put, List.setIfInBounds_toArray, List.set_cons_zero, List.set_cons_succ])
  refine wpAnyH_ready (rs := [1]) (by kernel_rfl) (by simp) ?_
  refine AllReadyH.cons rfl (fun K hK => ?_) AllReadyH.nil
  go_simp
  refine (runes_any a _ (by omega) (tabs_stay HT.out hHeld.1)).mono ?_
  rintro e x1 ⟨kA, vA, rfl, heA, ho, hb⟩
  obtain rfl : kA = ka := heA.one HA.out.1
  have OA1 : Hid (x1.ownsRow w.heap.size 21 1 vA kA (rcells a kA)) := own_mono ho hHeld.2
  have hlA := heA.le
  clear ho heA
  have hw' : Up w.heap.size w x1 := hHeld.stay hb
  clear hb
  go_wp2_with fail
  refine hK.out _ _ hw' (fun hHeld => ?_)
  clear hK K hw'
  (try dsimp only at hHeld)
  (try simp only [Act.put, List.setIfInBounds_toArray, List.set_cons_zero, List.set_cons_succ])
  refine wpAnyH_ready (rs := [4]) (by kernel_rfl) (by simp) ?_
  refine AllReadyH.cons rfl (fun K hK => ?_) AllReadyH.nil
  go_simp
  refine (runes_any s _ (by omega) (tabs_stay HT.out hHeld.1)).mono ?_
  rintro e x2 ⟨kB, vB, rfl, heB, ho, hb⟩
  have OA2 : Hid (x2.ownsRow w.heap.size 21 1 vA kA (rcells a kA)) := own_stay OA1.out hb
  have OB2 : Hid (x2.ownsRow x1.heap.size 21 1 vB kB (rcells s kB)) := ho
  have HEB : Hid (Ends s kB) := heB
  have hlB := heB.le
  clear ho heB OA1
  have hw' : Up w.heap.size w x2 := hHeld.stay hb
  clear hb
  go_wp2_with fail
  refine hK.out _ _ hw' (fun hHeld => ?_)
  clear hK K hw'
  (try dsimp only at hHeld)
  (try simp only [Act.put, List.setIfInBounds_toArray, List.set_cons_zero, List.set_cons_succ])
  refine wpAnyH_ready (rs := [5]) (by kernel_rfl) (by simp) ?_
  refine AllReadyH.cons rfl (fun K hK => ?_) AllReadyH.nil
  rw [if_pos (by kernel_rfl)]
  refine app_own_wp (.tmp 22) (.tmp 25) 30 rfl w.heap.size 21 i0 _ 1 4 Tryd.underlying30 hi hz0 hz1 hz2 rfl (by decide) vA kA (rcells a kA) rfl OA2.out x1.heap.size vB kB (rcells s kB) rfl OB2.out (rcells_one _ _) (by unfold maxLen; omega) (by omega) hHeld.2 ?_
  intro vX x3 hown3 hgr
  have OX3 : Hid (x3.ownsRow w.heap.size 21 1 vX (kA + kB) (rcells (a ++ s) (kA + kB))) := by
    show x3.ownsRow _ _ _ _ _ _
    rw [← rcells_join HA.out.2 HA.out.1]; exact hown3
  have hw' : Up w.heap.size w x3 := hHeld.grown hgr (own_base OA2.out)
  clear hown3 hgr OA2 OB2
  refine hK.out _ _ hw' (fun hHeld => ?_)
  clear hK K hw'
  (try dsimp only at hHeld)
  (try simp only [Act.put, List.setIfInBounds_toArray])
  refine takeH (i := 6) (v := ?_) (d := (some 6)) rfl (by kernel_rfl) (by kernel_rfl) (by kernel_rfl) rfl (fun _ _ _ h => h) (Or.inl ⟨by kernel_rfl, ?_⟩) (by assumption) ?_; rotate_left; · (intro w hSw; (try dsimp only at hSw); first | (go_simp; done) | (go_simp; with_reducible rfl)); (try simp only [Act.put, List.setIfInBounds_toArray, List.set_cons_zero, List.set_cons_succ])
  refine wpAnyH_done (by kernel_rfl) ?_ _
  have HU3 : Hid (Up w.heap.size w x3) := hHeld
  clear hHeld
  have hcv := str_of (HB.out.stay HU3.out.1)
  go_wp2_with fail
  refine (runes_any (a ++ s) _ (by omega) (tabs_stay HT.out HU3.out.1)).mono ?_
  rintro e w4 ⟨kY, vY, rfl, heY, hoY, hb4⟩
  obtain rfl : kY = kA + kB := heY.one (join_ends HA.out.2 HA.out.1 HEB.out)
  have OX4 := own_stay OX3.out hb4
  have HU4 : Hid (Up w.heap.size w w4) := HU3.out.stay hb4
  clear hcv hb4 OX3 HU3 heY HEB HA HB HT
  have h0X := OX4
  have h0Y := hoY
  obtain ⟨lX, ⟨rfl, hkz⟩ | ⟨gX, cX, curX, rfl, _⟩⟩ := OX4
  · obtain ⟨lY, ⟨rfl, _⟩ | ⟨gY, cY, curY, rfl, _⟩⟩ := hoY
    all_goals
      rw [hkz] at *
      go_wp2
      go_loopg [39] (0) (fun g i wr => i = .int .i64 0 ∧ wr = w4)
      case atStart => exact ⟨rfl, rfl⟩
      case round =>
        obtain ⟨rfl, rfl⟩ := hrel
        go_wp2_with fail
        go_ret
        exact ⟨rfl, HU4.out.1⟩
  · obtain ⟨lY, ⟨rfl, hkz⟩ | ⟨gY, cY, curY, rfl, _⟩⟩ := hoY
    · rw [hkz] at *
      go_wp2
      go_loopg [39] (0) (fun g i wr => i = .int .i64 0 ∧ wr = w4)
      case atStart => exact ⟨rfl, rfl⟩
      case round =>
        obtain ⟨rfl, rfl⟩ := hrel
        go_wp2_with fail
        go_ret
        exact ⟨rfl, HU4.out.1⟩
    · obtain ⟨n, hn⟩ : ∃ n, kA + kB = n := ⟨_, rfl⟩
      rw [hn] at h0X h0Y lX lY ⊢
      have hn5 : n ≤ 3000 := by omega
      have HX : Hid (∀ i, i < n → w4.cell? ⟨gX, i, none⟩ = some (.int .i32 (rn (a ++ s) (pos (a ++ s) i)))) := fun i hi => by rw [h0X.cellAt i (by omega)]; exact rcells_at _ _ i hi
      have HY : Hid (∀ i, i < n → w4.cell? ⟨gY, i, none⟩ = some (.int .i32 (rn (a ++ s) (pos (a ++ s) i)))) := fun i hi => by rw [h0Y.cellAt i (by omega)]; exact rcells_at _ _ i hi
      clear h0X h0Y lX lY
      go_wp2
      go_loopg [39] n (fun g i wr => ∃ j : Nat, j ≤ n ∧ g = n - j ∧ i = .int .i64 j ∧ Hid (∃ m, wr = w4.drewN m))
      case atStart => exact ⟨0, Nat.zero_le _, rfl, rfl, ⟨0, rfl⟩⟩
      case round =>
        obtain ⟨j, hj, hg, rfl, HD⟩ := hrel
        obtain ⟨m, rfl⟩ := HD.out
        clear HD
        by_cases hlt : j < n
        · have z0 : (0 : Int) ≤ (j : Int) := by omega
          have z1 : (j : Int) < (n : Int) := by omega
          have cX := HX.out j hlt
          have cY := HY.out j hlt
          go_wp2_with fail
          go_quiet (fail)
          go_wp2
          go_roundg (n - (j + 1))
          case measure => omega
          case rel => exact ⟨j + 1, by omega, rfl, by go_num, ⟨_, rfl⟩⟩
        · obtain rfl : j = n := by omega
          go_wp2_with fail
          go_ret
          exact ⟨rfl, Go.below_drewN HU4.out.1 _⟩
theorem joins_all (v : Value) (k : Nat) (R : Nat → Int) (s : ByteArray) (v1 : Value) (w : World) (m0 : k ≤ maxLen) (m1 : s.size ≤ maxLen) (hT : Tabs w) (h0 : RSl w v k R) (h1 : BSl w v1 s) :
    Calls Tryd.prog 6 #[v, v1] w fun e w' => e = .returned (.bool true) ∧ Below w.heap.size w w' := by
  by_cases h : 500 < k ∨ 1000 < s.size
  · exact joins_big v k R s v1 w m0 m1 h hT h0 h1
  · exact joins_small v k R s v1 w (by omega) (by omega) hT h0 h1
end Go.Proofs.YtlmpohihbdlefaaDoor
