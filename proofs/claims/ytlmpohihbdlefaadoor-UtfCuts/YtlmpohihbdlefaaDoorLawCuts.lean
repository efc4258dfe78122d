/- UtfCuts. -/
import Derived.Test.YtlmpohihbdlefaaDoorLawJoins
namespace Go.Proofs.YtlmpohihbdlefaaDoor
set_option linter.unusedVariables false
open Go.RowKit Go.ChangeShapes
theorem cuts_big (s : ByteArray) (v : Value) (x : Int) (w : World) (hm : s.size ≤ maxLen) (hs : 500 < s.size) (hT : Tabs w) (h : BSl w v s) :
    Calls Tryd.prog 7 #[v, .int .u8 x] w fun e w' => e = .returned (.bool true) ∧ Below w.heap.size w w' := by
  obtain ⟨ad, c, rfl⟩ := h.form
  clear h
  have hs' : (500 : Int) < (s.size : Int) := by omega
  go_enter Tryd.func7, Tryd.ntmps7
  go_wp2_with fail
  refine (awake_any _ hT).mono ?_
  rintro e w1 ⟨rfl, hb1⟩
  go_wp2
  go_ret
  exact ⟨rfl, hb1⟩
/-- The cells of the two parts' signs, as the law's loop reads them: rune and length alone count. -/
theorem part_left {w : World} {v : Value} {s : ByteArray} {p : Nat} (h : BSl w v s) (hp : p ≤ s.size) : ∀ ad c, v = .slice ad s.size c → BSl w (.slice ad p c) (upto_ s p) := by
  intro ad c hv
  have hz := upto_size s p hp
  by_cases h0 : p = 0
  · subst h0
    exact Or.inl ⟨ad, c, rfl, hz⟩
  · rcases h with ⟨ad', c', rfl, h1⟩ | ⟨b, off, cap, rfl, h1, h2, hb⟩
    · omega
    · cases hv
      refine Or.inr ⟨b, off, c, by rw [hz], by omega, by omega, fun j hj => ?_⟩
      rw [hz] at hj
      rw [upto_get s p j hp hj]
      exact hb j (by omega)
theorem part_right {w : World} {b off cap p : Nat} {s : ByteArray} (hb : By w b off s) (h2 : s.size ≤ cap) (hp : p ≤ s.size) : BSl w (.slice (some ⟨b, off + p, none⟩) (s.size - p) (cap - p)) (from_ s p) := by
  have hz := from_size s p
  by_cases h0 : s.size - p = 0
  · exact Or.inl ⟨_, _, by rw [h0], by omega⟩
  · refine Or.inr ⟨b, off + p, cap - p, by rw [hz], by omega, by omega, fun j hj => ?_⟩
    rw [hz] at hj
    rw [from_get, Nat.add_assoc]
    exact hb (p + j) (by omega)
theorem ucells_one (s : ByteArray) (k : Nat) : ∀ u ∈ ucells s k, u.oneCell' = true := by
  intro u hu
  obtain ⟨x, _, hx⟩ := List.mem_flatMap.1 hu
  simp at hx
  rcases hx with rfl | rfl | rfl <;> rfl
/-- The two parts' cells: rune and length at place i. -/
theorem cut_cells (s : ByteArray) {n k : Nat} (he : Ends s n) (hk : k ≤ n) (i : Nat) (hi : i < n) :
    ∃ q : Nat, (ucells (upto_ s (pos s k)) k ++ ucells (from_ s (pos s k)) (n - k))[i * 3]? = some (.int .i32 (rn s (pos s i))) ∧ (ucells (upto_ s (pos s k)) k ++ ucells (from_ s (pos s k)) (n - k))[i * 3 + 1]? = some (.int .i64 q) ∧ (ucells (upto_ s (pos s k)) k ++ ucells (from_ s (pos s k)) (n - k))[i * 3 + 2]? = some (.int .i64 (wd s (pos s i))) := by
  have hl := ucells_len (upto_ s (pos s k)) k
  by_cases h : i < k
  · obtain ⟨a, b, c⟩ := ucells_at (upto_ s (pos s k)) k i h
    obtain ⟨e1, e2⟩ := cut_left_same s he hk i h
    rw [e1] at a
    rw [e2] at c
    rw [List.getElem?_append_left (by omega), List.getElem?_append_left (by omega), List.getElem?_append_left (by omega)]
    exact ⟨_, a, b, c⟩
  · obtain ⟨j, rfl⟩ : ∃ j, i = k + j := ⟨i - k, by omega⟩
    obtain ⟨a, b, c⟩ := ucells_at (from_ s (pos s k)) (n - k) j (by omega)
    obtain ⟨e1, e2⟩ := cut_right_same s k j
    rw [e1] at a
    rw [e2] at c
    rw [List.getElem?_append_right (by omega), List.getElem?_append_right (by omega), List.getElem?_append_right (by omega), hl]
    rw [show (k + j) * 3 - k * 3 = j * 3 by omega, show (k + j) * 3 + 1 - k * 3 = j * 3 + 1 by omega, show (k + j) * 3 + 2 - k * 3 = j * 3 + 2 by omega]
    exact ⟨_, a, b, c⟩
theorem lit_own (w : World) (o : Obj) : ((w.alloc o).alloc (.cells #[] 43)).ownsRow (w.heap.size + 1) 43 3 (.slice (some ⟨w.heap.size + 1, 0, none⟩) 0 0) 0 [] := by
  have h := World.ownsRow_lit (base := w.heap.size + 1) (e := 43) (size := 3) (w.alloc o) #[] 0 (by simp) (Nat.zero_le _) rfl
  rw [World.size_alloc] at h
  exact h
set_option maxRecDepth 100000 in
set_option maxHeartbeats 4000000 in
theorem cuts_some (s : ByteArray) (b off c : Nat) (x : Nat) (w : World) (hs : s.size ≤ 500) (hpos : 0 < s.size) (hx : x < 256) (hcap : s.size ≤ c) (hT : Tabs w) (hby : By w b off s) :
    Calls Tryd.prog 7 #[.slice (some ⟨b, off, none⟩) s.size c, .int .u8 x] w fun e w' => e = .returned (.bool true) ∧ Below w.heap.size w w' := by
  have HY : Hid (By w b off s) := hby
  have HB : Hid (BSl w (.slice (some ⟨b, off, none⟩) s.size c) s) := Or.inr ⟨b, off, c, rfl, hpos, hcap, hby⟩
  have HT : Hid (Tabs w) := hT
  have hs' : ¬ (500 : Int) < (s.size : Int) := by omega
  clear hby hT
  go_enter Tryd.func7, Tryd.ntmps7
  go_wp2_with fail
  refine (awake_any _ HT.out).mono ?_
  rintro e w1 ⟨rfl, hb1⟩
  have HU1 : Hid (Up w.heap.size w w1) := (Up.refl w).stay hb1
  clear hb1
  go_wp2_with fail
  refine (unitsS_any s _ _ (by omega) (tabs_stay HT.out HU1.out.1) (HB.out.stay HU1.out.1)).mono ?_
  rintro e w2 ⟨n, vL, rfl, heL, hoL, hb2⟩
  have HU2 : Hid (Up w.heap.size w w2) := HU1.out.stay hb2
  have hnl := heL.le
  have hn0 : 0 < n := by
    rcases Nat.eq_zero_or_pos n with h | h
    · subst h
      have h1 := heL.1
      have h2 : pos s 0 = 0 := rfl
      omega
    · exact h
  obtain ⟨gL, cL, rfl⟩ : ∃ g c, vL = .slice (some ⟨g, 0, none⟩) n c := by
    obtain ⟨_, ⟨_, h⟩ | ⟨g, cap, cur, rfl, _⟩⟩ := hoL
    · omega
    · exact ⟨g, cap, rfl⟩
  have HL : Hid (Us w2 gL n s) := us_of hoL
  clear hb2 hoL HU1
  obtain ⟨k, hkd⟩ : ∃ k, x % (n + 1) = k := ⟨_, rfl⟩
  have hk : k ≤ n := by have := Nat.mod_lt x (show 0 < n + 1 by omega); omega
  have hmod : (x : Int) % ((n : Int) + 1) = (k : Int) := by rw [← hkd]; norm_cast
  obtain ⟨p, hp⟩ : ∃ p, pos s k = p := ⟨_, rfl⟩
  have hpl : p ≤ s.size := by rw [← hp, ← heL.1]; exact pos_mono s n k hk
  have HPL : Hid (BSl w (.slice (some ⟨b, off, none⟩) p c) (upto_ s p)) := part_left HB.out hpl _ _ rfl
  have HPR : Hid (BSl w (.slice (some ⟨b, off + p, none⟩) (s.size - p) (c - p)) (from_ s p)) := part_right HY.out hcap hpl
  have HEL : Hid (Ends (upto_ s p) k) := by rw [← hp]; exact cut_left_ends s heL hk
  have HER : Hid (Ends (from_ s p) (n - k)) := by rw [← hp]; exact cut_right_ends s heL hk
  have HCC : Hid (∀ i, i < n → ∃ q : Nat, (ucells (upto_ s p) k ++ ucells (from_ s p) (n - k))[i * 3]? = some (.int .i32 (rn s (pos s i))) ∧ (ucells (upto_ s p) k ++ ucells (from_ s p) (n - k))[i * 3 + 1]? = some (.int .i64 q) ∧ (ucells (upto_ s p) k ++ ucells (from_ s p) (n - k))[i * 3 + 2]? = some (.int .i64 (wd s (pos s i)))) := by rw [← hp]; exact cut_cells s heL hk
  have HRW : Hid (∀ i, i < n → rn s (pos s i) < 0 → wd s (pos s i) = 1) := fun i hi hneg => by
    rcases sign_or s (pos s i) (heL.2 i hi) with hsg | ⟨_, _, h⟩
    · have := ((okR_iff _).1 hsg.1).1; omega
    · exact h
  have hups : (upto_ s p).size ≤ 5000 := by rw [upto_size s p hpl]; omega
  have q0 : (0 : Int) ≤ (p : Int) := by omega
  have q1 : ((p : Nat) : Int) ≤ (s.size : Int) := by omega
  have q2 : ((p : Nat) : Int) ≤ (c : Int) := by omega
  have q3 : ((s.size : Nat) : Int) ≤ (c : Int) := by omega
  clear HB HY
  by_cases hkn : k < n
  · have y0 : (0 : Int) ≤ (k : Int) := by omega
    have y1 : (k : Int) < (n : Int) := by omega
    obtain ⟨g0, g1, g2, g3⟩ := HL.out k hkn
    have q4 : ((p : Nat) : Int) < (s.size : Int) := by have := heL.2 k hkn; omega
    have q5 : ((p : Nat) : Int) < (c : Int) := by omega
    rw [hp] at g2
    clear heL
    go_wp2_with fail
    clear g0 g1 g2 g3
    refine wp_region_held_drew (S := fun w' => Up w.heap.size w w') (by kernel_rfl) (Up.drew HU2.out) (fun hHeld => ?_)
    (try dsimp only at hHeld)
    obtain ⟨x0, hx0⟩ : ∃ x0, w2.drew = x0 := ⟨_, rfl⟩
    have HLs : Hid (Us x0 gL n s) := by rw [← hx0]; exact HL.out.stay (Below.refl _ _).drew
    rw [hx0] at hHeld ⊢
    clear HU2 HL hx0
    refine takeH (i := 0) (v := ?_) (d := (some 38)) rfl (by kernel_rfl) (by kernel_rfl) (by kernel_rfl) rfl (fun _ _ _ h => h) (Or.inl ⟨by kernel_rfl, ?_⟩) (by assumption) ?_; rotate_left; · (intro w hSw; (try dsimp only at hSw); first | (go_simp; done) | (go_simp; with_reducible rfl)); (try simp only [Act.put, List.setIfInBounds_toArray, List.set_cons_zero, List.set_cons_succ])
    refine takeH (i := 1) (v := ?_) (d := (some 39)) rfl (by kernel_rfl) (by kernel_rfl) (by kernel_rfl) rfl (fun _ _ _ h => h) (Or.inl ⟨by kernel_rfl, ?_⟩) (by assumption) ?_; rotate_left; · (intro w hSw; (try dsimp only at hSw); first | (go_simp; done) | (go_simp; with_reducible rfl)); (try simp only [Act.put, List.setIfInBounds_toArray, List.set_cons_zero, List.set_cons_succ])
    refine takeH (i := 2) (v := ?_) (d := (some 40)) rfl (by kernel_rfl) (by kernel_rfl) (by kernel_rfl) rfl (fun _ _ _ h => h) (Or.inl ⟨by kernel_rfl, ?_⟩) (by assumption) ?_; rotate_left; · (intro w hSw; (try dsimp only at hSw); first | (go_simp; done) | (go_simp; with_reducible rfl)); (try simp only [Act.put, List.setIfInBounds_toArray, List.set_cons_zero, List.set_cons_succ])
    refine takeH (i := 4) (v := ?_) (d := (some 42)) rfl (by kernel_rfl) (by kernel_rfl) (by kernel_rfl) rfl (fun _ _ _ h => h) (Or.inl ⟨by kernel_rfl, ?_⟩) (by assumption) ?_; rotate_left; · (intro w hSw; (try dsimp only at hSw); first | (go_simp; done) | (go_simp; with_reducible rfl)); (try simp only [Act.put, List.setIfInBounds_toArray, List.set_cons_zero, List.set_cons_succ])
    refine takeH (i := 5) (v := ?_) (d := (some 43)) rfl (by kernel_rfl) (by kernel_rfl) (by kernel_rfl) rfl (fun _ _ _ h => h) (Or.inl ⟨by kernel_rfl, ?_⟩) (by assumption) ?_; rotate_left; · (intro w hSw; (try dsimp only at hSw); first | (go_simp; done) | (go_simp; with_reducible rfl)); (try simp only [Act.put, List.setIfInBounds_toArray, List.set_cons_zero, List.set_cons_succ])
    refine takeH (i := 6) (v := ?_) (d := (some 44)) rfl (by kernel_rfl) (by kernel_rfl) (by kernel_rfl) rfl (fun _ _ _ h => h) (Or.inl ⟨by kernel_rfl, ?_⟩) (by assumption) ?_; rotate_left; · (intro w hSw; (try dsimp only at hSw); first | (go_simp; done) | (go_simp; with_reducible rfl)); (try simp only [Act.put, List.setIfInBounds_toArray, List.set_cons_zero, List.set_cons_succ])
    refine wpAnyH_ready (rs := [3]) (by kernel_rfl) (by simp) ?_
    refine AllReadyH.cons rfl (fun K hK => ?_) AllReadyH.nil
    go_simp
    refine (unitsS_any (upto_ s p) _ _ (by omega) (tabs_stay HT.out hHeld.1) (HPL.out.stay hHeld.1)).mono ?_
    rintro e x1 ⟨kX, vX, rfl, heX, ho, hb⟩
    obtain rfl : kX = k := heX.one HEL.out
    have OX1 : Hid (x1.ownsRow x0.heap.size 43 3 vX kX (ucells (upto_ s p) kX)) := ho
    have HL1 : Hid (Us x1 gL n s) := HLs.out.stay hb
    clear ho heX HLs
    have hw' : Up w.heap.size w x1 := hHeld.stay hb
    clear hb
    go_wp2_with fail
    refine hK.out _ _ hw' (fun hHeld => ?_)
    clear hK K hw'
    (try dsimp only at hHeld)
    (try simp only [Act.put, List.setIfInBounds_toArray, List.set_cons_zero, List.set_cons_succ])
    refine wpAnyH_ready (rs := [7]) (by kernel_rfl) (by simp) ?_
    refine AllReadyH.cons rfl (fun K hK => ?_) AllReadyH.nil
    go_simp
    refine (unitsS_any (from_ s p) _ _ (by rw [from_size]; omega) (tabs_stay HT.out hHeld.1) (HPR.out.stay hHeld.1)).mono ?_
    rintro e x2 ⟨kY, vY, rfl, heY, ho, hb⟩
    obtain rfl : kY = n - kX := heY.one HER.out
    have OX2 : Hid (x2.ownsRow x0.heap.size 43 3 vX kX (ucells (upto_ s p) kX)) := own_stay OX1.out hb
    have OY2 : Hid (x2.ownsRow x1.heap.size 43 3 vY (n - kX) (ucells (from_ s p) (n - kX))) := ho
    have HL2 : Hid (Us x2 gL n s) := HL1.out.stay hb
    clear ho heY OX1 HL1
    have hw' : Up w.heap.size w x2 := hHeld.stay hb
    clear hb
    go_wp2_with fail
    refine hK.out _ _ hw' (fun hHeld => ?_)
    clear hK K hw'
    (try dsimp only at hHeld)
    (try simp only [Act.put, List.setIfInBounds_toArray, List.set_cons_zero, List.set_cons_succ])
    refine takeH (i := 8) (v := ?_) (d := (some 8)) rfl (by kernel_rfl) (by kernel_rfl) (by kernel_rfl) rfl (fun _ _ _ h => h) (Or.inl ⟨by kernel_rfl, ?_⟩) (by assumption) ?_; rotate_left; · (intro w hSw; (try dsimp only at hSw); first | (go_simp; done) | (go_simp; with_reducible rfl)); (try simp only [Act.put, List.setIfInBounds_toArray, List.set_cons_zero, List.set_cons_succ])
    refine takeH (i := 9) (v := ?_) (d := (some 9)) rfl (by kernel_rfl) (by kernel_rfl) (by kernel_rfl) rfl (fun _ _ _ h => h) (Or.inl ⟨by kernel_rfl, ?_⟩) (by assumption) ?_; rotate_left; · (intro w hSw; (try dsimp only at hSw); first | (go_simp; done) | (go_simp; with_reducible rfl)); (try simp only [Act.put, List.setIfInBounds_toArray, List.set_cons_zero, List.set_cons_succ])
    refine wpAnyH_done (by kernel_rfl) ?_ _
    have HU3 : Hid (Up w.heap.size w x2) := hHeld
    clear hHeld HT HPL HPR HEL HER
    have hvX : ∃ a1 c1, vX = .slice a1 kX c1 := by
      obtain ⟨_, ⟨rfl, rfl⟩ | ⟨g, cap, cur, rfl, _⟩⟩ := OX2.out
      · exact ⟨none, 0, rfl⟩
      · exact ⟨_, cap, rfl⟩
    have hvY : ∃ a1 c1, vY = .slice a1 (n - kX) c1 := by
      obtain ⟨_, ⟨rfl, h0⟩ | ⟨g, cap, cur, rfl, _⟩⟩ := OY2.out
      · exact ⟨none, 0, by rw [h0]⟩
      · exact ⟨_, cap, rfl⟩
    obtain ⟨aX, cX, rfl⟩ := hvX
    obtain ⟨aY, cY, rfl⟩ := hvY
    obtain ⟨m, hm⟩ : ∃ m, n - kX = m := ⟨_, rfl⟩
    rw [hm] at OY2 HCC ⊢
    have hsum : (kX : Int) + (m : Int) = (n : Int) := by omega
    have hsum' : ((kX : Int) + (m : Int) == (n : Int)) = true := by rw [hsum]; simp
    clear hsum'
    obtain ⟨i0, hi, hz0, hz1, hz2⟩ := info_parts info43
    go_wp2
    go_loopg [62] n (fun q i wr => ∃ j : Nat, j ≤ n ∧ q = n - j ∧ i = .int .i64 j ∧ Hid (Up x2.heap.size x2 wr))
    case atStart => exact ⟨0, Nat.zero_le _, rfl, rfl, Up.refl x2⟩
    case round =>
      obtain ⟨j, hj, hq, rfl, HU⟩ := hrel
      by_cases hlt : j < n
      · have z0 : (0 : Int) ≤ (j : Int) := by omega
        have z1 : (j : Int) < (n : Int) := by omega
        obtain ⟨b0, b1, b2, b3⟩ := (HL2.out.stay HU.out.1) j hlt
        obtain ⟨q, d1, d2, d3⟩ := HCC.out j hlt
        have HD : Hid ((ucells (upto_ s p) kX ++ ucells (from_ s p) m)[j * 3]? = some (.int .i32 (rn s (pos s j))) ∧ (ucells (upto_ s p) kX ++ ucells (from_ s p) m)[j * 3 + 1]? = some (.int .i64 q) ∧ (ucells (upto_ s p) kX ++ ucells (from_ s p) m)[j * 3 + 2]? = some (.int .i64 (wd s (pos s j)))) := ⟨d1, d2, d3⟩
        have HR : Hid (rn s (pos s j) < 0 → wd s (pos s j) = 1) := HRW.out j hlt
        clear d1 d2 d3
        have OXr : Hid (wr.ownsRow x0.heap.size 43 3 (.slice aX kX cX) kX (ucells (upto_ s p) kX)) := own_stay OX2.out HU.out.1
        have OYr : Hid (wr.ownsRow x1.heap.size 43 3 (.slice aY m cY) m (ucells (from_ s p) m)) := own_stay OY2.out HU.out.1
        generalize rn s (pos s j) = r1 at b1 HD HR ⊢
        generalize wd s (pos s j) = e1 at b3 HD HR ⊢
        generalize pos s j = p1 at b2 ⊢
        have HXr : Hid (∀ o1 o2, ((wr.alloc o1).alloc o2).ownsRow x0.heap.size 43 3 (.slice aX kX cX) kX (ucells (upto_ s p) kX)) := fun o1 o2 => (OXr.out.alloc _).alloc _
        clear OXr
        go_wp2_with (at_builtin; refine app_own rfl _ _ 27 rfl (wr.heap.size + 1) 43 i0 _ 3 24 Tryd.underlying27 hi hz0 hz1 hz2 rfl (by decide) _ _ _ rfl (lit_own _ _) _ _ _ _ rfl (HXr.out _ _) (ucells_one _ _) (by unfold maxLen; omega) (by omega) (by simp only [World.size_alloc]; omega) ?_)
        intro v6 w6 hown6 hgr6
        have HU6 : Hid (Up (wr.heap.size + 1) (wr.alloc (.cells #[.int .i32 r1, .int .i64 p1, .int .i64 e1] 43)) w6) := (Up.alloc ⟨Below.refl _ _, by simp⟩ _).grown hgr6 (fun k hk => by cases hk; exact Nat.le_refl _)
        have HO6 : Hid (w6.ownsRow (wr.heap.size + 1) 43 3 v6 kX (ucells (upto_ s p) kX)) := hown6
        have OY6 : Hid (w6.ownsRow x1.heap.size 43 3 (.slice aY m cY) m (ucells (from_ s p) m)) := own_stay OYr.out (((Below.refl _ _).alloc (Nat.le_refl _) _).trans (HU6.out.1.mono (Nat.le_succ _)))
        clear hown6 hgr6 HXr OYr b0 b1 b2 b3
        go_wp2_with (at_builtin; refine app_own rfl _ _ 27 rfl (wr.heap.size + 1) 43 i0 _ 3 24 Tryd.underlying27 hi hz0 hz1 hz2 rfl (by decide) _ _ _ rfl HO6.out _ _ _ _ rfl OY6.out (ucells_one _ _) (by unfold maxLen; omega) (by omega) HU6.out.2 ?_)
        intro v7 w7 hown7 hgr7
        have HU7 : Hid (Up (wr.heap.size + 1) (wr.alloc (.cells #[.int .i32 r1, .int .i64 p1, .int .i64 e1] 43)) w7) := HU6.out.grown hgr7 (own_base HO6.out)
        have hkm : kX + m = n := by omega
        rw [hkm] at hown7
        clear hgr7 HU6 HO6 OY6
        obtain ⟨g7, c7, rfl⟩ : ∃ g c, v7 = .slice (some ⟨g, 0, none⟩) n c := by
          obtain ⟨_, ⟨_, h⟩ | ⟨g, cap, cur, rfl, _⟩⟩ := hown7
          · omega
          · exact ⟨g, cap, rfl⟩
        have t0 : g7 < w7.heap.size := (hown7.lt g7 rfl).2
        have t1 : w7.cell? ⟨g7, j * 3, none⟩ = some (.int .i32 r1) := by rw [hown7.cellAt _ (by omega)]; exact HD.out.1
        have t2 : w7.cell? ⟨g7, j * 3 + 1, none⟩ = some (.int .i64 q) := by rw [hown7.cellAt _ (by omega)]; exact HD.out.2.1
        have t3 : w7.cell? ⟨g7, j * 3 + 2, none⟩ = some (.int .i64 e1) := by rw [hown7.cellAt _ (by omega)]; exact HD.out.2.2
        have s0 : wr.heap.size < w7.heap.size := by have := HU7.out.2; omega
        have s1 : w7.cell? ⟨wr.heap.size, 0, none⟩ = some (.int .i32 r1) := (HU7.out.1.cell (Nat.lt_succ_self _)).trans (by simp)
        have s2 : w7.cell? ⟨wr.heap.size, 1, none⟩ = some (.int .i64 p1) := (HU7.out.1.cell (Nat.lt_succ_self _)).trans (by simp)
        have s3 : w7.cell? ⟨wr.heap.size, 2, none⟩ = some (.int .i64 e1) := (HU7.out.1.cell (Nat.lt_succ_self _)).trans (by simp)
        have HUn : Hid (Up x2.heap.size x2 w7) := (HU.out.alloc _).stay (by simpa using HU7.out.1)
        clear hown7 HD HU HU7
        by_cases hneg : r1 < 0
        · have he1 := HR.out hneg
          subst he1
          clear HR
          go_wp2
          go_roundg (n - (j + 1))
          case measure => omega
          case rel => exact ⟨j + 1, by omega, rfl, by go_num, HUn.out.alloc _⟩
        · clear HR
          go_wp2
          go_roundg (n - (j + 1))
          case measure => omega
          case rel => exact ⟨j + 1, by omega, rfl, by go_num, HUn.out.alloc _⟩
      · obtain rfl : j = n := by omega
        go_wp2_with fail
        go_ret
        exact ⟨rfl, HU3.out.1.trans (HU.out.1.mono HU3.out.2)⟩

  · have hkn' : k = n := by omega
    have y1 : ¬ (k : Int) < (n : Int) := by omega
    have hps : p = s.size := by rw [← hp, hkn']; exact heL.1
    clear heL HPR hp hkn'
    subst hps
    have hfz : (from_ s s.size).size = 0 := by rw [from_size]; omega
    by_cases hc : s.size < c
    · have q5 : ((s.size : Nat) : Int) < (c : Int) := by omega
      go_wp2_with fail
      refine wp_region_held_drew (S := fun w' => Up w.heap.size w w') (by kernel_rfl) (Up.drew HU2.out) (fun hHeld => ?_)
      (try dsimp only at hHeld)
      obtain ⟨x0, hx0⟩ : ∃ x0, w2.drew = x0 := ⟨_, rfl⟩
      have HLs : Hid (Us x0 gL n s) := by rw [← hx0]; exact HL.out.stay (Below.refl _ _).drew
      rw [hx0] at hHeld ⊢
      clear HU2 HL hx0
      refine takeH (i := 0) (v := ?_) (d := (some 38)) rfl (by kernel_rfl) (by kernel_rfl) (by kernel_rfl) rfl (fun _ _ _ h => h) (Or.inl ⟨by kernel_rfl, ?_⟩) (by assumption) ?_; rotate_left; · (intro w hSw; (try dsimp only at hSw); first | (go_simp; done) | (go_simp; with_reducible rfl)); (try simp only [Act.put, List.setIfInBounds_toArray, List.set_cons_zero, List.set_cons_succ])
      refine takeH (i := 1) (v := ?_) (d := (some 39)) rfl (by kernel_rfl) (by kernel_rfl) (by kernel_rfl) rfl (fun _ _ _ h => h) (Or.inl ⟨by kernel_rfl, ?_⟩) (by assumption) ?_; rotate_left; · (intro w hSw; (try dsimp only at hSw); first | (go_simp; done) | (go_simp; with_reducible rfl)); (try simp only [Act.put, List.setIfInBounds_toArray, List.set_cons_zero, List.set_cons_succ])
      refine takeH (i := 2) (v := ?_) (d := (some 40)) rfl (by kernel_rfl) (by kernel_rfl) (by kernel_rfl) rfl (fun _ _ _ h => h) (Or.inl ⟨by kernel_rfl, ?_⟩) (by assumption) ?_; rotate_left; · (intro w hSw; (try dsimp only at hSw); first | (go_simp; done) | (go_simp; with_reducible rfl)); (try simp only [Act.put, List.setIfInBounds_toArray, List.set_cons_zero, List.set_cons_succ])
      refine takeH (i := 4) (v := ?_) (d := (some 42)) rfl (by kernel_rfl) (by kernel_rfl) (by kernel_rfl) rfl (fun _ _ _ h => h) (Or.inl ⟨by kernel_rfl, ?_⟩) (by assumption) ?_; rotate_left; · (intro w hSw; (try dsimp only at hSw); first | (go_simp; done) | (go_simp; with_reducible rfl)); (try simp only [Act.put, List.setIfInBounds_toArray, List.set_cons_zero, List.set_cons_succ])
      refine takeH (i := 5) (v := ?_) (d := (some 43)) rfl (by kernel_rfl) (by kernel_rfl) (by kernel_rfl) rfl (fun _ _ _ h => h) (Or.inl ⟨by kernel_rfl, ?_⟩) (by assumption) ?_; rotate_left; · (intro w hSw; (try dsimp only at hSw); first | (go_simp; done) | (go_simp; with_reducible rfl)); (try simp only [Act.put, List.setIfInBounds_toArray, List.set_cons_zero, List.set_cons_succ])
      refine takeH (i := 6) (v := ?_) (d := (some 44)) rfl (by kernel_rfl) (by kernel_rfl) (by kernel_rfl) rfl (fun _ _ _ h => h) (Or.inl ⟨by kernel_rfl, ?_⟩) (by assumption) ?_; rotate_left; · (intro w hSw; (try dsimp only at hSw); first | (go_simp; done) | (go_simp; with_reducible rfl)); (try simp only [Act.put, List.setIfInBounds_toArray, List.set_cons_zero, List.set_cons_succ])
      refine wpAnyH_ready (rs := [3]) (by kernel_rfl) (by simp) ?_
      refine AllReadyH.cons rfl (fun K hK => ?_) AllReadyH.nil
      go_simp
      refine (unitsS_any (upto_ s s.size) _ _ (by omega) (tabs_stay HT.out hHeld.1) (HPL.out.stay hHeld.1)).mono ?_
      rintro e x1 ⟨kX, vX, rfl, heX, ho, hb⟩
      obtain rfl : kX = k := heX.one HEL.out
      have OX1 : Hid (x1.ownsRow x0.heap.size 43 3 vX kX (ucells (upto_ s s.size) kX)) := ho
      have HL1 : Hid (Us x1 gL n s) := HLs.out.stay hb
      clear ho heX HLs
      have hw' : Up w.heap.size w x1 := hHeld.stay hb
      clear hb
      go_wp2_with fail
      refine hK.out _ _ hw' (fun hHeld => ?_)
      clear hK K hw'
      (try dsimp only at hHeld)
      (try simp only [Act.put, List.setIfInBounds_toArray, List.set_cons_zero, List.set_cons_succ])
      refine wpAnyH_ready (rs := [7]) (by kernel_rfl) (by simp) ?_
      refine AllReadyH.cons rfl (fun K hK => ?_) AllReadyH.nil
      go_simp
      refine (unitsS_any (from_ s s.size) _ _ (by rw [from_size]; omega) (tabs_stay HT.out hHeld.1) (Or.inl ⟨_, _, rfl, hfz⟩)).mono ?_
      rintro e x2 ⟨kY, vY, rfl, heY, ho, hb⟩
      obtain rfl : kY = n - kX := heY.one HER.out
      have OX2 : Hid (x2.ownsRow x0.heap.size 43 3 vX kX (ucells (upto_ s s.size) kX)) := own_stay OX1.out hb
      have OY2 : Hid (x2.ownsRow x1.heap.size 43 3 vY (n - kX) (ucells (from_ s s.size) (n - kX))) := ho
      have HL2 : Hid (Us x2 gL n s) := HL1.out.stay hb
      clear ho heY OX1 HL1
      have hw' : Up w.heap.size w x2 := hHeld.stay hb
      clear hb
      go_wp2_with fail
      refine hK.out _ _ hw' (fun hHeld => ?_)
      clear hK K hw'
      (try dsimp only at hHeld)
      (try simp only [Act.put, List.setIfInBounds_toArray, List.set_cons_zero, List.set_cons_succ])
      refine takeH (i := 8) (v := ?_) (d := (some 8)) rfl (by kernel_rfl) (by kernel_rfl) (by kernel_rfl) rfl (fun _ _ _ h => h) (Or.inl ⟨by kernel_rfl, ?_⟩) (by assumption) ?_; rotate_left; · (intro w hSw; (try dsimp only at hSw); first | (go_simp; done) | (go_simp; with_reducible rfl)); (try simp only [Act.put, List.setIfInBounds_toArray, List.set_cons_zero, List.set_cons_succ])
      refine takeH (i := 9) (v := ?_) (d := (some 9)) rfl (by kernel_rfl) (by kernel_rfl) (by kernel_rfl) rfl (fun _ _ _ h => h) (Or.inl ⟨by kernel_rfl, ?_⟩) (by assumption) ?_; rotate_left; · (intro w hSw; (try dsimp only at hSw); first | (go_simp; done) | (go_simp; with_reducible rfl)); (try simp only [Act.put, List.setIfInBounds_toArray, List.set_cons_zero, List.set_cons_succ])
      refine wpAnyH_done (by kernel_rfl) ?_ _
      have HU3 : Hid (Up w.heap.size w x2) := hHeld
      clear hHeld HT HPL HEL HER
      have hvX : ∃ a1 c1, vX = .slice a1 kX c1 := by
        obtain ⟨_, ⟨rfl, rfl⟩ | ⟨g, cap, cur, rfl, _⟩⟩ := OX2.out
        · exact ⟨none, 0, rfl⟩
        · exact ⟨_, cap, rfl⟩
      have hvY : ∃ a1 c1, vY = .slice a1 (n - kX) c1 := by
        obtain ⟨_, ⟨rfl, h0⟩ | ⟨g, cap, cur, rfl, _⟩⟩ := OY2.out
        · exact ⟨none, 0, by rw [h0]⟩
        · exact ⟨_, cap, rfl⟩
      obtain ⟨aX, cX, rfl⟩ := hvX
      obtain ⟨aY, cY, rfl⟩ := hvY
      obtain ⟨m, hm⟩ : ∃ m, n - kX = m := ⟨_, rfl⟩
      rw [hm] at OY2 HCC ⊢
      have hsum : (kX : Int) + (m : Int) = (n : Int) := by omega
      have hsum' : ((kX : Int) + (m : Int) == (n : Int)) = true := by rw [hsum]; simp
      clear hsum'
      obtain ⟨i0, hi, hz0, hz1, hz2⟩ := info_parts info43
      go_wp2
      go_loopg [62] n (fun q i wr => ∃ j : Nat, j ≤ n ∧ q = n - j ∧ i = .int .i64 j ∧ Hid (Up x2.heap.size x2 wr))
      case atStart => exact ⟨0, Nat.zero_le _, rfl, rfl, Up.refl x2⟩
      case round =>
        obtain ⟨j, hj, hq, rfl, HU⟩ := hrel
        by_cases hlt : j < n
        · have z0 : (0 : Int) ≤ (j : Int) := by omega
          have z1 : (j : Int) < (n : Int) := by omega
          obtain ⟨b0, b1, b2, b3⟩ := (HL2.out.stay HU.out.1) j hlt
          obtain ⟨q, d1, d2, d3⟩ := HCC.out j hlt
          have HD : Hid ((ucells (upto_ s s.size) kX ++ ucells (from_ s s.size) m)[j * 3]? = some (.int .i32 (rn s (pos s j))) ∧ (ucells (upto_ s s.size) kX ++ ucells (from_ s s.size) m)[j * 3 + 1]? = some (.int .i64 q) ∧ (ucells (upto_ s s.size) kX ++ ucells (from_ s s.size) m)[j * 3 + 2]? = some (.int .i64 (wd s (pos s j)))) := ⟨d1, d2, d3⟩
          have HR : Hid (rn s (pos s j) < 0 → wd s (pos s j) = 1) := HRW.out j hlt
          clear d1 d2 d3
          have OXr : Hid (wr.ownsRow x0.heap.size 43 3 (.slice aX kX cX) kX (ucells (upto_ s s.size) kX)) := own_stay OX2.out HU.out.1
          have OYr : Hid (wr.ownsRow x1.heap.size 43 3 (.slice aY m cY) m (ucells (from_ s s.size) m)) := own_stay OY2.out HU.out.1
          generalize rn s (pos s j) = r1 at b1 HD HR ⊢
          generalize wd s (pos s j) = e1 at b3 HD HR ⊢
          generalize pos s j = p1 at b2 ⊢
          have HXr : Hid (∀ o1 o2, ((wr.alloc o1).alloc o2).ownsRow x0.heap.size 43 3 (.slice aX kX cX) kX (ucells (upto_ s s.size) kX)) := fun o1 o2 => (OXr.out.alloc _).alloc _
          clear OXr
          go_wp2_with (at_builtin; refine app_own rfl _ _ 27 rfl (wr.heap.size + 1) 43 i0 _ 3 24 Tryd.underlying27 hi hz0 hz1 hz2 rfl (by decide) _ _ _ rfl (lit_own _ _) _ _ _ _ rfl (HXr.out _ _) (ucells_one _ _) (by unfold maxLen; omega) (by omega) (by simp only [World.size_alloc]; omega) ?_)
          intro v6 w6 hown6 hgr6
          have HU6 : Hid (Up (wr.heap.size + 1) (wr.alloc (.cells #[.int .i32 r1, .int .i64 p1, .int .i64 e1] 43)) w6) := (Up.alloc ⟨Below.refl _ _, by simp⟩ _).grown hgr6 (fun k hk => by cases hk; exact Nat.le_refl _)
          have HO6 : Hid (w6.ownsRow (wr.heap.size + 1) 43 3 v6 kX (ucells (upto_ s s.size) kX)) := hown6
          have OY6 : Hid (w6.ownsRow x1.heap.size 43 3 (.slice aY m cY) m (ucells (from_ s s.size) m)) := own_stay OYr.out (((Below.refl _ _).alloc (Nat.le_refl _) _).trans (HU6.out.1.mono (Nat.le_succ _)))
          clear hown6 hgr6 HXr OYr b0 b1 b2 b3
          go_wp2_with (at_builtin; refine app_own rfl _ _ 27 rfl (wr.heap.size + 1) 43 i0 _ 3 24 Tryd.underlying27 hi hz0 hz1 hz2 rfl (by decide) _ _ _ rfl HO6.out _ _ _ _ rfl OY6.out (ucells_one _ _) (by unfold maxLen; omega) (by omega) HU6.out.2 ?_)
          intro v7 w7 hown7 hgr7
          have HU7 : Hid (Up (wr.heap.size + 1) (wr.alloc (.cells #[.int .i32 r1, .int .i64 p1, .int .i64 e1] 43)) w7) := HU6.out.grown hgr7 (own_base HO6.out)
          have hkm : kX + m = n := by omega
          rw [hkm] at hown7
          clear hgr7 HU6 HO6 OY6
          obtain ⟨g7, c7, rfl⟩ : ∃ g c, v7 = .slice (some ⟨g, 0, none⟩) n c := by
            obtain ⟨_, ⟨_, h⟩ | ⟨g, cap, cur, rfl, _⟩⟩ := hown7
            · omega
            · exact ⟨g, cap, rfl⟩
          have t0 : g7 < w7.heap.size := (hown7.lt g7 rfl).2
          have t1 : w7.cell? ⟨g7, j * 3, none⟩ = some (.int .i32 r1) := by rw [hown7.cellAt _ (by omega)]; exact HD.out.1
          have t2 : w7.cell? ⟨g7, j * 3 + 1, none⟩ = some (.int .i64 q) := by rw [hown7.cellAt _ (by omega)]; exact HD.out.2.1
          have t3 : w7.cell? ⟨g7, j * 3 + 2, none⟩ = some (.int .i64 e1) := by rw [hown7.cellAt _ (by omega)]; exact HD.out.2.2
          have s0 : wr.heap.size < w7.heap.size := by have := HU7.out.2; omega
          have s1 : w7.cell? ⟨wr.heap.size, 0, none⟩ = some (.int .i32 r1) := (HU7.out.1.cell (Nat.lt_succ_self _)).trans (by simp)
          have s2 : w7.cell? ⟨wr.heap.size, 1, none⟩ = some (.int .i64 p1) := (HU7.out.1.cell (Nat.lt_succ_self _)).trans (by simp)
          have s3 : w7.cell? ⟨wr.heap.size, 2, none⟩ = some (.int .i64 e1) := (HU7.out.1.cell (Nat.lt_succ_self _)).trans (by simp)
          have HUn : Hid (Up x2.heap.size x2 w7) := (HU.out.alloc _).stay (by simpa using HU7.out.1)
          clear hown7 HD HU HU7
          by_cases hneg : r1 < 0
          · have he1 := HR.out hneg
            subst he1
            clear HR
            go_wp2
            go_roundg (n - (j + 1))
            case measure => omega
            case rel => exact ⟨j + 1, by omega, rfl, by go_num, HUn.out.alloc _⟩
          · clear HR
            go_wp2
            go_roundg (n - (j + 1))
            case measure => omega
            case rel => exact ⟨j + 1, by omega, rfl, by go_num, HUn.out.alloc _⟩
        · obtain rfl : j = n := by omega
          go_wp2_with fail
          go_ret
          exact ⟨rfl, HU3.out.1.trans (HU.out.1.mono HU3.out.2)⟩

    · obtain rfl : c = s.size := by omega
      go_wp2_with fail
      refine wp_region_held_drew (S := fun w' => Up w.heap.size w w') (by kernel_rfl) (Up.drew HU2.out) (fun hHeld => ?_)
      (try dsimp only at hHeld)
      obtain ⟨x0, hx0⟩ : ∃ x0, w2.drew = x0 := ⟨_, rfl⟩
      have HLs : Hid (Us x0 gL n s) := by rw [← hx0]; exact HL.out.stay (Below.refl _ _).drew
      rw [hx0] at hHeld ⊢
      clear HU2 HL hx0
      refine takeH (i := 0) (v := ?_) (d := (some 38)) rfl (by kernel_rfl) (by kernel_rfl) (by kernel_rfl) rfl (fun _ _ _ h => h) (Or.inl ⟨by kernel_rfl, ?_⟩) (by assumption) ?_; rotate_left; · (intro w hSw; (try dsimp only at hSw); first | (go_simp; done) | (go_simp; with_reducible rfl)); (try simp only [Act.put, List.setIfInBounds_toArray, List.set_cons_zero, List.set_cons_succ])
      refine takeH (i := 1) (v := ?_) (d := (some 39)) rfl (by kernel_rfl) (by kernel_rfl) (by kernel_rfl) rfl (fun _ _ _ h => h) (Or.inl ⟨by kernel_rfl, ?_⟩) (by assumption) ?_; rotate_left; · (intro w hSw; (try dsimp only at hSw); first | (go_simp; done) | (go_simp; with_reducible rfl)); (try simp only [Act.put, List.setIfInBounds_toArray, List.set_cons_zero, List.set_cons_succ])
      refine takeH (i := 2) (v := ?_) (d := (some 40)) rfl (by kernel_rfl) (by kernel_rfl) (by kernel_rfl) rfl (fun _ _ _ h => h) (Or.inl ⟨by kernel_rfl, ?_⟩) (by assumption) ?_; rotate_left; · (intro w hSw; (try dsimp only at hSw); first | (go_simp; done) | (go_simp; with_reducible rfl)); (try simp only [Act.put, List.setIfInBounds_toArray, List.set_cons_zero, List.set_cons_succ])
      refine takeH (i := 4) (v := ?_) (d := (some 42)) rfl (by kernel_rfl) (by kernel_rfl) (by kernel_rfl) rfl (fun _ _ _ h => h) (Or.inl ⟨by kernel_rfl, ?_⟩) (by assumption) ?_; rotate_left; · (intro w hSw; (try dsimp only at hSw); first | (go_simp; done) | (go_simp; with_reducible rfl)); (try simp only [Act.put, List.setIfInBounds_toArray, List.set_cons_zero, List.set_cons_succ])
      refine takeH (i := 5) (v := ?_) (d := (some 43)) rfl (by kernel_rfl) (by kernel_rfl) (by kernel_rfl) rfl (fun _ _ _ h => h) (Or.inl ⟨by kernel_rfl, ?_⟩) (by assumption) ?_; rotate_left; · (intro w hSw; (try dsimp only at hSw); first | (go_simp; done) | (go_simp; with_reducible rfl)); (try simp only [Act.put, List.setIfInBounds_toArray, List.set_cons_zero, List.set_cons_succ])
      refine takeH (i := 6) (v := ?_) (d := (some 44)) rfl (by kernel_rfl) (by kernel_rfl) (by kernel_rfl) rfl (fun _ _ _ h => h) (Or.inl ⟨by kernel_rfl, ?_⟩) (by assumption) ?_; rotate_left; · (intro w hSw; (try dsimp only at hSw); first | (go_simp; done) | (go_simp; with_reducible rfl)); (try simp only [Act.put, List.setIfInBounds_toArray, List.set_cons_zero, List.set_cons_succ])
      refine wpAnyH_ready (rs := [3]) (by kernel_rfl) (by simp) ?_
      refine AllReadyH.cons rfl (fun K hK => ?_) AllReadyH.nil
      go_simp
      refine (unitsS_any (upto_ s s.size) _ _ (by omega) (tabs_stay HT.out hHeld.1) (HPL.out.stay hHeld.1)).mono ?_
      rintro e x1 ⟨kX, vX, rfl, heX, ho, hb⟩
      obtain rfl : kX = k := heX.one HEL.out
      have OX1 : Hid (x1.ownsRow x0.heap.size 43 3 vX kX (ucells (upto_ s s.size) kX)) := ho
      have HL1 : Hid (Us x1 gL n s) := HLs.out.stay hb
      clear ho heX HLs
      have hw' : Up w.heap.size w x1 := hHeld.stay hb
      clear hb
      go_wp2_with fail
      refine hK.out _ _ hw' (fun hHeld => ?_)
      clear hK K hw'
      (try dsimp only at hHeld)
      (try simp only [Act.put, List.setIfInBounds_toArray, List.set_cons_zero, List.set_cons_succ])
      refine wpAnyH_ready (rs := [7]) (by kernel_rfl) (by simp) ?_
      refine AllReadyH.cons rfl (fun K hK => ?_) AllReadyH.nil
      go_simp
      refine (unitsS_any (from_ s s.size) _ _ (by rw [from_size]; omega) (tabs_stay HT.out hHeld.1) (Or.inl ⟨_, _, rfl, hfz⟩)).mono ?_
      rintro e x2 ⟨kY, vY, rfl, heY, ho, hb⟩
      obtain rfl : kY = n - kX := heY.one HER.out
      have OX2 : Hid (x2.ownsRow x0.heap.size 43 3 vX kX (ucells (upto_ s s.size) kX)) := own_stay OX1.out hb
      have OY2 : Hid (x2.ownsRow x1.heap.size 43 3 vY (n - kX) (ucells (from_ s s.size) (n - kX))) := ho
      have HL2 : Hid (Us x2 gL n s) := HL1.out.stay hb
      clear ho heY OX1 HL1
      have hw' : Up w.heap.size w x2 := hHeld.stay hb
      clear hb
      go_wp2_with fail
      refine hK.out _ _ hw' (fun hHeld => ?_)
      clear hK K hw'
      (try dsimp only at hHeld)
      (try simp only [Act.put, List.setIfInBounds_toArray, List.set_cons_zero, List.set_cons_succ])
      refine takeH (i := 8) (v := ?_) (d := (some 8)) rfl (by kernel_rfl) (by kernel_rfl) (by kernel_rfl) rfl (fun _ _ _ h => h) (Or.inl ⟨by kernel_rfl, ?_⟩) (by assumption) ?_; rotate_left; · (intro w hSw; (try dsimp only at hSw); first | (go_simp; done) | (go_simp; with_reducible rfl)); (try simp only [Act.put, List.setIfInBounds_toArray, List.set_cons_zero, List.set_cons_succ])
      refine takeH (i := 9) (v := ?_) (d := (some 9)) rfl (by kernel_rfl) (by kernel_rfl) (by kernel_rfl) rfl (fun _ _ _ h => h) (Or.inl ⟨by kernel_rfl, ?_⟩) (by assumption) ?_; rotate_left; · (intro w hSw; (try dsimp only at hSw); first | (go_simp; done) | (go_simp; with_reducible rfl)); (try simp only [Act.put, List.setIfInBounds_toArray, List.set_cons_zero, List.set_cons_succ])
      refine wpAnyH_done (by kernel_rfl) ?_ _
      have HU3 : Hid (Up w.heap.size w x2) := hHeld
      clear hHeld HT HPL HEL HER
      have hvX : ∃ a1 c1, vX = .slice a1 kX c1 := by
        obtain ⟨_, ⟨rfl, rfl⟩ | ⟨g, cap, cur, rfl, _⟩⟩ := OX2.out
        · exact ⟨none, 0, rfl⟩
        · exact ⟨_, cap, rfl⟩
      have hvY : ∃ a1 c1, vY = .slice a1 (n - kX) c1 := by
        obtain ⟨_, ⟨rfl, h0⟩ | ⟨g, cap, cur, rfl, _⟩⟩ := OY2.out
        · exact ⟨none, 0, by rw [h0]⟩
        · exact ⟨_, cap, rfl⟩
      obtain ⟨aX, cX, rfl⟩ := hvX
      obtain ⟨aY, cY, rfl⟩ := hvY
      obtain ⟨m, hm⟩ : ∃ m, n - kX = m := ⟨_, rfl⟩
      rw [hm] at OY2 HCC ⊢
      have hsum : (kX : Int) + (m : Int) = (n : Int) := by omega
      have hsum' : ((kX : Int) + (m : Int) == (n : Int)) = true := by rw [hsum]; simp
      clear hsum'
      obtain ⟨i0, hi, hz0, hz1, hz2⟩ := info_parts info43
      go_wp2
      go_loopg [62] n (fun q i wr => ∃ j : Nat, j ≤ n ∧ q = n - j ∧ i = .int .i64 j ∧ Hid (Up x2.heap.size x2 wr))
      case atStart => exact ⟨0, Nat.zero_le _, rfl, rfl, Up.refl x2⟩
      case round =>
        obtain ⟨j, hj, hq, rfl, HU⟩ := hrel
        by_cases hlt : j < n
        · have z0 : (0 : Int) ≤ (j : Int) := by omega
          have z1 : (j : Int) < (n : Int) := by omega
          obtain ⟨b0, b1, b2, b3⟩ := (HL2.out.stay HU.out.1) j hlt
          obtain ⟨q, d1, d2, d3⟩ := HCC.out j hlt
          have HD : Hid ((ucells (upto_ s s.size) kX ++ ucells (from_ s s.size) m)[j * 3]? = some (.int .i32 (rn s (pos s j))) ∧ (ucells (upto_ s s.size) kX ++ ucells (from_ s s.size) m)[j * 3 + 1]? = some (.int .i64 q) ∧ (ucells (upto_ s s.size) kX ++ ucells (from_ s s.size) m)[j * 3 + 2]? = some (.int .i64 (wd s (pos s j)))) := ⟨d1, d2, d3⟩
          have HR : Hid (rn s (pos s j) < 0 → wd s (pos s j) = 1) := HRW.out j hlt
          clear d1 d2 d3
          have OXr : Hid (wr.ownsRow x0.heap.size 43 3 (.slice aX kX cX) kX (ucells (upto_ s s.size) kX)) := own_stay OX2.out HU.out.1
          have OYr : Hid (wr.ownsRow x1.heap.size 43 3 (.slice aY m cY) m (ucells (from_ s s.size) m)) := own_stay OY2.out HU.out.1
          generalize rn s (pos s j) = r1 at b1 HD HR ⊢
          generalize wd s (pos s j) = e1 at b3 HD HR ⊢
          generalize pos s j = p1 at b2 ⊢
          have HXr : Hid (∀ o1 o2, ((wr.alloc o1).alloc o2).ownsRow x0.heap.size 43 3 (.slice aX kX cX) kX (ucells (upto_ s s.size) kX)) := fun o1 o2 => (OXr.out.alloc _).alloc _
          clear OXr
          go_wp2_with (at_builtin; refine app_own rfl _ _ 27 rfl (wr.heap.size + 1) 43 i0 _ 3 24 Tryd.underlying27 hi hz0 hz1 hz2 rfl (by decide) _ _ _ rfl (lit_own _ _) _ _ _ _ rfl (HXr.out _ _) (ucells_one _ _) (by unfold maxLen; omega) (by omega) (by simp only [World.size_alloc]; omega) ?_)
          intro v6 w6 hown6 hgr6
          have HU6 : Hid (Up (wr.heap.size + 1) (wr.alloc (.cells #[.int .i32 r1, .int .i64 p1, .int .i64 e1] 43)) w6) := (Up.alloc ⟨Below.refl _ _, by simp⟩ _).grown hgr6 (fun k hk => by cases hk; exact Nat.le_refl _)
          have HO6 : Hid (w6.ownsRow (wr.heap.size + 1) 43 3 v6 kX (ucells (upto_ s s.size) kX)) := hown6
          have OY6 : Hid (w6.ownsRow x1.heap.size 43 3 (.slice aY m cY) m (ucells (from_ s s.size) m)) := own_stay OYr.out (((Below.refl _ _).alloc (Nat.le_refl _) _).trans (HU6.out.1.mono (Nat.le_succ _)))
          clear hown6 hgr6 HXr OYr b0 b1 b2 b3
          go_wp2_with (at_builtin; refine app_own rfl _ _ 27 rfl (wr.heap.size + 1) 43 i0 _ 3 24 Tryd.underlying27 hi hz0 hz1 hz2 rfl (by decide) _ _ _ rfl HO6.out _ _ _ _ rfl OY6.out (ucells_one _ _) (by unfold maxLen; omega) (by omega) HU6.out.2 ?_)
          intro v7 w7 hown7 hgr7
          have HU7 : Hid (Up (wr.heap.size + 1) (wr.alloc (.cells #[.int .i32 r1, .int .i64 p1, .int .i64 e1] 43)) w7) := HU6.out.grown hgr7 (own_base HO6.out)
          have hkm : kX + m = n := by omega
          rw [hkm] at hown7
          clear hgr7 HU6 HO6 OY6
          obtain ⟨g7, c7, rfl⟩ : ∃ g c, v7 = .slice (some ⟨g, 0, none⟩) n c := by
            obtain ⟨_, ⟨_, h⟩ | ⟨g, cap, cur, rfl, _⟩⟩ := hown7
            · omega
            · exact ⟨g, cap, rfl⟩
          have t0 : g7 < w7.heap.size := (hown7.lt g7 rfl).2
          have t1 : w7.cell? ⟨g7, j * 3, none⟩ = some (.int .i32 r1) := by rw [hown7.cellAt _ (by omega)]; exact HD.out.1
          have t2 : w7.cell? ⟨g7, j * 3 + 1, none⟩ = some (.int .i64 q) := by rw [hown7.cellAt _ (by omega)]; exact HD.out.2.1
          have t3 : w7.cell? ⟨g7, j * 3 + 2, none⟩ = some (.int .i64 e1) := by rw [hown7.cellAt _ (by omega)]; exact HD.out.2.2
          have s0 : wr.heap.size < w7.heap.size := by have := HU7.out.2; omega
          have s1 : w7.cell? ⟨wr.heap.size, 0, none⟩ = some (.int .i32 r1) := (HU7.out.1.cell (Nat.lt_succ_self _)).trans (by simp)
          have s2 : w7.cell? ⟨wr.heap.size, 1, none⟩ = some (.int .i64 p1) := (HU7.out.1.cell (Nat.lt_succ_self _)).trans (by simp)
          have s3 : w7.cell? ⟨wr.heap.size, 2, none⟩ = some (.int .i64 e1) := (HU7.out.1.cell (Nat.lt_succ_self _)).trans (by simp)
          have HUn : Hid (Up x2.heap.size x2 w7) := (HU.out.alloc _).stay (by simpa using HU7.out.1)
          clear hown7 HD HU HU7
          by_cases hneg : r1 < 0
          · have he1 := HR.out hneg
            subst he1
            clear HR
            go_wp2
            go_roundg (n - (j + 1))
            case measure => omega
            case rel => exact ⟨j + 1, by omega, rfl, by go_num, HUn.out.alloc _⟩
          · clear HR
            go_wp2
            go_roundg (n - (j + 1))
            case measure => omega
            case rel => exact ⟨j + 1, by omega, rfl, by go_num, HUn.out.alloc _⟩
        · obtain rfl : j = n := by omega
          go_wp2_with fail
          go_ret
          exact ⟨rfl, HU3.out.1.trans (HU.out.1.mono HU3.out.2)⟩

end Go.Proofs.YtlmpohihbdlefaaDoor
