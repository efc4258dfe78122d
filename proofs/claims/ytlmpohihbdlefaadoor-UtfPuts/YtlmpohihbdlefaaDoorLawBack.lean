/- UtfBack. -/
import Derived.Test.YtlmpohihbdlefaaDoorLawReads
import Derived.Test.YtlmpohihbdlefaaDoorWalksN
namespace Go.Proofs.YtlmpohihbdlefaaDoor
set_option linter.unusedVariables false
open Go.RowKit Go.ChangeShapes
theorem info41 : (Tryd.prog.info? 41).map (fun i => (i.zero, i.size, i.bytes)) = some (some (.agg #[.int .i64 0, .int .i64 0]), 2, 16) := by kernel_rfl
theorem back_big (r : Int) (s : ByteArray) (v : Value) (w : World) (hm : s.size ≤ maxLen) (hs : 2000 < s.size) (hT : Tabs w) (h : BSl w v s) :
    Calls Tryd.prog 5 #[.int .i32 r, v] w fun e w' => e = .returned (.bool true) ∧ Below w.heap.size w w' := by
  obtain ⟨ad, c, rfl⟩ := h.form
  clear h
  have hs' : (2000 : Int) < (s.size : Int) := by omega
  go_enter Tryd.func5, Tryd.ntmps5
  go_wp2_with fail
  refine (awake_any _ hT).mono ?_
  rintro e w1 ⟨rfl, hb1⟩
  go_wp2
  go_ret
  exact ⟨rfl, hb1⟩
theorem new_two (w : World) (A : Obj) (x y : Value) (t : TypeId) : ∀ j u, [x, y][j]? = some u → ((w.alloc A).alloc (.cells #[x, y] t)).cell? ((⟨w.heap.size + 1, 0, none⟩ : Addr).add j) = some u := by
  intro m u hmu
  match m, hmu with
  | 0, hmu => simp at hmu; subst hmu; simp [Addr.add]
  | 1, hmu => simp at hmu; subst hmu; simp [Addr.add]
  | (m + 2), hmu => simp at hmu
theorem two_one (x y : Value) (hx : x.oneCell' = true) (hy : y.oneCell' = true) : ∀ u ∈ [x, y], u.oneCell' = true := by
  intro u hu; simp at hu; rcases hu with rfl | rfl
  · exact hx
  · exact hy
theorem toList_inj {x y : ByteArray} (h : x.toList = y.toList) : x = y := by
  rw [Lib.toList_data, Lib.toList_data] at h
  exact ByteArray.ext (Array.ext' h)
theorem nums_empty : numsOf ByteArray.empty = [] := rfl
set_option maxRecDepth 100000 in
set_option maxHeartbeats 4000000 in
theorem back_no (r : Int) (s : ByteArray) (v : Value) (w : World) (hs : s.size ≤ 2000) (ho : okR r = false) (hT : Tabs w) (h : BSl w v s) :
    Calls Tryd.prog 5 #[.int .i32 r, v] w fun e w' => e = .returned (.bool true) ∧ Below w.heap.size w w' := by
  obtain ⟨ad, c, rfl⟩ := h.form
  have HB : Hid (BSl w (.slice ad s.size c) s) := h
  have HT : Hid (Tabs w) := hT
  have hs' : ¬ (2000 : Int) < (s.size : Int) := by omega
  clear h hT
  obtain ⟨i1, hi1, hy0, hy1, hy2⟩ := info_parts info41
  go_enter Tryd.func5, Tryd.ntmps5
  go_wp2_with fail
  refine (awake_any _ HT.out).mono ?_
  rintro e w1 ⟨rfl, hb1⟩
  have HU1 : Hid (Up w.heap.size w w1) := (Up.refl w).stay hb1
  clear hb1
  go_wp2_with fail
  refine (put_no _ r _ ho).mono ?_
  rintro e wS ⟨rfl, rfl⟩
  have HUS : Hid (Up w.heap.size w wS) := HU1.out
  clear HU1 ho
  have HT3 : Hid (Tabs wS) := tabs_stay HT.out HUS.out.1
  have HB3 : Hid (BSl wS (.slice ad s.size c) s) := HB.out.stay HUS.out.1
  go_wp2_with fail
  refine (unitsS_any s _ _ (by omega) HT3.out HB3.out).mono ?_
  rintro e wU ⟨k, vU, rfl, heU, hoU, hbU⟩
  have HUU : Hid (Up w.heap.size w wU) := HUS.out.stay hbU
  have HE : Hid (Ends s k) := heU
  have hk := heU.le
  have hform : ∃ a1 c1, vU = .slice a1 k c1 ∧ (∀ j, j < k → ∃ g, a1 = some ⟨g, 0, none⟩ ∧ Us wU g k s) := by
    have h0 := hoU
    obtain ⟨_, ⟨rfl, rfl⟩ | ⟨g, cap, cur, rfl, _⟩⟩ := hoU
    · exact ⟨none, 0, rfl, fun j hj => absurd hj (Nat.not_lt_zero j)⟩
    · exact ⟨_, cap, rfl, fun j _ => ⟨g, rfl, us_of h0⟩⟩
  obtain ⟨a1, c1, rfl, hus⟩ := hform
  have HS : Hid (∀ j, j < k → ∃ g, a1 = some ⟨g, 0, none⟩ ∧ Us wU g k s) := hus
  clear hbU heU hoU hus HUS HT3 HB3
  go_wp2
  go_loopg [9, 10, 45] k (fun m wh l i wr => ∃ j : Nat, j ≤ k ∧ m = k - j ∧ i = .int .i64 j ∧ wh = .bool (wholeB s j) ∧ Hid (wr.ownsRow wU.heap.size 41 2 l j (scells s j)) ∧ Hid (Up wU.heap.size wU wr))
  case atStart => exact ⟨0, Nat.zero_le _, rfl, rfl, rfl, ⟨rfl, Or.inl ⟨rfl, rfl⟩⟩, Up.refl wU⟩
  case round =>
    obtain ⟨j, hj, hm, rfl, rfl, HO, HU⟩ := hrel
    by_cases hlt : j < k
    · have z0 : (0 : Int) ≤ (j : Int) := by omega
      have z1 : (j : Int) < (k : Int) := by omega
      obtain ⟨g, hgg, hus⟩ := HS.out j hlt
      subst hgg
      obtain ⟨b0, b1, b2, b3⟩ := (hus.stay HU.out.1) j hlt
      clear hus
      have HW : Hid (wholeB s (j + 1) = (wholeB s j && decide (0 ≤ rn s (pos s j)))) := rfl
      have HSC := scells_succ s j
      have HSC' : Hid (scells s (j + 1) = scells s j ++ [.int .i64 (pos s j), .int .i64 (wd s (pos s j))]) := HSC
      clear HSC
      generalize wholeB s j = wj at HW ⊢
      generalize rn s (pos s j) = r1 at b1 HW ⊢
      generalize wd s (pos s j) = d1 at b3 HSC' ⊢
      generalize pos s j = p1 at b2 HSC' ⊢
      have key : ∀ (v2 : Value) (w9 : World), w9.ownsRow wU.heap.size 41 2 v2 (j + 1) (scells s j ++ [.int .i64 p1, .int .i64 d1]) → w9.ownsRow wU.heap.size 41 2 v2 (j + 1) (scells s (j + 1)) := fun v2 w9 h => by rw [HSC'.out]; exact h
      have HKY : Hid (∀ (v2 : Value) (w9 : World), w9.ownsRow wU.heap.size 41 2 v2 (j + 1) (scells s j ++ [.int .i64 p1, .int .i64 d1]) → w9.ownsRow wU.heap.size 41 2 v2 (j + 1) (scells s (j + 1))) := key
      clear key HSC'
      cases wj
      all_goals (by_cases hr1 : 0 ≤ r1)
      all_goals
        go_wp2_with (at_builtin; refine wpList_append_own _ rfl _ _ 39 rfl wU.heap.size 41 i1 _ 2 16 Tryd.underlying39 hi1 hy0 hy1 hy2 rfl (by decide) _ _ _ rfl ((HO.out.alloc _).alloc _) ⟨wr.heap.size + 1, 0, none⟩ 1 1 [.int .i64 p1, .int .i64 d1] rfl rfl (new_two _ _ _ _ _) (two_one _ _ rfl rfl) (by unfold maxLen; omega) (by omega) (by have := HU.out.2; simp only [World.size_alloc]; omega) ?_)
        intro v2 w9 hown9 hgr9 hnil9
        have HO9 : Hid (w9.ownsRow wU.heap.size 41 2 v2 (j + 1) (scells s (j + 1))) := HKY.out v2 w9 hown9
        have HU9 : Hid (Up wU.heap.size wU w9) := ((HU.out.alloc _).alloc _).grown hgr9 (own_base HO.out)
        clear hown9 hgr9 hnil9 HO HU b1 b2 b3
        go_wp2
        go_roundg (k - (j + 1))
        case measure => omega
        case rel => exact ⟨j + 1, by omega, rfl, by go_num, by rw [HW.out]; simp [hr1], HO9, HU9⟩
    · obtain rfl : j = k := by omega
      have HU2 : Hid (Up w.heap.size w wr) := HUU.out.stay HU.out.1
      have HX : Hid ((strOfNums (txt (fun i => rn s (pos s i)) j) = s) ↔ wholeB s j = true) := back_iff s HE.out
      have hcv := str_of (HB.out.stay HU2.out.1)
      go_wp2_with fail
      refine (runes_any s _ (by omega) (tabs_stay HT.out HU2.out.1)).mono ?_
      rintro e w4 ⟨k2, v4, rfl, he4, ho4, hb4⟩
      obtain rfl : k2 = j := he4.one HE.out
      have HO4 : Hid (w4.ownsRow wU.heap.size 41 2 _ k2 (scells s k2)) := own_stay HO.out hb4
      have HU4 : Hid (Up w.heap.size w w4) := HU2.out.stay hb4
      clear hb4 he4 hcv HU2 HO HU
      go_wp2_with fail
      refine (text_any (fun i => rn s (pos s i)) k2 v4 _ (by omega) (rsl_of ho4)).mono ?_
      rintro e w5 ⟨rfl, hb5⟩
      have HO5 : Hid (w5.ownsRow wU.heap.size 41 2 _ k2 (scells s k2)) := own_stay HO4.out hb5
      have HU5 : Hid (Up w.heap.size w w5) := HU4.out.stay hb5
      clear hb5 ho4 HO4 HU4
      have hcv := str_of (HB.out.stay HU5.out.1)
      generalize strOfNums (txt (fun i => rn s (pos s i)) k2) = X at HX ⊢
      cases hwB : wholeB s k2
      · have hne : ¬ X = s := fun h => by have := HX.out.1 h; rw [hwB] at this; cases this
        have hne3 : ¬ X.toList = s.toList := fun h => hne (toList_inj h)
        clear HX hne
        go_wp2_with fail
        refine (cover_any s k2 _ _ _ (by omega) HE.out HO5.out).mono ?_
        rintro e w6 ⟨rfl, hb6⟩
        go_wp2
        go_ret
        refine ⟨?_, (HU5.out.stay hb6).1⟩
        show Ending.returned (Value.bool (!(X.toList == s.toList))) = Ending.returned (Value.bool true)
        rw [beq_eq_false_iff_ne.2 hne3]
        rfl
      · have hxe := HX.out.2 hwB
        clear HX
        subst hxe
        go_wp2_with fail
        refine (cover_any _ k2 _ _ _ (by omega) HE.out HO5.out).mono ?_
        rintro e w6 ⟨rfl, hb6⟩
        go_wp2
        go_ret
        exact ⟨rfl, (HU5.out.stay hb6).1⟩

set_option maxRecDepth 100000 in
set_option maxHeartbeats 4000000 in
theorem back_ok (r : Int) (s : ByteArray) (v : Value) (w : World) (hs : s.size ≤ 2000) (ho : okR r = true) (hT : Tabs w) (h : BSl w v s) :
    Calls Tryd.prog 5 #[.int .i32 r, v] w fun e w' => e = .returned (.bool true) ∧ Below w.heap.size w w' := by
  obtain ⟨ad, c, rfl⟩ := h.form
  have HB : Hid (BSl w (.slice ad s.size c) s) := h
  have HT : Hid (Tabs w) := hT
  have hs' : ¬ (2000 : Int) < (s.size : Int) := by omega
  clear h hT
  obtain ⟨i1, hi1, hy0, hy1, hy2⟩ := info_parts info41
  obtain ⟨i0, hi, hz0, hz1, hz2⟩ := info_parts info5
  have hl4 := lenR_pos r
  have hel := enc_len r ho
  have hsg : Sign (strOfNums (enc r ++ [128])) 0 r := sign_in [] [128] ho
  have hsz : (strOfNums (enc r ++ [128])).size = lenR r + 1 := by rw [strOfNums_size, List.length_append, hel]; rfl
  have HNR : Hid (nxR (strOfNums (enc r ++ [128])) = r) := by
    show nxR _ = r
    unfold nxR; rw [if_neg (by omega)]; exact hsg.rn
  have HNN : Hid (nxN (strOfNums (enc r ++ [128])) = lenR r) := by
    show nxN _ = lenR r
    unfold nxN; rw [if_neg (by omega)]; exact hsg.wd
  have HRG : Hid (∀ x, x ∈ enc r ++ [128] → 0 ≤ x ∧ x < 256) := fun x hx => by
    rcases List.mem_append.1 hx with h | h
    · exact enc_range h
    · simp at h; omega
  clear hsg hsz
  go_enter Tryd.func5, Tryd.ntmps5
  go_wp2_with fail
  refine (awake_any _ HT.out).mono ?_
  rintro e w1 ⟨rfl, hb1⟩
  have HU1 : Hid (Up w.heap.size w w1) := (Up.refl w).stay hb1
  clear hb1
  go_wp2_with fail
  refine (put_ok ByteArray.empty _ r _ (Nat.zero_le _) ho (Or.inl ⟨none, 0, rfl, rfl⟩)).mono ?_
  rintro e w2 ⟨vc, rfl, hoc, hb2⟩
  rw [nums_empty, List.nil_append, hel] at hoc
  have hvc : ∃ a2 c2, vc = .slice a2 (lenR r) c2 := by
    obtain ⟨_, ⟨rfl, h0⟩ | ⟨g, cap, cur, rfl, _⟩⟩ := hoc
    · exact ⟨none, 0, by rw [h0]⟩
    · exact ⟨_, cap, rfl⟩
  obtain ⟨a2, c2, rfl⟩ := hvc
  have HOC : Hid (w2.ownsRow w1.heap.size 5 1 (.slice a2 (lenR r) c2) (lenR r) (cellsOf (enc r))) := hoc
  have HU2 : Hid (Up w.heap.size w w2) := HU1.out.stay hb2
  have HL12 : Hid (w1.heap.size ≤ w2.heap.size) := hb2.size
  have HBW : Hid (w.heap.size ≤ w1.heap.size) := HU1.out.2
  clear hoc hb2 HU1
  go_wp2_with (at_builtin; refine wpList_append_own _ rfl _ _ 22 rfl w1.heap.size 5 i0 _ 1 1 Tryd.underlying22 hi hz0 hz1 hz2 rfl (by decide) _ _ _ rfl (HOC.out.alloc _) ⟨w2.heap.size, 0, none⟩ 1 1 [.int .u8 128] rfl rfl ?c1 ?c2 ?c3 ?c4 ?c5 ?_)
  case c1 =>
    intro j u hj
    match j, hj with
    | 0, hj => simp at hj; subst hj; simp [Addr.add]
    | (j + 1), hj => simp at hj
  case c2 => intro u hu; simp at hu; rcases hu with rfl; rfl
  case c3 => unfold maxLen; omega
  case c4 => omega
  case c5 => have := HL12.out; simp only [World.size_alloc]; omega
  intro v3 w3 hown3 hgr3 hnil3
  have HU3 : Hid (Up w.heap.size w w3) := (HU2.out.alloc _).grown hgr3 (fun k hk => Nat.le_trans HBW.out (own_base HOC.out k hk))
  have HB9 : Hid (BSl w3 v3 (strOfNums (enc r ++ [128]))) := bsl_own (n := lenR r + 1) (base := w1.heap.size) (by
    rw [cellsOf, List.map_append]; exact hown3) HRG.out
  clear hown3 hgr3 hnil3 HU2 HOC HL12 HBW HRG
  go_wp2_with fail
  refine (next_any (strOfNums (enc r ++ [128])) _ _ (tabs_stay HT.out HU3.out.1) HB9.out).mono ?_
  rintro e wS ⟨rfl, hb4⟩
  rw [HNR.out, HNN.out]
  have HUS : Hid (Up w.heap.size w wS) := HU3.out.stay hb4
  clear hb4 HU3 HB9 HNR HNN
  have HT3 : Hid (Tabs wS) := tabs_stay HT.out HUS.out.1
  have HB3 : Hid (BSl wS (.slice ad s.size c) s) := HB.out.stay HUS.out.1
  go_wp2_with fail
  refine (unitsS_any s _ _ (by omega) HT3.out HB3.out).mono ?_
  rintro e wU ⟨k, vU, rfl, heU, hoU, hbU⟩
  have HUU : Hid (Up w.heap.size w wU) := HUS.out.stay hbU
  have HE : Hid (Ends s k) := heU
  have hk := heU.le
  have hform : ∃ a1 c1, vU = .slice a1 k c1 ∧ (∀ j, j < k → ∃ g, a1 = some ⟨g, 0, none⟩ ∧ Us wU g k s) := by
    have h0 := hoU
    obtain ⟨_, ⟨rfl, rfl⟩ | ⟨g, cap, cur, rfl, _⟩⟩ := hoU
    · exact ⟨none, 0, rfl, fun j hj => absurd hj (Nat.not_lt_zero j)⟩
    · exact ⟨_, cap, rfl, fun j _ => ⟨g, rfl, us_of h0⟩⟩
  obtain ⟨a1, c1, rfl, hus⟩ := hform
  have HS : Hid (∀ j, j < k → ∃ g, a1 = some ⟨g, 0, none⟩ ∧ Us wU g k s) := hus
  clear hbU heU hoU hus HUS HT3 HB3
  go_wp2
  go_loopg [9, 10, 45] k (fun m wh l i wr => ∃ j : Nat, j ≤ k ∧ m = k - j ∧ i = .int .i64 j ∧ wh = .bool (wholeB s j) ∧ Hid (wr.ownsRow wU.heap.size 41 2 l j (scells s j)) ∧ Hid (Up wU.heap.size wU wr))
  case atStart => exact ⟨0, Nat.zero_le _, rfl, rfl, rfl, ⟨rfl, Or.inl ⟨rfl, rfl⟩⟩, Up.refl wU⟩
  case round =>
    obtain ⟨j, hj, hm, rfl, rfl, HO, HU⟩ := hrel
    by_cases hlt : j < k
    · have z0 : (0 : Int) ≤ (j : Int) := by omega
      have z1 : (j : Int) < (k : Int) := by omega
      obtain ⟨g, hgg, hus⟩ := HS.out j hlt
      subst hgg
      obtain ⟨b0, b1, b2, b3⟩ := (hus.stay HU.out.1) j hlt
      clear hus
      have HW : Hid (wholeB s (j + 1) = (wholeB s j && decide (0 ≤ rn s (pos s j)))) := rfl
      have HSC := scells_succ s j
      have HSC' : Hid (scells s (j + 1) = scells s j ++ [.int .i64 (pos s j), .int .i64 (wd s (pos s j))]) := HSC
      clear HSC
      generalize wholeB s j = wj at HW ⊢
      generalize rn s (pos s j) = r1 at b1 HW ⊢
      generalize wd s (pos s j) = d1 at b3 HSC' ⊢
      generalize pos s j = p1 at b2 HSC' ⊢
      have key : ∀ (v2 : Value) (w9 : World), w9.ownsRow wU.heap.size 41 2 v2 (j + 1) (scells s j ++ [.int .i64 p1, .int .i64 d1]) → w9.ownsRow wU.heap.size 41 2 v2 (j + 1) (scells s (j + 1)) := fun v2 w9 h => by rw [HSC'.out]; exact h
      have HKY : Hid (∀ (v2 : Value) (w9 : World), w9.ownsRow wU.heap.size 41 2 v2 (j + 1) (scells s j ++ [.int .i64 p1, .int .i64 d1]) → w9.ownsRow wU.heap.size 41 2 v2 (j + 1) (scells s (j + 1))) := key
      clear key HSC'
      cases wj
      all_goals (by_cases hr1 : 0 ≤ r1)
      all_goals
        go_wp2_with (at_builtin; refine wpList_append_own _ rfl _ _ 39 rfl wU.heap.size 41 i1 _ 2 16 Tryd.underlying39 hi1 hy0 hy1 hy2 rfl (by decide) _ _ _ rfl ((HO.out.alloc _).alloc _) ⟨wr.heap.size + 1, 0, none⟩ 1 1 [.int .i64 p1, .int .i64 d1] rfl rfl (new_two _ _ _ _ _) (two_one _ _ rfl rfl) (by unfold maxLen; omega) (by omega) (by have := HU.out.2; simp only [World.size_alloc]; omega) ?_)
        intro v2 w9 hown9 hgr9 hnil9
        have HO9 : Hid (w9.ownsRow wU.heap.size 41 2 v2 (j + 1) (scells s (j + 1))) := HKY.out v2 w9 hown9
        have HU9 : Hid (Up wU.heap.size wU w9) := ((HU.out.alloc _).alloc _).grown hgr9 (own_base HO.out)
        clear hown9 hgr9 hnil9 HO HU b1 b2 b3
        go_wp2
        go_roundg (k - (j + 1))
        case measure => omega
        case rel => exact ⟨j + 1, by omega, rfl, by go_num, by rw [HW.out]; simp [hr1], HO9, HU9⟩
    · obtain rfl : j = k := by omega
      have HU2 : Hid (Up w.heap.size w wr) := HUU.out.stay HU.out.1
      have HX : Hid ((strOfNums (txt (fun i => rn s (pos s i)) j) = s) ↔ wholeB s j = true) := back_iff s HE.out
      have hcv := str_of (HB.out.stay HU2.out.1)
      go_wp2_with fail
      refine (runes_any s _ (by omega) (tabs_stay HT.out HU2.out.1)).mono ?_
      rintro e w4 ⟨k2, v4, rfl, he4, ho4, hb4⟩
      obtain rfl : k2 = j := he4.one HE.out
      have HO4 : Hid (w4.ownsRow wU.heap.size 41 2 _ k2 (scells s k2)) := own_stay HO.out hb4
      have HU4 : Hid (Up w.heap.size w w4) := HU2.out.stay hb4
      clear hb4 he4 hcv HU2 HO HU
      go_wp2_with fail
      refine (text_any (fun i => rn s (pos s i)) k2 v4 _ (by omega) (rsl_of ho4)).mono ?_
      rintro e w5 ⟨rfl, hb5⟩
      have HO5 : Hid (w5.ownsRow wU.heap.size 41 2 _ k2 (scells s k2)) := own_stay HO4.out hb5
      have HU5 : Hid (Up w.heap.size w w5) := HU4.out.stay hb5
      clear hb5 ho4 HO4 HU4
      have hcv := str_of (HB.out.stay HU5.out.1)
      generalize strOfNums (txt (fun i => rn s (pos s i)) k2) = X at HX ⊢
      cases hwB : wholeB s k2
      · have hne : ¬ X = s := fun h => by have := HX.out.1 h; rw [hwB] at this; cases this
        have hne3 : ¬ X.toList = s.toList := fun h => hne (toList_inj h)
        clear HX hne
        go_wp2_with fail
        refine (cover_any s k2 _ _ _ (by omega) HE.out HO5.out).mono ?_
        rintro e w6 ⟨rfl, hb6⟩
        go_wp2
        go_ret
        refine ⟨?_, (HU5.out.stay hb6).1⟩
        show Ending.returned (Value.bool (!(X.toList == s.toList))) = Ending.returned (Value.bool true)
        rw [beq_eq_false_iff_ne.2 hne3]
        rfl
      · have hxe := HX.out.2 hwB
        clear HX
        subst hxe
        go_wp2_with fail
        refine (cover_any _ k2 _ _ _ (by omega) HE.out HO5.out).mono ?_
        rintro e w6 ⟨rfl, hb6⟩
        go_wp2
        go_ret
        exact ⟨rfl, (HU5.out.stay hb6).1⟩

theorem back_all (r : Int) (s : ByteArray) (v : Value) (w : World) (hm : s.size ≤ maxLen) (_ : (Lit.int .i32 r).wf = true) (hT : Tabs w) (h : BSl w v s) :
    Calls Tryd.prog 5 #[.int .i32 r, v] w fun e w' => e = .returned (.bool true) ∧ Below w.heap.size w w' := by
  by_cases hs : s.size ≤ 2000
  · cases ho : okR r
    · exact back_no r s v w hs ho hT h
    · exact back_ok r s v w hs ho hT h
  · exact back_big r s v w hm (by omega) hT h
end Go.Proofs.YtlmpohihbdlefaaDoor
