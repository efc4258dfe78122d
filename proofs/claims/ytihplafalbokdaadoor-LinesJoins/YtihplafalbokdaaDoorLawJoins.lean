/- LinesJoins. -/
import Derived.Test.YtihplafalbokdaaDoorWalksZ
import Derived.Test.YtihplafalbokdaaDoorLPureB
namespace Go.Proofs.YtihplafalbokdaaDoor
set_option linter.unusedVariables false
open Go.RowKit Go.ChangeShapes
theorem joins_big (a : ByteArray) (v : Value) (b : ByteArray) (v1 : Value) (w : World) (m0 : a.size ≤ maxLen) (m1 : b.size ≤ maxLen) (hk : 2000 < a.size + b.size) (hk2 : a.size + b.size ≤ maxLen) (hT : Tabs w) (h0 : BSl w v a) (h1 : BSl w v1 b) :
    Calls Tryd.prog 7 #[v, v1] w fun e w' => e = .returned (.bool true) ∧ Below w.heap.size w w' := by
  obtain ⟨ad, c, rfl⟩ := h0.form
  obtain ⟨ad1, c1, rfl⟩ := h1.form
  clear h0 h1
  unfold maxLen at *
  have h5' : (2000 : Int) < (a.size : Int) + (b.size : Int) := by omega
  go_enter Tryd.func7, Tryd.ntmps7
  go_wp2_with fail
  refine (awake_any _ hT).mono ?_
  rintro e w1 ⟨rfl, hb1⟩
  go_wp2
  go_ret
  exact ⟨rfl, hb1⟩
theorem lit9_own (w : World) : (w.alloc (.cells #[] 9)).ownsRow w.heap.size 9 1 (.slice (some ⟨w.heap.size, 0, none⟩) 0 0) 0 [] := World.ownsRow_lit w #[] 0 (Nat.le_refl _) (Nat.zero_le _) rfl
theorem bsl_nums {w : World} {base n : Nat} {v : Value} {s : ByteArray} {l : List Int} (h : w.ownsRow base 5 1 v n (cellsOf l)) (hl : ∀ x, x ∈ l → 0 ≤ x ∧ x < 256) (hs : strOfNums l = s) : BSl w v s := by
  have h5 := bsl_own h hl
  rw [hs] at h5
  exact h5
def nlB : ByteArray := ⟨#[10]⟩
theorem nl_size : nlB.size = 1 := rfl
theorem nl_nums : numsOf nlB = [10] := rfl
theorem nums_range (s : ByteArray) : ∀ x, x ∈ numsOf s → 0 ≤ x ∧ x < 256 := by
  intro x hx
  obtain ⟨j, _, rfl⟩ := List.mem_map.1 hx
  have := (s.get! j).toNat_lt
  omega
theorem nums_add (s t : ByteArray) : strOfNums (numsOf s ++ numsOf t) = s ++ t := by rw [nums_join, show strOfNums (numsOf t) = t from nums_of t]
theorem numsOf_join (s t : ByteArray) : numsOf (s ++ t) = numsOf s ++ numsOf t := by
  apply List.ext_getElem?
  intro i
  by_cases h : i < s.size
  · rw [List.getElem?_append_left (by rw [numsOf_len]; exact h), numsOf_at s i h, numsOf_at _ i (by rw [join_size]; omega)]
    unfold bt; rw [join_get_left s t i h]
  · by_cases h2 : i < s.size + t.size
    · obtain ⟨j, rfl⟩ : ∃ j, i = s.size + j := ⟨i - s.size, by omega⟩
      rw [List.getElem?_append_right (by rw [numsOf_len]; omega), numsOf_len, show s.size + j - s.size = j by omega, numsOf_at t j (by omega), numsOf_at _ _ (by rw [join_size]; omega)]
      unfold bt; rw [join_get_right]
    · rw [List.getElem?_eq_none (by rw [numsOf_len, join_size]; omega), List.getElem?_eq_none (by rw [List.length_append, numsOf_len, numsOf_len]; omega)]
theorem sub_none (s : ByteArray) : sub s 0 0 = ⟨#[]⟩ := by
  apply ByteArray.ext
  show s.data.extract 0 0 = #[]
  simp
theorem get_last (s : ByteArray) (h : s.size - 1 < s.size) : s[s.size - 1]'h = s.get! (s.size - 1) := by
  show s.data[s.size - 1]'h = s.data[s.size - 1]!
  rw [getElem!_pos s.data (s.size - 1) h]
set_option maxRecDepth 100000 in
set_option maxHeartbeats 4000000 in
theorem joins_small (a : ByteArray) (v : Value) (b : ByteArray) (v1 : Value) (w : World) (hs : a.size + b.size ≤ 2000) (hT : Tabs w) (h0 : BSl w v a) (h1 : BSl w v1 b) :
    Calls Tryd.prog 7 #[v, v1] w fun e w' => e = .returned (.bool true) ∧ Below w.heap.size w w' := by
  obtain ⟨ad, c, rfl⟩ := h0.form
  obtain ⟨ad1, c1, rfl⟩ := h1.form
  have HA : Hid (BSl w (.slice ad a.size c) a) := h0
  have HB : Hid (BSl w (.slice ad1 b.size c1) b) := h1
  have HT : Hid (Tabs w) := hT
  have hs' : ¬ (2000 : Int) < (a.size : Int) + (b.size : Int) := by omega
  clear h0 h1 hT
  have hts : (a ++ nlB).size = a.size + 1 := by rw [join_size]; rfl
  have htn : bt (a ++ nlB) ((a ++ nlB).size - 1) = 10 := by
    rw [hts, Nat.add_sub_cancel]
    unfold bt
    have := join_get_right a nlB 0
    rw [Nat.add_zero] at this
    rw [this]; rfl
  have has : (a ++ nlB ++ b).size = a.size + 1 + b.size := by rw [join_size, hts]
  obtain ⟨i0, hi, hz0, hz1, hz2⟩ := info_parts info5
  obtain ⟨j0, hj, hy0, hy1, hy2⟩ := info_parts info9
  have HJ : Hid (tcells (line (a ++ nlB)) (nL (a ++ nlB)) ++ tcells (line b) (nL b) = tcells (line (a ++ nlB ++ b)) (nL (a ++ nlB ++ b))) := tcells_join _ b (by omega) htn
  have HJN : Hid (nL (a ++ nlB ++ b) = nL (a ++ nlB) + nL b) := nL_join _ b (by omega) htn
  have HNT : Hid (numsOf (a ++ nlB) = numsOf a ++ [10]) := numsOf_join a nlB
  have HNA : Hid (numsOf (a ++ nlB ++ b) = numsOf a ++ [10] ++ numsOf b) := by show _ = _; rw [numsOf_join, HNT.out]
  have hlt1 := nL_le (a ++ nlB)
  have hlt2 := nL_le b
  have hlt3 := nL_le (a ++ nlB ++ b)
  have hal : (a ++ nlB ++ b).size ≤ 5000 := by omega
  have htl : (a ++ nlB).size ≤ 5000 := by omega
  clear has hts htn
  generalize a ++ nlB ++ b = al at hal HJ HJN HNA hlt3
  generalize a ++ nlB = t at htl HJ HJN HNT hlt1
  go_enter Tryd.func7, Tryd.ntmps7
  go_wp2_with fail
  refine (awake_any _ HT.out).mono ?_
  rintro e w1 ⟨rfl, hb1⟩
  have HU1 : Hid (Up w.heap.size w w1) := (Up.refl w).stay hb1
  have HA1 : Hid (BSl w1 (.slice ad a.size c) a) := HA.out.stay hb1
  clear hb1
  go_wp2_with (at_builtin; refine app_bsl rfl _ _ 22 rfl w1.heap.size i0 _ Tryd.underlying22 hi hz0 hz1 hz2 rfl _ _ _ rfl (lit5_own _) _ a rfl (HA1.out.stay ((Below.refl _ _).alloc (Nat.le_refl _) _)) ?c3 ?c4 ?c5 ?_)
  case c3 => unfold maxLen; omega
  case c4 => omega
  case c5 => simp only [World.size_alloc]; omega
  intro v3 w3 hown3 hgr3
  have HO3 : Hid (w3.ownsRow w1.heap.size 5 1 v3 a.size (cellsOf (numsOf a))) := by show w3.ownsRow _ _ _ _ _ _; simpa using hown3
  have HV3 : Hid (Up w1.heap.size w1 w3) := ((Up.refl w1).alloc _).grown hgr3 (fun k hk => by cases hk; exact Nat.le_refl _)
  clear hown3 hgr3
  go_wp2_with (at_builtin; refine wpList_append_own _ rfl _ _ 22 rfl w1.heap.size 5 i0 _ 1 1 Tryd.underlying22 hi hz0 hz1 hz2 rfl (by decide) _ _ _ rfl (HO3.out.alloc _) ⟨w3.heap.size, 0, none⟩ 1 1 [.int .u8 10] rfl rfl (one_new _ _ _) (one_one _ rfl) (by unfold maxLen; omega) (by omega) (by have := HV3.out.2; simp only [World.size_alloc]; omega) ?_)
  intro v4 w4 hown4 hgr4 hnil4
  have HV4 : Hid (Up w1.heap.size w1 w4) := (HV3.out.alloc _).grown hgr4 (own_base HO3.out)
  have HBT : Hid (BSl w4 v4 t) := bsl_nums (l := numsOf t) (by rw [HNT.out, cellsOf, List.map_append]; exact hown4) (nums_range t) (nums_of t)
  have HU4 : Hid (Up w.heap.size w w4) := HU1.out.stay HV4.out.1
  clear hown4 hgr4 hnil4 HO3 HV3 HV4 HA1 HU1
  go_wp2_with fail
  refine (split_any t v4 w4 (by omega) (tabs_stay HT.out HU4.out.1) HBT.out).mono ?_
  rintro e w5 ⟨vx, rfl, hx, hb5⟩
  have HX5 : Hid (w5.ownsRow w4.heap.size 9 1 vx (nL t) (tcells (line t) (nL t))) := hx
  have HU5 : Hid (Up w.heap.size w w5) := HU4.out.stay hb5
  have HA5 : Hid (BSl w5 (.slice ad a.size c) a) := HA.out.stay HU5.out.1
  clear hx hb5 HBT HU4
  go_wp2_with (at_builtin; refine app_bsl rfl _ _ 22 rfl w5.heap.size i0 _ Tryd.underlying22 hi hz0 hz1 hz2 rfl _ _ _ rfl (lit5_own _) _ a rfl (HA5.out.stay ((Below.refl _ _).alloc (Nat.le_refl _) _)) ?d3 ?d4 ?d5 ?_)
  case d3 => unfold maxLen; omega
  case d4 => omega
  case d5 => simp only [World.size_alloc]; omega
  intro v6 w6 hown6 hgr6
  have HO6 : Hid (w6.ownsRow w5.heap.size 5 1 v6 a.size (cellsOf (numsOf a))) := by show w6.ownsRow _ _ _ _ _ _; simpa using hown6
  have HV6 : Hid (Up w5.heap.size w5 w6) := ((Up.refl w5).alloc _).grown hgr6 (fun k hk => by cases hk; exact Nat.le_refl _)
  clear hown6 hgr6
  go_wp2_with (at_builtin; refine wpList_append_own _ rfl _ _ 22 rfl w5.heap.size 5 i0 _ 1 1 Tryd.underlying22 hi hz0 hz1 hz2 rfl (by decide) _ _ _ rfl (HO6.out.alloc _) ⟨w6.heap.size, 0, none⟩ 1 1 [.int .u8 10] rfl rfl (one_new _ _ _) (one_one _ rfl) (by unfold maxLen; omega) (by omega) (by have := HV6.out.2; simp only [World.size_alloc]; omega) ?_)
  intro v7 w7 hown7 hgr7 hnil7
  have HV7 : Hid (Up w5.heap.size w5 w7) := (HV6.out.alloc _).grown hgr7 (own_base HO6.out)
  have HO7 : Hid (w7.ownsRow w5.heap.size 5 1 v7 (a.size + 1) (cellsOf (numsOf a ++ [10]))) := by show w7.ownsRow _ _ _ _ _ _; rw [cellsOf, List.map_append]; exact hown7
  have HB7 : Hid (BSl w7 (.slice ad1 b.size c1) b) := HB.out.stay (HU5.out.stay HV7.out.1).1
  clear hown7 hgr7 hnil7 HO6 HV6
  go_wp2_with (at_builtin; refine app_bsl rfl _ _ 22 rfl w5.heap.size i0 _ Tryd.underlying22 hi hz0 hz1 hz2 rfl _ _ _ rfl HO7.out _ b rfl HB7.out ?e3 ?e4 ?e5 ?_)
  case e3 => unfold maxLen; omega
  case e4 => omega
  case e5 => exact HV7.out.2
  intro v8 w8 hown8 hgr8
  have HV8 : Hid (Up w5.heap.size w5 w8) := HV7.out.grown hgr8 (own_base HO7.out)
  have HBA : Hid (BSl w8 v8 al) := bsl_nums (l := numsOf al) (n := a.size + 1 + b.size) (base := w5.heap.size) (by rw [HNA.out, cellsOf, List.map_append]; exact hown8) (nums_range al) (nums_of al)
  have HX8 : Hid (w8.ownsRow w4.heap.size 9 1 vx (nL t) (tcells (line t) (nL t))) := own_stay HX5.out HV8.out.1
  have HU8 : Hid (Up w.heap.size w w8) := HU5.out.stay HV8.out.1
  clear hown8 hgr8 HO7 HB7 HV7 HV8 HU5 HX5 HA5
  obtain ⟨a8, c8, rfl⟩ := HBA.out.form
  go_wp2_with fail
  refine (split_any al _ w8 (by omega) (tabs_stay HT.out HU8.out.1) HBA.out).mono ?_
  rintro e w9 ⟨vl, rfl, hl, hb9⟩
  have HL9 : Hid (TSl w9 vl (nL al) (line al)) := tsl_own hl
  have HX9 : Hid (w9.ownsRow w4.heap.size 9 1 vx (nL t) (tcells (line t) (nL t))) := own_stay HX8.out hb9
  have HB9 : Hid (BSl w9 (.slice a8 al.size c8) al) := HBA.out.stay hb9
  have HU9 : Hid (Up w.heap.size w w9) := HU8.out.stay hb9
  clear hl hb9 HX8 HBA HU8
  obtain ⟨a9, c9, rfl⟩ := HL9.out.form
  go_wp2
  go_loopg [8, 36] (nL al) (fun m wv iv wr => ∃ i : Nat, i ≤ nL al ∧ m = nL al - i ∧ iv = .int .i64 i ∧ wv = .string (sub al 0 (S al i)) ∧ wr = w9)
  case atStart => exact ⟨0, Nat.zero_le _, rfl, rfl, by rw [S_zero]; exact congrArg Value.string (sub_none al).symm, rfl⟩
  case round =>
    obtain ⟨i, hin, hm, rfl, rfl, rfl⟩ := hrel
    by_cases hlt : i < nL al
    · have z0 : (0 : Int) ≤ (i : Int) := by omega
      have z1 : (i : Int) < (nL al : Int) := by omega
      obtain ⟨g, rfl, hc⟩ : ∃ g, a9 = some ⟨g, 0, none⟩ ∧ wr.cell? ⟨g, i, none⟩ = some (.string (line al i)) := by
        rcases HL9.out with ⟨a', c', hv, hz⟩ | ⟨g, c', hv, hcs⟩
        · omega
        · injection hv with hv1 _ _
          exact ⟨g, hv1, hcs i hlt⟩
      have hls := line_size al i
      have hsm := S_mono (s := al) (i := i) (j := i + 1) (by omega) hlt
      have hse := S_le al (i + 1)
      have HAD : Hid (sub al 0 (S al i) ++ line al i = sub al 0 (S al (i + 1))) := sub_add al _ _ (by omega) hse
      have hsz : (sub al 0 (S al i)).size = S al i := by rw [sub_size al 0 _ (S_le al i)]; omega
      have hlast : i + 1 < nL al → (line al i).get! ((line al i).size - 1) = 10 := fun h => by
        have h5 := S_newline (s := al) (j := i) h
        rw [hls]
        unfold line
        rw [sub_get al _ _ _ hse (by omega)]
        unfold bt at h5
        rw [show S al i + (S al (i + 1) - S al i - 1) = S al (i + 1) - 1 by omega]
        exact UInt8.toNat_inj.1 h5
      have HLA : Hid (i + 1 < nL al → (line al i).get! ((line al i).size - 1) = 10) := hlast
      have hl0 : 0 < (line al i).size := by omega
      have hl1 : (line al i).size ≤ 5000 := by omega
      clear hls hlast
      generalize sub al 0 (S al i) = pre at HAD hsz ⊢
      generalize line al i = tx at hc HAD HLA hl0 hl1 ⊢
      have hie : tx.toList.isEmpty = false := by
        rw [Lib.toList_data]
        cases hd : tx.data.toList with
        | nil =>
          have h6 : tx.data.toList.length = 0 := by rw [hd]; rfl
          rw [Array.length_toList] at h6
          exact absurd h6 (by show ¬ tx.size = 0; omega)
        | cons x xs => rfl
      have hne : ¬ tx.toList = [] := fun h => by rw [h] at hie; cases hie
      have hcl : ¬ 9223372036854775807 < pre.size + tx.size := by omega
      have y1 : (1 : Int) ≤ (tx.size : Int) := by omega
      have y2 : (tx.size : Int) - 1 < (tx.size : Int) := by omega
      by_cases h2 : i + 1 < nL al
      · have y3 : (i : Int) + 1 < (nL al : Int) := by omega
        have h10 : ∀ h : tx.size - 1 < tx.size, ((tx[tx.size - 1]'h).toNat : Int) = 10 := fun h => by
          rw [get_last tx h, HLA.out h2]; rfl
        go_wp2
        go_roundg (nL al - (i + 1))
        case measure => omega
        case rel => exact ⟨i + 1, hlt, rfl, by go_num, congrArg Value.string HAD.out, rfl⟩
      · have y3 : ¬ (i : Int) + 1 < (nL al : Int) := by omega
        go_wp2
        all_goals
          go_roundg (nL al - (i + 1))
          case measure => omega
          case rel => exact ⟨i + 1, hlt, rfl, by go_num, congrArg Value.string HAD.out, rfl⟩
    · obtain rfl : i = nL al := by omega
      have hsa : sub al 0 (S al (nL al)) = al := by rw [S_big (Nat.le_refl _)]; exact sub_all al
      rw [hsa]
      clear hsa
      go_wp2_with (at_builtin; refine app_own rfl _ _ 26 rfl wr.heap.size 9 j0 _ 1 16 Tryd.underlying26 hj hy0 hy1 hy2 rfl (by decide) _ _ _ rfl (lit9_own _) _ vx _ _ rfl (HX9.out.alloc _) (tcells_one _ _) ?f3 ?f4 ?f5 ?_)
      case f3 => unfold maxLen; omega
      case f4 => omega
      case f5 => simp only [World.size_alloc]; omega
      intro vA wA hownA hgrA
      have HOA : Hid (wA.ownsRow wr.heap.size 9 1 vA (nL t) (tcells (line t) (nL t))) := by show wA.ownsRow _ _ _ _ _ _; simpa using hownA
      have HVA : Hid (Up wr.heap.size wr wA) := ((Up.refl wr).alloc _).grown hgrA (fun k hk => by cases hk; exact Nat.le_refl _)
      have HUA : Hid (Up w.heap.size w wA) := HU9.out.stay HVA.out.1
      clear hownA hgrA
      go_wp2_with fail
      refine (split_any b _ wA (by omega) (tabs_stay HT.out HUA.out.1) (HB.out.stay HUA.out.1)).mono ?_
      rintro e wB ⟨vB, rfl, hB, hbB⟩
      have HOB : Hid (wB.ownsRow wA.heap.size 9 1 vB (nL b) (tcells (line b) (nL b))) := hB
      have HOA2 : Hid (wB.ownsRow wr.heap.size 9 1 vA (nL t) (tcells (line t) (nL t))) := own_stay HOA.out hbB
      have HVB : Hid (Up wr.heap.size wr wB) := HVA.out.stay hbB
      clear hB hbB HOA HVA HUA
      go_wp2_with (at_builtin; refine app_own rfl _ _ 26 rfl wr.heap.size 9 j0 _ 1 16 Tryd.underlying26 hj hy0 hy1 hy2 rfl (by decide) _ _ _ rfl HOA2.out _ vB _ _ rfl HOB.out (tcells_one _ _) ?g3 ?g4 ?g5 ?_)
      case g3 => unfold maxLen; omega
      case g4 => omega
      case g5 => exact HVB.out.2
      intro vC wC hownC hgrC
      have HTC : Hid (TSl wC vC (nL al) (line al)) := tsl_own (base := wr.heap.size) (by rw [← HJ.out, HJN.out]; exact hownC)
      have HVC : Hid (Up wr.heap.size wr wC) := HVB.out.grown hgrC (own_base HOA2.out)
      have HLC : Hid (TSl wC (.slice a9 (nL al) c9) (nL al) (line al)) := HL9.out.stay HVC.out.1
      clear hownC hgrC HOB HOA2 HVB
      go_wp2_with fail
      refine (same_any (line al) (nL al) _ _ wC (by omega) HLC.out HTC.out).mono ?_
      rintro e wD ⟨rfl, hbD⟩
      have hvD : Up wr.heap.size wr wD := HVC.out.stay hbD
      have hcv := str_of (HB9.out.stay hvD.1)
      have HUD : Hid (Up w.heap.size w wD) := HU9.out.stay hvD.1
      clear hbD hvD
      go_wp2
      go_ret
      exact ⟨rfl, HUD.out.1⟩
theorem joins_all (a : ByteArray) (v : Value) (b : ByteArray) (v1 : Value) (w : World) (m0 : a.size ≤ maxLen) (m1 : b.size ≤ maxLen) (m2 : a.size + b.size ≤ maxLen) (hT : Tabs w) (h0 : BSl w v a) (h1 : BSl w v1 b) :
    Calls Tryd.prog 7 #[v, v1] w fun e w' => e = .returned (.bool true) ∧ Below w.heap.size w w' := by
  by_cases h : 2000 < a.size + b.size
  · exact joins_big a v b v1 w m0 m1 h m2 hT h0 h1
  · exact joins_small a v b v1 w (by omega) hT h0 h1
end Go.Proofs.YtihplafalbokdaaDoor
