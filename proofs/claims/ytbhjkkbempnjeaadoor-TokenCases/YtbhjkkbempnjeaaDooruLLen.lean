/- TokenLengths. -/
import Derived.Test.YtbhjkkbempnjeaaDoorPkWCovQ2
import Derived.Test.YtbhjkkbempnjeaaDoorPkUPts2
namespace Go.Proofs.YtbhjkkbempnjeaaDoor
set_option linter.unusedVariables false
open Go.RowKit Go.ChangeShapes
theorem enc_len4 (r : Int) : (enc r).length ≤ 4 := enc_le r
theorem tU_len (l : List U3) : (tU l).length ≤ l.length * 4 := by
  unfold tU
  exact flat_len (fun u => enc_le u.r) l
theorem own_frm {w : World} {base e size n : Nat} {v : Value} {xs : List Value} (h : w.ownsRow base e size v n xs) : ∃ ad c, v = .slice ad n c := by
  obtain ⟨_, ⟨rfl, h2⟩ | ⟨g, cap, cur, rfl, _⟩⟩ := h
  · exact ⟨none, 0, by rw [h2]⟩
  · exact ⟨_, _, rfl⟩
theorem wordsP_snoc_no {c : Nat → Int} {n : Nat} {l : List U3} {lo hi : Int} {p : Nat × Nat} {ps : List (Nat × Nat)} (h : kpB lo hi p = false) : wordsP c n l lo hi (ps ++ [p]) = wordsP c n l lo hi ps := by
  unfold wordsP
  rw [List.filter_append, List.filter_cons_of_neg (by rw [h]; exact Bool.false_ne_true)]
  simp
theorem wordsP_snoc_yes {c : Nat → Int} {n : Nat} {l : List U3} {lo hi : Int} {p : Nat × Nat} {ps : List (Nat × Nat)} (h : kpB lo hi p = true) : wordsP c n l lo hi (ps ++ [p]) = wordsP c n l lo hi ps ++ [wOf c n l p] := by
  unfold wordsP
  rw [List.filter_append, List.filter_cons_of_pos h]
  simp
set_option maxRecDepth 100000 in
set_option maxHeartbeats 8000000 in
theorem lengths_law (WO : WordsOk) {w : World} (hT : Lns.Tabs w) (hT2 : Tns.Tabs w) {ba : Option Addr} {bn bcap : Nat} {bc : Nat → Int} (hbC : Ch bc bn) (hb : BC w ba bn bc) (hbn : bn ≤ maxLen)
    {la : Option Addr} {ln lcap : Nat} {lc : Nat → Int} (hlC : Ch lc ln) (hl : BC w la ln lc) (hln : ln ≤ maxLen) {p q : Nat} (hp : p < 256) (hq : q < 256) :
    Calls Tryd.prog 7 #[.slice ba bn bcap, .slice la ln lcap, .int .u8 (p : Nat), .int .u8 (q : Nat)] w fun ev w' => ev = .returned (.bool true) ∧ Below w.heap.size w w' := by
  have HH : Hid (Lns.Tabs w ∧ (Ch bc bn ∧ BC w ba bn bc ∧ bn ≤ maxLen) ∧ (Ch lc ln ∧ BC w la ln lc ∧ ln ≤ maxLen)) := ⟨hT, ⟨hbC, hb, hbn⟩, ⟨hlC, hl, hln⟩⟩
  have HT2 : Hid (Tns.Tabs w) := hT2
  have HO : Hid WordsOk := WO
  have ca := awake_any WO w hT
  clear hT hT2 hbC hb hlC hl WO
  obtain ⟨L5, hL5⟩ : ∃ z : Int, (p : Int) % 6 = z := ⟨_, rfl⟩
  obtain ⟨M5, hM5⟩ : ∃ z : Int, (q : Int) % 14 = z := ⟨_, rfl⟩
  have hL6 : (p : Int).tmod 6 = L5 := by rw [Int.tmod_eq_emod_of_nonneg (by omega)]; exact hL5
  have hM6 : (q : Int).tmod 14 = M5 := by rw [Int.tmod_eq_emod_of_nonneg (by omega)]; exact hM5
  have hL7 : 0 ≤ L5 ∧ L5 < 6 := by omega
  have hM7 : 0 ≤ M5 ∧ M5 < 14 := by omega
  have hL8 : IntKind.u8.wrap L5 = L5 := by simp [IntKind.wrap, IntKind.bits, IntKind.signed]; omega
  have hM8 : IntKind.u8.wrap M5 = M5 := by simp [IntKind.wrap, IntKind.bits, IntKind.signed]; omega
  go_enter Tryd.func7, Tryd.ntmps7
  go_wp2_with fail
  refine ca.mono ?_
  rintro ev w1 ⟨rfl, hb1⟩
  have HB1 : Hid (Below w.heap.size w w1) := hb1
  clear ca hb1
  by_cases hlong : 500 < bn
  · have g0 : (500 : Int) < (bn : Int) := by omega
    go_wp2
    go_ret
    exact ⟨rfl, HB1.out⟩
  · have g0 : ¬ (500 : Int) < (bn : Int) := by omega
    have cp := pieces_any w1
    go_wp2_with fail
    refine cp.mono ?_
    rintro ev w2 ⟨G, rfl, hP, hb2⟩
    have HB2 : Hid (Below w.heap.size w w2) := HB1.out.trans (hb2.mono HB1.out.size)
    have hps : psP.length = 25 := rfl
    have cb0 := bits_any (pc := 25) (rcap := bcap) (lcap := lcap) hP (pslen (by decide)) (psbyt (by decide)) (by decide) HH.out.2.2.1 (HH.out.2.2.2.1.stay HB2.out) HH.out.2.2.2.2 HH.out.2.1.1 (HH.out.2.1.2.1.stay HB2.out) HH.out.2.1.2.2
    rw [hps] at cb0
    obtain ⟨X, hX⟩ : ∃ X, bts psP bc bn (nl lc ln) = X := ⟨_, rfl⟩
    have hXn : X.length ≤ 540 := by rw [← hX]; exact bts_len9 psP_9 _ _ _
    have hXb : Byt X := by rw [← hX]; exact bts_byt (psbyt (by decide)) HH.out.2.1.1 _
    rw [hX] at cb0
    clear cp hP hb2 hX hps
    go_wp2_with fail
    refine cb0.mono ?_
    rintro ev w3 ⟨v3, rfl, ho3, hb3⟩
    have HB3 : Hid (Below w.heap.size w w3) := HB2.out.trans (hb3.mono HB2.out.size)
    obtain ⟨ad, cap, rfl, hcap, hcbig⟩ := ob_form ho3
    have hbc3 := ho3.bc
    have hCh := cL_ch hXb
    obtain ⟨n, hn⟩ : ∃ n, X.length = n := ⟨_, rfl⟩
    rw [hn] at hbc3 hcap hXn hCh ⊢
    have HX : Hid (BC w3 ad n (cL X) ∧ Ch (cL X) n) := ⟨hbc3, hCh⟩
    have cu := unitsB_any (Lns.tabs_stay HH.out.1 HB3.out) hCh.1 hbc3 hcap (by omega)
    clear cb0 ho3 hb3 hbc3 hCh hXb hn
    go_wp2_with fail
    refine cu.mono ?_
    rintro ev w4 ⟨k, v4, rfl, he, hkn, hR4, hb4⟩
    obtain ⟨U, hU⟩ : ∃ U, unS (strOfNums (cl (cL X) n)) k = U := ⟨_, rfl⟩
    have HUL : Hid (U.length ≤ 540) := by show _ ≤ _; rw [← hU, unS_len]; omega
    have HUF : Hid (FitU U) := by show FitU U; rw [← hU]; exact unS_fit he
    have HUB : Hid (∀ u ∈ U, -1000000 ≤ u.a ∧ u.a ≤ 1000000 ∧ -1000000 ≤ u.n ∧ u.n ≤ 1000000) := by
      show ∀ u ∈ U, _
      rw [← hU]
      exact unS_bd he (by rw [strOfNums_size, cl_len]; omega)
    rw [hU] at hR4
    have HUS : Hid (US w4 v4 U) := hR4.us
    have HB4 : Hid (Below w.heap.size w w4) := HB3.out.trans (hb4.mono HB3.out.size)
    have HX4 : Hid (BC w4 ad n (cL X)) := HX.out.1.stay hb4
    have hul := HUL.out
    have cw0 := HO.out w4 ad n cap (cL X) v4 U 0 1073741824 HX.out.2.1 HX4.out hcap (by omega) hcbig HUS.out HUF.out (by omega) HUB.out (by decide) (by decide)
    rw [words_all (by omega)] at cw0
    obtain ⟨PT, hPT⟩ : ∃ z, ptsL (RU U) (runsL (RU U) U.length 0) = z := ⟨_, rfl⟩
    have HPT : Hid (ptsL (RU U) (runsL (RU U) U.length 0) = PT) := hPT
    have hpl : PT.length ≤ 540 := by
      rw [← hPT]
      have h9 : (ptsL (RU U) (runsL (RU U) U.length 0)).length ≤ U.length - 0 := ptsF_len _ _
      omega
    rw [hPT] at cw0
    obtain ⟨m, hm⟩ : ∃ m, PT.length = m := ⟨_, rfl⟩
    have HM : Hid (PT.length = m) := hm
    rw [hm] at hpl
    clear cu hR4 hb4 hU he hkn hul hPT hm
    go_wp2_with fail
    refine cw0.mono ?_
    rintro ev w5 ⟨v5, rfl, hW5, hb5⟩
    have HB5 : Hid (Below w.heap.size w w5) := HB4.out.trans (hb5.mono HB4.out.size)
    have HW5 : Hid (WS w5 v5 (PT.map (wOf (cL X) n U))) := hW5
    obtain ⟨A5, C5, rfl⟩ : ∃ A C, v5 = .slice A m C := by
      obtain ⟨A, C, e, -⟩ := hW5
      exact ⟨A, C, by rw [e, List.length_map, HM.out]⟩
    have HU5 : Hid (US w5 v4 U ∧ BC w5 ad n (cL X)) := ⟨HUS.out.stay hb5, HX4.out.stay hb5⟩
    obtain ⟨i0, hin0, hz0, hz1, hz2⟩ := info_parts infoW
    clear cw0 hW5 hb5 HUS HX4
    go_wp2
    go_loopg [13, 38] m (fun gg ov iv wr => ∃ (j k2 : Nat), j ≤ m ∧ gg = m - j ∧ iv = .int .i64 (j : Int) ∧ k2 ≤ j ∧ Hid (∃ dn : List W4, dn.length = k2 ∧ wr.ownsRow w5.heap.size 51 4 ov k2 (wC dn) ∧ dn = wordsP (cL X) n U L5 M5 (PT.take j)) ∧ Hid (Up w5.heap.size w5 wr))
    case atStart => exact ⟨0, 0, Nat.zero_le _, rfl, rfl, Nat.le_refl _, ⟨[], rfl, World.ownsRow_nil _ _ _ _, rfl⟩, Up.refl _⟩
    case round =>
      obtain ⟨j, k2, hj, hgg, rfl, hk2, HOw, HU⟩ := hrel
      by_cases hjl : j < m
      · have y0 : (0 : Int) ≤ (j : Int) := by omega
        have y1 : (j : Int) < (m : Int) := by omega
        obtain ⟨pp, hpp⟩ : ∃ z, PT[j]? = some z := ⟨_, List.getElem?_eq_getElem (by rw [HM.out]; exact hjl)⟩
        have hpm : pp ∈ ptsL (RU U) (runsL (RU U) U.length 0) := by rw [HPT.out]; exact List.mem_of_getElem? hpp
        have hpi := pts_in hpm
        have hen := part_ends hpm
        have htk : PT.take (j + 1) = PT.take j ++ [pp] := by rw [List.take_add_one, hpp]; rfl
        obtain ⟨A6, C6, eA, -, hA⟩ := HW5.out.stay HU.out.1
        injection eA with eA eN eC
        subst eA eC
        clear eN
        obtain ⟨b6, o6, rfl, hbl, a1, a2, a3, a4⟩ := hA j (wOf (cL X) n U pp) (by rw [List.getElem?_map, hpp]; rfl)
        have hsz : (wOf (cL X) n U pp).t.size ≤ 3000 := by
          show (strOfNums _).size ≤ _
          rw [strOfNums_size]
          have h1 := tU_len (sub U pp.1 pp.2)
          rw [sub_len (by omega) hpi.2.1] at h1
          have := HUL.out
          omega
        obtain ⟨tt, htt⟩ : ∃ z, (wOf (cL X) n U pp).t = z := ⟨_, rfl⟩
        obtain ⟨ta, hta⟩ : ∃ z, (wOf (cL X) n U pp).a = z := ⟨_, rfl⟩
        obtain ⟨tn, htn⟩ : ∃ z, (wOf (cL X) n U pp).n = z := ⟨_, rfl⟩
        obtain ⟨tl, htl⟩ : ∃ z, (wOf (cL X) n U pp).l = z := ⟨_, rfl⟩
        have hcs : (wOf (cL X) n U pp).cs = [.string tt, .int .i64 ta, .int .i64 tn, .bool tl] := by rw [← htt, ← hta, ← htn, ← htl]; rfl
        have HCS : Hid ((wOf (cL X) n U pp).cs = [.string tt, .int .i64 ta, .int .i64 tn, .bool tl]) := hcs
        obtain ⟨d, hd⟩ : ∃ d, pp.2 - pp.1 = d := ⟨_, rfl⟩
        have hEn : Ends tt d := by rw [← htt, ← hd]; exact hen
        have HEN : Hid (Ends tt d) := hEn
        have hd5 : d ≤ 540 := by have := HUL.out; omega
        have HKP : Hid (kpB L5 M5 pp = (decide (L5 ≤ (d : Int)) && decide ((d : Int) ≤ M5))) := by
          show kpB L5 M5 pp = _
          unfold kpB
          rw [hd]
        have HTK : Hid (PT.take (j + 1) = PT.take j ++ [pp]) := htk
        rw [htt] at a1 hsz
        rw [hta] at a2
        rw [htn] at a3
        rw [htl] at a4
        obtain ⟨wz, hwz⟩ : ∃ x, wr.alloc (.cells #[.string tt, .int .i64 ta, .int .i64 tn, .bool tl] 51) = x := ⟨_, rfl⟩
        have hz : wz.heap[wr.heap.size]? = some (.cells #[.string tt, .int .i64 ta, .int .i64 tn, .bool tl] 51) := by rw [← hwz]; exact heap_alloc_new _ _
        have hbz : Below wr.heap.size wr wz := by rw [← hwz]; exact below_alloc wr _
        obtain ⟨D2, hD2⟩ : ∃ z, wr.heap.size = z := ⟨_, rfl⟩
        have HZ : Hid (wz.cell? ⟨D2, 0, none⟩ = some (.string tt) ∧ wz.cell? ⟨D2, 1, none⟩ = some (.int .i64 ta) ∧ wz.cell? ⟨D2, 2, none⟩ = some (.int .i64 tn) ∧ wz.cell? ⟨D2, 3, none⟩ = some (.bool tl)) := by
          rw [← hD2]
          exact ⟨by simp [World.cell?, hz], by simp [World.cell?, hz], by simp [World.cell?, hz], by simp [World.cell?, hz]⟩
        have HOz : Hid (∃ dn : List W4, dn.length = k2 ∧ wz.ownsRow w5.heap.size 51 4 u13 k2 (wC dn) ∧ dn = wordsP (cL X) n U L5 M5 (PT.take j)) := by
          obtain ⟨dn, d1, d2, d3⟩ := HOw.out
          exact ⟨dn, d1, own_stay d2 hbz, d3⟩
        have HUz : Hid (Up w5.heap.size w5 wz) := HU.out.stay hbz
        have z0 := HZ.out.1
        have cR := Tns.runes_any tt wz (by omega) (Tns.tabs_stay HT2.out (HB5.out.trans (HUz.out.1.mono HB5.out.size)))
        clear htt hta htn htl hcs hen hpm hpp hpi hd hA hbl hz hbz htk hEn HOw HU
        go_wp2_with fail
        (try rw [hwz])
        clear hwz
        refine cR.mono ?_
        rintro ev w6 ⟨k', v6, rfl, he', hr6, hb6⟩
        obtain rfl := he'.one HEN.out
        obtain ⟨A7, C7, rfl⟩ := own_frm hr6
        have HU6 : Hid (Up w5.heap.size w5 w6) := HUz.out.stay hb6
        have HO6 : Hid (∃ dn : List W4, dn.length = k2 ∧ w6.ownsRow w5.heap.size 51 4 u13 k2 (wC dn) ∧ dn = wordsP (cL X) n U L5 M5 (PT.take j)) := by
          obtain ⟨dn, d1, d2, d3⟩ := HOz.out
          exact ⟨dn, d1, own_stay d2 hb6, d3⟩
        have x0 := cell_stay HZ.out.1 hb6
        have x1 := cell_stay HZ.out.2.1 hb6
        have x2 := cell_stay HZ.out.2.2.1 hb6
        have x3 := cell_stay HZ.out.2.2.2 hb6
        clear cR hr6 hb6 he' z0 HOz HUz HZ HEN
        by_cases c1 : (k' : Int) < L5
        · have HO7 : Hid (∃ dn : List W4, dn.length = k2 ∧ w6.ownsRow w5.heap.size 51 4 u13 k2 (wC dn) ∧ dn = wordsP (cL X) n U L5 M5 (PT.take (j + 1))) := by
            obtain ⟨dn, d1, d2, d3⟩ := HO6.out
            rw [HTK.out, wordsP_snoc_no (by rw [HKP.out, show decide (L5 ≤ (k' : Int)) = false by simp; omega]; rfl)]
            exact ⟨dn, d1, d2, d3⟩
          clear HO6 x0 x1 x2 x3
          go_wp2
          go_roundg (m - (j + 1))
          case measure => omega
          case rel => exact ⟨j + 1, k2, by omega, rfl, by go_num, by omega, HO7, HU6⟩
        · by_cases c2 : M5 < (k' : Int)
          · have HO7 : Hid (∃ dn : List W4, dn.length = k2 ∧ w6.ownsRow w5.heap.size 51 4 u13 k2 (wC dn) ∧ dn = wordsP (cL X) n U L5 M5 (PT.take (j + 1))) := by
              obtain ⟨dn, d1, d2, d3⟩ := HO6.out
              rw [HTK.out, wordsP_snoc_no (by rw [HKP.out, show decide ((k' : Int) ≤ M5) = false by simp; omega]; simp)]
              exact ⟨dn, d1, d2, d3⟩
            clear HO6 x0 x1 x2 x3
            go_wp2
            go_roundg (m - (j + 1))
            case measure => omega
            case rel => exact ⟨j + 1, k2, by omega, rfl, by go_num, by omega, HO7, HU6⟩
          · obtain ⟨dn, hdl, hdo, hdr⟩ := HO6.out
            have HDR : Hid (dn = wordsP (cL X) n U L5 M5 (PT.take j)) := hdr
            clear hdr
            have hkk : kpB L5 M5 pp = true := by rw [HKP.out, show decide (L5 ≤ (k' : Int)) = true by simp; omega, show decide ((k' : Int) ≤ M5) = true by simp; omega]; rfl
            have HKK : Hid (kpB L5 M5 pp = true) := hkk
            clear hkk
            go_wp2_with (at_builtin; refine wpList_append_own _ rfl _ _ 47 rfl w5.heap.size 51 i0 _ 4 40 Tryd.underlying47 hin0 hz0 hz1 hz2 rfl (by decide) _ _ _ rfl (World.ownsRow.alloc hdo _) ⟨w6.heap.size, 0, none⟩ 1 1 [.string tt, .int .i64 ta, .int .i64 tn, .bool tl] rfl rfl ?c1 ?c2 ?c3 ?c4 ?c5 ?_)
            case c1 =>
              intro j u hj
              match j, hj with
              | 0, hj => simp at hj; subst hj; simp [Addr.add]
              | 1, hj => simp at hj; subst hj; simp [Addr.add]
              | 2, hj => simp at hj; subst hj; simp [Addr.add]
              | 3, hj => simp at hj; subst hj; simp [Addr.add]
              | (j + 4), hj => simp at hj
            case c2 => intro u hu; simp at hu; rcases hu with rfl | rfl | rfl | rfl <;> rfl
            case c3 => unfold maxLen; omega
            case c4 => omega
            case c5 => have := HU6.out.2; simp only [World.size_alloc]; omega
            intro v' w7 hown2 hgr hnil
            have HO7 : Hid (∃ dn : List W4, dn.length = k2 + 1 ∧ w7.ownsRow w5.heap.size 51 4 v' (k2 + 1) (wC dn) ∧ dn = wordsP (cL X) n U L5 M5 (PT.take (j + 1))) := by
              refine ⟨dn ++ [wOf (cL X) n U pp], by rw [List.length_append, hdl]; rfl, ?_, ?_⟩
              · rw [wC_app, show wC [wOf (cL X) n U pp] = (wOf (cL X) n U pp).cs from List.append_nil _, HCS.out]; exact hown2
              · rw [HTK.out, wordsP_snoc_yes HKK.out, HDR.out]
            have HU7 : Hid (Up w5.heap.size w5 w7) := (HU6.out.alloc _).grown hgr (own_base hdo)
            clear hown2 hgr hnil HO6 hdo hdl x0 x1 x2 x3
            go_wp2
            go_roundg (m - (j + 1))
            case measure => omega
            case rel => exact ⟨j + 1, k2 + 1, by omega, rfl, by go_num, by omega, HO7, HU7⟩
      · have y1 : ¬ (j : Int) < (m : Int) := by omega
        obtain ⟨dn, d1, d2, d3⟩ := HOw.out
        rw [List.take_of_length_le (by rw [HM.out]; omega)] at d3
        have hdw : dn = wordsL (cL X) n U L5 M5 := by
          rw [d3]
          unfold wordsL
          rw [HPT.out]
        have hWS : WS wr u13 (wordsL (cL X) n U L5 M5) := by
          have h1 : WR wr w5.heap.size u13 dn := by unfold WR; rw [d1]; exact d2
          rw [hdw] at h1
          exact h1.any
        have HWS : Hid (WS wr u13 (wordsL (cL X) n U L5 M5)) := hWS
        have hul := HUL.out
        have HBr : Hid (Below w.heap.size w wr) := HB5.out.trans (HU.out.1.mono HB5.out.size)
        have cw := HO.out wr ad n cap (cL X) v4 U L5 M5 HX.out.2.1 (HU5.out.2.stay HU.out.1) hcap (by omega) hcbig (HU5.out.1.stay HU.out.1) HUF.out (by omega) HUB.out (by omega) (by omega)
        clear d1 d2 d3 hdw hWS HOw HU hul
        go_wp2_with fail
        refine cw.mono ?_
        rintro ev w8 ⟨v8, rfl, hW8, hb8⟩
        have HB8 : Hid (Below w.heap.size w w8) := HBr.out.trans (hb8.mono HBr.out.size)
        have cs := rsamew_any hW8 (HWS.out.stay hb8) (Nat.le_trans (wordsL_len _ _ _ _ _) (by have := HUL.out; omega))
        clear cw hW8 hb8
        go_wp2_with fail
        refine cs.mono ?_
        rintro ev w9 ⟨rfl, hb9⟩
        have HB9 : Hid (Below w.heap.size w w9) := HB8.out.trans (hb9.mono HB8.out.size)
        clear cs hb9
        go_wp2
        go_ret
        exact ⟨rfl, HB9.out⟩
end Go.Proofs.YtbhjkkbempnjeaaDoor
