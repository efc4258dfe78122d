/- PragmaWords: the law. -/
import Derived.Test.YteeeekpeokgaeaaDoorPkYWlA2
namespace Go.Proofs.YteeeekpeokgaeaaDoor
set_option linter.unusedVariables false
open Go.RowKit Go.ChangeShapes Tns
set_option maxRecDepth 100000 in
set_option maxHeartbeats 16000000 in
theorem words_law {RL : RLt} (PO : PragOk RL) {w : World} (hT : PT w) {v : Value} {Z : List (List Nat)} (hZ : BRR w v Z) (hZm : Z.length ≤ maxLen) {q : Nat} (hq : q < 256) :
    Calls Tryd.prog 5 #[v, .int .u8 (q : Nat)] w fun ev w' => ev = .returned (.bool true) ∧ Below w.heap.size w w' := by
  have ca := awake_any PO w hT
  have HH : Hid (PT w ∧ PragOk RL) := ⟨hT, PO⟩
  have HZ : Hid (BRR w v Z) := hZ
  obtain ⟨A, C, rfl, -⟩ := hZ
  obtain ⟨m, hm⟩ : ∃ m, Z.length = m := ⟨_, rfl⟩
  have HM : Hid (Z.length = m) := hm
  rw [hm] at hZm HZ ⊢
  have hm2 : m ≤ 9223372036854775807 := by
    have : maxLen ≤ 9223372036854775807 := by unfold maxLen; omega
    omega
  obtain ⟨i0, hin0, hz0, hz1, hz2⟩ := info_parts info9S
  clear hT PO hm hZm
  go_enter Tryd.func5, Tryd.ntmps5
  go_wp2_with fail
  refine ca.mono ?_
  rintro ev w1 ⟨rfl, hb1⟩
  have HB1 : Hid (Below w.heap.size w w1) := hb1
  clear ca hb1
  go_upto_block 0 with fail
  go_cut [5, 6, 7, 8, 9, 10, 11, 12] (fun tv wv sv a1 a2 a3 a4 a5 wx => ∃ k st : Nat, k ≤ 13 ∧ st ≤ 9223372036854775807 ∧ (∀ i, i < k → (i < st ↔ i < q)) ∧ tv = .string (tW Z q k) ∧ sv = .int .i64 (st : Int) ∧ Hid (wx.ownsRow w1.heap.size 9 1 wv k ((wds Z k).map Value.string)) ∧ Hid (Up w1.heap.size w1 wx))
  case first =>
    go_wp2_with fail
    go_loopg [5, 6, 7, 26] m (fun gg tv wv sv iv wr => ∃ i st : Nat, i ≤ m ∧ i ≤ 13 ∧ gg = m - i ∧ iv = .int .i64 (i : Int) ∧ tv = .string (tW Z q i) ∧ sv = .int .i64 (st : Int) ∧ Hid (st ≤ 9223372036854775807 ∧ (i ≤ q → st = m) ∧ (q < i → st = q)) ∧ Hid (wr.ownsRow w1.heap.size 9 1 wv i ((wds Z i).map Value.string)) ∧ Hid (Up w1.heap.size w1 wr))
    case atStart => exact ⟨0, m, Nat.zero_le _, Nat.zero_le _, rfl, rfl, rfl, rfl, ⟨hm2, fun _ => rfl, fun h => absurd h (Nat.not_lt_zero _)⟩, World.ownsRow_nil _ _ _ _, Up.refl _⟩
    case round =>
      obtain ⟨i, st, hi, hi13, hgg, rfl, rfl, rfl, HST, HW, HU⟩ := hrel
      by_cases him : i < m
      · have y0 : (0 : Int) ≤ (i : Int) := by omega
        have y1 : (i : Int) < (m : Int) := by omega
        obtain ⟨zs, hzs⟩ : ∃ zs, Z[i]? = some zs := ⟨_, List.getElem?_eq_getElem (by rw [HM.out]; exact him)⟩
        have hgd : Z.getD i [] = zs := by rw [List.getD_eq_getElem?_getD, hzs]; rfl
        obtain ⟨A2, C2, eA, hA⟩ := (HZ.out.stay HB1.out).stay (HU.out.1)
        injection eA with eA eN eC
        subst eA eC
        clear eN
        obtain ⟨hzl, b, off, u, rfl, c1, hBR⟩ := hA i zs hzs
        have HBR : Hid (BR wr u zs) := hBR
        obtain ⟨A3, C3, rfl, -⟩ := hBR
        obtain ⟨n, hn⟩ : ∃ n, zs.length = n := ⟨_, rfl⟩
        have HN : Hid (zs.length = n) := hn
        have hn2 : n ≤ 9223372036854775807 := by
          have : maxLen ≤ 9223372036854775807 := by unfold maxLen; omega
          omega
        rw [hn] at c1 HBR
        have hTz := tW_size Z q i
        obtain ⟨T, hTe⟩ : ∃ z, tW Z q i = z := ⟨_, rfl⟩
        have HTN : Hid (tW Z q (i + 1) = (if i = q then T ++ sBad else T) ++ (sp i ++ Wt zs)) := by
          show (if i = q then tW Z q i ++ sBad else tW Z q i) ++ (sp i ++ Wt (Z.getD i [])) = _
          rw [hTe, hgd]
        have HTE : Hid (tW Z q i = T) := hTe
        have HWN : Hid (wds Z (i + 1) = wds Z i ++ [Wt zs]) := by
          show _ = _
          rw [wds_succ, hgd]
        rw [hTe] at hTz ⊢
        clear hA hzs hn hzl hTe hgd
        go_wp2
        go_loopg [10, 33] n (fun g2 sv jv wr2 => ∃ j : Nat, j ≤ n ∧ g2 = n - j ∧ jv = .int .i64 (j : Int) ∧ sv = .string (Wt (zs.take j)) ∧ Hid (Up wr.heap.size wr wr2))
        case atStart => exact ⟨0, Nat.zero_le _, rfl, rfl, rfl, Up.refl _⟩
        case round =>
          obtain ⟨j, hj, hg2, rfl, rfl, HUr⟩ := hrel
          by_cases hjn : j < n
          · have r0 : (0 : Int) ≤ (j : Int) := by omega
            have r1 : (j : Int) < (n : Int) := by omega
            obtain ⟨x, hx⟩ : ∃ x, zs[j]? = some x := ⟨_, List.getElem?_eq_getElem (by rw [HN.out]; exact hjn)⟩
            obtain ⟨A4, C4, eA, hA4⟩ := HBR.out.stay HUr.out.1
            injection eA with eA eN eC
            subst eA eC
            clear eN
            obtain ⟨hx255, b4, o4, rfl, d1⟩ := hA4 j x hx
            by_cases hj5 : j < 5
            · have r2 : (j : Int) < 5 := by omega
              obtain ⟨y, hy⟩ : ∃ y, x % 5 = y := ⟨_, rfl⟩
              have hy26 : y < 5 := by omega
              have m1 : (x : Int).tmod 5 = (y : Int) := by rw [Int.tmod_eq_emod_of_nonneg (by omega)]; omega
              have m1' : (x : Int) % 5 = (y : Int) := by omega
              have m2 : IntKind.u8.wrap (y : Int) = (y : Int) := by simp [IntKind.wrap, IntKind.bits, IntKind.signed]; omega
              obtain ⟨Y, hY⟩ : ∃ Y : Int, 97 + (y : Int) = Y := ⟨_, rfl⟩
              have m3 : IntKind.u8.wrap Y = Y := by simp [IntKind.wrap, IntKind.bits, IntKind.signed]; omega
              have hcv : (convert 22 9 (.slice (some ⟨wr.heap.size, 0, none⟩) 1 1)).run Tryd.prog (wr.alloc (.cells #[.int .u8 Y] 5)) = .ok (.string (strOfNums [Y])) (wr.alloc (.cells #[.int .u8 Y] 5)) := by
                have := str_bc (cap := 1) (one_bc wr Y)
                rw [cl_one] at this
                exact this
              obtain ⟨S, hS⟩ : ∃ S, Wt (zs.take j) = S := ⟨_, rfl⟩
              obtain ⟨S1, hS1⟩ : ∃ S, strOfNums [Y] = S := ⟨_, rfl⟩
              have HSS : Hid (Wt (zs.take (j + 1)) = S ++ S1) := by
                show strOfNums (wq (zs.take (j + 1))) = _
                rw [wq_more hx hj5, nums_app, ← hS, ← hS1, hy, ← hY]
                rfl
              have hsz : ¬ 9223372036854775807 < S.size + S1.size := by
                rw [← hS, ← hS1, strOfNums_size]
                have := wt_size (zs.take j)
                have : ([Y] : List Int).length = 1 := rfl
                omega
              rw [hS1] at hcv
              rw [hS]
              clear hS hS1 hA4
              go_wp2
              go_roundg (n - (j + 1))
              case measure => omega
              case rel => exact ⟨j + 1, by omega, rfl, by go_num, by rw [HSS.out], HUr.out.alloc _⟩
            · have r2 : ¬ (j : Int) < 5 := by omega
              have HSS : Hid (Wt (zs.take (j + 1)) = Wt (zs.take j)) := by show strOfNums _ = strOfNums _; rw [wq_same (by omega)]
              clear hA4
              go_wp2
              go_roundg (n - (j + 1))
              case measure => omega
              case rel => exact ⟨j + 1, by omega, rfl, by go_num, by rw [HSS.out], HUr⟩
          · have r1 : ¬ (j : Int) < (n : Int) := by omega
            have htk : zs.take j = zs := List.take_of_length_le (by rw [HN.out]; omega)
            rw [htk]
            have HW2 : Hid (wr.ownsRow w1.heap.size 9 1 u6 i ((wds Z i).map Value.string)) := own_stay HW.out HUr.out.1
            have HU2 : Hid (Up w1.heap.size w1 wr) := HU.out.stay HUr.out.1
            obtain ⟨S, hS⟩ : ∃ S, Wt zs = S := ⟨_, rfl⟩
            have hSs : S.size ≤ 6 := by rw [← hS]; exact (wt_size zs).2
            rw [hS] at HTN HWN ⊢
            clear hS htk HW HU HUr
            by_cases hi12 : 12 < i
            · have t0 : (12 : Int) < (i : Int) := by omega
              rw [← HTE.out]
              have HWm := HW2
              go_wp2
              go_meet
              case rel => exact ⟨i, st, hi13, HST.out.1, fun j hj => by
                have h1 := HST.out.2
                rcases Nat.lt_or_ge q i with h2 | h2
                · rw [h1.2 h2]
                · rw [h1.1 h2]
                  omega, rfl, rfl, HW2, HU2⟩
            · have t0 : ¬ (12 : Int) < (i : Int) := by omega
              obtain ⟨E, hE⟩ : ∃ E, ((i : Int) == (q : Int)) = E := ⟨_, rfl⟩
              have HE : Hid (((i : Int) == (q : Int)) = E) := hE
              go_upto_if 53 with fail
              go_cut [5, 7] (fun tv sv wx => tv = .string (bif E then T ++ sBad else T) ∧ sv = .int .i64 (((bif E then i else st) : Nat) : Int) ∧ wr = wx)
              case first =>
                cases E
                · go_wp2
                  go_meet
                  case rel => exact ⟨rfl, rfl, rfl⟩
                · have hsz : ¬ 9223372036854775807 < T.size + 3 := by omega
                  go_wp2
                  go_meet
                  case rel => exact ⟨rfl, rfl, rfl⟩
              case rest =>
                obtain ⟨rfl, rfl, hwc⟩ := hcut
                subst hwc
                have hT2s : (bif E then T ++ sBad else T).size ≤ 200 := by
                  cases E
                  · show T.size ≤ 200
                    omega
                  · show (T ++ sBad).size ≤ 200
                    rw [Lns.join_size]
                    show T.size + 3 ≤ 200
                    omega
                have hTN : tW Z q (i + 1) = (bif E then T ++ sBad else T) ++ (sp i ++ S) := by
                  rw [HTN.out]
                  congr 1
                  have h1 := HE.out
                  cases E
                  · rw [if_neg (fun e => by rw [e] at h1; simp at h1)]
                    rfl
                  · rw [if_pos (by have := eq_of_beq h1; omega)]
                    rfl
                have hs3 : (bif E then i else st) ≤ 9223372036854775807 ∧ (i + 1 ≤ q → (bif E then i else st) = m) ∧ (q < i + 1 → (bif E then i else st) = q) := by
                  have h1 := HE.out
                  have h2 := HST.out
                  cases E
                  · have h3 : i ≠ q := fun e => by rw [e] at h1; simp at h1
                    refine ⟨h2.1, fun h => h2.2.1 (by omega), fun h => h2.2.2 (by omega)⟩
                  · have h3 := eq_of_beq h1
                    show i ≤ _ ∧ (_ → i = m) ∧ (_ → i = q)
                    omega
                obtain ⟨T2, hT2⟩ : ∃ z, (bif E then T ++ sBad else T) = z := ⟨_, rfl⟩
                obtain ⟨s2, hs2⟩ : ∃ z, (bif E then i else st) = z := ⟨_, rfl⟩
                rw [hT2] at hT2s hTN ⊢
                rw [hs2] at hs3 ⊢
                obtain ⟨r, hr⟩ : ∃ r, i % 4 = r := ⟨_, rfl⟩
                have hcell := sep_cell wr i r hr
                have hPs := sp_size i
                obtain ⟨P, hP⟩ : ∃ P, sp i = P := ⟨_, rfl⟩
                rw [hP] at hcell hPs hTN
                have m1 : (i : Int).tmod 4 = (r : Int) := by rw [Int.tmod_eq_emod_of_nonneg (by omega)]; omega
                have m1' : (i : Int) % 4 = (r : Int) := by omega
                have m2 : (0 : Int) ≤ (r : Int) := by omega
                have m3 : (r : Int) < 4 := by omega
                have m4 : r < 4 := by omega
                have hsz1 : ¬ 9223372036854775807 < P.size + S.size := by omega
                have hsz2 : ¬ 9223372036854775807 < T2.size + (P ++ S).size := by rw [Lns.join_size]; omega
                have hsz3 : ¬ 9223372036854775807 < T2.size + (P.size + S.size) := by omega
                have HTN2 : Hid (tW Z q (i + 1) = T2 ++ (P ++ S)) := hTN
                have HS3 : Hid (s2 ≤ 9223372036854775807 ∧ (i + 1 ≤ q → s2 = m) ∧ (q < i + 1 → s2 = q)) := hs3
                obtain ⟨W4, hW4⟩ : ∃ W, wr.alloc (.cells #[.string ⟨#[32]⟩, .string ⟨#[44]⟩, .string ⟨#[44, 32]⟩, .string ⟨#[9]⟩] 9) = W := ⟨_, rfl⟩
                have HU4 : Hid (Up w1.heap.size w1 W4) := by rw [← hW4]; exact HU2.out.alloc _
                have hown0 : W4.ownsRow w1.heap.size 9 1 u6 i ((wds Z i).map Value.string) := by rw [← hW4]; exact World.ownsRow.alloc HW2.out _
                rw [hW4] at hcell
                obtain ⟨B4, hB4⟩ : ∃ B, wr.heap.size = B := ⟨_, rfl⟩
                rw [hB4] at hcell
                clear hT2 hs2 hr hP hTN hs3 HTN HTE hT2s hTz hSs hPs HU2 HW2 HST hE HE
                go_wp2_with (at_builtin; refine wpList_append_own _ rfl _ _ 25 rfl w1.heap.size 9 i0 _ 1 16 Tryd.underlying25 hin0 hz0 hz1 hz2 rfl (by decide) _ _ _ rfl (World.ownsRow.alloc hown0 _) ⟨W4.heap.size, 0, none⟩ 1 1 [.string S] rfl rfl ?c1 ?c2 ?c3 ?c4 ?c5 ?_)
                case c2 => rfl
                case c3 => unfold maxLen; omega
                case c4 => omega
                case c5 => have := HU4.out.2; omega
                intro v' w3 hown2 hgr hnil
                have HU3 : Hid (Up w1.heap.size w1 w3) := (HU4.out.alloc _).grown hgr (own_base hown0)
                have HO3 : Hid (w3.ownsRow w1.heap.size 9 1 v' (i + 1) ((wds Z (i + 1)).map Value.string)) := by
                  show w3.ownsRow _ _ _ _ _ _
                  rw [HWN.out, List.map_append]
                  exact hown2
                clear hown0 hown2 hgr hnil HU4 hW4 hcell
                go_wp2
                go_roundg (m - (i + 1))
                case measure => omega
                case rel => exact ⟨i + 1, s2, by omega, by omega, rfl, by go_num, by rw [HTN2.out], rfl, HS3, HO3, HU3⟩
      · have y1 : ¬ (i : Int) < (m : Int) := by omega
        go_wp2
        go_meet
        case rel => exact ⟨i, st, hi13, HST.out.1, fun j hj => by
          have h1 := HST.out.2
          rcases Nat.lt_or_ge q i with h2 | h2
          · rw [h1.2 h2]
          · rw [h1.1 h2]
            omega, rfl, rfl, HW, HU⟩
  case rest =>
    obtain ⟨k, st, hk13, hst, hkn, rfl, rfl, HW, HU⟩ := hcut
    have HKN : Hid (∀ i, i < k → (i < st ↔ i < q)) := hkn
    have hTz := tW_size Z q k
    have hrd := tW_rd Z q k
    obtain ⟨T, hTe⟩ : ∃ z, tW Z q k = z := ⟨_, rfl⟩
    rw [hTe] at hTz hrd ⊢
    obtain ⟨FB, hFB⟩ : ∃ z, T ++ (⟨#[10, 115, 112, 101, 108, 108, 58, 108, 105, 110, 101]⟩ : ByteArray) = z := ⟨_, rfl⟩
    rw [show T ++ lnEnd = FB from hFB] at hrd
    have hFs : FB.size = T.size + 11 := by rw [← hFB, Lns.join_size]; rfl
    obtain ⟨FL, hFL⟩ : ∃ z, (List.range FB.size).map (fun i => (bt FB i : Int)) = z := ⟨_, rfl⟩
    have hFn : strOfNums FL = FB := by rw [← hFL]; exact Lns.nums_of FB
    have hFy : Byt FL := by
      rw [← hFL]
      intro x hx
      obtain ⟨i, _, rfl⟩ := List.mem_map.1 hx
      have := bt_lt FB i
      omega
    have hFl : FL.length = FB.size := by rw [← hFn, strOfNums_size]
    have hcv := Lib.run_convert_string_bytes (P := Tryd.prog) wc 9 22 5 FB (u := .string) Tryd.underlying9 Tryd.underlying22 Tryd.underlying5
    have hbc : BC (Lib.bytesWorld wc 5 FB) (some ⟨wc.heap.size, 0, none⟩) FL.length (cL FL) := by
      have h := conv_cl (w := wc) hFy
      rw [hFn] at h
      exact h
    have hbl : Below wc.heap.size wc (Lib.bytesWorld wc 5 FB) := conv_below wc FB
    obtain ⟨X1, hX1⟩ : ∃ x, Lib.bytesWorld wc 5 FB = x := ⟨_, rfl⟩
    obtain ⟨cp, hcp⟩ : ∃ c, grownCap wc FB.size 0 5 = c := ⟨_, rfl⟩
    have hcpl : FB.size ≤ cp := by rw [← hcp]; exact grownCap_ge _ _ _ _
    rw [hX1, hcp] at hcv
    rw [hX1] at hbc hbl
    have HU1 : Hid (Up w1.heap.size w1 X1) := HU.out.stay hbl
    have HW1 : Hid (X1.ownsRow w1.heap.size 9 1 u6 k ((wds Z k).map Value.string)) := own_stay HW.out hbl
    have hbs := bsl_of_bc (cap := cp) (cL_ch hFy).1 hbc (by omega)
    rw [cl_cL, hFn, hFl] at hbs
    have HB2 : Hid (Below w.heap.size w X1) := HB1.out.trans (HU1.out.1.mono HB1.out.size)
    have cr := HH.out.2.2.1 FB _ X1 (by omega) (HH.out.1.stay HB2.out) hbs
    rw [hrd] at cr
    dsimp only at cr
    obtain ⟨Bk, hBk⟩ : ∃ z, wc.heap.size = z := ⟨_, rfl⟩
    rw [hBk] at hcv cr
    have hsz : ¬ 9223372036854775807 < T.size + 11 := by omega
    have HTs : Hid (T.size ≤ 154) := by show _ ≤ _; omega
    obtain ⟨fs, hfs⟩ : ∃ z, FB.size = z := ⟨_, rfl⟩
    rw [hfs] at hcv cr
    clear hTe hTz hrd hFs hFL hFn hFy hFl hbc hbl hcp hcpl hbs hBk hkn HU HW
    go_wp2_with fail
    refine cr.mono ?_
    rintro ev w2 ⟨r, rfl, hr, hb2⟩
    have HR2 : Hid (RL w2 X1.heap.size r [(T.size + 1, 10)] (wds Z (min q k))) := hr
    have HU2 : Hid (Up w1.heap.size w1 w2) := HU1.out.stay hb2
    have HB3 : Hid (Below w.heap.size w w2) := HB2.out.trans (hb2.mono HB2.out.size)
    have HW2 : Hid (w2.ownsRow w1.heap.size 9 1 u6 k ((wds Z k).map Value.string)) := own_stay HW1.out hb2
    obtain ⟨WA, WC, rfl⟩ := row_form HW2.out
    have hmm := @run_makeMap Tryd.prog
    clear cr hr hb2 hcv hFB hfs hX1 HU1 HW1 HB2
    obtain ⟨WM, hWM⟩ : ∃ W, w2.alloc (.map #[] 0) = W := ⟨_, rfl⟩
    obtain ⟨D, hD⟩ : ∃ D, w2.heap.size = D := ⟨_, rfl⟩
    have HM0 : Hid (BgT WM D 0 (wds Z (min 0 q))) := by
      show BgT _ _ _ _
      rw [Nat.zero_min, ← hWM, ← hD]
      exact BgT.made w2
    have HUM : Hid (Up w2.heap.size w2 WM) := by rw [← hWM]; exact (Up.refl w2).alloc _
    have HD : Hid (w2.heap.size = D) := hD
    go_upto_region 26 with fail
    (try rw [hWM])
    (try rw [hD])
    clear hWM hD hmm
    go_loopg [78] k (fun g iv wr => ∃ i, i ≤ k ∧ g = k - i ∧ iv = .int .i64 (i : Int) ∧ Hid (BgT wr D i (wds Z (min i q))) ∧ Hid (Up w2.heap.size w2 wr))
    case atStart => exact ⟨0, Nat.zero_le _, rfl, rfl, HM0, HUM⟩
    case round =>
      clear HM0 HUM
      obtain ⟨i, hi, hg, rfl, HM, HU⟩ := hrel
      by_cases hik : i < k
      · have y0 : (0 : Int) ≤ (i : Int) := by omega
        have y1 : (i : Int) < (k : Int) := by omega
        obtain ⟨g, c, eS, hcell⟩ := wds_cell (own_stay HW2.out HU.out.1) hik
        injection eS with eA eB eC
        subst eA eC
        clear eB
        have hWs := wt_size (Z.getD i [])
        obtain ⟨S, hS⟩ : ∃ S, Wt (Z.getD i []) = S := ⟨_, rfl⟩
        rw [hS] at hcell hWs
        by_cases hiq : i < q
        · have y2 : (i : Int) < (st : Int) := by have := (HKN.out i hik).2 hiq; omega
          have hk9 := bgS S (by omega)
          have HWN : Hid (wds Z (min (i + 1) q) = wds Z (min i q) ++ [S]) := by
            show _ = _
            rw [Nat.min_eq_left (by omega), Nat.min_eq_left (by omega), wds_succ, hS]
          obtain ⟨D0, hown, hD1, hD2⟩ := HM.out
          have HD12 : Hid (wr.ownsMap Tryd.prog 9 (plainElem Tryd.prog 4) D i D0 ∧ (∀ s : ByteArray, s ∈ wds Z (min i q) → D0.atKey (.string s.data.toList) (.lit (.bool false)) = .lit (.bool true)) ∧ ∀ s : ByteArray, Maps.has D0 (.string s.data.toList) = true ↔ s ∈ wds Z (min i q)) := ⟨hown, hD1, hD2⟩
          clear hS hD1 hD2 HM hWs
          go_wp2_with (at_mapUpdate; refine wpList_mapUpdate_own _ rfl _ _ _ 43 rfl 9 4 bgK Tryd.underlying43 (plainElem (H := Unit) Tryd.prog 4) D i _ rfl hown (by unfold maxLen; omega) _ _ _ rfl rfl hk9 _ [] (bgtB true) ?_; intro w3 hown3 hgr3)
          have HM3 : Hid (BgT w3 D (i + 1) (wds Z (min (i + 1) q))) := by
            show BgT _ _ _ _
            rw [HWN.out]
            exact BgT.put HD12.out.1 HD12.out.2.1 HD12.out.2.2 hown3
          have HU3 : Hid (Up w2.heap.size w2 w3) := HU.out.grown hgr3 (fun k hk => by cases hk; exact Nat.le_of_eq HD.out)
          clear hown hown3 hgr3 HD12 HU hcell hk9
          go_wp2
          go_roundg (k - (i + 1))
          case measure => omega
          case rel => exact ⟨i + 1, by omega, rfl, by go_num, HM3, HU3⟩
        · have y2 : ¬ (i : Int) < (st : Int) := by have := (HKN.out i hik).1; omega
          have hmn : min (i + 1) q = min i q := by omega
          have HM3 : Hid (BgT wr D (i + 1) (wds Z (min (i + 1) q))) := by
            show BgT _ _ _ _
            rw [hmn]
            obtain ⟨D0, ⟨es, clock, h1, h2, h3, h4⟩, h5⟩ := HM.out
            exact ⟨D0, ⟨es, clock, h1, h2, by omega, h4⟩, h5⟩
          clear hmn HM hS hWs
          go_wp2
          go_roundg (k - (i + 1))
          case measure => omega
          case rel => exact ⟨i + 1, by omega, rfl, by go_num, HM3, HU⟩
      · obtain rfl : i = k := by omega
        have y1 : ¬ (i : Int) < (i : Int) := by omega
        obtain ⟨wM, hwM⟩ : ∃ wM, wM = wr := ⟨_, rfl⟩
        rw [← hwM] at HM HU ⊢
        clear hwM wr
        have HRM : Hid (RL wM X1.heap.size r [(T.size + 1, 10)] (wds Z (min q i))) := HH.out.2.stay HR2.out HU.out.1
        have HWM : Hid (wM.ownsRow w1.heap.size 9 1 (.slice WA i WC) i ((wds Z i).map Value.string)) := own_stay HW2.out HU.out.1
        have HBM : Hid (Below w.heap.size w wM) := HB3.out.trans (HU.out.1.mono HB3.out.size)
        have HMM : Hid (BgT wM D i (wds Z (min q i))) := by
          show BgT _ _ _ _
          rw [Nat.min_comm]
          exact HM.out
        clear HM HU HKN HR2 HB3 HW2 HD
        have HIs : Hid (i ≤ 13) := hk13
        obtain ⟨ws, hws⟩ : ∃ z, wds Z (min q i) = z := ⟨_, rfl⟩
        have HOT : Hid (knB ws (fld ⟨#[111, 116, 104, 101, 114]⟩) = false) := by rw [← hws]; exact wds_other Z _
        rw [hws] at HRM HMM
        clear hws
        go_upto_region 32 with fail
        go_loopg [91] i (fun g iv wr => ∃ j, j ≤ i ∧ g = i - j ∧ iv = .int .i64 (j : Int) ∧ Hid (Up wM.heap.size wM wr))
        case atStart => exact ⟨0, Nat.zero_le _, rfl, rfl, Up.refl _⟩
        case round =>
          obtain ⟨j, hj, hg, rfl, HU⟩ := hrel
          by_cases hji : j < i
          · have y0 : (0 : Int) ≤ (j : Int) := by omega
            have y1 : (j : Int) < (i : Int) := by omega
            obtain ⟨g, c, eS, hcell⟩ := wds_cell (own_stay HWM.out HU.out.1) hji
            injection eS with eA eB eC
            subst eA eC
            clear eB
            obtain ⟨zs, hzs⟩ : ∃ zs, Z.getD j [] = zs := ⟨_, rfl⟩
            rw [hzs] at hcell
            have hWs := wt_size zs
            obtain ⟨hq0, hqf, hqb⟩ := conv_q wr zs
            have hcv := Lib.run_convert_string_bytes (P := Tryd.prog) wr 9 22 5 (Wt zs) (u := .string) Tryd.underlying9 Tryd.underlying22 Tryd.underlying5
            have hbl : Below wr.heap.size wr (Lib.bytesWorld wr 5 (Wt zs)) := conv_below wr (Wt zs)
            have hlq : (81 :: wqt zs).length = (Wt zs).size := by
              unfold Wt
              rw [strOfNums_size]
              rfl
            rw [hlq] at hqb
            have hfl := wt_fld zs
            have hflq := wt_fldQ zs
            have hclq : strOfNums (cl (cL (81 :: wqt zs)) (Wt zs).size) = strOfNums (81 :: wqt zs) := by rw [← hlq, cl_cL]
            obtain ⟨S, hS⟩ : ∃ S, Wt zs = S := ⟨_, rfl⟩
            obtain ⟨SQ, hSQ⟩ : ∃ S, strOfNums (81 :: wqt zs) = S := ⟨_, rfl⟩
            have hSQs : SQ.size = S.size := by rw [← hSQ, strOfNums_size, hlq, hS]
            rw [hS] at hcell hWs hq0 hqf hqb hcv hbl hfl hflq hclq
            rw [hSQ] at hflq hclq
            obtain ⟨X, hX⟩ : ∃ x, Lib.bytesWorld wr 5 S = x := ⟨_, rfl⟩
            obtain ⟨cp, hcp⟩ : ∃ c, grownCap wr S.size 0 5 = c := ⟨_, rfl⟩
            obtain ⟨B, hB⟩ : ∃ B, wr.heap.size = B := ⟨_, rfl⟩
            rw [hX, hcp, hB] at hcv
            rw [hX, hB] at hq0 hqf hqb
            rw [hX] at hbl
            have HX : Hid (Up wM.heap.size wM X) := HU.out.stay hbl
            have hBl : wM.heap.size ≤ B := by rw [← hB]; exact HU.out.2
            have HY : Hid (Up wM.heap.size wM (X.setCell ⟨B, 0, none⟩ (.int .u8 81))) := up_set HX.out hBl
            obtain ⟨Y, hY⟩ : ∃ Y, X.setCell ⟨B, 0, none⟩ (.int .u8 81) = Y := ⟨_, rfl⟩
            have hYv := hY
            rw [hY] at hqb HY
            have HQB : Hid (BC Y (some ⟨B, 0, none⟩) S.size (cL (81 :: wqt zs))) := hqb
            have HFL : Hid (fld S = S ∧ fld SQ = S ∧ S.size ≤ 6 ∧ SQ.size ≤ 6 ∧ strOfNums (cl (cL (81 :: wqt zs)) S.size) = SQ) := ⟨hfl, hflq, hWs.2, by omega, hclq⟩
            have e0 : (0 : Int) < (S.size : Int) := by omega
            have e1 : 0 < S.size := by omega
            obtain ⟨n1, hn1⟩ : ∃ n, S.size = n := ⟨_, rfl⟩
            rw [hn1] at hcv HQB e0 e1
            have HN1 : Hid (S.size = n1) := hn1
            obtain ⟨Kv, hKv⟩ : ∃ b, knB ws S = b := ⟨_, rfl⟩
            have HKv : Hid (knB ws S = Kv) := hKv
            have C1 : Hid (∀ w', Up Y.heap.size Y w' → Calls Tryd.prog 16 #[r, .string S] w' fun e w'' => e = .returned (.bool Kv) ∧ Below w'.heap.size w' w'') := fun w' hu => by
              have hu2 := HY.out.stay hu.1
              have h := HH.out.2.2.2.2.1 w' _ _ _ _ S (HH.out.2.stay HRM.out hu2.1) (by have := HFL.out.2.2; omega) (HH.out.1.stay (HBM.out.trans (hu2.1.mono HBM.out.size))).1
              rw [HFL.out.1, HKv.out] at h
              exact h
            have C2 : Hid (∀ w', Up Y.heap.size Y w' → Calls Tryd.prog 16 #[r, .string SQ] w' fun e w'' => e = .returned (.bool Kv) ∧ Below w'.heap.size w' w'') := fun w' hu => by
              have hu2 := HY.out.stay hu.1
              have h := HH.out.2.2.2.2.1 w' _ _ _ _ SQ (HH.out.2.stay HRM.out hu2.1) (by have := HFL.out.2.2; omega) (HH.out.1.stay (HBM.out.trans (hu2.1.mono HBM.out.size))).1
              rw [HFL.out.2.1, HKv.out] at h
              exact h
            have HM : Hid (∀ w', Up Y.heap.size Y w' → (Instr.lookup 43 (.map (some D)) (.string S) false).run Tryd.prog w' = .ok (.bool Kv) w') := fun w' hu => by
              have h := (HMM.out.stay (HY.out.stay hu.1).1).look S (by have := HFL.out.2.2; omega)
              rw [HKv.out] at h
              exact h
            have HCV : Hid (∀ w', Up Y.heap.size Y w' → (convert 22 9 (.slice (some ⟨B, 0, none⟩) n1 cp)).run Tryd.prog w' = .ok (.string SQ) w') := fun w' hu => by
              have h := str_bc (cap := cp) (HQB.out.stay hu.1)
              have h2 := HFL.out.2.2.2.2
              rw [HN1.out] at h2
              rw [h2] at h
              exact h
            have xe : (Kv == Kv) = true := by simp
            clear hzs hWs hqb hbl hlq hfl hflq hclq hS hSQ hSQs hX hcp hB HX hBl hYv hn1 hKv HU
            go_upto_region 36 with fail
            (try rw [hY])
            clear hY hcv hq0 hqf hcell
            refine wp_region_held_drew (S := fun w' => Up Y.heap.size Y w') (by kernel_rfl) (Up.drew (Up.refl Y)) (fun hHeld => ?_)
            (try dsimp only at hHeld)
            obtain ⟨x0, hx0⟩ : ∃ x0, Y.drew = x0 := ⟨_, rfl⟩
            rw [hx0] at hHeld ⊢
            clear hx0
            refine takeH (i := 0) (v := ?_) (d := (some 99)) rfl (by kernel_rfl) (by kernel_rfl) (by kernel_rfl) rfl (fun _ _ _ h => h) (Or.inl ⟨by kernel_rfl, ?_⟩) (by assumption) ?_; rotate_left
            · (intro w hSw; (try dsimp only at hSw); first | (go_simp; done) | (go_simp; with_reducible rfl))
            (try simp only [Act.put, List.setIfInBounds_toArray, List.set_cons_zero, List.set_cons_succ])
            refine takeH (i := 1) (v := ?_) (d := (some 100)) rfl (by kernel_rfl) (by kernel_rfl) (by kernel_rfl) rfl (fun _ _ _ h => h) (Or.inl ⟨by kernel_rfl, ?_⟩) (by assumption) ?_; rotate_left
            · (intro w hSw; (try dsimp only at hSw); first | (go_simp; done) | (go_simp; with_reducible rfl))
            (try simp only [Act.put, List.setIfInBounds_toArray, List.set_cons_zero, List.set_cons_succ])
            refine takeH (i := 3) (v := ?_) (d := (some 102)) rfl (by kernel_rfl) (by kernel_rfl) (by kernel_rfl) rfl (fun _ _ _ h => h) (Or.inl ⟨by kernel_rfl, ?_⟩) (by assumption) ?_; rotate_left
            · (intro w hSw; (try dsimp only at hSw); first | (go_simp; done) | (go_simp; with_reducible rfl))
            (try simp only [Act.put, List.setIfInBounds_toArray, List.set_cons_zero, List.set_cons_succ])
            refine takeH (i := 4) (v := ?_) (d := (some 103)) rfl (by kernel_rfl) (by kernel_rfl) (by kernel_rfl) rfl (fun _ _ _ h => h) (Or.inl ⟨by kernel_rfl, ?_⟩) (by assumption) ?_; rotate_left
            · (intro w hSw; (try dsimp only at hSw); first | (go_simp; done) | (go_simp; with_reducible rfl))
            (try simp only [Act.put, List.setIfInBounds_toArray, List.set_cons_zero, List.set_cons_succ])
            refine takeH (i := 5) (v := ?_) (d := (some 104)) rfl (by kernel_rfl) (by kernel_rfl) (by kernel_rfl) rfl (fun _ _ _ h => h) (Or.inl ⟨by kernel_rfl, ?_⟩) (by assumption) ?_; rotate_left
            · (intro w hSw; (try dsimp only at hSw); have hq := HM.out _ hSw; first | (go_simp; done) | (go_simp; with_reducible rfl))
            (try simp only [Act.put, List.setIfInBounds_toArray, List.set_cons_zero, List.set_cons_succ])
            have HV0 : Hid (Up Y.heap.size Y x0) := hHeld
            refine wpAnyH_ready (rs := [2]) (by kernel_rfl) (by simp) (AllReadyH.cons rfl (fun K hK => ?_) AllReadyH.nil)
            (try rw [if_pos (by kernel_rfl)])
            go_simp
            refine (C1.out x0 HV0.out).mono ?_
            rintro ev x1 ⟨rfl, hb9⟩
            have HV1 : Hid (Up Y.heap.size Y x1) := HV0.out.stay hb9
            clear hb9 hHeld HV0 C1
            go_wp2_with fail
            refine hK.out _ _ HV1.out (fun hHeld => ?_)
            clear hK K
            (try dsimp only at hHeld)
            (try simp only [Act.put, List.setIfInBounds_toArray, List.set_cons_zero, List.set_cons_succ])
            refine takeH (i := 6) (v := ?_) (d := (some 105)) rfl (by kernel_rfl) (by kernel_rfl) (by kernel_rfl) rfl (fun _ _ _ h => h) (Or.inl ⟨by kernel_rfl, ?_⟩) (by assumption) ?_; rotate_left
            · (intro w hSw; (try dsimp only at hSw); first | (go_simp; done) | (go_simp; with_reducible rfl))
            (try simp only [Act.put, List.setIfInBounds_toArray, List.set_cons_zero, List.set_cons_succ])
            refine takeH (i := 7) (v := ?_) (d := (some 106)) rfl (by kernel_rfl) (by kernel_rfl) (by kernel_rfl) rfl (fun _ _ _ h => h) (Or.inl ⟨by kernel_rfl, ?_⟩) (by assumption) ?_; rotate_left
            · (intro w hSw; (try dsimp only at hSw); first | (go_simp; done) | (go_simp; with_reducible rfl))
            (try simp only [Act.put, List.setIfInBounds_toArray, List.set_cons_zero, List.set_cons_succ])
            refine takeH (i := 8) (v := ?_) (d := (some 107)) rfl (by kernel_rfl) (by kernel_rfl) (by kernel_rfl) rfl (fun _ _ _ h => h) (Or.inl ⟨by kernel_rfl, ?_⟩) (by assumption) ?_; rotate_left
            · (intro w hSw; (try dsimp only at hSw); first | (go_simp; done) | (go_simp; with_reducible rfl))
            (try simp only [Act.put, List.setIfInBounds_toArray, List.set_cons_zero, List.set_cons_succ])
            refine takeH (i := 9) (v := ?_) (d := (some 108)) rfl (by kernel_rfl) (by kernel_rfl) (by kernel_rfl) rfl (fun _ _ _ h => h) (Or.inl ⟨by kernel_rfl, ?_⟩) (by assumption) ?_; rotate_left
            · (intro w hSw; (try dsimp only at hSw); first | (go_simp; done) | (go_simp; with_reducible rfl))
            (try simp only [Act.put, List.setIfInBounds_toArray, List.set_cons_zero, List.set_cons_succ])
            refine takeH (i := 10) (v := ?_) (d := (some 109)) rfl (by kernel_rfl) (by kernel_rfl) (by kernel_rfl) rfl (fun _ _ _ h => h) (Or.inl ⟨by kernel_rfl, ?_⟩) (by assumption) ?_; rotate_left
            · (intro w hSw; (try dsimp only at hSw); have hq := HCV.out _ hSw; first | (go_simp; done) | (go_simp; with_reducible rfl))
            (try simp only [Act.put, List.setIfInBounds_toArray, List.set_cons_zero, List.set_cons_succ])
            refine takeH (i := 12) (v := ?_) (d := (some 111)) rfl (by kernel_rfl) (by kernel_rfl) (by kernel_rfl) rfl (fun _ _ _ h => h) (Or.inl ⟨by kernel_rfl, ?_⟩) (by assumption) ?_; rotate_left
            · (intro w hSw; (try dsimp only at hSw); first | (go_simp; done) | (go_simp; with_reducible rfl))
            (try simp only [Act.put, List.setIfInBounds_toArray, List.set_cons_zero, List.set_cons_succ])
            refine takeH (i := 13) (v := ?_) (d := (some 112)) rfl (by kernel_rfl) (by kernel_rfl) (by kernel_rfl) rfl (fun _ _ _ h => h) (Or.inl ⟨by kernel_rfl, ?_⟩) (by assumption) ?_; rotate_left
            · (intro w hSw; (try dsimp only at hSw); first | (go_simp; done) | (go_simp; with_reducible rfl))
            (try simp only [Act.put, List.setIfInBounds_toArray, List.set_cons_zero, List.set_cons_succ])
            refine takeH (i := 14) (v := ?_) (d := (some 113)) rfl (by kernel_rfl) (by kernel_rfl) (by kernel_rfl) rfl (fun _ _ _ h => h) (Or.inl ⟨by kernel_rfl, ?_⟩) (by assumption) ?_; rotate_left
            · (intro w hSw; (try dsimp only at hSw); have hq := HM.out _ hSw; first | (go_simp; done) | (go_simp; with_reducible rfl))
            (try simp only [Act.put, List.setIfInBounds_toArray, List.set_cons_zero, List.set_cons_succ])
            refine wpAnyH_ready (rs := [11]) (by kernel_rfl) (by simp) (AllReadyH.cons rfl (fun K hK => ?_) AllReadyH.nil)
            (try rw [if_pos (by kernel_rfl)])
            go_simp
            refine (C2.out x1 HV1.out).mono ?_
            rintro ev x2 ⟨rfl, hb9⟩
            have HV2 : Hid (Up Y.heap.size Y x2) := HV1.out.stay hb9
            clear hb9 hHeld HV1 C2
            go_wp2_with fail
            refine hK.out _ _ HV2.out (fun hHeld => ?_)
            clear hK K
            (try dsimp only at hHeld)
            (try simp only [Act.put, List.setIfInBounds_toArray, List.set_cons_zero, List.set_cons_succ])
            refine takeH (i := 15) (v := ?_) (d := (some 114)) rfl (by kernel_rfl) (by kernel_rfl) (by kernel_rfl) rfl (fun _ _ _ h => h) (Or.inl ⟨by kernel_rfl, ?_⟩) (by assumption) ?_; rotate_left
            · (intro w hSw; (try dsimp only at hSw); first | (go_simp; done) | (go_simp; with_reducible rfl))
            (try simp only [Act.put, List.setIfInBounds_toArray, List.set_cons_zero, List.set_cons_succ])
            refine takeH (i := 16) (v := ?_) (d := (some 115)) rfl (by kernel_rfl) (by kernel_rfl) (by kernel_rfl) rfl (fun _ _ _ h => h) (Or.inl ⟨by kernel_rfl, ?_⟩) (by assumption) ?_; rotate_left
            · (intro w hSw; (try dsimp only at hSw); first | (go_simp; done) | (go_simp; with_reducible rfl))
            (try simp only [Act.put, List.setIfInBounds_toArray, List.set_cons_zero, List.set_cons_succ])
            refine wpAnyH_done (by kernel_rfl) ?_ _
            clear hHeld
            have HU9 : Hid (Up wM.heap.size wM x2) := HY.out.stay HV2.out.1
            clear HV2 HY HM HCV HQB HFL HN1 HKv xe
            go_wp2
            go_roundg (i - (j + 1))
            case measure => omega
            case rel => exact ⟨j + 1, by omega, rfl, by go_num, HU9⟩
          · have y1 : ¬ (j : Int) < (i : Int) := by omega
            have HR9 : Hid (RL wr X1.heap.size r [(T.size + 1, 10)] ws) := HH.out.2.stay HRM.out HU.out.1
            have HB9 : Hid (Below w.heap.size w wr) := HBM.out.trans (HU.out.1.mono HBM.out.size)
            have c1 := HH.out.2.2.2.2.1 wr _ _ _ _ ⟨#[111, 116, 104, 101, 114]⟩ HR9.out (by decide) (HH.out.1.stay HB9.out).1
            rw [HOT.out] at c1
            clear HU HRM HBM HMM HWM
            go_wp2_with fail
            refine c1.mono ?_
            rintro ev w5 ⟨rfl, hb5⟩
            have HR5 : Hid (RL w5 X1.heap.size r [(T.size + 1, 10)] ws) := HH.out.2.stay HR9.out hb5
            have HB5 : Hid (Below w.heap.size w w5) := HB9.out.trans (hb5.mono HB9.out.size)
            have c2 := HH.out.2.2.2.1 w5 _ _ _ _ 0 HR5.out (by decide)
            rw [(off_first T.size).1] at c2
            clear c1 hb5 HR9 HB9
            go_wp2_with fail
            refine c2.mono ?_
            rintro ev w6 ⟨rfl, hb6⟩
            have HR6 : Hid (RL w6 X1.heap.size r [(T.size + 1, 10)] ws) := HH.out.2.stay HR5.out hb6
            have HB6 : Hid (Below w.heap.size w w6) := HB5.out.trans (hb6.mono HB5.out.size)
            have c3 := HH.out.2.2.2.1 w6 _ _ _ _ ((T.size + 1 : Nat) : Int) HR6.out (by have := HTs.out; omega)
            rw [(off_first T.size).2] at c3
            have z9 : IntKind.i64.wrap ((T.size : Int) + 1) = ((T.size + 1 : Nat) : Int) := by rw [IntWalk.i64_in _ (by have := HTs.out; omega)]; omega
            obtain ⟨N9, hN9⟩ : ∃ z : Int, ((T.size + 1 : Nat) : Int) = z := ⟨_, rfl⟩
            rw [hN9] at c3 z9
            clear c2 hb6 HR5 HB5 hN9
            go_wp2_with fail
            refine c3.mono ?_
            rintro ev w7 ⟨rfl, hb7⟩
            have HB7 : Hid (Below w.heap.size w w7) := HB6.out.trans (hb7.mono HB6.out.size)
            clear c3 hb7 HR6 HB6
            go_wp2
            go_ret
            exact ⟨rfl, HB7.out⟩
end Go.Proofs.YteeeekpeokgaeaaDoor
