/- The reference: Entity. -/
import Derived.Test.YtkfgfbdalkifjaaDoorvRn
namespace Go.Proofs.YtkfgfbdalkifjaaDoor
set_option linter.unusedVariables false
open Go.RowKit Go.ChangeShapes
set_option maxRecDepth 100000 in
set_option maxHeartbeats 8000000 in
theorem rent_any {w : World} {ad : Option Addr} {n cap : Nat} {c : Nat → Int} (hC : ∀ j, j < n → 0 ≤ c j ∧ c j < 256) (hb : BC w ad n c) (hcap : n ≤ cap) (hn : n ≤ 100000) (hbig : cap ≤ 9223372036854775807) :
    Calls Tryd.prog 12 #[.slice ad n cap] w fun e w' => e = .returned (ans (nv c n)) ∧ w' = w := by
  by_cases h0 : n = 0
  · rw [nv_first (Or.inl h0)]
    subst h0
    clear hC hb
    go_enter Tryd.func12, Tryd.ntmps12
    go_wp2
    refine bodyPost_ret (v := ans none) (by simp [results, Tryd.results12, go_sem, ans]) rfl ?_
    exact ⟨rfl, rfl⟩
  · obtain ⟨b, off, rfl, hc0⟩ := hb 0 (by omega)
    rw [Nat.add_zero] at hc0
    have g0 : ((n : Int) == 0) = false := beq_eq_false_iff_ne.2 (by omega)
    have g1 : (0 : Int) < (n : Int) := by omega
    by_cases h1 : c 0 = 38
    · have HH : Hid ((∀ j, j < n → 0 ≤ c j ∧ c j < 256) ∧ BC w (some ⟨b, off, none⟩) n c ∧ c 0 = 38) := ⟨hC, hb, h1⟩
      rw [h1] at hc0
      obtain ⟨V, hV⟩ : ∃ V, ans (nv c n) = V := ⟨_, rfl⟩
      have HV : Hid (ans (nv c n) = V) := hV
      rw [hV]
      clear hC hb h0 h1 hV
      go_enter Tryd.func12, Tryd.ntmps12
      go_wp2
      go_loopg [2, 3, 4, 5] n (fun q r2 r3 r4 iv wr => ∃ i : Nat, 1 ≤ i ∧ i ≤ n + 1 ∧ q = n + 1 - i ∧ r2 = .int .i32 0 ∧ r3 = .int .i64 0 ∧ r4 = .bool false ∧ iv = .int .i64 i ∧ Hid (∀ k, 1 ≤ k → k < i → c k ≠ 59) ∧ wr = w)
      case atStart => exact ⟨1, by omega, by omega, by omega, rfl, rfl, rfl, rfl, fun k k1 k2 => absurd k1 (by omega), rfl⟩
      case round =>
        obtain ⟨i, hi1, hi2, hq, rfl, rfl, rfl, rfl, HN, hwr⟩ := hrel
        subst wr
        by_cases hin : i < n
        · have z1 : (i : Int) < (n : Int) := by omega
          by_cases hi13 : i < 13
          · have z2 : (i : Int) < 13 := by omega
            have z3 : (0 : Int) ≤ (i : Int) := by omega
            obtain ⟨b', off', e, hci⟩ := HH.out.2.1 i hin
            injection e with e
            injection e with e1 e2 _
            subst e1 e2
            by_cases h59 : c i = 59
            · rw [h59] at hci
              obtain ⟨p, rfl⟩ : ∃ p, i = p + 1 := ⟨i - 1, by omega⟩
              have hnv := nv_hit (n := n) (i := p + 1) HH.out.2.2 hi1 (by omega) h59 HN.out
              rw [show p + 1 - 1 = p by omega] at hnv
              have hfr := (BC.from HH.out.2.1 1 (by omega) hcap).upto (m := p) (by omega)
              rw [if_neg (by omega)] at hfr
              have hcv := str_bc (cap := cap - 1) hfr
              obtain ⟨S, hS⟩ : ∃ S, strOfNums (cl (fun j => c (1 + j)) p) = S := ⟨_, rfl⟩
              rw [hS] at hcv
              obtain ⟨l, hl⟩ : ∃ l, cl (fun j => c (1 + j)) p = l := ⟨_, rfl⟩
              rw [hl] at hS hnv
              have hlen : l.length = p := by rw [← hl, cl_len]
              have hlb : Byt l := by rw [← hl]; exact cl_byt2 fun j hj => HH.out.1 (1 + j) (by omega)
              have hSz : S.size = p := by rw [← hS, strOfNums_size, hlen]
              rw [hnv] at HV
              have HL : Hid (cl (fun j => c (1 + j)) p = l ∧ strOfNums l = S ∧ Byt l ∧ S.size = p) := ⟨hl, hS, hlb, hSz⟩
              have m0 : (S.toList == [97, 109, 112]) = (l == [97, 109, 112]) := by rw [← hS]; exact nums_is hlb [97, 109, 112] (byt_lit _ rfl)
              have m1 : (S.toList == [97, 112, 111, 115]) = (l == [97, 112, 111, 115]) := by rw [← hS]; exact nums_is hlb [97, 112, 111, 115] (byt_lit _ rfl)
              have m2 : (S.toList == [103, 116]) = (l == [103, 116]) := by rw [← hS]; exact nums_is hlb [103, 116] (byt_lit _ rfl)
              have m3 : (S.toList == [108, 116]) = (l == [108, 116]) := by rw [← hS]; exact nums_is hlb [108, 116] (byt_lit _ rfl)
              have m4 : (S.toList == [110, 98, 115, 112]) = (l == [110, 98, 115, 112]) := by rw [← hS]; exact nums_is hlb [110, 98, 115, 112] (byt_lit _ rfl)
              have m5 : (S.toList == [113, 117, 111, 116]) = (l == [113, 117, 111, 116]) := by rw [← hS]; exact nums_is hlb [113, 117, 111, 116] (byt_lit _ rfl)
              clear hnv hfr hS hl hlen hlb HN hq hSz
              by_cases d0 : l = [97, 109, 112]
              · have f0 : (S.toList == [97, 109, 112]) = true := by rw [m0]; exact beq_iff_eq.2 d0
                have HVj : Hid (ans (some (38, p + 1 + 1)) = V) := by show _ = _; rw [← HV.out, d0]; rfl
                clear m0 m1 m2 m3 m4 m5 d0 HV
                go_wp2
                refine bodyPost_ret (v := ans (some (38, p + 1 + 1))) (by simp [results, Tryd.results12, go_sem, ans]) rfl ?_
                exact ⟨by rw [HVj.out], rfl⟩
              · have f0 : (S.toList == [97, 109, 112]) = false := by rw [m0]; exact beq_eq_false_iff_ne.2 d0
                clear m0
                by_cases d1 : l = [97, 112, 111, 115]
                · have f1 : (S.toList == [97, 112, 111, 115]) = true := by rw [m1]; exact beq_iff_eq.2 d1
                  have HVj : Hid (ans (some (39, p + 1 + 1)) = V) := by show _ = _; rw [← HV.out, d1]; rfl
                  clear m1 m2 m3 m4 m5 d1 HV
                  go_wp2
                  refine bodyPost_ret (v := ans (some (39, p + 1 + 1))) (by simp [results, Tryd.results12, go_sem, ans]) rfl ?_
                  exact ⟨by rw [HVj.out], rfl⟩
                · have f1 : (S.toList == [97, 112, 111, 115]) = false := by rw [m1]; exact beq_eq_false_iff_ne.2 d1
                  clear m1
                  by_cases d2 : l = [103, 116]
                  · have f2 : (S.toList == [103, 116]) = true := by rw [m2]; exact beq_iff_eq.2 d2
                    have HVj : Hid (ans (some (62, p + 1 + 1)) = V) := by show _ = _; rw [← HV.out, d2]; rfl
                    clear m2 m3 m4 m5 d2 HV
                    go_wp2
                    refine bodyPost_ret (v := ans (some (62, p + 1 + 1))) (by simp [results, Tryd.results12, go_sem, ans]) rfl ?_
                    exact ⟨by rw [HVj.out], rfl⟩
                  · have f2 : (S.toList == [103, 116]) = false := by rw [m2]; exact beq_eq_false_iff_ne.2 d2
                    clear m2
                    by_cases d3 : l = [108, 116]
                    · have f3 : (S.toList == [108, 116]) = true := by rw [m3]; exact beq_iff_eq.2 d3
                      have HVj : Hid (ans (some (60, p + 1 + 1)) = V) := by show _ = _; rw [← HV.out, d3]; rfl
                      clear m3 m4 m5 d3 HV
                      go_wp2
                      refine bodyPost_ret (v := ans (some (60, p + 1 + 1))) (by simp [results, Tryd.results12, go_sem, ans]) rfl ?_
                      exact ⟨by rw [HVj.out], rfl⟩
                    · have f3 : (S.toList == [108, 116]) = false := by rw [m3]; exact beq_eq_false_iff_ne.2 d3
                      clear m3
                      by_cases d4 : l = [110, 98, 115, 112]
                      · have f4 : (S.toList == [110, 98, 115, 112]) = true := by rw [m4]; exact beq_iff_eq.2 d4
                        have HVj : Hid (ans (some (160, p + 1 + 1)) = V) := by show _ = _; rw [← HV.out, d4]; rfl
                        clear m4 m5 d4 HV
                        go_wp2
                        refine bodyPost_ret (v := ans (some (160, p + 1 + 1))) (by simp [results, Tryd.results12, go_sem, ans]) rfl ?_
                        exact ⟨by rw [HVj.out], rfl⟩
                      · have f4 : (S.toList == [110, 98, 115, 112]) = false := by rw [m4]; exact beq_eq_false_iff_ne.2 d4
                        clear m4
                        by_cases d5 : l = [113, 117, 111, 116]
                        · have f5 : (S.toList == [113, 117, 111, 116]) = true := by rw [m5]; exact beq_iff_eq.2 d5
                          have HVj : Hid (ans (some (34, p + 1 + 1)) = V) := by show _ = _; rw [← HV.out, d5]; rfl
                          clear m5 d5 HV
                          go_wp2
                          refine bodyPost_ret (v := ans (some (34, p + 1 + 1))) (by simp [results, Tryd.results12, go_sem, ans]) rfl ?_
                          exact ⟨by rw [HVj.out], rfl⟩
                        · have f5 : (S.toList == [113, 117, 111, 116]) = false := by rw [m5]; exact beq_eq_false_iff_ne.2 d5
                          clear m5
                          have hen := lk_no ⟨d0, d1, d2, d3, d4, d5⟩
                          rw [hen] at HV
                          clear hen d0 d1 d2 d3 d4 d5
                          have hll : l.length = p := by rw [← HL.out.1, cl_len]
                          have hSz1 : S.size ≤ p := by have := HL.out.2.2.2; omega
                          have hSz2 : p ≤ S.size := by have := HL.out.2.2.2; omega
                          by_cases hp1 : 1 < p
                          · have y0 : 0 < S.size := by omega
                            have y1 : 1 < S.size := by omega
                            have y2 : (1 : Int) < (S.size : Int) := by omega
                            have y3 : (2 : Int) ≤ (S.size : Int) := by omega
                            have hsc := sc_list HL.out.2.2.1 HL.out.2.1
                            have hx0 : ((S[0]'y0).toNat : Int) = l.getD 0 0 := by rw [hsc.2.2.1 0 y0]; unfold cL; simp [List.getD, List.getElem?_eq_getElem (show 0 < l.length by omega)]
                            have hx1 : ((S[1]'y1).toNat : Int) = l.getD 1 0 := by rw [hsc.2.2.1 1 y1]; unfold cL; simp [List.getD, List.getElem?_eq_getElem (show 1 < l.length by omega)]
                            clear hsc
                            by_cases t0 : l.getD 0 0 = 35
                            · rw [t0] at hx0
                              by_cases t1 : l.getD 1 0 = 120
                              · rw [t1] at hx1
                                have hen : enN l = num 16 (l.drop 2) := enN_x t0 (by omega) (Or.inl t1)
                                have cn := rnum16_list (byt_drop HL.out.2.2.1 2) (by rw [List.length_drop]; omega) (ext_drop HL.out.2.1 2) w
                                have hnb := num_le (b := 16) (by omega) (l.drop 2)
                                obtain ⟨v, hv⟩ : ∃ v, num 16 (l.drop 2) = v := ⟨_, rfl⟩
                                rw [hv] at hen cn hnb
                                rw [hen] at HV
                                have cv := rvalid_any v w
                                by_cases hok : okN v = true
                                · rw [hok] at cv
                                  have hvb := okN_le hok
                                  have hw32 : IntKind.i32.wrap v = v := by rw [IntKind.wrap_i32]; omega
                                  have HVy : Hid (ans (some (v, p + 1 + 1)) = V) := by show _ = _; rw [← HV.out, if_pos hok]; rfl
                                  clear HV hen hv hok
                                  go_wp2_with fail
                                  refine cn.mono ?_
                                  rintro e w2 ⟨rfl, hw⟩
                                  subst w2
                                  go_wp2_with fail
                                  refine cv.mono ?_
                                  rintro e w2 ⟨rfl, hw⟩
                                  subst w2
                                  go_wp2
                                  refine bodyPost_ret (v := ans (some (v, p + 1 + 1))) (by simp [results, Tryd.results12, go_sem, ans]) rfl ?_
                                  exact ⟨by rw [HVy.out], rfl⟩
                                · have hof : okN v = false := by simpa using hok
                                  rw [hof] at cv
                                  have HVn : Hid (ans none = V) := by show _ = _; rw [← HV.out, if_neg hok]; rfl
                                  clear HV hen hv hok hof
                                  go_wp2_with fail
                                  refine cn.mono ?_
                                  rintro e w2 ⟨rfl, hw⟩
                                  subst w2
                                  go_wp2_with fail
                                  refine cv.mono ?_
                                  rintro e w2 ⟨rfl, hw⟩
                                  subst w2
                                  go_wp2
                                  refine bodyPost_ret (v := ans none) (by simp [results, Tryd.results12, go_sem, ans]) rfl ?_
                                  exact ⟨by rw [HVn.out], rfl⟩
                              · by_cases t2 : l.getD 1 0 = 88
                                · rw [t2] at hx1
                                  have hen : enN l = num 16 (l.drop 2) := enN_x t0 (by omega) (Or.inr t2)
                                  have cn := rnum16_list (byt_drop HL.out.2.2.1 2) (by rw [List.length_drop]; omega) (ext_drop HL.out.2.1 2) w
                                  have hnb := num_le (b := 16) (by omega) (l.drop 2)
                                  obtain ⟨v, hv⟩ : ∃ v, num 16 (l.drop 2) = v := ⟨_, rfl⟩
                                  rw [hv] at hen cn hnb
                                  rw [hen] at HV
                                  have cv := rvalid_any v w
                                  by_cases hok : okN v = true
                                  · rw [hok] at cv
                                    have hvb := okN_le hok
                                    have hw32 : IntKind.i32.wrap v = v := by rw [IntKind.wrap_i32]; omega
                                    have HVy : Hid (ans (some (v, p + 1 + 1)) = V) := by show _ = _; rw [← HV.out, if_pos hok]; rfl
                                    clear HV hen hv hok
                                    go_wp2_with fail
                                    refine cn.mono ?_
                                    rintro e w2 ⟨rfl, hw⟩
                                    subst w2
                                    go_wp2_with fail
                                    refine cv.mono ?_
                                    rintro e w2 ⟨rfl, hw⟩
                                    subst w2
                                    go_wp2
                                    refine bodyPost_ret (v := ans (some (v, p + 1 + 1))) (by simp [results, Tryd.results12, go_sem, ans]) rfl ?_
                                    exact ⟨by rw [HVy.out], rfl⟩
                                  · have hof : okN v = false := by simpa using hok
                                    rw [hof] at cv
                                    have HVn : Hid (ans none = V) := by show _ = _; rw [← HV.out, if_neg hok]; rfl
                                    clear HV hen hv hok hof
                                    go_wp2_with fail
                                    refine cn.mono ?_
                                    rintro e w2 ⟨rfl, hw⟩
                                    subst w2
                                    go_wp2_with fail
                                    refine cv.mono ?_
                                    rintro e w2 ⟨rfl, hw⟩
                                    subst w2
                                    go_wp2
                                    refine bodyPost_ret (v := ans none) (by simp [results, Tryd.results12, go_sem, ans]) rfl ?_
                                    exact ⟨by rw [HVn.out], rfl⟩
                                · have k1 : (l.getD 1 0 == 120) = false := beq_eq_false_iff_ne.2 t1
                                  have k2 : (l.getD 1 0 == 88) = false := beq_eq_false_iff_ne.2 t2
                                  have hen0 := enN_d t0 (by omega) (by omega)
                                  obtain ⟨x1, hxx⟩ : ∃ x, l.getD 1 0 = x := ⟨_, rfl⟩
                                  rw [hxx] at hx1 k1 k2
                                  clear t1 t2 hxx
                                  have hen : enN l = num 10 (l.drop 1) := hen0
                                  have cn := rnum10_list (byt_drop HL.out.2.2.1 1) (by rw [List.length_drop]; omega) (ext_drop HL.out.2.1 1) w
                                  have hnb := num_le (b := 10) (by omega) (l.drop 1)
                                  obtain ⟨v, hv⟩ : ∃ v, num 10 (l.drop 1) = v := ⟨_, rfl⟩
                                  rw [hv] at hen cn hnb
                                  rw [hen] at HV
                                  have cv := rvalid_any v w
                                  by_cases hok : okN v = true
                                  · rw [hok] at cv
                                    have hvb := okN_le hok
                                    have hw32 : IntKind.i32.wrap v = v := by rw [IntKind.wrap_i32]; omega
                                    have HVy : Hid (ans (some (v, p + 1 + 1)) = V) := by show _ = _; rw [← HV.out, if_pos hok]; rfl
                                    clear HV hen hv hok
                                    go_wp2_with fail
                                    refine cn.mono ?_
                                    rintro e w2 ⟨rfl, hw⟩
                                    subst w2
                                    go_wp2_with fail
                                    refine cv.mono ?_
                                    rintro e w2 ⟨rfl, hw⟩
                                    subst w2
                                    go_wp2
                                    refine bodyPost_ret (v := ans (some (v, p + 1 + 1))) (by simp [results, Tryd.results12, go_sem, ans]) rfl ?_
                                    exact ⟨by rw [HVy.out], rfl⟩
                                  · have hof : okN v = false := by simpa using hok
                                    rw [hof] at cv
                                    have HVn : Hid (ans none = V) := by show _ = _; rw [← HV.out, if_neg hok]; rfl
                                    clear HV hen hv hok hof
                                    go_wp2_with fail
                                    refine cn.mono ?_
                                    rintro e w2 ⟨rfl, hw⟩
                                    subst w2
                                    go_wp2_with fail
                                    refine cv.mono ?_
                                    rintro e w2 ⟨rfl, hw⟩
                                    subst w2
                                    go_wp2
                                    refine bodyPost_ret (v := ans none) (by simp [results, Tryd.results12, go_sem, ans]) rfl ?_
                                    exact ⟨by rw [HVn.out], rfl⟩
                            · have k1 : (l.getD 0 0 == 35) = false := beq_eq_false_iff_ne.2 t0
                              have hen : enN l = -1 := enN_no (by exact Or.inl t0)
                              have hok : ¬ okN (-1) = true := by decide
                              have HVn : Hid (ans none = V) := by show _ = _; rw [← HV.out, hen, if_neg hok]; rfl
                              have cv := rvalid_any (-1) w
                              rw [show okN (-1) = false from rfl] at cv
                              clear HV hen hok
                              obtain ⟨x0, hxx⟩ : ∃ x, l.getD 0 0 = x := ⟨_, rfl⟩
                              rw [hxx] at hx0 k1
                              clear t0 hxx hx1
                              go_wp2_with fail
                              refine cv.mono ?_
                              rintro e w2 ⟨rfl, hw⟩
                              subst w2
                              go_wp2
                              refine bodyPost_ret (v := ans none) (by simp [results, Tryd.results12, go_sem, ans]) rfl ?_
                              exact ⟨by rw [HVn.out], rfl⟩
                          · have y2 : ¬ (1 : Int) < (S.size : Int) := by omega
                            have hen : enN l = -1 := enN_no (by right; omega)
                            have hok : ¬ okN (-1) = true := by decide
                            have HVn : Hid (ans none = V) := by show _ = _; rw [← HV.out, hen, if_neg hok]; rfl
                            have cv := rvalid_any (-1) w
                            rw [show okN (-1) = false from rfl] at cv
                            clear HV hen hok
                            go_wp2_with fail
                            refine cv.mono ?_
                            rintro e w2 ⟨rfl, hw⟩
                            subst w2
                            go_wp2
                            refine bodyPost_ret (v := ans none) (by simp [results, Tryd.results12, go_sem, ans]) rfl ?_
                            exact ⟨by rw [HVn.out], rfl⟩
            · have hk : (c i != 59) = true := by simpa using h59
              have HN2 : Hid (∀ k, 1 ≤ k → k < i + 1 → c k ≠ 59) := fun k k1 k2 => by
                by_cases e : k = i
                · rw [e]; exact h59
                · exact HN.out k k1 (by omega)
              obtain ⟨x, hx⟩ : ∃ x, c i = x := ⟨_, rfl⟩
              rw [hx] at hci hk
              clear HN h59 hx
              go_wp2
              go_roundg (n + 1 - (i + 1))
              case measure => omega
              case rel => exact ⟨i + 1, by omega, by omega, rfl, rfl, rfl, rfl, by go_num, HN2, rfl⟩
          · have z2 : ¬ (i : Int) < 13 := by omega
            have HVn : Hid (ans none = V) := by show _ = _; rw [← HV.out, nv_out (n := n) (fun k k1 k2 => HN.out k k1 (by omega))]
            clear HN HV
            go_wp2
            refine bodyPost_ret (v := ans none) (by simp [results, Tryd.results12, go_sem, ans]) rfl ?_
            exact ⟨by rw [HVn.out], rfl⟩
        · have z1 : ¬ (i : Int) < (n : Int) := by omega
          have HVn : Hid (ans none = V) := by show _ = _; rw [← HV.out, nv_out (n := n) (fun k k1 k2 => HN.out k k1 (by omega))]
          clear HN HV
          go_wp2
          refine bodyPost_ret (v := ans none) (by simp [results, Tryd.results12, go_sem, ans]) rfl ?_
          exact ⟨by rw [HVn.out], rfl⟩
    · rw [nv_first (Or.inr h1)]
      have hk : (c 0 != 38) = true := by simpa using h1
      obtain ⟨x, hx⟩ : ∃ x, c 0 = x := ⟨_, rfl⟩
      rw [hx] at hc0 hk
      clear hC hb h0 h1 hx
      go_enter Tryd.func12, Tryd.ntmps12
      go_wp2
      refine bodyPost_ret (v := ans none) (by simp [results, Tryd.results12, go_sem, ans]) rfl ?_
      exact ⟨rfl, rfl⟩
end Go.Proofs.YtkfgfbdalkifjaaDoor
