/- The reference: Escape. -/
import Derived.Test.YtkfgfbdalkifjaaDoorvRn
namespace Go.Proofs.YtkfgfbdalkifjaaDoor
set_option linter.unusedVariables false
open Go.RowKit Go.ChangeShapes
set_option maxRecDepth 100000 in
set_option maxHeartbeats 16000000 in
theorem resc_any {w : World} {ad : Option Addr} {n cap : Nat} {c : Nat → Int} (hC : ∀ j, j < n → 0 ≤ c j ∧ c j < 256) (hb : BC w ad n c) (hcap : n ≤ cap) (hn : n ≤ 100000) (hbig : cap ≤ 9223372036854775807) (f : Int) :
    Calls Tryd.prog 14 #[.int .u8 f, .slice ad n cap] w fun e w' => e = .returned (ans (ev f c n)) ∧ w' = w := by
  by_cases hn2 : 2 ≤ n
  · obtain ⟨b, off, rfl, hc0⟩ := hb 0 (by omega)
    rw [Nat.add_zero] at hc0
    obtain ⟨b1, off1, e, hc1⟩ := hb 1 (by omega)
    injection e with e
    injection e with e1 e2 _
    subst e1 e2
    have g0 : ¬ (n : Int) < 2 := by omega
    have g1 : (0 : Int) < (n : Int) := by omega
    have g2 : (1 : Int) < (n : Int) := by omega
    by_cases h0 : c 0 = 92
    · rw [h0] at hc0
      obtain ⟨X, hX⟩ : ∃ X : Nat, c 1 = (X : Int) := ⟨(c 1).toNat, by have := hC 1 (by omega); omega⟩
      by_cases hx : X ≤ 127
      · have gx : ¬ (127 : Int) < (X : Int) := by omega
        rw [ev_in hn2 h0 hX (by omega)]
        rw [hX] at hc1
        by_cases hf : f = 7
        · subst hf
          by_cases q0 : X = 34
          · subst q0
            clear hC hb h0 hX hx gx hn2
            go_enter Tryd.func14, Tryd.ntmps14
            go_wp2
            refine bodyPost_ret (v := ans (some (34, 2))) (by simp [results, Tryd.results14, go_sem, ans]) rfl ?_
            exact ⟨rfl, rfl⟩
          · have v0 : ((X : Int) == 34) = false := beq_eq_false_iff_ne.2 (by omega)
            by_cases q1 : X = 92
            · subst q1
              clear hC hb h0 hX hx gx hn2
              go_enter Tryd.func14, Tryd.ntmps14
              go_wp2
              refine bodyPost_ret (v := ans (some (92, 2))) (by simp [results, Tryd.results14, go_sem, ans]) rfl ?_
              exact ⟨rfl, rfl⟩
            · have v1 : ((X : Int) == 92) = false := beq_eq_false_iff_ne.2 (by omega)
              by_cases q2 : X = 36
              · subst q2
                clear hC hb h0 hX hx gx hn2
                go_enter Tryd.func14, Tryd.ntmps14
                go_wp2
                refine bodyPost_ret (v := ans (some (36, 2))) (by simp [results, Tryd.results14, go_sem, ans]) rfl ?_
                exact ⟨rfl, rfl⟩
              · have v2 : ((X : Int) == 36) = false := beq_eq_false_iff_ne.2 (by omega)
                by_cases q3 : X = 96
                · subst q3
                  clear hC hb h0 hX hx gx hn2
                  go_enter Tryd.func14, Tryd.ntmps14
                  go_wp2
                  refine bodyPost_ret (v := ans (some (96, 2))) (by simp [results, Tryd.results14, go_sem, ans]) rfl ?_
                  exact ⟨rfl, rfl⟩
                · have v3 : ((X : Int) == 96) = false := beq_eq_false_iff_ne.2 (by omega)
                  have hno : evI 7 c n (X : Int) = none := by
                    unfold evI
                    rw [if_pos rfl, if_neg (by simp [shB]; omega)]
                  rw [hno]
                  clear hC hb h0 hX hx hn2 hno q0 q1 q2 q3
                  go_enter Tryd.func14, Tryd.ntmps14
                  go_wp2
                  refine bodyPost_ret (v := ans none) (by simp [results, Tryd.results14, go_sem, ans]) rfl ?_
                  exact ⟨rfl, rfl⟩
        · have kf : (f == 7) = false := beq_eq_false_iff_ne.2 hf
          by_cases q0 : X = 110
          · subst q0
            have hr : evI f c n (((110 : Nat)) : Int) = some (10, 2) := by unfold evI; rw [if_neg hf]; rfl
            rw [hr]
            clear hC hb h0 hX hx gx hn2 hr hf
            go_enter Tryd.func14, Tryd.ntmps14
            go_wp2
            refine bodyPost_ret (v := ans (some (10, 2))) (by simp [results, Tryd.results14, go_sem, ans]) rfl ?_
            exact ⟨rfl, rfl⟩
          · have v0 : ((X : Int) == 110) = false := beq_eq_false_iff_ne.2 (by omega)
            by_cases q1 : X = 114
            · subst q1
              have hr : evI f c n (((114 : Nat)) : Int) = some (13, 2) := by unfold evI; rw [if_neg hf]; rfl
              rw [hr]
              clear hC hb h0 hX hx gx hn2 hr hf
              go_enter Tryd.func14, Tryd.ntmps14
              go_wp2
              refine bodyPost_ret (v := ans (some (13, 2))) (by simp [results, Tryd.results14, go_sem, ans]) rfl ?_
              exact ⟨rfl, rfl⟩
            · have v1 : ((X : Int) == 114) = false := beq_eq_false_iff_ne.2 (by omega)
              by_cases q2 : X = 116
              · subst q2
                have hr : evI f c n (((116 : Nat)) : Int) = some (9, 2) := by unfold evI; rw [if_neg hf]; rfl
                rw [hr]
                clear hC hb h0 hX hx gx hn2 hr hf
                go_enter Tryd.func14, Tryd.ntmps14
                go_wp2
                refine bodyPost_ret (v := ans (some (9, 2))) (by simp [results, Tryd.results14, go_sem, ans]) rfl ?_
                exact ⟨rfl, rfl⟩
              · have v2 : ((X : Int) == 116) = false := beq_eq_false_iff_ne.2 (by omega)
                by_cases q3 : X = 120
                · subst q3
                  rw [evI_w hf c n (k := 2) rfl (by decide)]
                  by_cases hl : 2 + 2 ≤ n
                  · have g3 : ¬ (n : Int) < 4 := by omega
                    have hfr := (BC.from hb 2 (by omega) hcap).upto (m := 2) (by omega)
                    rw [if_neg (by omega)] at hfr
                    have hcv := str_bc (cap := cap - 2) hfr
                    have hlb : Byt (cl (fun j => c (2 + j)) 2) := cl_byt2 fun j hj => hC (2 + j) (by omega)
                    obtain ⟨l, hl2⟩ : ∃ l, cl (fun j => c (2 + j)) 2 = l := ⟨_, rfl⟩
                    have hll : l.length = 2 := by rw [← hl2, cl_len]
                    rw [hl2] at hcv hlb
                    obtain ⟨S, hS⟩ : ∃ S, strOfNums l = S := ⟨_, rfl⟩
                    rw [hS] at hcv
                    have cn := rnum16_list hlb (by omega) hS w
                    have hnb := num_le (b := 16) (by omega) l
                    by_cases hok : okN (num 16 l) = true
                    · rw [evN_yes hl (by rw [hl2]; exact hok), hl2]
                      obtain ⟨v, hv⟩ : ∃ v, num 16 l = v := ⟨_, rfl⟩
                      rw [hv] at cn hnb hok ⊢
                      have cv := rvalid_any v w
                      rw [hok] at cv
                      have hvb := okN_le hok
                      have hw32 : IntKind.i32.wrap v = v := by rw [IntKind.wrap_i32]; omega
                      clear hC hb h0 hX hx gx hn2 hf hfr hlb hl2 hll hS hv hok hl
                      go_enter Tryd.func14, Tryd.ntmps14
                      go_wp2_with fail
                      refine cn.mono ?_
                      rintro e w2 ⟨rfl, hw⟩
                      subst w2
                      go_wp2_with fail
                      refine cv.mono ?_
                      rintro e w2 ⟨rfl, hw⟩
                      subst w2
                      go_wp2
                      refine bodyPost_ret (v := ans (some (v, 2 + 2))) (by simp [results, Tryd.results14, go_sem, ans]) rfl ?_
                      exact ⟨rfl, rfl⟩
                    · rw [evN_bad (by rw [hl2]; exact hok)]
                      obtain ⟨v, hv⟩ : ∃ v, num 16 l = v := ⟨_, rfl⟩
                      rw [hv] at cn hnb hok
                      have cv := rvalid_any v w
                      rw [show okN v = false by simpa using hok] at cv
                      clear hC hb h0 hX hx gx hn2 hf hfr hlb hl2 hll hS hv hok hl
                      go_enter Tryd.func14, Tryd.ntmps14
                      go_wp2_with fail
                      refine cn.mono ?_
                      rintro e w2 ⟨rfl, hw⟩
                      subst w2
                      go_wp2_with fail
                      refine cv.mono ?_
                      rintro e w2 ⟨rfl, hw⟩
                      subst w2
                      go_wp2
                      refine bodyPost_ret (v := ans none) (by simp [results, Tryd.results14, go_sem, ans]) rfl ?_
                      exact ⟨rfl, rfl⟩
                  · have g3 : (n : Int) < 4 := by omega
                    rw [evN_long (by omega)]
                    clear hC hb h0 hX hx gx hn2 hf hl
                    go_enter Tryd.func14, Tryd.ntmps14
                    go_wp2
                    refine bodyPost_ret (v := ans none) (by simp [results, Tryd.results14, go_sem, ans]) rfl ?_
                    exact ⟨rfl, rfl⟩
                · have v3 : ((X : Int) == 120) = false := beq_eq_false_iff_ne.2 (by omega)
                  by_cases q4 : X = 117
                  · subst q4
                    rw [evI_w hf c n (k := 4) rfl (by decide)]
                    by_cases hl : 2 + 4 ≤ n
                    · have g3 : ¬ (n : Int) < 6 := by omega
                      have hfr := (BC.from hb 2 (by omega) hcap).upto (m := 4) (by omega)
                      rw [if_neg (by omega)] at hfr
                      have hcv := str_bc (cap := cap - 2) hfr
                      have hlb : Byt (cl (fun j => c (2 + j)) 4) := cl_byt2 fun j hj => hC (2 + j) (by omega)
                      obtain ⟨l, hl2⟩ : ∃ l, cl (fun j => c (2 + j)) 4 = l := ⟨_, rfl⟩
                      have hll : l.length = 4 := by rw [← hl2, cl_len]
                      rw [hl2] at hcv hlb
                      obtain ⟨S, hS⟩ : ∃ S, strOfNums l = S := ⟨_, rfl⟩
                      rw [hS] at hcv
                      have cn := rnum16_list hlb (by omega) hS w
                      have hnb := num_le (b := 16) (by omega) l
                      by_cases hok : okN (num 16 l) = true
                      · rw [evN_yes hl (by rw [hl2]; exact hok), hl2]
                        obtain ⟨v, hv⟩ : ∃ v, num 16 l = v := ⟨_, rfl⟩
                        rw [hv] at cn hnb hok ⊢
                        have cv := rvalid_any v w
                        rw [hok] at cv
                        have hvb := okN_le hok
                        have hw32 : IntKind.i32.wrap v = v := by rw [IntKind.wrap_i32]; omega
                        clear hC hb h0 hX hx gx hn2 hf hfr hlb hl2 hll hS hv hok hl
                        go_enter Tryd.func14, Tryd.ntmps14
                        go_wp2_with fail
                        refine cn.mono ?_
                        rintro e w2 ⟨rfl, hw⟩
                        subst w2
                        go_wp2_with fail
                        refine cv.mono ?_
                        rintro e w2 ⟨rfl, hw⟩
                        subst w2
                        go_wp2
                        refine bodyPost_ret (v := ans (some (v, 2 + 4))) (by simp [results, Tryd.results14, go_sem, ans]) rfl ?_
                        exact ⟨rfl, rfl⟩
                      · rw [evN_bad (by rw [hl2]; exact hok)]
                        obtain ⟨v, hv⟩ : ∃ v, num 16 l = v := ⟨_, rfl⟩
                        rw [hv] at cn hnb hok
                        have cv := rvalid_any v w
                        rw [show okN v = false by simpa using hok] at cv
                        clear hC hb h0 hX hx gx hn2 hf hfr hlb hl2 hll hS hv hok hl
                        go_enter Tryd.func14, Tryd.ntmps14
                        go_wp2_with fail
                        refine cn.mono ?_
                        rintro e w2 ⟨rfl, hw⟩
                        subst w2
                        go_wp2_with fail
                        refine cv.mono ?_
                        rintro e w2 ⟨rfl, hw⟩
                        subst w2
                        go_wp2
                        refine bodyPost_ret (v := ans none) (by simp [results, Tryd.results14, go_sem, ans]) rfl ?_
                        exact ⟨rfl, rfl⟩
                    · have g3 : (n : Int) < 6 := by omega
                      rw [evN_long (by omega)]
                      clear hC hb h0 hX hx gx hn2 hf hl
                      go_enter Tryd.func14, Tryd.ntmps14
                      go_wp2
                      refine bodyPost_ret (v := ans none) (by simp [results, Tryd.results14, go_sem, ans]) rfl ?_
                      exact ⟨rfl, rfl⟩
                  · have v4 : ((X : Int) == 117) = false := beq_eq_false_iff_ne.2 (by omega)
                    by_cases q5 : X = 85
                    · subst q5
                      rw [evI_w hf c n (k := 8) rfl (by decide)]
                      by_cases hl : 2 + 8 ≤ n
                      · have g3 : ¬ (n : Int) < 10 := by omega
                        have hfr := (BC.from hb 2 (by omega) hcap).upto (m := 8) (by omega)
                        rw [if_neg (by omega)] at hfr
                        have hcv := str_bc (cap := cap - 2) hfr
                        have hlb : Byt (cl (fun j => c (2 + j)) 8) := cl_byt2 fun j hj => hC (2 + j) (by omega)
                        obtain ⟨l, hl2⟩ : ∃ l, cl (fun j => c (2 + j)) 8 = l := ⟨_, rfl⟩
                        have hll : l.length = 8 := by rw [← hl2, cl_len]
                        rw [hl2] at hcv hlb
                        obtain ⟨S, hS⟩ : ∃ S, strOfNums l = S := ⟨_, rfl⟩
                        rw [hS] at hcv
                        have cn := rnum16_list hlb (by omega) hS w
                        have hnb := num_le (b := 16) (by omega) l
                        by_cases hok : okN (num 16 l) = true
                        · rw [evN_yes hl (by rw [hl2]; exact hok), hl2]
                          obtain ⟨v, hv⟩ : ∃ v, num 16 l = v := ⟨_, rfl⟩
                          rw [hv] at cn hnb hok ⊢
                          have cv := rvalid_any v w
                          rw [hok] at cv
                          have hvb := okN_le hok
                          have hw32 : IntKind.i32.wrap v = v := by rw [IntKind.wrap_i32]; omega
                          clear hC hb h0 hX hx gx hn2 hf hfr hlb hl2 hll hS hv hok hl
                          go_enter Tryd.func14, Tryd.ntmps14
                          go_wp2_with fail
                          refine cn.mono ?_
                          rintro e w2 ⟨rfl, hw⟩
                          subst w2
                          go_wp2_with fail
                          refine cv.mono ?_
                          rintro e w2 ⟨rfl, hw⟩
                          subst w2
                          go_wp2
                          refine bodyPost_ret (v := ans (some (v, 2 + 8))) (by simp [results, Tryd.results14, go_sem, ans]) rfl ?_
                          exact ⟨rfl, rfl⟩
                        · rw [evN_bad (by rw [hl2]; exact hok)]
                          obtain ⟨v, hv⟩ : ∃ v, num 16 l = v := ⟨_, rfl⟩
                          rw [hv] at cn hnb hok
                          have cv := rvalid_any v w
                          rw [show okN v = false by simpa using hok] at cv
                          clear hC hb h0 hX hx gx hn2 hf hfr hlb hl2 hll hS hv hok hl
                          go_enter Tryd.func14, Tryd.ntmps14
                          go_wp2_with fail
                          refine cn.mono ?_
                          rintro e w2 ⟨rfl, hw⟩
                          subst w2
                          go_wp2_with fail
                          refine cv.mono ?_
                          rintro e w2 ⟨rfl, hw⟩
                          subst w2
                          go_wp2
                          refine bodyPost_ret (v := ans none) (by simp [results, Tryd.results14, go_sem, ans]) rfl ?_
                          exact ⟨rfl, rfl⟩
                      · have g3 : (n : Int) < 10 := by omega
                        rw [evN_long (by omega)]
                        clear hC hb h0 hX hx gx hn2 hf hl
                        go_enter Tryd.func14, Tryd.ntmps14
                        go_wp2
                        refine bodyPost_ret (v := ans none) (by simp [results, Tryd.results14, go_sem, ans]) rfl ?_
                        exact ⟨rfl, rfl⟩
                    · have v5 : ((X : Int) == 85) = false := beq_eq_false_iff_ne.2 (by omega)
                      rw [evI_d hf c n (by omega)]
                      have hw32 : IntKind.i32.wrap (X : Int) = (X : Int) := by rw [IntKind.wrap_i32]; omega
                      clear hC hb h0 hX hx hn2 hf q0 q1 q2 q3 q4 q5
                      go_enter Tryd.func14, Tryd.ntmps14
                      go_wp2
                      refine bodyPost_ret (v := ans (some ((X : Int), 2))) (by simp [results, Tryd.results14, go_sem, ans]) rfl ?_
                      exact ⟨rfl, rfl⟩
      · have gx : (127 : Int) < (X : Int) := by omega
        rw [ev_no (by omega)]
        rw [hX] at hc1
        clear hC hb h0 hX hx hn2
        go_enter Tryd.func14, Tryd.ntmps14
        go_wp2
        refine bodyPost_ret (v := ans none) (by simp [results, Tryd.results14, go_sem, ans]) rfl ?_
        exact ⟨rfl, rfl⟩
    · rw [ev_no (by omega)]
      have hk : (c 0 != 92) = true := by simpa using h0
      obtain ⟨x, hx⟩ : ∃ x, c 0 = x := ⟨_, rfl⟩
      rw [hx] at hc0 hk
      clear hC hb h0 hx hc1 hn2
      go_enter Tryd.func14, Tryd.ntmps14
      go_wp2
      refine bodyPost_ret (v := ans none) (by simp [results, Tryd.results14, go_sem, ans]) rfl ?_
      exact ⟨rfl, rfl⟩
  · rw [ev_no (by omega)]
    have g0 : (n : Int) < 2 := by omega
    clear hC hb hn2
    go_enter Tryd.func14, Tryd.ntmps14
    go_wp2
    refine bodyPost_ret (v := ans none) (by simp [results, Tryd.results14, go_sem, ans]) rfl ?_
    exact ⟨rfl, rfl⟩
end Go.Proofs.YtkfgfbdalkifjaaDoor
