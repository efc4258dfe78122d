/- decode.Escape. -/
import Derived.Test.YtbhjkkbempnjeaaDoorwSgn
namespace Go.Proofs.YtbhjkkbempnjeaaDoor
set_option linter.unusedVariables false
open Go.RowKit Go.ChangeShapes
theorem digits_any (X : Nat) (w : World) : Calls Tryd.prog 68 #[.int .u8 (X : Nat)] w fun e w' => e = .returned (.int .i64 (wdt (X : Int) : Nat)) ∧ w' = w := by
  by_cases h1 : X = 85
  · subst h1
    go_enter Tryd.func68, Tryd.ntmps68
    go_wp2
    go_ret
    exact ⟨rfl, rfl⟩
  · have v1 : ((X : Int) == 85) = false := beq_eq_false_iff_ne.2 (by omega)
    by_cases h2 : X = 117
    · subst h2
      go_enter Tryd.func68, Tryd.ntmps68
      go_wp2
      go_ret
      exact ⟨rfl, rfl⟩
    · have v2 : ((X : Int) == 117) = false := beq_eq_false_iff_ne.2 (by omega)
      by_cases h3 : X = 120
      · subst h3
        go_enter Tryd.func68, Tryd.ntmps68
        go_wp2
        go_ret
        exact ⟨rfl, rfl⟩
      · have v3 : ((X : Int) == 120) = false := beq_eq_false_iff_ne.2 (by omega)
        have hw : wdt (X : Int) = 0 := by
          unfold wdt
          rw [if_neg (by omega), if_neg (by omega), if_neg (by omega)]
        rw [hw]
        clear h1 h2 h3 hw
        go_enter Tryd.func68, Tryd.ntmps68
        go_wp2
        go_ret
        exact ⟨rfl, rfl⟩
def srt (x : Int) : Int := if x = 110 then 10 else if x = 114 then 13 else if x = 116 then 9 else x
theorem short_any (X : Nat) (hX : X < 256) (w : World) : Calls Tryd.prog 70 #[.int .u8 (X : Nat)] w fun e w' => e = .returned (.int .i32 (srt (X : Int))) ∧ w' = w := by
  by_cases h1 : X = 110
  · subst h1
    go_enter Tryd.func70, Tryd.ntmps70
    go_wp2
    go_ret
    exact ⟨rfl, rfl⟩
  · have v1 : ((X : Int) == 110) = false := beq_eq_false_iff_ne.2 (by omega)
    by_cases h2 : X = 114
    · subst h2
      go_enter Tryd.func70, Tryd.ntmps70
      go_wp2
      go_ret
      exact ⟨rfl, rfl⟩
    · have v2 : ((X : Int) == 114) = false := beq_eq_false_iff_ne.2 (by omega)
      by_cases h3 : X = 116
      · subst h3
        go_enter Tryd.func70, Tryd.ntmps70
        go_wp2
        go_ret
        exact ⟨rfl, rfl⟩
      · have v3 : ((X : Int) == 116) = false := beq_eq_false_iff_ne.2 (by omega)
        have hw : srt (X : Int) = (X : Int) := by
          unfold srt
          rw [if_neg (by omega), if_neg (by omega), if_neg (by omega)]
        have hw32 : IntKind.i32.wrap (X : Int) = (X : Int) := by rw [IntKind.wrap_i32]; omega
        rw [hw]
        clear h1 h2 h3 hw hX
        go_enter Tryd.func70, Tryd.ntmps70
        go_wp2
        go_ret
        exact ⟨rfl, rfl⟩
theorem shells_any (X : Nat) (hX : X < 256) (w : World) : Calls Tryd.prog 67 #[.int .u8 (X : Nat)] w fun e w' => e = .returned (ans (if shB (X : Int) = true then some ((X : Int), 2) else none)) ∧ w' = w := by
  by_cases q0 : X = 34
  · subst q0
    go_enter Tryd.func67, Tryd.ntmps67
    go_wp2
    refine bodyPost_ret (v := ans (some (34, 2))) (by simp [results, Tryd.results67, go_sem, ans]) rfl ?_
    exact ⟨rfl, rfl⟩
  · have v0 : ((X : Int) == 34) = false := beq_eq_false_iff_ne.2 (by omega)
    by_cases q1 : X = 92
    · subst q1
      go_enter Tryd.func67, Tryd.ntmps67
      go_wp2
      refine bodyPost_ret (v := ans (some (92, 2))) (by simp [results, Tryd.results67, go_sem, ans]) rfl ?_
      exact ⟨rfl, rfl⟩
    · have v1 : ((X : Int) == 92) = false := beq_eq_false_iff_ne.2 (by omega)
      by_cases q2 : X = 36
      · subst q2
        go_enter Tryd.func67, Tryd.ntmps67
        go_wp2
        refine bodyPost_ret (v := ans (some (36, 2))) (by simp [results, Tryd.results67, go_sem, ans]) rfl ?_
        exact ⟨rfl, rfl⟩
      · have v2 : ((X : Int) == 36) = false := beq_eq_false_iff_ne.2 (by omega)
        by_cases q3 : X = 96
        · subst q3
          go_enter Tryd.func67, Tryd.ntmps67
          go_wp2
          refine bodyPost_ret (v := ans (some (96, 2))) (by simp [results, Tryd.results67, go_sem, ans]) rfl ?_
          exact ⟨rfl, rfl⟩
        · have v3 : ((X : Int) == 96) = false := beq_eq_false_iff_ne.2 (by omega)
          have hno : ¬ shB (X : Int) = true := by simp [shB]; omega
          rw [if_neg hno]
          clear hno q0 q1 q2 q3 hX
          go_enter Tryd.func67, Tryd.ntmps67
          go_wp2
          refine bodyPost_ret (v := ans none) (by simp [results, Tryd.results67, go_sem, ans]) rfl ?_
          exact ⟨rfl, rfl⟩
theorem evI_s {f : Int} (hf : f ≠ 7) (c : Nat → Int) (n : Nat) {x : Int} (h : wdt x = 0) : evI f c n x = some (srt x, 2) := by
  unfold evI srt
  rw [if_neg hf]
  by_cases h1 : x = 110
  · rw [if_pos h1, if_pos h1]
  · rw [if_neg h1, if_neg h1]
    by_cases h2 : x = 114
    · rw [if_pos h2, if_pos h2]
    · rw [if_neg h2, if_neg h2]
      by_cases h3 : x = 116
      · rw [if_pos h3, if_pos h3]
      · rw [if_neg h3, if_neg h3, if_pos h]
theorem wdt_is (x : Int) : wdt x = 0 ∨ wdt x = 2 ∨ wdt x = 4 ∨ wdt x = 8 := by
  unfold wdt
  split
  · omega
  · split
    · omega
    · split <;> omega
theorem written_no {w : World} (ad : Option Addr) {n cap k : Nat} (h : n < k) :
    Calls Tryd.prog 69 #[.slice ad n cap, .int .i64 (k : Nat)] w fun e w' => e = .returned (ans none) ∧ Below w.heap.size w w' := by
  have g : (n : Int) < (k : Int) := by omega
  clear h
  go_enter Tryd.func69, Tryd.ntmps69
  go_wp2
  refine bodyPost_ret (v := ans none) (by simp [results, Tryd.results69, go_sem, ans]) rfl ?_
  exact ⟨rfl, Below.refl _ _⟩
set_option maxRecDepth 100000 in
theorem written_any {w : World} {b off n cap k : Nat} {c : Nat → Int} (hC : ∀ j, j < n → 0 ≤ c j ∧ c j < 256) (hb : BC w (some ⟨b, off, none⟩) n c) (hcap : n ≤ cap) (hn : n ≤ 100000) (hbig : cap ≤ 9223372036854775807) (hk : k ≤ n) (hE : Ers w) :
    Calls Tryd.prog 69 #[.slice (some ⟨b, off, none⟩) n cap, .int .i64 (k : Nat)] w fun e w' => e = .returned (ans (if okN (num 16 (cl c k)) = true then some (num 16 (cl c k), 2 + k) else none)) ∧ Below w.heap.size w w' := by
  have g : ¬ (n : Int) < (k : Int) := by omega
  have g2 : (0 : Int) ≤ (k : Int) := by omega
  have g3 : (k : Int) ≤ (cap : Int) := by omega
  have g4 : k ≤ cap := by omega
  have hcv := str_bc (cap := cap) (hb.upto hk)
  have hlb : Byt (cl c k) := cl_byt2 fun j hj => hC j (by omega)
  obtain ⟨l, hl⟩ : ∃ l, cl c k = l := ⟨_, rfl⟩
  have hll : l.length ≤ 100000 := by rw [← hl, cl_len]; omega
  rw [hl] at hcv hlb ⊢
  obtain ⟨S, hS⟩ : ∃ S, strOfNums l = S := ⟨_, rfl⟩
  rw [hS] at hcv
  have cs := sign16 hlb hll hS w hE
  have hadd : IntKind.i64.wrap (2 + (k : Int)) = 2 + (k : Int) := IntWalk.i64_in _ (by omega)
  clear hC hb hE hlb hl hll hS hcap
  by_cases hok : okN (num 16 l) = true
  · rw [sgn_yes hok] at cs
    rw [if_pos hok]
    obtain ⟨v, hv⟩ : ∃ v, num 16 l = v := ⟨_, rfl⟩
    rw [hv] at cs ⊢
    clear hok hv
    go_enter Tryd.func69, Tryd.ntmps69
    go_wp2_with fail
    refine cs.mono ?_
    rintro e w1 ⟨rfl, hb1⟩
    clear cs
    go_wp2
    refine bodyPost_ret (v := ans (some (v, 2 + k))) (by simp [results, Tryd.results69, go_sem, ans]) rfl ?_
    exact ⟨rfl, hb1⟩
  · rw [sgn_no (by simpa using hok)] at cs
    rw [if_neg hok]
    clear hok
    go_enter Tryd.func69, Tryd.ntmps69
    go_wp2_with fail
    refine cs.mono ?_
    rintro e w1 ⟨rfl, hb1⟩
    clear cs
    go_wp2
    refine bodyPost_ret (v := ans none) (by simp [results, Tryd.results69, go_sem, ans]) rfl ?_
    exact ⟨rfl, hb1⟩
set_option maxRecDepth 100000 in
set_option maxHeartbeats 4000000 in
theorem esc_any {w : World} {ad : Option Addr} {n cap : Nat} {c : Nat → Int} (hC : ∀ j, j < n → 0 ≤ c j ∧ c j < 256) (hb : BC w ad n c) (hcap : n ≤ cap) (hn : n ≤ 100000) (hbig : cap ≤ 9223372036854775807) (hE : Ers w) (f : Int) :
    Calls Tryd.prog 49 #[.int .u8 f, .slice ad n cap] w fun e w' => e = .returned (ans (ev f c n)) ∧ Below w.heap.size w w' := by
  by_cases hn2 : 2 ≤ n
  · obtain ⟨b, off, rfl, hc0⟩ := hb 0 (by omega)
    rw [Nat.add_zero] at hc0
    obtain ⟨b1, off1, e, hc1⟩ := hb 1 (by omega)
    injection e with e
    injection e with e1 e2 _
    subst e1 e2
    have g0 : ¬ (n : Int) < 2 := by omega
    have g1 : (0 : Int) < (n : Int) := by omega
    have g2 : (1 : Int) < (n : Int) := by omega
    by_cases h0 : c 0 = 92
    · rw [h0] at hc0
      obtain ⟨X, hX⟩ : ∃ X : Nat, c 1 = (X : Int) := ⟨(c 1).toNat, by have := hC 1 (by omega); omega⟩
      have hX9 : X < 256 := by have := hC 1 (by omega); omega
      by_cases hx : X ≤ 127
      · have gx : ¬ (128 : Int) ≤ (X : Int) := by omega
        rw [ev_in hn2 h0 hX (by omega)]
        rw [hX] at hc1
        by_cases hf : f = 7
        · subst hf
          have cs := fun w => shells_any X hX9 w
          have he : evI 7 c n (X : Int) = if shB (X : Int) = true then some ((X : Int), 2) else none := by unfold evI; rw [if_pos rfl]
          rw [he]
          by_cases hs : shB (X : Int) = true
          · rw [if_pos hs]
            simp only [if_pos hs, ans] at cs
            clear hC hb h0 hX hx hX9 hn2 he hs hE hcap
            go_enter Tryd.func49, Tryd.ntmps49
            go_wp2_with fail
            refine (cs _).mono ?_
            rintro e w1 ⟨rfl, rfl⟩
            go_wp2
            refine bodyPost_ret (v := ans (some ((X : Int), 2))) (by simp [results, Tryd.results49, go_sem, ans]) rfl ?_
            exact ⟨rfl, Below.refl _ _⟩
          · rw [if_neg hs]
            simp only [if_neg hs, ans] at cs
            clear hC hb h0 hX hx hX9 hn2 he hs hE hcap
            go_enter Tryd.func49, Tryd.ntmps49
            go_wp2_with fail
            refine (cs _).mono ?_
            rintro e w1 ⟨rfl, rfl⟩
            go_wp2
            refine bodyPost_ret (v := ans none) (by simp [results, Tryd.results49, go_sem, ans]) rfl ?_
            exact ⟨rfl, Below.refl _ _⟩
        · have kf : (f == 7) = false := beq_eq_false_iff_ne.2 hf
          have cd := fun w => digits_any X w
          by_cases h00 : wdt (X : Int) = 0
          · rw [evI_s hf c n h00]
            simp only [h00] at cd
            have cs := fun w => short_any X hX9 w
            obtain ⟨r, hr⟩ : ∃ r, srt (X : Int) = r := ⟨_, rfl⟩
            rw [hr]
            simp only [hr] at cs
            clear hC hb h0 hX hx hX9 hn2 hE hcap h00 hr hf
            go_enter Tryd.func49, Tryd.ntmps49
            go_wp2_with fail
            refine (cd _).mono ?_
            rintro e w1 ⟨rfl, rfl⟩
            go_wp2_with fail
            refine (cs _).mono ?_
            rintro e w1 ⟨rfl, rfl⟩
            go_wp2
            refine bodyPost_ret (v := ans (some (r, 2))) (by simp [results, Tryd.results49, go_sem, ans]) rfl ?_
            exact ⟨rfl, Below.refl _ _⟩
          · have hw8 := wdt_is (X : Int)
            obtain ⟨k, hk⟩ : ∃ k, wdt (X : Int) = k := ⟨_, rfl⟩
            simp only [hk] at cd
            rw [hk] at h00 hw8
            rw [evI_w hf c n hk h00]
            have gk : (0 : Int) < (k : Int) := by omega
            by_cases hl : 2 + k ≤ n
            · have hfr := BC.from hb 2 (by omega) hcap
              rw [if_neg (by omega)] at hfr
              have hc2 : ¬ cap = 2 := by omega
              have hc3 : (2 : Int) ≤ (n : Int) := by omega
              have cw := fun (w1 : World) (hb1 : BC w1 (some ⟨b, off + 2, none⟩) (n - 2) fun j => c (2 + j)) (hE1 : Ers w1) => written_any (cap := cap - 2) (k := k) (fun j hj => hC (2 + j) (by omega)) hb1 (by omega) (by omega) (by omega) (by omega) hE1
              have cw1 := cw w hfr hE
              by_cases hok : okN (num 16 (cl (fun j => c (2 + j)) k)) = true
              · rw [evN_yes hl hok]
                rw [if_pos hok] at cw1
                obtain ⟨v, hv⟩ : ∃ v, num 16 (cl (fun j => c (2 + j)) k) = v := ⟨_, rfl⟩
                rw [hv] at cw1 ⊢
                simp only [ans] at cw1
                clear hC hb h0 hX hx hX9 hn2 hE hcap h00 hf hfr cw hok hv hw8 hk hl
                go_enter Tryd.func49, Tryd.ntmps49
                go_wp2_with fail
                refine (cd _).mono ?_
                rintro e w1 ⟨rfl, rfl⟩
                go_wp2_with fail
                refine cw1.mono ?_
                rintro e w1 ⟨rfl, hb1⟩
                clear cw1 cd
                go_wp2
                refine bodyPost_ret (v := ans (some (v, 2 + k))) (by simp [results, Tryd.results49, go_sem, ans]) rfl ?_
                exact ⟨rfl, hb1⟩
              · rw [evN_bad hok]
                rw [if_neg hok] at cw1
                simp only [ans] at cw1
                clear hC hb h0 hX hx hX9 hn2 hE hcap h00 hf hfr cw hok hw8 hk hl
                go_enter Tryd.func49, Tryd.ntmps49
                go_wp2_with fail
                refine (cd _).mono ?_
                rintro e w1 ⟨rfl, rfl⟩
                go_wp2_with fail
                refine cw1.mono ?_
                rintro e w1 ⟨rfl, hb1⟩
                clear cw1 cd
                go_wp2
                refine bodyPost_ret (v := ans none) (by simp [results, Tryd.results49, go_sem, ans]) rfl ?_
                exact ⟨rfl, hb1⟩
            · rw [evN_long (by omega)]
              have cw := fun (ad : Option Addr) => written_no (w := w) ad (n := n - 2) (cap := cap - 2) (k := k) (by omega)
              simp only [ans] at cw
              have hc3 : (2 : Int) ≤ (n : Int) := by omega
              have hc4 : (n : Int) ≤ (cap : Int) := by omega
              by_cases hc2 : cap = 2
              · subst hc2
                obtain rfl : n = 2 := by omega
                clear hC hb h0 hX hx hX9 hE h00 hf hw8 hk hl
                go_enter Tryd.func49, Tryd.ntmps49
                go_wp2_with fail
                refine (cd _).mono ?_
                rintro e w1 ⟨rfl, rfl⟩
                go_wp2_with fail
                refine (cw _).mono ?_
                rintro e w1 ⟨rfl, hb1⟩
                clear cw cd
                go_wp2
                refine bodyPost_ret (v := ans none) (by simp [results, Tryd.results49, go_sem, ans]) rfl ?_
                exact ⟨rfl, hb1⟩
              · clear hC hb h0 hX hx hX9 hE hf hw8 hk hl h00
                go_enter Tryd.func49, Tryd.ntmps49
                go_wp2_with fail
                refine (cd _).mono ?_
                rintro e w1 ⟨rfl, rfl⟩
                go_wp2_with fail
                refine (cw _).mono ?_
                rintro e w1 ⟨rfl, hb1⟩
                clear cw cd
                go_wp2
                refine bodyPost_ret (v := ans none) (by simp [results, Tryd.results49, go_sem, ans]) rfl ?_
                exact ⟨rfl, hb1⟩
      · have gx : (128 : Int) ≤ (X : Int) := by omega
        rw [ev_no (by omega)]
        rw [hX] at hc1
        clear hC hb h0 hX hx hX9 hn2 hE hcap
        go_enter Tryd.func49, Tryd.ntmps49
        go_wp2
        refine bodyPost_ret (v := ans none) (by simp [results, Tryd.results49, go_sem, ans]) rfl ?_
        exact ⟨rfl, Below.refl _ _⟩
    · rw [ev_no (by omega)]
      have z0 : (c 0 != 92) = true := by simpa using h0
      obtain ⟨Y, hY⟩ : ∃ Y, c 0 = Y := ⟨_, rfl⟩
      rw [hY] at hc0 z0
      clear hC hb h0 hn2 hE hcap hc1 hY
      go_enter Tryd.func49, Tryd.ntmps49
      go_wp2
      refine bodyPost_ret (v := ans none) (by simp [results, Tryd.results49, go_sem, ans]) rfl ?_
      exact ⟨rfl, Below.refl _ _⟩
  · rw [ev_no (by omega)]
    have g0 : (n : Int) < 2 := by omega
    clear hC hb hn2 hE hcap
    go_enter Tryd.func49, Tryd.ntmps49
    go_wp2
    refine bodyPost_ret (v := ans none) (by simp [results, Tryd.results49, go_sem, ans]) rfl ?_
    exact ⟨rfl, Below.refl _ _⟩
end Go.Proofs.YtbhjkkbempnjeaaDoor
