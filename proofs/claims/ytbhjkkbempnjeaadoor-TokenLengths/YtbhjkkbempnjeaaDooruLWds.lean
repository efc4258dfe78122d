/- TokenWords. -/
import Derived.Test.YtbhjkkbempnjeaaDooruLRun
import Derived.Test.YtbhjkkbempnjeaaDoorwUni
import Derived.Test.YtbhjkkbempnjeaaDoorwCovQ
namespace Go.Proofs.YtbhjkkbempnjeaaDoor
set_option linter.unusedVariables false
open Go.RowKit Go.ChangeShapes
theorem ptsF_len {R : Nat → Int} {k : Nat} : ∀ f i, (ptsL R (runsF R k f i)).length ≤ k - i
  | 0, i => Nat.zero_le _
  | f + 1, i => by
    show (ptsL R (bif inn R k i then (i, rEnd R k i) :: runsF R k f (rEnd R k i) else runsF R k f (i + 1))).length ≤ k - i
    cases hh : inn R k i
    · exact Nat.le_trans (ptsF_len f (i + 1)) (by omega)
    · have h1 := rEnd_gt hh
      have hlt := inn_lt hh
      have h2 := rEnd_le (R := R) (k := k) (k - i) i (by omega)
      show (ptsL R ((i, rEnd R k i) :: runsF R k f (rEnd R k i))).length ≤ k - i
      have h3 := ptsF_len (R := R) (k := k) f (rEnd R k i)
      have h4 := partsL_len R (rEnd R k i) i
      have h5 : (ptsL R ((i, rEnd R k i) :: runsF R k f (rEnd R k i))).length = (partsL R (rEnd R k i) i).length + (ptsL R (runsF R k f (rEnd R k i))).length := by
        unfold ptsL
        rw [List.flatMap_cons, List.length_append]
      omega
theorem wordsL_len (c : Nat → Int) (n : Nat) (l : List U3) (lo hi : Int) : (wordsL c n l lo hi).length ≤ l.length := by
  unfold wordsL wordsP
  rw [List.length_map]
  refine Nat.le_trans (List.length_filter_le _ _) ?_
  exact Nat.le_trans (ptsF_len _ _) (by omega)
set_option maxRecDepth 100000 in
set_option maxHeartbeats 8000000 in
theorem words_law (WO : WordsOk) {w : World} (hG : Glb w) {f : Nat} (hf : f < 256) {ba : Option Addr} {bn bcap : Nat} {bc : Nat → Int} (hbC : Ch bc bn) (hb : BC w ba bn bc) (hbn : bn ≤ maxLen)
    {la : Option Addr} {ln lcap : Nat} {lc : Nat → Int} (hlC : Ch lc ln) (hl : BC w la ln lc) (hln : ln ≤ maxLen) {a b : Int} (ha : -9223372036854775808 ≤ a ∧ a ≤ 9223372036854775807) (hb' : -9223372036854775808 ≤ b ∧ b ≤ 9223372036854775807) (raw : Bool) :
    Calls Tryd.prog 4 #[.int .u8 (f : Nat), .slice ba bn bcap, .slice la ln lcap, .int .i64 a, .int .i64 b, .bool raw] w fun ev w' => ev = .returned (.bool true) ∧ Below w.heap.size w w' := by
  have HH : Hid (Glb w ∧ (Ch bc bn ∧ BC w ba bn bc ∧ bn ≤ maxLen) ∧ (Ch lc ln ∧ BC w la ln lc ∧ ln ≤ maxLen)) := ⟨hG, ⟨hbC, hb, hbn⟩, ⟨hlC, hl, hln⟩⟩
  have HO : Hid WordsOk := WO
  have ca := awake_any WO w hG.1
  clear hG hbC hb hlC hl WO
  by_cases hlong : 500 < bn
  · have g0 : (500 : Int) < (bn : Int) := by omega
    go_enter Tryd.func4, Tryd.ntmps4
    go_wp2_with fail
    refine ca.mono ?_
    rintro ev w1 ⟨rfl, hb1⟩
    have HB1 : Hid (Below w.heap.size w w1) := hb1
    clear ca hb1
    go_wp2
    go_ret
    exact ⟨rfl, HB1.out⟩
  · have g0 : ¬ (500 : Int) < (bn : Int) := by omega
    cases raw
    · obtain ⟨A5, hA5⟩ : ∃ q, IntKind.u64.wrap a = q := ⟨_, rfl⟩
      obtain ⟨B5, hB5⟩ : ∃ q, IntKind.u64.wrap b = q := ⟨_, rfl⟩
      have hA6 : 0 ≤ A5 := by rw [← hA5]; simp [IntKind.wrap, IntKind.bits, IntKind.signed]; omega
      have hB6 : 0 ≤ B5 := by rw [← hB5]; simp [IntKind.wrap, IntKind.bits, IntKind.signed]; omega
      obtain ⟨L5, hL5⟩ : ∃ q, A5 % 5 = q := ⟨_, rfl⟩
      obtain ⟨M5, hM5⟩ : ∃ q, B5 % 12 = q := ⟨_, rfl⟩
      have hL6 : A5.tmod 5 = L5 := by rw [Int.tmod_eq_emod_of_nonneg hA6]; exact hL5
      have hM6 : B5.tmod 12 = M5 := by rw [Int.tmod_eq_emod_of_nonneg hB6]; exact hM5
      have hL7 : 0 ≤ L5 ∧ L5 < 5 := by omega
      have hM7 : 0 ≤ M5 ∧ M5 < 12 := by omega
      have hL8 : IntKind.u64.wrap L5 = L5 := by simp [IntKind.wrap, IntKind.bits, IntKind.signed]; omega
      have hM8 : IntKind.u64.wrap M5 = M5 := by simp [IntKind.wrap, IntKind.bits, IntKind.signed]; omega
      go_enter Tryd.func4, Tryd.ntmps4
      go_wp2_with fail
      refine ca.mono ?_
      rintro ev w1 ⟨rfl, hb1⟩
      have HB1 : Hid (Below w.heap.size w w1) := hb1
      clear ca hb1
      have cp := pieces_any w1
      go_wp2_with fail
      refine cp.mono ?_
      rintro ev w2 ⟨G, rfl, hP, hb2⟩
      have HB2 : Hid (Below w.heap.size w w2) := HB1.out.trans (hb2.mono HB1.out.size)
      have hps : psP.length = 25 := rfl
      have cb0 := bits_any (pc := 25) (rcap := bcap) (lcap := lcap) hP (pslen (by decide)) (psbyt (by decide)) (by decide) HH.out.2.2.1 (HH.out.2.2.2.1.stay HB2.out) HH.out.2.2.2.2 HH.out.2.1.1 (HH.out.2.1.2.1.stay HB2.out) HH.out.2.1.2.2
      rw [hps] at cb0
      obtain ⟨X, hX⟩ : ∃ X, bts psP bc bn (nl lc ln) = X := ⟨_, rfl⟩
      have hXn : X.length ≤ 540 := by rw [← hX]; exact bts_len9 psP_9 _ _ _
      have hXb : Byt X := by rw [← hX]; exact bts_byt (psbyt (by decide)) HH.out.2.1.1 _
      rw [hX] at cb0
      clear cp hP hb2 hX hps
      go_wp2_with fail
      refine cb0.mono ?_
      rintro ev w3 ⟨v3, rfl, ho3, hb3⟩
      have HB3 : Hid (Below w.heap.size w w3) := HB2.out.trans (hb3.mono HB2.out.size)
      obtain ⟨ad, cap, rfl, hcap, hcbig⟩ := ob_form ho3
      have hbc3 := ho3.bc
      have hCh := cL_ch hXb
      obtain ⟨n, hn⟩ : ∃ n, X.length = n := ⟨_, rfl⟩
      rw [hn] at hbc3 hcap hXn hCh ⊢
      have HX : Hid (BC w3 ad n (cL X) ∧ Ch (cL X) n) := ⟨hbc3, hCh⟩
      clear cb0 ho3 hb3 hbc3 hCh hXb hn
      obtain ⟨fv, hfv⟩ : ∃ q : Int, (f : Int) % 9 = q := ⟨_, rfl⟩
      have cu0 := units_any (A := 0) (M := n) HX.out.2.1 HX.out.1 hcap (by omega) hcbig (by omega) fv 1 (HH.out.1.stay HB3.out)
      rw [Nat.zero_add] at cu0
      obtain ⟨U, hU⟩ : ∃ U, un fv 1 (cL X) n 0 = U := ⟨_, rfl⟩
      have hc255 : ∀ j, j < n → 0 ≤ cL X j ∧ cL X j ≤ 255 := fun j hj => by have := HX.out.2.1 j hj; omega
      have hpos := un_pos (f := fv) (l := 1) hc255 n 0 rfl
      have hlen := un_len (f := fv) (l := 1) hc255 n 0 rfl
      rw [hU] at cu0 hpos hlen
      have HUL : Hid (U.length ≤ 540) := by show _ ≤ _; omega
      have HUF : Hid (FitU U) := fun u hu => by
        obtain ⟨a, k, q1, q2, q3, q4, q5, q6, q7⟩ := hpos u hu
        unfold Fit
        omega
      have HUB : Hid (∀ u ∈ U, -1000000 ≤ u.a ∧ u.a ≤ 1000000 ∧ -1000000 ≤ u.n ∧ u.n ≤ 1000000) := fun u hu => by
        obtain ⟨a, k, q1, q2, q3, q4, q5, q6, q7⟩ := hpos u hu
        omega
      have hf9 : IntKind.u8.wrap fv = fv := by unfold IntKind.wrap; simp [IntKind.bits, IntKind.signed]; omega
      have hfT : (f : Int).tmod 9 = fv := by rw [Int.tmod_eq_emod_of_nonneg (by omega)]; exact hfv
      have cu : Calls Tryd.prog 17 #[.int .u8 fv, .slice ad n cap, .agg #[.int .u8 1, .int .i64 0, .int .i64 (n : Int)]] w3 (UnQ w3 U) := cu0
      clear cu0 hpos hlen hU hc255
      go_wp2_with fail
      (try simp only [hfv])
      refine cu.mono ?_
      rintro ev w4 ⟨v4, rfl, hR4, hb4⟩
      have HB4 : Hid (Below w.heap.size w w4) := HB3.out.trans (hb4.mono HB3.out.size)
      have HUS : Hid (US w4 v4 U) := hR4.us
      have HX4 : Hid (BC w4 ad n (cL X)) := HX.out.1.stay hb4
      have cw := HO.out w4 ad n cap (cL X) v4 U L5 M5 HX.out.2.1 HX4.out hcap (by omega) hcbig HUS.out HUF.out (by have := HUL.out; omega) HUB.out (by omega) (by omega)
      obtain ⟨WL, hWL⟩ : ∃ q, wordsL (cL X) n U L5 M5 = q := ⟨_, rfl⟩
      have HWL : Hid (wordsL (cL X) n U L5 M5 = WL) := hWL
      rw [hWL] at cw
      clear cu hR4 hb4 hWL hfv hfT hf9
      go_wp2_with fail
      refine cw.mono ?_
      rintro ev w5 ⟨v5, rfl, hW5, hb5⟩
      have HB5 : Hid (Below w.heap.size w w5) := HB4.out.trans (hb5.mono HB4.out.size)
      have HW5 : Hid (WS w5 v5 WL) := hW5
      have cr := rwords_any HX.out.2.1 (HX4.out.stay hb5) hcap (by omega) hcbig (HUS.out.stay hb5) HUF.out (by have := HUL.out; omega) HUB.out L5 M5
      rw [HWL.out] at cr
      clear cw hW5 hb5
      go_wp2_with fail
      refine cr.mono ?_
      rintro ev w6 ⟨v6, rfl, hW6, hb6⟩
      have HB6 : Hid (Below w.heap.size w w6) := HB5.out.trans (hb6.mono HB5.out.size)
      have hwl : WL.length ≤ 100000 := by
        rw [← HWL.out]
        exact Nat.le_trans (wordsL_len _ _ _ _ _) (by have := HUL.out; omega)
      have cs := rsamew_any (HW5.out.stay hb6) hW6.any hwl
      clear cr hb6 hW6
      go_wp2_with fail
      refine cs.mono ?_
      rintro ev w7 ⟨rfl, hb7⟩
      have HB7 : Hid (Below w.heap.size w w7) := HB6.out.trans (hb7.mono HB6.out.size)
      clear cs hb7
      go_wp2
      go_ret
      exact ⟨rfl, HB7.out⟩
    · go_enter Tryd.func4, Tryd.ntmps4
      go_wp2_with fail
      refine ca.mono ?_
      rintro ev w1 ⟨rfl, hb1⟩
      have HB1 : Hid (Below w.heap.size w w1) := hb1
      clear ca hb1
      have cp := pieces_any w1
      go_wp2_with fail
      refine cp.mono ?_
      rintro ev w2 ⟨G, rfl, hP, hb2⟩
      have HB2 : Hid (Below w.heap.size w w2) := HB1.out.trans (hb2.mono HB1.out.size)
      have hps : psP.length = 25 := rfl
      have cb0 := bits_any (pc := 25) (rcap := bcap) (lcap := lcap) hP (pslen (by decide)) (psbyt (by decide)) (by decide) HH.out.2.2.1 (HH.out.2.2.2.1.stay HB2.out) HH.out.2.2.2.2 HH.out.2.1.1 (HH.out.2.1.2.1.stay HB2.out) HH.out.2.1.2.2
      rw [hps] at cb0
      obtain ⟨X, hX⟩ : ∃ X, bts psP bc bn (nl lc ln) = X := ⟨_, rfl⟩
      have hXn : X.length ≤ 540 := by rw [← hX]; exact bts_len9 psP_9 _ _ _
      have hXb : Byt X := by rw [← hX]; exact bts_byt (psbyt (by decide)) HH.out.2.1.1 _
      rw [hX] at cb0
      clear cp hP hb2 hX hps
      go_wp2_with fail
      refine cb0.mono ?_
      rintro ev w3 ⟨v3, rfl, ho3, hb3⟩
      have HB3 : Hid (Below w.heap.size w w3) := HB2.out.trans (hb3.mono HB2.out.size)
      obtain ⟨ad, cap, rfl, hcap, hcbig⟩ := ob_form ho3
      have hbc3 := ho3.bc
      have hCh := cL_ch hXb
      obtain ⟨n, hn⟩ : ∃ n, X.length = n := ⟨_, rfl⟩
      rw [hn] at hbc3 hcap hXn hCh ⊢
      have HX : Hid (BC w3 ad n (cL X) ∧ Ch (cL X) n) := ⟨hbc3, hCh⟩
      clear cb0 ho3 hb3 hbc3 hCh hXb hn
      obtain ⟨fv, hfv⟩ : ∃ q : Int, (f : Int) % 9 = q := ⟨_, rfl⟩
      have cu0 := units_any (A := 0) (M := n) HX.out.2.1 HX.out.1 hcap (by omega) hcbig (by omega) fv 1 (HH.out.1.stay HB3.out)
      rw [Nat.zero_add] at cu0
      obtain ⟨U, hU⟩ : ∃ U, un fv 1 (cL X) n 0 = U := ⟨_, rfl⟩
      have hc255 : ∀ j, j < n → 0 ≤ cL X j ∧ cL X j ≤ 255 := fun j hj => by have := HX.out.2.1 j hj; omega
      have hpos := un_pos (f := fv) (l := 1) hc255 n 0 rfl
      have hlen := un_len (f := fv) (l := 1) hc255 n 0 rfl
      rw [hU] at cu0 hpos hlen
      have HUL : Hid (U.length ≤ 540) := by show _ ≤ _; omega
      have HUF : Hid (FitU U) := fun u hu => by
        obtain ⟨a, k, q1, q2, q3, q4, q5, q6, q7⟩ := hpos u hu
        unfold Fit
        omega
      have HUB : Hid (∀ u ∈ U, -1000000 ≤ u.a ∧ u.a ≤ 1000000 ∧ -1000000 ≤ u.n ∧ u.n ≤ 1000000) := fun u hu => by
        obtain ⟨a, k, q1, q2, q3, q4, q5, q6, q7⟩ := hpos u hu
        omega
      have hf9 : IntKind.u8.wrap fv = fv := by unfold IntKind.wrap; simp [IntKind.bits, IntKind.signed]; omega
      have hfT : (f : Int).tmod 9 = fv := by rw [Int.tmod_eq_emod_of_nonneg (by omega)]; exact hfv
      have cu : Calls Tryd.prog 17 #[.int .u8 fv, .slice ad n cap, .agg #[.int .u8 1, .int .i64 0, .int .i64 (n : Int)]] w3 (UnQ w3 U) := cu0
      clear cu0 hpos hlen hU hc255
      go_wp2_with fail
      (try simp only [hfv])
      refine cu.mono ?_
      rintro ev w4 ⟨v4, rfl, hR4, hb4⟩
      have HB4 : Hid (Below w.heap.size w w4) := HB3.out.trans (hb4.mono HB3.out.size)
      have HUS : Hid (US w4 v4 U) := hR4.us
      have HX4 : Hid (BC w4 ad n (cL X)) := HX.out.1.stay hb4
      have cw := HO.out w4 ad n cap (cL X) v4 U a b HX.out.2.1 HX4.out hcap (by omega) hcbig HUS.out HUF.out (by have := HUL.out; omega) HUB.out ha hb'
      obtain ⟨WL, hWL⟩ : ∃ q, wordsL (cL X) n U a b = q := ⟨_, rfl⟩
      have HWL : Hid (wordsL (cL X) n U a b = WL) := hWL
      rw [hWL] at cw
      clear cu hR4 hb4 hWL hfv hfT hf9
      go_wp2_with fail
      refine cw.mono ?_
      rintro ev w5 ⟨v5, rfl, hW5, hb5⟩
      have HB5 : Hid (Below w.heap.size w w5) := HB4.out.trans (hb5.mono HB4.out.size)
      have HW5 : Hid (WS w5 v5 WL) := hW5
      have cr := rwords_any HX.out.2.1 (HX4.out.stay hb5) hcap (by omega) hcbig (HUS.out.stay hb5) HUF.out (by have := HUL.out; omega) HUB.out a b
      rw [HWL.out] at cr
      clear cw hW5 hb5
      go_wp2_with fail
      refine cr.mono ?_
      rintro ev w6 ⟨v6, rfl, hW6, hb6⟩
      have HB6 : Hid (Below w.heap.size w w6) := HB5.out.trans (hb6.mono HB5.out.size)
      have hwl : WL.length ≤ 100000 := by
        rw [← HWL.out]
        exact Nat.le_trans (wordsL_len _ _ _ _ _) (by have := HUL.out; omega)
      have cs := rsamew_any (HW5.out.stay hb6) hW6.any hwl
      clear cr hb6 hW6
      go_wp2_with fail
      refine cs.mono ?_
      rintro ev w7 ⟨rfl, hb7⟩
      have HB7 : Hid (Below w.heap.size w w7) := HB6.out.trans (hb7.mono HB6.out.size)
      clear cs hb7
      go_wp2
      go_ret
      exact ⟨rfl, HB7.out⟩
end Go.Proofs.YtbhjkkbempnjeaaDoor
