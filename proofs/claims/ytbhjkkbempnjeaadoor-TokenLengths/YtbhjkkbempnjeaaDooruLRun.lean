/- TokenRuns. -/
import Derived.Test.YtbhjkkbempnjeaaDooruAwk
import Derived.Test.YtbhjkkbempnjeaaDooruBit
namespace Go.Proofs.YtbhjkkbempnjeaaDoor
set_option linter.unusedVariables false
open Go.RowKit Go.ChangeShapes
theorem PAs.form {w : World} {v : Value} {l : List (Nat × Nat)} (h : PAs w v l) : ∃ A C, v = .slice A l.length C := by
  obtain ⟨A, C, e, -⟩ := h
  exact ⟨A, C, e⟩
theorem psP_9 : ∀ t ∈ psP, t.length ≤ 9 := fun t ht => of_decide_eq_true (List.all_eq_true.1 (show psP.all (fun t => decide (t.length ≤ 9)) = true by decide) t ht)
theorem bit_len9 {ps : List (List Int)} (hp : ∀ t ∈ ps, t.length ≤ 9) (raw : Nat → Int) (rn x : Nat) : (bit ps raw rn x).length ≤ 9 := by
  unfold bit
  split
  · rename_i t e
    exact hp t (List.mem_of_getElem? e)
  · split
    all_goals simp
theorem bts_len9 {ps : List (List Int)} (hp : ∀ t ∈ ps, t.length ≤ 9) (raw : Nat → Int) (rn : Nat) (l : List Nat) : (bts ps raw rn l).length ≤ 540 := by
  have h := flat_len (fun x => bit_len9 hp raw rn x) (l.take 60)
  have h2 : (l.take 60).length ≤ 60 := by rw [List.length_take]; omega
  unfold bts
  omega
set_option maxRecDepth 100000 in
set_option maxHeartbeats 8000000 in
theorem runs_law (WO : WordsOk) (RO : RunsOk) (SO : SplitOk) {w : World} (hT : Lns.Tabs w) {ba : Option Addr} {bn bcap : Nat} {bc : Nat → Int} (hbC : Ch bc bn) (hb : BC w ba bn bc) (hbn : bn ≤ maxLen)
    {la : Option Addr} {ln lcap : Nat} {lc : Nat → Int} (hlC : Ch lc ln) (hl : BC w la ln lc) (hln : ln ≤ maxLen) {f t : Int} (hf : -9223372036854775808 ≤ f ∧ f ≤ 9223372036854775807) (ht : -9223372036854775808 ≤ t ∧ t ≤ 9223372036854775807) :
    Calls Tryd.prog 3 #[.slice ba bn bcap, .slice la ln lcap, .agg #[.int .i64 f, .int .i64 t]] w fun ev w' => ev = .returned (.bool true) ∧ Below w.heap.size w w' := by
  obtain ⟨W, hW⟩ : ∃ W, w.alloc (.cells #[.int .i64 f, .int .i64 t] 23) = W := ⟨_, rfl⟩
  have hbW : Below w.heap.size w W := by rw [← hW]; exact below_alloc w _
  have hW0 : W.heap[w.heap.size]? = some (.cells #[.int .i64 f, .int .i64 t] 23) := by rw [← hW]; exact heap_alloc_new _ _
  have x0 : W.cell? ⟨w.heap.size, 0, none⟩ = some (.int .i64 f) := by simp [World.cell?, hW0]
  have x1 : W.cell? ⟨w.heap.size, 1, none⟩ = some (.int .i64 t) := by simp [World.cell?, hW0]
  have HX : Hid (W.cell? ⟨w.heap.size, 0, none⟩ = some (.int .i64 f) ∧ W.cell? ⟨w.heap.size, 1, none⟩ = some (.int .i64 t)) := ⟨x0, x1⟩
  obtain ⟨D, hD⟩ : ∃ D, w.heap.size = D := ⟨_, rfl⟩
  have HDD : Hid (w.heap.size = D) := hD
  have HBW : Hid (Below w.heap.size w W) := hbW
  have HH : Hid (Lns.Tabs W ∧ (Ch bc bn ∧ BC W ba bn bc ∧ bn ≤ maxLen) ∧ (Ch lc ln ∧ BC W la ln lc ∧ ln ≤ maxLen)) := ⟨Lns.tabs_stay hT hbW, ⟨hbC, hb.stay hbW, hbn⟩, ⟨hlC, hl.stay hbW, hln⟩⟩
  have HO : Hid (WordsOk ∧ RunsOk ∧ SplitOk) := ⟨WO, RO, SO⟩
  have HFT : Hid ((-9223372036854775808 ≤ f ∧ f ≤ 9223372036854775807) ∧ (-9223372036854775808 ≤ t ∧ t ≤ 9223372036854775807)) := ⟨hf, ht⟩
  have ca := awake_any WO W HH.out.1
  clear hT hbC hb hlC hl WO RO SO x0 x1 hW0 hbW
  rw [hD] at HX
  go_enter Tryd.func3, Tryd.ntmps3
  go_wp2_with fail
  refine ca.mono ?_
  rintro ev w1 ⟨rfl, hb1⟩
  have HB1 : Hid (Below W.heap.size W w1) := hb1
  clear ca hb1 hW
  by_cases hlong : 500 < bn
  · have g0 : (500 : Int) < (bn : Int) := by omega
    go_wp2
    go_ret
    exact ⟨rfl, HBW.out.trans (HB1.out.mono HBW.out.size)⟩
  · have g0 : ¬ (500 : Int) < (bn : Int) := by omega
    have cp := pieces_any w1
    go_wp2_with fail
    refine cp.mono ?_
    rintro ev w2 ⟨G, rfl, hP, hb2⟩
    have HB2 : Hid (Below W.heap.size W w2) := HB1.out.trans (hb2.mono HB1.out.size)
    have hps : psP.length = 25 := rfl
    have cb0 := bits_any (pc := 25) (rcap := bcap) (lcap := lcap) hP (pslen (by decide)) (psbyt (by decide)) (by decide) HH.out.2.2.1 (HH.out.2.2.2.1.stay HB2.out) HH.out.2.2.2.2 HH.out.2.1.1 (HH.out.2.1.2.1.stay HB2.out) HH.out.2.1.2.2
    rw [hps] at cb0
    obtain ⟨X, hX⟩ : ∃ X, bts psP bc bn (nl lc ln) = X := ⟨_, rfl⟩
    have hXn : X.length ≤ 540 := by rw [← hX]; exact bts_len9 psP_9 _ _ _
    have hXb : Byt X := by rw [← hX]; exact bts_byt (psbyt (by decide)) HH.out.2.1.1 _
    rw [hX] at cb0
    clear cp hP hb2 hX hps
    go_wp2_with fail
    refine cb0.mono ?_
    rintro ev w3 ⟨v3, rfl, ho3, hb3⟩
    have HB3 : Hid (Below W.heap.size W w3) := HB2.out.trans (hb3.mono HB2.out.size)
    obtain ⟨ad, cap, rfl, hcap, hcbig⟩ := ob_form ho3
    have hbc3 := ho3.bc
    have hCh := cL_ch hXb
    obtain ⟨n, hn⟩ : ∃ n, X.length = n := ⟨_, rfl⟩
    rw [hn] at hbc3 hcap hXn hCh ⊢
    have cu := unitsB_any (Lns.tabs_stay HH.out.1 HB3.out) hCh.1 hbc3 hcap (by omega)
    clear cb0 ho3 hb3 hbc3 hCh hXb hn
    go_wp2_with fail
    refine cu.mono ?_
    rintro ev w4 ⟨k, v4, rfl, he, hkn, hR, hb4⟩
    obtain ⟨U, hU⟩ : ∃ U, unS (strOfNums (cl (cL X) n)) k = U := ⟨_, rfl⟩
    have HUl : Hid (U.length ≤ 5000) := by show _ ≤ _; rw [← hU, unS_len]; omega
    have HFU : Hid (FitU U) := by show FitU U; rw [← hU]; exact unS_fit he
    rw [hU] at hR
    have HUS : Hid (US w4 v4 U) := hR.us
    have HB4 : Hid (Below W.heap.size W w4) := HB3.out.trans (hb4.mono HB3.out.size)
    have cr := HO.out.2.1 w4 v4 U HUS.out HFU.out HUl.out
    obtain ⟨RS, hRS⟩ : ∃ q, runsL (RU U) U.length 0 = q := ⟨_, rfl⟩
    have HRS : Hid (runsL (RU U) U.length 0 = RS) := hRS
    rw [hRS] at cr
    clear cu hR hb4 hU he hkn hRS
    go_wp2_with fail
    refine cr.mono ?_
    rintro ev w5 ⟨v5, rfl, hPR, hb5⟩
    have HPA : Hid (PAs w5 v5 RS) := hPR
    have HB5 : Hid (Below W.heap.size W w5) := HB4.out.trans (hb5.mono HB4.out.size)
    have HU5 : Hid (US w5 v4 U) := HUS.out.stay hb5
    have HRl : Hid (RS.length ≤ 5000) := by
      show RS.length ≤ 5000
      rw [← HRS.out]
      have := runsL_len (RU U) U.length 0
      have := HUl.out
      omega
    clear cr hPR hb5 HUS HB4 HB3
    (try rw [hD])
    go_upto_region 7 with fail
    refine wp_region_held_drew (S := fun w' => Up w5.heap.size w5 w') (by kernel_rfl) (Up.drew (Up.refl w5)) (fun hHeld => ?_)
    (try dsimp only at hHeld)
    obtain ⟨x0, hx0⟩ : ∃ x0, w5.drew = x0 := ⟨_, rfl⟩
    rw [hx0] at hHeld ⊢
    clear hx0
    refine takeH (i := 0) (v := ?_) (d := (some 23)) rfl (by kernel_rfl) (by kernel_rfl) (by kernel_rfl) rfl (fun _ _ _ h => h) (Or.inl ⟨by kernel_rfl, ?_⟩) (by assumption) ?_; rotate_left
    · (intro w hSw; (try dsimp only at hSw); first | (go_simp; done) | (go_simp; with_reducible rfl))
    (try simp only [Act.put, List.setIfInBounds_toArray, List.set_cons_zero, List.set_cons_succ])
    refine takeH (i := 1) (v := ?_) (d := (some 24)) rfl (by kernel_rfl) (by kernel_rfl) (by kernel_rfl) rfl (fun _ _ _ h => h) (Or.inl ⟨by kernel_rfl, ?_⟩) (by assumption) ?_; rotate_left
    · (intro w hSw; (try dsimp only at hSw); first | (go_simp; done) | (go_simp; with_reducible rfl))
    (try simp only [Act.put, List.setIfInBounds_toArray, List.set_cons_zero, List.set_cons_succ])
    have hh0 : Up w5.heap.size w5 x0 := hHeld
    have c1 := rruns_any (HU5.out.stay hh0.1) HFU.out (by have := HUl.out; omega)
    rw [HRS.out] at c1
    refine wpAnyH_ready (rs := [2]) (by kernel_rfl) (by simp) (AllReadyH.cons rfl (fun K hK => ?_) AllReadyH.nil)
    (try rw [if_pos (by kernel_rfl)])
    go_simp
    refine c1.mono ?_
    rintro ev w6 ⟨v6, rfl, hP6, hb6⟩
    have HU6 : Hid (Up w5.heap.size w5 w6) := hh0.stay hb6
    have HP6 : Hid (PAs w6 v6 RS) := hP6.any
    clear c1 hP6 hb6 hh0 hHeld
    go_wp2_with fail
    refine hK.out _ _ HU6.out (fun hHeld => ?_)
    clear hK K
    (try dsimp only at hHeld)
    (try simp only [Act.put, List.setIfInBounds_toArray, List.set_cons_zero, List.set_cons_succ])
    have c2 := same_any (HPA.out.stay HU6.out.1) HP6.out (by have := HRl.out; omega)
    refine wpAnyH_ready (rs := [3]) (by kernel_rfl) (by simp) (AllReadyH.cons rfl (fun K hK => ?_) AllReadyH.nil)
    (try rw [if_pos (by kernel_rfl)])
    go_simp
    refine c2.mono ?_
    rintro ev w7 ⟨rfl, hb7⟩
    have HU7 : Hid (Up w5.heap.size w5 w7) := HU6.out.stay hb7
    clear c2 hb7 HP6 HU6 hHeld
    go_wp2_with fail
    refine hK.out _ _ HU7.out (fun hHeld => ?_)
    clear hK K
    (try dsimp only at hHeld)
    (try simp only [Act.put, List.setIfInBounds_toArray, List.set_cons_zero, List.set_cons_succ])
    refine takeH (i := 4) (v := ?_) (d := (some 27)) rfl (by kernel_rfl) (by kernel_rfl) (by kernel_rfl) rfl (fun _ _ _ h => h) (Or.inl ⟨by kernel_rfl, ?_⟩) (by assumption) ?_; rotate_left
    · (intro w hSw; (try dsimp only at hSw); first | (go_simp; done) | (go_simp; with_reducible rfl))
    (try simp only [Act.put, List.setIfInBounds_toArray, List.set_cons_zero, List.set_cons_succ])
    refine takeH (i := 5) (v := ?_) (d := (some 28)) rfl (by kernel_rfl) (by kernel_rfl) (by kernel_rfl) rfl (fun _ _ _ h => h) (Or.inl ⟨by kernel_rfl, ?_⟩) (by assumption) ?_; rotate_left
    · (intro w hSw; (try dsimp only at hSw); first | (go_simp; done) | (go_simp; with_reducible rfl))
    (try simp only [Act.put, List.setIfInBounds_toArray, List.set_cons_zero, List.set_cons_succ])
    refine takeH (i := 6) (v := ?_) (d := (some 29)) rfl (by kernel_rfl) (by kernel_rfl) (by kernel_rfl) rfl (fun _ _ _ h => h) (Or.inl ⟨by kernel_rfl, ?_⟩) (by assumption) ?_; rotate_left
    · (intro w hSw; (try dsimp only at hSw); first | (go_simp; done) | (go_simp; with_reducible rfl))
    (try simp only [Act.put, List.setIfInBounds_toArray, List.set_cons_zero, List.set_cons_succ])
    refine takeH (i := 7) (v := ?_) (d := (some 30)) rfl (by kernel_rfl) (by kernel_rfl) (by kernel_rfl) rfl (fun _ _ _ h => h) (Or.inl ⟨by kernel_rfl, ?_⟩) (by assumption) ?_; rotate_left
    · (intro w hSw; (try dsimp only at hSw); have q0 := cell_stay HX.out.1 (HB5.out.trans (hSw.1.mono HB5.out.size)); have q1 := cell_stay HX.out.2 (HB5.out.trans (hSw.1.mono HB5.out.size)); first | (go_simp; done) | (go_simp; with_reducible rfl))
    (try simp only [Act.put, List.setIfInBounds_toArray, List.set_cons_zero, List.set_cons_succ])
    refine takeH (i := 9) (v := ?_) (d := (some 32)) rfl (by kernel_rfl) (by kernel_rfl) (by kernel_rfl) rfl (fun _ _ _ h => h) (Or.inl ⟨by kernel_rfl, ?_⟩) (by assumption) ?_; rotate_left
    · (intro w hSw; (try dsimp only at hSw); first | (go_simp; done) | (go_simp; with_reducible rfl))
    (try simp only [Act.put, List.setIfInBounds_toArray, List.set_cons_zero, List.set_cons_succ])
    refine takeH (i := 10) (v := ?_) (d := (some 33)) rfl (by kernel_rfl) (by kernel_rfl) (by kernel_rfl) rfl (fun _ _ _ h => h) (Or.inl ⟨by kernel_rfl, ?_⟩) (by assumption) ?_; rotate_left
    · (intro w hSw; (try dsimp only at hSw); first | (go_simp; done) | (go_simp; with_reducible rfl))
    (try simp only [Act.put, List.setIfInBounds_toArray, List.set_cons_zero, List.set_cons_succ])
    refine takeH (i := 11) (v := ?_) (d := (some 34)) rfl (by kernel_rfl) (by kernel_rfl) (by kernel_rfl) rfl (fun _ _ _ h => h) (Or.inl ⟨by kernel_rfl, ?_⟩) (by assumption) ?_; rotate_left
    · (intro w hSw; (try dsimp only at hSw); have q0 := cell_stay HX.out.1 (HB5.out.trans (hSw.1.mono HB5.out.size)); first | (go_simp; done) | (go_simp; with_reducible rfl))
    (try simp only [Act.put, List.setIfInBounds_toArray, List.set_cons_zero, List.set_cons_succ])
    refine takeH (i := 12) (v := ?_) (d := (some 35)) rfl (by kernel_rfl) (by kernel_rfl) (by kernel_rfl) rfl (fun _ _ _ h => h) (Or.inl ⟨by kernel_rfl, ?_⟩) (by assumption) ?_; rotate_left
    · (intro w hSw; (try dsimp only at hSw); first | (go_simp; done) | (go_simp; with_reducible rfl))
    (try simp only [Act.put, List.setIfInBounds_toArray, List.set_cons_zero, List.set_cons_succ])
    refine takeH (i := 13) (v := ?_) (d := (some 36)) rfl (by kernel_rfl) (by kernel_rfl) (by kernel_rfl) rfl (fun _ _ _ h => h) (Or.inl ⟨by kernel_rfl, ?_⟩) (by assumption) ?_; rotate_left
    · (intro w hSw; (try dsimp only at hSw); have q0 := cell_stay HX.out.2 (HB5.out.trans (hSw.1.mono HB5.out.size)); first | (go_simp; done) | (go_simp; with_reducible rfl))
    (try simp only [Act.put, List.setIfInBounds_toArray, List.set_cons_zero, List.set_cons_succ])
    have c3 := HO.out.2.2 w7 v4 U f t (HU5.out.stay HU7.out.1) HFU.out HUl.out HFT.out.1 HFT.out.2
    obtain ⟨PS0, hPS0⟩ : ∃ q, partsL (RU U) (min t (U.length : Int)).toNat (max f 0).toNat = q := ⟨_, rfl⟩
    have HPS0 : Hid (partsL (RU U) (min t (U.length : Int)).toNat (max f 0).toNat = PS0) := hPS0
    have hpl : PS0.length ≤ 5000 := by
      rw [← hPS0]
      have := partsL_len (RU U) (min t (U.length : Int)).toNat (max f 0).toNat
      have := HUl.out
      omega
    have HPL0 : Hid (PS0.length ≤ 5000) := hpl
    rw [hPS0] at c3
    clear hPS0 hpl
    refine wpAnyH_ready (rs := [8]) (by kernel_rfl) (by simp) (AllReadyH.cons rfl (fun K hK => ?_) AllReadyH.nil)
    (try rw [if_pos (by kernel_rfl)])
    go_simp
    refine c3.mono ?_
    rintro ev w8 ⟨v8, rfl, hP8, hb8⟩
    have HU8 : Hid (Up w5.heap.size w5 w8) := HU7.out.stay hb8
    have HP8 : Hid (PAs w8 v8 PS0) := hP8
    clear c3 hP8 hb8 HU7 hHeld
    go_wp2_with fail
    refine hK.out _ _ HU8.out (fun hHeld => ?_)
    clear hK K
    (try dsimp only at hHeld)
    (try simp only [Act.put, List.setIfInBounds_toArray, List.set_cons_zero, List.set_cons_succ])
    have c4 := rsplit_any (HU5.out.stay HU8.out.1) HFU.out (by have := HUl.out; omega) HFT.out.1 HFT.out.2
    rw [HPS0.out] at c4
    refine wpAnyH_ready (rs := [14]) (by kernel_rfl) (by simp) (AllReadyH.cons rfl (fun K hK => ?_) AllReadyH.nil)
    (try rw [if_pos (by kernel_rfl)])
    go_simp
    refine c4.mono ?_
    rintro ev w9 ⟨v9, rfl, hP9, hb9⟩
    have HU9 : Hid (Up w5.heap.size w5 w9) := HU8.out.stay hb9
    have HP9 : Hid (PAs w9 v9 PS0) := hP9.any
    have HP8' : Hid (PAs w9 v8 PS0) := HP8.out.stay hb9
    clear c4 hP9 hb9 HU8 HP8 hHeld
    go_wp2_with fail
    refine hK.out _ _ HU9.out (fun hHeld => ?_)
    clear hK K
    (try dsimp only at hHeld)
    (try simp only [Act.put, List.setIfInBounds_toArray, List.set_cons_zero, List.set_cons_succ])
    have c5 := same_any HP8'.out HP9.out (by have := HPL0.out; omega)
    refine wpAnyH_ready (rs := [15]) (by kernel_rfl) (by simp) (AllReadyH.cons rfl (fun K hK => ?_) AllReadyH.nil)
    (try rw [if_pos (by kernel_rfl)])
    go_simp
    refine c5.mono ?_
    rintro ev w10 ⟨rfl, hb10⟩
    have HU10 : Hid (Up w5.heap.size w5 w10) := HU9.out.stay hb10
    clear c5 hb10 HP8' HP9 HU9 hHeld HPS0 HPL0
    go_wp2_with fail
    refine hK.out _ _ HU10.out (fun hHeld => ?_)
    clear hK K
    (try dsimp only at hHeld)
    (try simp only [Act.put, List.setIfInBounds_toArray, List.set_cons_zero, List.set_cons_succ])
    refine takeH (i := 16) (v := ?_) (d := (some 39)) rfl (by kernel_rfl) (by kernel_rfl) (by kernel_rfl) rfl (fun _ _ _ h => h) (Or.inl ⟨by kernel_rfl, ?_⟩) (by assumption) ?_; rotate_left
    · (intro w hSw; (try dsimp only at hSw); first | (go_simp; done) | (go_simp; with_reducible rfl))
    (try simp only [Act.put, List.setIfInBounds_toArray, List.set_cons_zero, List.set_cons_succ])
    refine takeH (i := 17) (v := ?_) (d := (some 40)) rfl (by kernel_rfl) (by kernel_rfl) (by kernel_rfl) rfl (fun _ _ _ h => h) (Or.inl ⟨by kernel_rfl, ?_⟩) (by assumption) ?_; rotate_left
    · (intro w hSw; (try dsimp only at hSw); first | (go_simp; done) | (go_simp; with_reducible rfl))
    (try simp only [Act.put, List.setIfInBounds_toArray, List.set_cons_zero, List.set_cons_succ])
    refine wpAnyH_done (by kernel_rfl) ?_ _
    obtain ⟨A5, C5, rfl⟩ := HPA.out.form
    have HBA : Hid (Below W.heap.size W w10) := HB5.out.trans (HU10.out.1.mono HB5.out.size)
    have HUA : Hid (US w10 v4 U) := HU5.out.stay HU10.out.1
    have HPX : Hid (PAs w10 (.slice A5 RS.length C5) RS) := HPA.out.stay HU10.out.1
    obtain ⟨nr, hnr⟩ : ∃ q, RS.length = q := ⟨_, rfl⟩
    have HNR : Hid (RS.length = nr) := hnr
    have hnr5 : nr ≤ 5000 := by have h9 := HRl.out; rw [hnr] at h9; exact h9
    rw [hnr] at HPX ⊢
    clear hnr HPA HU5 HB5 HU10 hHeld HB2 HB1
    go_wp2
    go_loopg [43] nr (fun q iv wr => ∃ j : Nat, j ≤ nr ∧ q = nr - j ∧ iv = .int .i64 (j : Int) ∧ Hid (Up w10.heap.size w10 wr))
    case atStart => exact ⟨0, Nat.zero_le _, rfl, rfl, Up.refl _⟩
    case round =>
      obtain ⟨j, hj, hq, rfl, HU⟩ := hrel
      by_cases hjl : j < nr
      · have y0 : (0 : Int) ≤ (j : Int) := by omega
        have y1 : (j : Int) < (nr : Int) := by omega
        obtain ⟨p, hp⟩ : ∃ p, RS[j]? = some p := ⟨_, List.getElem?_eq_getElem (by rw [HNR.out]; exact hjl)⟩
        have hpin : p.1 < p.2 ∧ p.2 ≤ U.length := by
          have hm := List.mem_of_getElem? hp
          rw [← HRS.out] at hm
          exact (runsL_in hm).2
        have HPI : Hid (p.1 < p.2 ∧ p.2 ≤ U.length) := hpin
        obtain ⟨A6, C6, eA, -, hA⟩ := HPX.out.stay HU.out.1
        injection eA with eA eN eC
        subst eA eC
        clear eN
        obtain ⟨b, off, rfl, hbl, a1, a2⟩ := hA j p hp
        have HPP : Hid (partsL (RU U) p.2 p.1 = partsL (RU U) p.2 p.1) := rfl
        obtain ⟨PQ, hPQ⟩ : ∃ q, partsL (RU U) p.2 p.1 = q := ⟨_, rfl⟩
        have hpl : PQ.length ≤ 5000 := by
          rw [← hPQ]
          have := partsL_len (RU U) p.2 p.1
          have := HUl.out
          omega
        have HPL0 : Hid (PQ.length ≤ 5000) := hpl
        have CS : Hid (∀ w', Up w10.heap.size w10 w' → Calls Tryd.prog 15 #[v4, .agg #[.int .i64 (p.1 : Int), .int .i64 (p.2 : Int)]] w' fun e w'' => ∃ v', e = .returned v' ∧ PAs w'' v' PQ ∧ Below w'.heap.size w' w'') := fun w' hu => by
          have hl9 := HUl.out
          have h1 := HO.out.2.2 w' v4 U (p.1 : Int) (p.2 : Int) (HUA.out.stay hu.1) HFU.out hl9 (by omega) (by omega)
          rw [show (min (p.2 : Int) (U.length : Int)).toNat = p.2 by omega, show (max (p.1 : Int) 0).toNat = p.1 by omega, hPQ] at h1
          exact h1
        have CR : Hid (∀ w', Up w10.heap.size w10 w' → Calls Tryd.prog 16 #[v4, .int .i64 (p.1 : Int), .int .i64 (p.2 : Int)] w' fun e w'' => ∃ v', e = .returned v' ∧ PAs w'' v' PQ ∧ Below w'.heap.size w' w'') := fun w' hu => by
          have hl9 := HUl.out
          have h1 := rsplit_any (HUA.out.stay hu.1) HFU.out (by omega) (f := (p.1 : Int)) (t := (p.2 : Int)) (by omega) (by omega)
          rw [show (min (p.2 : Int) (U.length : Int)).toNat = p.2 by omega, show (max (p.1 : Int) 0).toNat = p.1 by omega, hPQ] at h1
          exact h1.mono fun e w'' ⟨v', e1, e2, e3⟩ => ⟨v', e1, e2.any, e3⟩
        obtain ⟨p1, hp1⟩ : ∃ z, p.1 = z := ⟨_, rfl⟩
        obtain ⟨p2, hp2⟩ : ∃ z, p.2 = z := ⟨_, rfl⟩
        rw [hp1] at a1 CS CR
        rw [hp2] at a2 CS CR
        clear hPQ hpl hA hp hpin hbl hp1 hp2 HPP HPI
        go_upto_region 12 with fail
        obtain ⟨wz, hwz⟩ : ∃ x, wr.alloc (.cells #[.int .i64 (p1 : Int), .int .i64 (p2 : Int)] 23) = x := ⟨_, rfl⟩
        have hz0 : wz.heap[wr.heap.size]? = some (.cells #[.int .i64 (p1 : Int), .int .i64 (p2 : Int)] 23) := by rw [← hwz]; exact heap_alloc_new _ _
        have HZ0 : Hid (wz.cell? ⟨wr.heap.size, 0, none⟩ = some (.int .i64 (p1 : Int)) ∧ wz.cell? ⟨wr.heap.size, 1, none⟩ = some (.int .i64 (p2 : Int))) := ⟨by simp [World.cell?, hz0], by simp [World.cell?, hz0]⟩
        have HUz : Hid (Up w10.heap.size w10 wz) := by rw [← hwz]; exact HU.out.alloc _
        rw [hwz]
        obtain ⟨D2, hD2⟩ : ∃ z, wr.heap.size = z := ⟨_, rfl⟩
        rw [hD2] at HZ0 ⊢
        clear hwz hz0 hD2 a1 a2 HU
        skip
        refine wp_region_held_drew (S := fun w' => Up wz.heap.size wz w') (by kernel_rfl) (Up.drew (Up.refl wz)) (fun hHeld => ?_)
        (try dsimp only at hHeld)
        obtain ⟨x0, hx0⟩ : ∃ x0, wz.drew = x0 := ⟨_, rfl⟩
        rw [hx0] at hHeld ⊢
        clear hx0
        refine takeH (i := 0) (v := ?_) (d := (some 47)) rfl (by kernel_rfl) (by kernel_rfl) (by kernel_rfl) rfl (fun _ _ _ h => h) (Or.inl ⟨by kernel_rfl, ?_⟩) (by assumption) ?_; rotate_left
        · (intro w hSw; (try dsimp only at hSw); first | (go_simp; done) | (go_simp; with_reducible rfl))
        (try simp only [Act.put, List.setIfInBounds_toArray, List.set_cons_zero, List.set_cons_succ])
        refine takeH (i := 1) (v := ?_) (d := (some 48)) rfl (by kernel_rfl) (by kernel_rfl) (by kernel_rfl) rfl (fun _ _ _ h => h) (Or.inl ⟨by kernel_rfl, ?_⟩) (by assumption) ?_; rotate_left
        · (intro w hSw; (try dsimp only at hSw); have q0 := cell_stay HZ0.out.1 hSw.1; have q1 := cell_stay HZ0.out.2 hSw.1; first | (go_simp; done) | (go_simp; with_reducible rfl))
        (try simp only [Act.put, List.setIfInBounds_toArray, List.set_cons_zero, List.set_cons_succ])
        refine takeH (i := 3) (v := ?_) (d := (some 50)) rfl (by kernel_rfl) (by kernel_rfl) (by kernel_rfl) rfl (fun _ _ _ h => h) (Or.inl ⟨by kernel_rfl, ?_⟩) (by assumption) ?_; rotate_left
        · (intro w hSw; (try dsimp only at hSw); first | (go_simp; done) | (go_simp; with_reducible rfl))
        (try simp only [Act.put, List.setIfInBounds_toArray, List.set_cons_zero, List.set_cons_succ])
        refine takeH (i := 4) (v := ?_) (d := (some 51)) rfl (by kernel_rfl) (by kernel_rfl) (by kernel_rfl) rfl (fun _ _ _ h => h) (Or.inl ⟨by kernel_rfl, ?_⟩) (by assumption) ?_; rotate_left
        · (intro w hSw; (try dsimp only at hSw); first | (go_simp; done) | (go_simp; with_reducible rfl))
        (try simp only [Act.put, List.setIfInBounds_toArray, List.set_cons_zero, List.set_cons_succ])
        refine takeH (i := 5) (v := ?_) (d := (some 52)) rfl (by kernel_rfl) (by kernel_rfl) (by kernel_rfl) rfl (fun _ _ _ h => h) (Or.inl ⟨by kernel_rfl, ?_⟩) (by assumption) ?_; rotate_left
        · (intro w hSw; (try dsimp only at hSw); have q0 := cell_stay HZ0.out.1 hSw.1; first | (go_simp; done) | (go_simp; with_reducible rfl))
        (try simp only [Act.put, List.setIfInBounds_toArray, List.set_cons_zero, List.set_cons_succ])
        refine takeH (i := 6) (v := ?_) (d := (some 53)) rfl (by kernel_rfl) (by kernel_rfl) (by kernel_rfl) rfl (fun _ _ _ h => h) (Or.inl ⟨by kernel_rfl, ?_⟩) (by assumption) ?_; rotate_left
        · (intro w hSw; (try dsimp only at hSw); first | (go_simp; done) | (go_simp; with_reducible rfl))
        (try simp only [Act.put, List.setIfInBounds_toArray, List.set_cons_zero, List.set_cons_succ])
        refine takeH (i := 7) (v := ?_) (d := (some 54)) rfl (by kernel_rfl) (by kernel_rfl) (by kernel_rfl) rfl (fun _ _ _ h => h) (Or.inl ⟨by kernel_rfl, ?_⟩) (by assumption) ?_; rotate_left
        · (intro w hSw; (try dsimp only at hSw); have q0 := cell_stay HZ0.out.2 hSw.1; first | (go_simp; done) | (go_simp; with_reducible rfl))
        (try simp only [Act.put, List.setIfInBounds_toArray, List.set_cons_zero, List.set_cons_succ])
        have hh0 : Up wz.heap.size wz x0 := hHeld
        have c6 := CS.out x0 (HUz.out.stay hh0.1)
        refine wpAnyH_ready (rs := [2]) (by kernel_rfl) (by simp) (AllReadyH.cons rfl (fun K hK => ?_) AllReadyH.nil)
        (try rw [if_pos (by kernel_rfl)])
        go_simp
        refine c6.mono ?_
        rintro ev wa ⟨va, rfl, hPa, hba⟩
        have HUa : Hid (Up wz.heap.size wz wa) := hh0.stay hba
        have HPa : Hid (PAs wa va PQ) := hPa
        clear c6 hPa hba hh0 hHeld
        go_wp2_with fail
        refine hK.out _ _ HUa.out (fun hHeld => ?_)
        clear hK K
        (try dsimp only at hHeld)
        (try simp only [Act.put, List.setIfInBounds_toArray, List.set_cons_zero, List.set_cons_succ])
        have c7 := CR.out wa (HUz.out.stay HUa.out.1)
        refine wpAnyH_ready (rs := [8]) (by kernel_rfl) (by simp) (AllReadyH.cons rfl (fun K hK => ?_) AllReadyH.nil)
        (try rw [if_pos (by kernel_rfl)])
        go_simp
        refine c7.mono ?_
        rintro ev wb ⟨vb, rfl, hPb, hbb⟩
        have HUb : Hid (Up wz.heap.size wz wb) := HUa.out.stay hbb
        have HPb : Hid (PAs wb vb PQ) := hPb
        have HPa' : Hid (PAs wb va PQ) := HPa.out.stay hbb
        clear c7 hPb hbb HPa HUa hHeld
        go_wp2_with fail
        refine hK.out _ _ HUb.out (fun hHeld => ?_)
        clear hK K
        (try dsimp only at hHeld)
        (try simp only [Act.put, List.setIfInBounds_toArray, List.set_cons_zero, List.set_cons_succ])
        have c8 := same_any HPa'.out HPb.out (by have := HPL0.out; omega)
        refine wpAnyH_ready (rs := [9]) (by kernel_rfl) (by simp) (AllReadyH.cons rfl (fun K hK => ?_) AllReadyH.nil)
        (try rw [if_pos (by kernel_rfl)])
        go_simp
        refine c8.mono ?_
        rintro ev wc ⟨rfl, hbc⟩
        have HUc : Hid (Up wz.heap.size wz wc) := HUb.out.stay hbc
        clear c8 hbc HPa' HPb HUb hHeld
        go_wp2_with fail
        refine hK.out _ _ HUc.out (fun hHeld => ?_)
        clear hK K
        (try dsimp only at hHeld)
        (try simp only [Act.put, List.setIfInBounds_toArray, List.set_cons_zero, List.set_cons_succ])
        refine takeH (i := 10) (v := ?_) (d := (some 57)) rfl (by kernel_rfl) (by kernel_rfl) (by kernel_rfl) rfl (fun _ _ _ h => h) (Or.inl ⟨by kernel_rfl, ?_⟩) (by assumption) ?_; rotate_left
        · (intro w hSw; (try dsimp only at hSw); first | (go_simp; done) | (go_simp; with_reducible rfl))
        (try simp only [Act.put, List.setIfInBounds_toArray, List.set_cons_zero, List.set_cons_succ])
        refine wpAnyH_done (by kernel_rfl) ?_ _
        have HUe : Hid (Up w10.heap.size w10 wc) := HUz.out.stay HUc.out.1
        clear HUz HUc hHeld HZ0
        go_wp2
        go_roundg (nr - (j + 1))
        case measure => omega
        case rel => exact ⟨j + 1, by omega, rfl, by go_num, HUe⟩
      · have y1 : ¬ (j : Int) < (nr : Int) := by omega
        go_wp2
        go_ret
        exact ⟨rfl, by rw [← HDD.out]; exact HBW.out.trans ((HBA.out.trans (HU.out.1.mono HBA.out.size)).mono HBW.out.size)⟩
end Go.Proofs.YtbhjkkbempnjeaaDoor
