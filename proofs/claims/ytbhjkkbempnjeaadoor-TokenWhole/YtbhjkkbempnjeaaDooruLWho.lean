/- TokenWhole. -/
import Derived.Test.YtbhjkkbempnjeaaDooruLLen
import Derived.Test.YtbhjkkbempnjeaaDooruWhl
namespace Go.Proofs.YtbhjkkbempnjeaaDoor
set_option linter.unusedVariables false
open Go.RowKit Go.ChangeShapes
set_option maxRecDepth 100000 in
set_option maxHeartbeats 8000000 in
theorem whole_law (WO : WordsOk) {w : World} (hT : Lns.Tabs w) (hT2 : Tns.Tabs w) {ba : Option Addr} {bn bcap : Nat} {bc : Nat → Int} (hbC : Ch bc bn) (hb : BC w ba bn bc) (hbn : bn ≤ maxLen)
    {la : Option Addr} {ln lcap : Nat} {lc : Nat → Int} (hlC : Ch lc ln) (hl : BC w la ln lc) (hln : ln ≤ maxLen) :
    Calls Tryd.prog 5 #[.slice ba bn bcap, .slice la ln lcap] w fun ev w' => ev = .returned (.bool true) ∧ Below w.heap.size w w' := by
  have HH : Hid (Lns.Tabs w ∧ (Ch bc bn ∧ BC w ba bn bc ∧ bn ≤ maxLen) ∧ (Ch lc ln ∧ BC w la ln lc ∧ ln ≤ maxLen)) := ⟨hT, ⟨hbC, hb, hbn⟩, ⟨hlC, hl, hln⟩⟩
  have HT2 : Hid (Tns.Tabs w) := hT2
  have HO : Hid WordsOk := WO
  have ca := awake_any WO w hT
  clear hT hT2 hbC hb hlC hl WO
  go_enter Tryd.func5, Tryd.ntmps5
  go_wp2_with fail
  refine ca.mono ?_
  rintro ev w1 ⟨rfl, hb1⟩
  have HB1 : Hid (Below w.heap.size w w1) := hb1
  clear ca hb1
  by_cases hlong : 500 < bn
  · have g0 : (500 : Int) < (bn : Int) := by omega
    go_wp2
    go_ret
    exact ⟨rfl, HB1.out⟩
  · have g0 : ¬ (500 : Int) < (bn : Int) := by omega
    have cp := pieces_any w1
    go_wp2_with fail
    refine cp.mono ?_
    rintro ev w2 ⟨G, rfl, hP, hb2⟩
    have HB2 : Hid (Below w.heap.size w w2) := HB1.out.trans (hb2.mono HB1.out.size)
    have hps : psP.length = 25 := rfl
    have cb0 := bits_any (pc := 25) (rcap := bcap) (lcap := lcap) hP (pslen (by decide)) (psbyt (by decide)) (by decide) HH.out.2.2.1 (HH.out.2.2.2.1.stay HB2.out) HH.out.2.2.2.2 HH.out.2.1.1 (HH.out.2.1.2.1.stay HB2.out) HH.out.2.1.2.2
    rw [hps] at cb0
    obtain ⟨X, hX⟩ : ∃ X, bts psP bc bn (nl lc ln) = X := ⟨_, rfl⟩
    have hXn : X.length ≤ 540 := by rw [← hX]; exact bts_len9 psP_9 _ _ _
    have hXb : Byt X := by rw [← hX]; exact bts_byt (psbyt (by decide)) HH.out.2.1.1 _
    rw [hX] at cb0
    clear cp hP hb2 hX hps
    go_wp2_with fail
    refine cb0.mono ?_
    rintro ev w3 ⟨v3, rfl, ho3, hb3⟩
    have HB3 : Hid (Below w.heap.size w w3) := HB2.out.trans (hb3.mono HB2.out.size)
    obtain ⟨ad, cap, rfl, hcap, hcbig⟩ := ob_form ho3
    have hbc3 := ho3.bc
    have hCh := cL_ch hXb
    obtain ⟨n, hn⟩ : ∃ n, X.length = n := ⟨_, rfl⟩
    rw [hn] at hbc3 hcap hXn hCh ⊢
    have HX : Hid (BC w3 ad n (cL X) ∧ Ch (cL X) n) := ⟨hbc3, hCh⟩
    have cu := unitsB_any (Lns.tabs_stay HH.out.1 HB3.out) hCh.1 hbc3 hcap (by omega)
    clear cb0 ho3 hb3 hbc3 hCh hXb hn
    go_wp2_with fail
    refine cu.mono ?_
    rintro ev w4 ⟨k, v4, rfl, he, hkn, hR4, hb4⟩
    have HE : Hid (Ends (strOfNums (cl (cL X) n)) k) := he
    obtain ⟨U, hU⟩ : ∃ U, unS (strOfNums (cl (cL X) n)) k = U := ⟨_, rfl⟩
    have HUU : Hid (unS (strOfNums (cl (cL X) n)) k = U) := hU
    have HUK : Hid (U.length = k) := by show _ = _; rw [← hU, unS_len]
    have HUL : Hid (U.length ≤ 540) := by show _ ≤ _; rw [← hU, unS_len]; omega
    have HUF : Hid (FitU U) := by show FitU U; rw [← hU]; exact unS_fit he
    have HUB : Hid (∀ u ∈ U, -1000000 ≤ u.a ∧ u.a ≤ 1000000 ∧ -1000000 ≤ u.n ∧ u.n ≤ 1000000) := by
      show ∀ u ∈ U, _
      rw [← hU]
      exact unS_bd he (by rw [strOfNums_size, cl_len]; omega)
    rw [hU] at hR4
    have HUS : Hid (US w4 v4 U) := hR4.us
    have HB4 : Hid (Below w.heap.size w w4) := HB3.out.trans (hb4.mono HB3.out.size)
    have HX4 : Hid (BC w4 ad n (cL X)) := HX.out.1.stay hb4
    have hul := HUL.out
    have cw0 := HO.out w4 ad n cap (cL X) v4 U 0 1048576 HX.out.2.1 HX4.out hcap (by omega) hcbig HUS.out HUF.out (by omega) HUB.out (by decide) (by decide)
    rw [words_all (by omega)] at cw0
    obtain ⟨PT, hPT⟩ : ∃ z, ptsL (RU U) (runsL (RU U) U.length 0) = z := ⟨_, rfl⟩
    have HPT : Hid (ptsL (RU U) (runsL (RU U) U.length 0) = PT) := hPT
    have hpl : PT.length ≤ 540 := by
      rw [← hPT]
      have h9 : (ptsL (RU U) (runsL (RU U) U.length 0)).length ≤ U.length - 0 := ptsF_len _ _
      omega
    have hch := pts_chain (RU U) U.length
    rw [hPT] at cw0 hch
    have HCH : Hid (PT.Pairwise fun p q => p.2 ≤ q.1) := hch
    obtain ⟨m, hm⟩ : ∃ m, PT.length = m := ⟨_, rfl⟩
    have HM : Hid (PT.length = m) := hm
    rw [hm] at hpl
    have hk540 : k ≤ 540 := by omega
    have HPS : Hid (∀ i j, i ≤ j → j ≤ k → pos (strOfNums (cl (cL X) n)) i ≤ pos (strOfNums (cl (cL X) n)) j) := fun i j h1 h2 => pos_mono HE.out h1 h2
    have HPN : Hid (∀ i, i ≤ k → pos (strOfNums (cl (cL X) n)) i ≤ n) := fun i h1 => by
      have h2 := pos_mono HE.out h1 (Nat.le_refl k)
      rw [HE.out.1, strOfNums_size, cl_len] at h2
      exact h2
    clear cu hR4 hb4 hU he hul hPT hm hch
    go_wp2_with fail
    refine cw0.mono ?_
    rintro ev w5 ⟨v5, rfl, hW5, hb5⟩
    have HB5 : Hid (Below w.heap.size w w5) := HB4.out.trans (hb5.mono HB4.out.size)
    have HW5 : Hid (WS w5 v5 (PT.map (wOf (cL X) n U))) := hW5
    obtain ⟨A5, C5, rfl⟩ : ∃ A C, v5 = .slice A m C := by
      obtain ⟨A, C, e, -⟩ := hW5
      exact ⟨A, C, by rw [e, List.length_map, HM.out]⟩
    have HU5 : Hid (US w5 v4 U) := HUS.out.stay hb5
    have HX5 : Hid (BC w5 ad n (cL X)) := HX4.out.stay hb5
    obtain ⟨A4, C4, rfl⟩ : ∃ A C, v4 = .slice A k C := by
      obtain ⟨A, C, e, -⟩ := HUS.out
      exact ⟨A, C, by rw [e, HUK.out]⟩
    clear cw0 hW5 hb5 HUS HX4
    go_wp2
    go_loopg [8, 33] m (fun gg lv iv wr => ∃ (j z : Nat), j ≤ m ∧ gg = m - j ∧ iv = .int .i64 (j : Int) ∧ lv = .int .i64 (z : Int) ∧ z ≤ n ∧ Hid (∀ p ∈ PT.drop j, z ≤ pos (strOfNums (cl (cL X) n)) p.1) ∧ Hid (Up w5.heap.size w5 wr))
    case atStart => exact ⟨0, 0, Nat.zero_le _, rfl, rfl, rfl, Nat.zero_le _, fun p _ => Nat.zero_le _, Up.refl _⟩
    case round =>
      obtain ⟨j, z, hj, hgg, rfl, rfl, hzn, HZ9, HU⟩ := hrel
      by_cases hjl : j < m
      · have y0 : (0 : Int) ≤ (j : Int) := by omega
        have y1 : (j : Int) < (m : Int) := by omega
        obtain ⟨pp, hpp⟩ : ∃ z, PT[j]? = some z := ⟨_, List.getElem?_eq_getElem (by rw [HM.out]; exact hjl)⟩
        have hpm : pp ∈ ptsL (RU U) (runsL (RU U) U.length 0) := by rw [HPT.out]; exact List.mem_of_getElem? hpp
        obtain ⟨q1, q2, q3, q4, q5, q6⟩ := word_at HX.out.2.1 HE.out HUU.out hpm
        have HPM : Hid (pp ∈ ptsL (RU U) (runsL (RU U) U.length 0)) := hpm
        have hdr : PT.drop j = pp :: PT.drop (j + 1) := by
          have hlt' : j < PT.length := by rw [HM.out]; exact hjl
          rw [List.drop_eq_getElem_cons hlt']
          rw [List.getElem?_eq_getElem hlt'] at hpp
          rw [Option.some.inj hpp]
        have hzA := HZ9.out pp (by rw [hdr]; exact List.mem_cons_self ..)
        have hAE := pos_lt2 HE.out q1 q2
        have hEn := HPN.out pp.2 q2
        have HZ8 : Hid (∀ p ∈ PT.drop (j + 1), pos (strOfNums (cl (cL X) n)) pp.2 ≤ pos (strOfNums (cl (cL X) n)) p.1) := fun p hp => by
          have h1 := HCH.out.sublist (List.drop_sublist j PT)
          rw [hdr] at h1
          have h2 := (List.pairwise_cons.1 h1).1 p hp
          have h3 : p ∈ ptsL (RU U) (runsL (RU U) U.length 0) := by rw [HPT.out]; exact List.mem_of_mem_drop hp
          have h4 := pts_in h3
          have := HUK.out
          exact HPS.out _ _ h2 (by omega)
        obtain ⟨A6, C6, eA, -, hA⟩ := HW5.out.stay HU.out.1
        injection eA with eA eN eC
        subst eA eC
        clear eN
        obtain ⟨b6, o6, rfl, hbl, a1, a2, a3, a4⟩ := hA j (wOf (cL X) n U pp) (by rw [List.getElem?_map, hpp]; rfl)
        rw [q6] at a1
        rw [q3] at a2
        rw [q4] at a3
        rw [q5] at a4
        have HEN : Hid (Ends (wOf (cL X) n U pp).t (pp.2 - pp.1)) := part_ends hpm
        have HT6 : Hid ((wOf (cL X) n U pp).t = strOfNums (cl (fun j => cL X (pos (strOfNums (cl (cL X) n)) pp.1 + j)) (pos (strOfNums (cl (cL X) n)) pp.2 - pos (strOfNums (cl (cL X) n)) pp.1))) := q6
        obtain ⟨A, hAd⟩ : ∃ z, pos (strOfNums (cl (cL X) n)) pp.1 = z := ⟨_, rfl⟩
        obtain ⟨E, hEd⟩ : ∃ z, pos (strOfNums (cl (cL X) n)) pp.2 = z := ⟨_, rfl⟩
        rw [hAd] at a1 a2 a3 hzA hAE HT6
        rw [hEd] at a1 a3 hAE hEn HZ8 HT6
        obtain ⟨M, hEM, hM0⟩ : ∃ M, E = A + M ∧ 0 < M := ⟨E - A, by omega, by omega⟩
        have HEM : Hid (E = A + M) := hEM
        rw [show E - A = M by omega] at a1 a3 HT6
        obtain ⟨tt, htt⟩ : ∃ z, strOfNums (cl (fun j => cL X (A + j)) M) = z := ⟨_, rfl⟩
        rw [htt] at a1 HT6
        have hbcr := HX5.out.stay HU.out.1
        obtain ⟨bx, ox, rfl, -⟩ := hbcr 0 (by omega)
        have hfr := (BC.from hbcr A (by omega) hcap).upto (m := M) (by omega)
        rw [if_neg (by omega)] at hfr
        have hsz : tt.size ≤ 3000 := by rw [← htt, strOfNums_size, cl_len]; omega
        obtain ⟨wz, hwz⟩ : ∃ x, wr.alloc (.cells #[.string tt, .int .i64 (A : Int), .int .i64 ((M : Nat) : Int), .bool true] 51) = x := ⟨_, rfl⟩
        have hz : wz.heap[wr.heap.size]? = some (.cells #[.string tt, .int .i64 (A : Int), .int .i64 ((M : Nat) : Int), .bool true] 51) := by rw [← hwz]; exact heap_alloc_new _ _
        have hbz : Below wr.heap.size wr wz := by rw [← hwz]; exact below_alloc wr _
        obtain ⟨D2, hD2⟩ : ∃ z, wr.heap.size = z := ⟨_, rfl⟩
        have HZ : Hid (wz.cell? ⟨D2, 0, none⟩ = some (.string tt) ∧ wz.cell? ⟨D2, 1, none⟩ = some (.int .i64 (A : Int)) ∧ wz.cell? ⟨D2, 2, none⟩ = some (.int .i64 ((M : Nat) : Int)) ∧ wz.cell? ⟨D2, 3, none⟩ = some (.bool true)) := by
          rw [← hD2]
          exact ⟨by simp [World.cell?, hz], by simp [World.cell?, hz], by simp [World.cell?, hz], by simp [World.cell?, hz]⟩
        have HUz : Hid (Up w5.heap.size w5 wz) := HU.out.stay hbz
        have HCV : Hid (∀ w' : World, Up wz.heap.size wz w' → (convert 22 9 (.slice (some ⟨bx, ox + A, none⟩) M (cap - A))).run Tryd.prog w' = .ok (.string tt) w') := fun w' hu => by
          have := str_bc (cap := cap - A) ((hfr.stay hbz).stay hu.1)
          rw [htt] at this
          exact this
        have x0 := HZ.out.1
        have x1 := HZ.out.2.1
        have x2 := HZ.out.2.2.1
        have x3 := HZ.out.2.2.2
        have f1 : decide ((A : Int) < (z : Int)) = false := decide_eq_false (by omega)
        have f1' : decide (A < z) = false := decide_eq_false (by omega)
        have f1'' : ¬ A < z := by omega
        have f2 : decide (((M : Nat) : Int) < 1) = false := decide_eq_false (by omega)
        have f3 : (A : Int) + ((M : Nat) : Int) = (E : Int) := by omega
        have f4 : (0 : Int) ≤ (A : Int) := by omega
        have f5 : (A : Int) ≤ (E : Int) := by omega
        have f6 : (E : Int) ≤ (cap : Int) := by omega
        have f7 : ¬ cap = A := by omega
        have f8 : E - A = M := by omega
        have f9 : IntKind.i64.wrap (E : Int) = (E : Int) := IntWalk.i64_in _ (by omega)
        have f10 : (0 : Int) ≤ (E : Int) := by omega
        have f11 : A ≤ E := by omega
        clear hEM htt q3 q4 q5 q6 hpm hpp hA hbl hz hbz hfr hbcr HZ9 HU hdr hAd hEd
        go_upto_region 12 with fail
        (try rw [hwz])
        clear a1 a2 a3 a4 hwz
        skip
        refine wp_region_held_drew (S := fun w' => Up wz.heap.size wz w') (by kernel_rfl) (Up.drew (Up.refl wz)) (fun hHeld => ?_)
        (try dsimp only at hHeld)
        obtain ⟨x0, hx0⟩ : ∃ x0, wz.drew = x0 := ⟨_, rfl⟩
        rw [hx0] at hHeld ⊢
        clear hx0
        refine takeH (i := 0) (v := ?_) (d := (some 37)) rfl (by kernel_rfl) (by kernel_rfl) (by kernel_rfl) rfl (fun _ _ _ h => h) (Or.inl ⟨by kernel_rfl, ?_⟩) (by assumption) ?_; rotate_left
        · (intro w hSw; (try dsimp only at hSw); first | (go_simp; done) | (go_simp; with_reducible rfl))
        (try simp only [Act.put, List.setIfInBounds_toArray, List.set_cons_zero, List.set_cons_succ])
        refine takeH (i := 1) (v := ?_) (d := (some 38)) rfl (by kernel_rfl) (by kernel_rfl) (by kernel_rfl) rfl (fun _ _ _ h => h) (Or.inl ⟨by kernel_rfl, ?_⟩) (by assumption) ?_; rotate_left
        · (intro w hSw; (try dsimp only at hSw); first | (go_simp; done) | (go_simp; with_reducible rfl))
        (try simp only [Act.put, List.setIfInBounds_toArray, List.set_cons_zero, List.set_cons_succ])
        refine takeH (i := 2) (v := ?_) (d := (some 39)) rfl (by kernel_rfl) (by kernel_rfl) (by kernel_rfl) rfl (fun _ _ _ h => h) (Or.inl ⟨by kernel_rfl, ?_⟩) (by assumption) ?_; rotate_left
        · (intro w hSw; (try dsimp only at hSw); have q0 := cell_stay HZ.out.2.1 hSw.1; first | (go_simp; done) | (go_simp; with_reducible rfl))
        (try simp only [Act.put, List.setIfInBounds_toArray, List.set_cons_zero, List.set_cons_succ])
        refine takeH (i := 3) (v := ?_) (d := (some 40)) rfl (by kernel_rfl) (by kernel_rfl) (by kernel_rfl) rfl (fun _ _ _ h => h) (Or.inl ⟨by kernel_rfl, ?_⟩) (by assumption) ?_; rotate_left
        · (intro w hSw; (try dsimp only at hSw); first | (go_simp; done) | (go_simp; with_reducible rfl))
        (try simp only [Act.put, List.setIfInBounds_toArray, List.set_cons_zero, List.set_cons_succ])
        refine takeH (i := 4) (v := ?_) (d := (some 41)) rfl (by kernel_rfl) (by kernel_rfl) (by kernel_rfl) rfl (fun _ _ _ h => h) (Or.inl ⟨by kernel_rfl, ?_⟩) (by assumption) ?_; rotate_left
        · (intro w hSw; (try dsimp only at hSw); first | (go_simp; done) | (go_simp; with_reducible rfl))
        (try simp only [Act.put, List.setIfInBounds_toArray, List.set_cons_zero, List.set_cons_succ])
        refine takeH (i := 5) (v := ?_) (d := (some 42)) rfl (by kernel_rfl) (by kernel_rfl) (by kernel_rfl) rfl (fun _ _ _ h => h) (Or.inl ⟨by kernel_rfl, ?_⟩) (by assumption) ?_; rotate_left
        · (intro w hSw; (try dsimp only at hSw); first | (go_simp; done) | (go_simp; with_reducible rfl))
        (try simp only [Act.put, List.setIfInBounds_toArray, List.set_cons_zero, List.set_cons_succ])
        refine takeH (i := 6) (v := ?_) (d := (some 43)) rfl (by kernel_rfl) (by kernel_rfl) (by kernel_rfl) rfl (fun _ _ _ h => h) (Or.inl ⟨by kernel_rfl, ?_⟩) (by assumption) ?_; rotate_left
        · (intro w hSw; (try dsimp only at hSw); first | (go_simp; done) | (go_simp; with_reducible rfl))
        (try simp only [Act.put, List.setIfInBounds_toArray, List.set_cons_zero, List.set_cons_succ])
        refine takeH (i := 7) (v := ?_) (d := (some 44)) rfl (by kernel_rfl) (by kernel_rfl) (by kernel_rfl) rfl (fun _ _ _ h => h) (Or.inl ⟨by kernel_rfl, ?_⟩) (by assumption) ?_; rotate_left
        · (intro w hSw; (try dsimp only at hSw); first | (go_simp; done) | (go_simp; with_reducible rfl))
        (try simp only [Act.put, List.setIfInBounds_toArray, List.set_cons_zero, List.set_cons_succ])
        refine takeH (i := 8) (v := ?_) (d := (some 45)) rfl (by kernel_rfl) (by kernel_rfl) (by kernel_rfl) rfl (fun _ _ _ h => h) (Or.inl ⟨by kernel_rfl, ?_⟩) (by assumption) ?_; rotate_left
        · (intro w hSw; (try dsimp only at hSw); have q0 := cell_stay HZ.out.2.2.1 hSw.1; first | (go_simp; done) | (go_simp; with_reducible rfl))
        (try simp only [Act.put, List.setIfInBounds_toArray, List.set_cons_zero, List.set_cons_succ])
        refine takeH (i := 9) (v := ?_) (d := (some 46)) rfl (by kernel_rfl) (by kernel_rfl) (by kernel_rfl) rfl (fun _ _ _ h => h) (Or.inl ⟨by kernel_rfl, ?_⟩) (by assumption) ?_; rotate_left
        · (intro w hSw; (try dsimp only at hSw); first | (go_simp; done) | (go_simp; with_reducible rfl))
        (try simp only [Act.put, List.setIfInBounds_toArray, List.set_cons_zero, List.set_cons_succ])
        refine takeH (i := 10) (v := ?_) (d := (some 47)) rfl (by kernel_rfl) (by kernel_rfl) (by kernel_rfl) rfl (fun _ _ _ h => h) (Or.inl ⟨by kernel_rfl, ?_⟩) (by assumption) ?_; rotate_left
        · (intro w hSw; (try dsimp only at hSw); first | (go_simp; done) | (go_simp; with_reducible rfl))
        (try simp only [Act.put, List.setIfInBounds_toArray, List.set_cons_zero, List.set_cons_succ])
        refine takeH (i := 11) (v := ?_) (d := (some 48)) rfl (by kernel_rfl) (by kernel_rfl) (by kernel_rfl) rfl (fun _ _ _ h => h) (Or.inl ⟨by kernel_rfl, ?_⟩) (by assumption) ?_; rotate_left
        · (intro w hSw; (try dsimp only at hSw); first | (go_simp; done) | (go_simp; with_reducible rfl))
        (try simp only [Act.put, List.setIfInBounds_toArray, List.set_cons_zero, List.set_cons_succ])
        refine takeH (i := 12) (v := ?_) (d := (some 49)) rfl (by kernel_rfl) (by kernel_rfl) (by kernel_rfl) rfl (fun _ _ _ h => h) (Or.inl ⟨by kernel_rfl, ?_⟩) (by assumption) ?_; rotate_left
        · (intro w hSw; (try dsimp only at hSw); first | (go_simp; done) | (go_simp; with_reducible rfl))
        (try simp only [Act.put, List.setIfInBounds_toArray, List.set_cons_zero, List.set_cons_succ])
        refine takeH (i := 13) (v := ?_) (d := (some 50)) rfl (by kernel_rfl) (by kernel_rfl) (by kernel_rfl) rfl (fun _ _ _ h => h) (Or.inl ⟨by kernel_rfl, ?_⟩) (by assumption) ?_; rotate_left
        · (intro w hSw; (try dsimp only at hSw); have q0 := cell_stay HZ.out.2.2.2 hSw.1; first | (go_simp; done) | (go_simp; with_reducible rfl))
        (try simp only [Act.put, List.setIfInBounds_toArray, List.set_cons_zero, List.set_cons_succ])
        refine takeH (i := 14) (v := ?_) (d := (some 51)) rfl (by kernel_rfl) (by kernel_rfl) (by kernel_rfl) rfl (fun _ _ _ h => h) (Or.inl ⟨by kernel_rfl, ?_⟩) (by assumption) ?_; rotate_left
        · (intro w hSw; (try dsimp only at hSw); first | (go_simp; done) | (go_simp; with_reducible rfl))
        (try simp only [Act.put, List.setIfInBounds_toArray, List.set_cons_zero, List.set_cons_succ])
        refine takeH (i := 15) (v := ?_) (d := (some 52)) rfl (by kernel_rfl) (by kernel_rfl) (by kernel_rfl) rfl (fun _ _ _ h => h) (Or.inl ⟨by kernel_rfl, ?_⟩) (by assumption) ?_; rotate_left
        · (intro w hSw; (try dsimp only at hSw); first | (go_simp; done) | (go_simp; with_reducible rfl))
        (try simp only [Act.put, List.setIfInBounds_toArray, List.set_cons_zero, List.set_cons_succ])
        refine takeH (i := 16) (v := ?_) (d := (some 53)) rfl (by kernel_rfl) (by kernel_rfl) (by kernel_rfl) rfl (fun _ _ _ h => h) (Or.inl ⟨by kernel_rfl, ?_⟩) (by assumption) ?_; rotate_left
        · (intro w hSw; (try dsimp only at hSw); first | (go_simp; done) | (go_simp; with_reducible rfl))
        (try simp only [Act.put, List.setIfInBounds_toArray, List.set_cons_zero, List.set_cons_succ])
        refine takeH (i := 17) (v := ?_) (d := (some 54)) rfl (by kernel_rfl) (by kernel_rfl) (by kernel_rfl) rfl (fun _ _ _ h => h) (Or.inl ⟨by kernel_rfl, ?_⟩) (by assumption) ?_; rotate_left
        · (intro w hSw; (try dsimp only at hSw); first | (go_simp; done) | (go_simp; with_reducible rfl))
        (try simp only [Act.put, List.setIfInBounds_toArray, List.set_cons_zero, List.set_cons_succ])
        refine takeH (i := 18) (v := ?_) (d := (some 55)) rfl (by kernel_rfl) (by kernel_rfl) (by kernel_rfl) rfl (fun _ _ _ h => h) (Or.inl ⟨by kernel_rfl, ?_⟩) (by assumption) ?_; rotate_left
        · (intro w hSw; (try dsimp only at hSw); first | (go_simp; done) | (go_simp; with_reducible rfl))
        (try simp only [Act.put, List.setIfInBounds_toArray, List.set_cons_zero, List.set_cons_succ])
        refine takeH (i := 19) (v := ?_) (d := (some 56)) rfl (by kernel_rfl) (by kernel_rfl) (by kernel_rfl) rfl (fun _ _ _ h => h) (Or.inl ⟨by kernel_rfl, ?_⟩) (by assumption) ?_; rotate_left
        · (intro w hSw; (try dsimp only at hSw); first | (go_simp; done) | (go_simp; with_reducible rfl))
        (try simp only [Act.put, List.setIfInBounds_toArray, List.set_cons_zero, List.set_cons_succ])
        refine takeH (i := 20) (v := ?_) (d := (some 57)) rfl (by kernel_rfl) (by kernel_rfl) (by kernel_rfl) rfl (fun _ _ _ h => h) (Or.inl ⟨by kernel_rfl, ?_⟩) (by assumption) ?_; rotate_left
        · (intro w hSw; (try dsimp only at hSw); have q0 := cell_stay HZ.out.2.1 hSw.1; first | (go_simp; done) | (go_simp; with_reducible rfl))
        (try simp only [Act.put, List.setIfInBounds_toArray, List.set_cons_zero, List.set_cons_succ])
        refine takeH (i := 21) (v := ?_) (d := (some 58)) rfl (by kernel_rfl) (by kernel_rfl) (by kernel_rfl) rfl (fun _ _ _ h => h) (Or.inl ⟨by kernel_rfl, ?_⟩) (by assumption) ?_; rotate_left
        · (intro w hSw; (try dsimp only at hSw); first | (go_simp; done) | (go_simp; with_reducible rfl))
        (try simp only [Act.put, List.setIfInBounds_toArray, List.set_cons_zero, List.set_cons_succ])
        refine takeH (i := 22) (v := ?_) (d := (some 59)) rfl (by kernel_rfl) (by kernel_rfl) (by kernel_rfl) rfl (fun _ _ _ h => h) (Or.inl ⟨by kernel_rfl, ?_⟩) (by assumption) ?_; rotate_left
        · (intro w hSw; (try dsimp only at hSw); first | (go_simp; done) | (go_simp; with_reducible rfl))
        (try simp only [Act.put, List.setIfInBounds_toArray, List.set_cons_zero, List.set_cons_succ])
        refine takeH (i := 23) (v := ?_) (d := (some 60)) rfl (by kernel_rfl) (by kernel_rfl) (by kernel_rfl) rfl (fun _ _ _ h => h) (Or.inl ⟨by kernel_rfl, ?_⟩) (by assumption) ?_; rotate_left
        · (intro w hSw; (try dsimp only at hSw); have q0 := cell_stay HZ.out.2.1 hSw.1; first | (go_simp; done) | (go_simp; with_reducible rfl))
        (try simp only [Act.put, List.setIfInBounds_toArray, List.set_cons_zero, List.set_cons_succ])
        refine takeH (i := 24) (v := ?_) (d := (some 61)) rfl (by kernel_rfl) (by kernel_rfl) (by kernel_rfl) rfl (fun _ _ _ h => h) (Or.inl ⟨by kernel_rfl, ?_⟩) (by assumption) ?_; rotate_left
        · (intro w hSw; (try dsimp only at hSw); first | (go_simp; done) | (go_simp; with_reducible rfl))
        (try simp only [Act.put, List.setIfInBounds_toArray, List.set_cons_zero, List.set_cons_succ])
        refine takeH (i := 25) (v := ?_) (d := (some 62)) rfl (by kernel_rfl) (by kernel_rfl) (by kernel_rfl) rfl (fun _ _ _ h => h) (Or.inl ⟨by kernel_rfl, ?_⟩) (by assumption) ?_; rotate_left
        · (intro w hSw; (try dsimp only at hSw); first | (go_simp; done) | (go_simp; with_reducible rfl))
        (try simp only [Act.put, List.setIfInBounds_toArray, List.set_cons_zero, List.set_cons_succ])
        refine takeH (i := 26) (v := ?_) (d := (some 63)) rfl (by kernel_rfl) (by kernel_rfl) (by kernel_rfl) rfl (fun _ _ _ h => h) (Or.inl ⟨by kernel_rfl, ?_⟩) (by assumption) ?_; rotate_left
        · (intro w hSw; (try dsimp only at hSw); have q0 := cell_stay HZ.out.2.2.1 hSw.1; first | (go_simp; done) | (go_simp; with_reducible rfl))
        (try simp only [Act.put, List.setIfInBounds_toArray, List.set_cons_zero, List.set_cons_succ])
        refine takeH (i := 27) (v := ?_) (d := (some 64)) rfl (by kernel_rfl) (by kernel_rfl) (by kernel_rfl) rfl (fun _ _ _ h => h) (Or.inl ⟨by kernel_rfl, ?_⟩) (by assumption) ?_; rotate_left
        · (intro w hSw; (try dsimp only at hSw); first | (go_simp; done) | (go_simp; with_reducible rfl))
        (try simp only [Act.put, List.setIfInBounds_toArray, List.set_cons_zero, List.set_cons_succ])
        refine takeH (i := 28) (v := ?_) (d := (some 65)) rfl (by kernel_rfl) (by kernel_rfl) (by kernel_rfl) rfl (fun _ _ _ h => h) (Or.inl ⟨by kernel_rfl, ?_⟩) (by assumption) ?_; rotate_left
        · (intro w hSw; (try dsimp only at hSw); first | (go_simp; done) | (go_simp; with_reducible rfl))
        (try simp only [Act.put, List.setIfInBounds_toArray, List.set_cons_zero, List.set_cons_succ])
        refine takeH (i := 29) (v := ?_) (d := (some 66)) rfl (by kernel_rfl) (by kernel_rfl) (by kernel_rfl) rfl (fun _ _ _ h => h) (Or.inl ⟨by kernel_rfl, ?_⟩) (by assumption) ?_; rotate_left
        · (intro w hSw; (try dsimp only at hSw); have q0 := HCV.out w hSw; first | (go_simp; done) | (go_simp; with_reducible rfl))
        (try simp only [Act.put, List.setIfInBounds_toArray, List.set_cons_zero, List.set_cons_succ])
        refine takeH (i := 30) (v := ?_) (d := (some 67)) rfl (by kernel_rfl) (by kernel_rfl) (by kernel_rfl) rfl (fun _ _ _ h => h) (Or.inl ⟨by kernel_rfl, ?_⟩) (by assumption) ?_; rotate_left
        · (intro w hSw; (try dsimp only at hSw); first | (go_simp; done) | (go_simp; with_reducible rfl))
        (try simp only [Act.put, List.setIfInBounds_toArray, List.set_cons_zero, List.set_cons_succ])
        refine takeH (i := 31) (v := ?_) (d := (some 68)) rfl (by kernel_rfl) (by kernel_rfl) (by kernel_rfl) rfl (fun _ _ _ h => h) (Or.inl ⟨by kernel_rfl, ?_⟩) (by assumption) ?_; rotate_left
        · (intro w hSw; (try dsimp only at hSw); have q0 := cell_stay HZ.out.1 hSw.1; first | (go_simp; done) | (go_simp; with_reducible rfl))
        (try simp only [Act.put, List.setIfInBounds_toArray, List.set_cons_zero, List.set_cons_succ])
        refine takeH (i := 32) (v := ?_) (d := (some 69)) rfl (by kernel_rfl) (by kernel_rfl) (by kernel_rfl) rfl (fun _ _ _ h => h) (Or.inl ⟨by kernel_rfl, ?_⟩) (by assumption) ?_; rotate_left
        · (intro w hSw; (try dsimp only at hSw); first | (go_simp; done) | (go_simp; with_reducible rfl))
        (try simp only [Act.put, List.setIfInBounds_toArray, List.set_cons_zero, List.set_cons_succ])
        refine takeH (i := 33) (v := ?_) (d := (some 70)) rfl (by kernel_rfl) (by kernel_rfl) (by kernel_rfl) rfl (fun _ _ _ h => h) (Or.inl ⟨by kernel_rfl, ?_⟩) (by assumption) ?_; rotate_left
        · (intro w hSw; (try dsimp only at hSw); first | (go_simp; done) | (go_simp; with_reducible rfl))
        (try simp only [Act.put, List.setIfInBounds_toArray, List.set_cons_zero, List.set_cons_succ])
        refine wpAnyH_done (by kernel_rfl) ?_ _
        have HUx : Hid (Up w5.heap.size w5 x0) := HUz.out.stay hHeld.1
        have g0 := cell_stay HZ.out.1 hHeld.1
        have g1 := cell_stay HZ.out.2.1 hHeld.1
        have g2 := cell_stay HZ.out.2.2.1 hHeld.1
        have cR := Tns.runes_any tt x0 (by omega) (Tns.tabs_stay HT2.out (HB5.out.trans (HUx.out.1.mono HB5.out.size)))
        have HPI : Hid (pp.1 < pp.2 ∧ pp.2 ≤ k) := ⟨q1, q2⟩
        clear hHeld HUz HZ HCV q1 q2 x1 x2 x3 f1 f1' f1'' f2 f4 f5 f6 f7 f8 f10 f11
        go_wp2_with fail
        refine cR.mono ?_
        rintro ev w6 ⟨k', v6, rfl, he', hr6, hb6⟩
        obtain rfl : k' = pp.2 - pp.1 := he'.one (by rw [← HT6.out]; exact HEN.out)
        have hkp : 0 < pp.2 - pp.1 := by have := HPI.out; omega
        obtain ⟨A7, C7, rfl⟩ := own_frm hr6
        obtain ⟨b7, rfl, -, -⟩ := own_at hr6 hkp
        have HR7 : Hid (∀ i, i < pp.2 - pp.1 → w6.cell? ⟨b7, i, none⟩ = some (.int .i32 (RU U (pp.1 + i)))) := fun i hi => by
          have h1 := hr6.cellAt i (by simp; exact hi)
          rw [h1]
          have h2 := part_rn (c := cL X) (n := n) HPM.out hi
          rw [HT6.out] at h2
          rw [← h2]
          simp [Tns.rcells, List.getElem?_range hi]
        have HU6 : Hid (Up w5.heap.size w5 w6) := HUx.out.stay hb6
        obtain ⟨d, hd⟩ : ∃ d, pp.2 - pp.1 = d := ⟨_, rfl⟩
        have HDD : Hid (pp.2 - pp.1 = d) := hd
        have hd5 : d ≤ 540 := by have := HPI.out; omega
        have HFT : Hid (∀ i, i < d → Fit (RU U (pp.1 + i)) ∧ (lB (RU U (pp.1 + i)) = true ∨ RU U (pp.1 + i) = 39)) := fun i hi => by
          have h1 := (pts_in HPM.out).2.2 (pp.1 + i) (by omega) (by have := HDD.out; omega)
          exact ⟨ok_fit (inn_ok h1), inn_or h1⟩
        rw [hd] at HR7 ⊢
        clear cR hr6 hb6 he' g0 g1 g2 HUx hd hkp HEN
        go_wp2
        go_loopg [82] d (fun q iv wr2 => ∃ i : Nat, i ≤ d ∧ q = d - i ∧ iv = .int .i64 (i : Int) ∧ wr2 = w6)
        case atStart => exact ⟨0, Nat.zero_le _, rfl, rfl, rfl⟩
        case round =>
          obtain ⟨i, hi, hqi, rfl, rfl⟩ := hrel
          by_cases hid : i < d
          · have r0 : (0 : Int) ≤ (i : Int) := by omega
            have r1 : (i : Int) < (d : Int) := by omega
            have r2 := HR7.out i hid
            obtain ⟨hF1, hF2⟩ := HFT.out i hid
            obtain ⟨r, hr⟩ : ∃ r, RU U (pp.1 + i) = r := ⟨_, rfl⟩
            rw [hr] at r2 hF1 hF2
            have cL := letter_any r hF1 wr
            cases hlb : lB r
            · rw [hlb] at cL hF2
              obtain rfl : r = 39 := hF2.resolve_left Bool.false_ne_true
              clear hF1 hF2 hlb hr
              go_wp2_with fail
              refine cL.mono ?_
              rintro ev w7 ⟨rfl, hw7⟩
              subst w7
              clear cL
              go_wp2
              go_roundg (d - (i + 1))
              case measure => omega
              case rel => exact ⟨i + 1, by omega, rfl, by go_num, rfl⟩
            · rw [hlb] at cL
              clear hF1 hF2 hlb hr
              go_wp2_with fail
              refine cL.mono ?_
              rintro ev w7 ⟨rfl, hw7⟩
              subst w7
              clear cL
              go_wp2
              go_roundg (d - (i + 1))
              case measure => omega
              case rel => exact ⟨i + 1, by omega, rfl, by go_num, rfl⟩
          · have r1 : ¬ (i : Int) < (d : Int) := by omega
            go_wp2
            go_roundg (m - (j + 1))
            case measure => omega
            case rel => exact ⟨j + 1, E, by omega, rfl, by go_num, rfl, hEn, HZ8, HU6⟩
      · have y1 : ¬ (j : Int) < (m : Int) := by omega
        have HUa : Hid (Up w5.heap.size w5 wr) := HU
        clear HZ9 HU
        go_wp2
        go_loopg [13, 97] k (fun gg jv qv wr2 => ∃ (q iw : Nat), q ≤ k ∧ iw ≤ m ∧ gg = k - q ∧ qv = .int .i64 (q : Int) ∧ jv = .int .i64 (iw : Int) ∧ Hid (∀ i p, i < iw → PT[i]? = some p → p.2 ≤ q) ∧ Hid (Up w5.heap.size w5 wr2))
        case atStart => exact ⟨0, 0, Nat.zero_le _, Nat.zero_le _, rfl, rfl, rfl, fun i p h => absurd h (Nat.not_lt_zero _), HUa⟩
        case round =>
          clear HUa
          obtain ⟨q, iw, hq, hiw, hgg2, rfl, rfl, HI, HU⟩ := hrel
          by_cases hqk : q < k
          · have r0 : (0 : Int) ≤ (q : Int) := by omega
            have r1 : (q : Int) < (k : Int) := by omega
            have hux := unS_at (strOfNums (cl (cL X) n)) k q hqk
            rw [HUU.out] at hux
            obtain ⟨A8, C8, eA, -, hA8⟩ := HU5.out.stay HU.out.1
            injection eA with eA eN eC
            subst eA eC
            clear eN
            obtain ⟨b8, o8, rfl, -, c1, c2, c3⟩ := hA8 q _ hux
            have hRU := RU_at hux
            dsimp only at c1 c2 c3 hRU
            have hfit := HUF.out _ (List.mem_of_getElem? hux)
            dsimp only at hfit
            obtain ⟨r, hr⟩ : ∃ z, rn (strOfNums (cl (cL X) n)) (pos (strOfNums (cl (cL X) n)) q) = z := ⟨_, rfl⟩
            obtain ⟨P, hP⟩ : ∃ z, pos (strOfNums (cl (cL X) n)) q = z := ⟨_, rfl⟩
            obtain ⟨wq, hwq⟩ : ∃ z, wd (strOfNums (cl (cL X) n)) P = z := ⟨_, rfl⟩
            have HPP : Hid (pos (strOfNums (cl (cL X) n)) q = P) := hP
            rw [hr] at c1 hRU hfit
            rw [hP] at c2 c3
            rw [hwq] at c3
            have HRU : Hid (RU U q = r) := hRU
            have hPn := HPN.out q (by omega)
            rw [hP] at hPn
            obtain ⟨wz, hwz⟩ : ∃ x, wr.alloc (.cells #[.int .i32 r, .int .i64 (P : Int), .int .i64 (wq : Int)] 56) = x := ⟨_, rfl⟩
            have hz : wz.heap[wr.heap.size]? = some (.cells #[.int .i32 r, .int .i64 (P : Int), .int .i64 (wq : Int)] 56) := by rw [← hwz]; exact heap_alloc_new _ _
            have hbz : Below wr.heap.size wr wz := by rw [← hwz]; exact below_alloc wr _
            obtain ⟨D3, hD3⟩ : ∃ z, wr.heap.size = z := ⟨_, rfl⟩
            have HZ : Hid (wz.cell? ⟨D3, 0, none⟩ = some (.int .i32 r) ∧ wz.cell? ⟨D3, 1, none⟩ = some (.int .i64 (P : Int))) := by
              rw [← hD3]
              exact ⟨by simp [World.cell?, hz], by simp [World.cell?, hz]⟩
            have HUz : Hid (Up w5.heap.size w5 wz) := HU.out.stay hbz
            clear hux hA8 hRU hr hP hwq hz hbz HU
            go_upto_region 26 with fail
            (try rw [hwz])
            clear c1 c2 c3 hwz
            go_loopg [13] (m - iw) (fun gg jv wr2 => ∃ i2 : Nat, i2 ≤ m ∧ gg = m - i2 ∧ jv = .int .i64 (i2 : Int) ∧ Hid (∀ i p, i < i2 → PT[i]? = some p → p.2 ≤ q) ∧ Hid (Up wz.heap.size wz wr2))
            case atStart => exact ⟨iw, hiw, rfl, rfl, HI, Up.refl _⟩
            case round =>
              obtain ⟨i2, hi2, hg2, rfl, HI2, HUr⟩ := hrel
              clear HI hiw
              have HU9 : Hid (Up w5.heap.size w5 wr) := HUz.out.stay HUr.out.1
              have d1 := cell_stay HZ.out.1 HUr.out.1
              have d2 := cell_stay HZ.out.2 HUr.out.1
              by_cases him : i2 < m
              · have s0 : (0 : Int) ≤ (i2 : Int) := by omega
                have s1 : (i2 : Int) < (m : Int) := by omega
                obtain ⟨pp, hpp⟩ : ∃ z, PT[i2]? = some z := ⟨_, List.getElem?_eq_getElem (by rw [HM.out]; exact him)⟩
                have hpm : pp ∈ ptsL (RU U) (runsL (RU U) U.length 0) := by rw [HPT.out]; exact List.mem_of_getElem? hpp
                obtain ⟨q1, q2, q3, q4, q5, q6⟩ := word_at HX.out.2.1 HE.out HUU.out hpm
                have HPM : Hid (pp ∈ ptsL (RU U) (runsL (RU U) U.length 0) ∧ PT[i2]? = some pp ∧ pp.1 < pp.2 ∧ pp.2 ≤ k) := ⟨hpm, hpp, q1, q2⟩
                have hAE := pos_lt2 HE.out q1 q2
                have hEn := HPN.out pp.2 q2
                obtain ⟨A9, C9, eA, -, hA⟩ := HW5.out.stay HU9.out.1
                injection eA with eA eN eC
                subst eA eC
                clear eN
                obtain ⟨b6, o6, rfl, hbl, a1, a2, a3, a4⟩ := hA i2 (wOf (cL X) n U pp) (by rw [List.getElem?_map, hpp]; rfl)
                rw [q3] at a2
                rw [q4] at a3
                obtain ⟨A, hAd⟩ : ∃ z, pos (strOfNums (cl (cL X) n)) pp.1 = z := ⟨_, rfl⟩
                obtain ⟨E, hEd⟩ : ∃ z, pos (strOfNums (cl (cL X) n)) pp.2 = z := ⟨_, rfl⟩
                have HAE : Hid (pos (strOfNums (cl (cL X) n)) pp.1 = A ∧ pos (strOfNums (cl (cL X) n)) pp.2 = E) := ⟨hAd, hEd⟩
                rw [hAd] at a2 a3 hAE
                rw [hEd] at a3 hAE hEn
                obtain ⟨M, hEM⟩ : ∃ M, E - A = M := ⟨_, rfl⟩
                rw [hEM] at a3
                have f3 : (A : Int) + (M : Int) = (E : Int) := by omega
                have f9 : IntKind.i64.wrap (E : Int) = (E : Int) := IntWalk.i64_in _ (by omega)
                clear q1 q2 q3 q4 q5 q6 hpm hpp hA hbl a1 a4 hAd hEd hEM
                have HEQ : Hid (E ≤ P ↔ pp.2 ≤ q) := by
                  show _ ↔ _
                  have h1 := HPM.out.2.2
                  have h2 := HAE.out.2
                  have h3 := HPP.out
                  constructor
                  · intro h4
                    rcases Nat.lt_or_ge q pp.2 with h5 | h5
                    · have := pos_lt2 HE.out h5 h1.2
                      omega
                    · exact h5
                  · intro h4
                    have := HPS.out _ _ h4 (by omega)
                    omega
                have HAQ : Hid (A ≤ P ↔ pp.1 ≤ q) := by
                  show _ ↔ _
                  have h1 := HPM.out.2.2
                  have h2 := HAE.out.1
                  have h3 := HPP.out
                  constructor
                  · intro h4
                    rcases Nat.lt_or_ge q pp.1 with h5 | h5
                    · have := pos_lt2 HE.out h5 (by omega : pp.1 ≤ k)
                      omega
                    · exact h5
                  · intro h4
                    have := HPS.out _ _ h4 (by omega)
                    omega
                by_cases hEP : E ≤ P
                · have e1 : decide ((E : Int) ≤ (P : Int)) = true := decide_eq_true (by omega)
                  have e2 : decide (E ≤ P) = true := decide_eq_true hEP
                  go_upto_region 26 with fail
                  refine wp_region_held_drew (S := fun w' => Up wr.heap.size wr w') (by kernel_rfl) (Up.drew (Up.refl wr)) (fun hHeld => ?_)
                  (try dsimp only at hHeld)
                  obtain ⟨x0, hx0⟩ : ∃ x0, wr.drew = x0 := ⟨_, rfl⟩
                  rw [hx0] at hHeld ⊢
                  clear hx0
                  refine takeH (i := 0) (v := ?_) (d := (some 101)) rfl (by kernel_rfl) (by kernel_rfl) (by kernel_rfl) rfl (fun _ _ _ h => h) (Or.inl ⟨by kernel_rfl, ?_⟩) (by assumption) ?_; rotate_left
                  · (intro w hSw; (try dsimp only at hSw); first | (go_simp; done) | (go_simp; with_reducible rfl))
                  (try simp only [Act.put, List.setIfInBounds_toArray, List.set_cons_zero, List.set_cons_succ])
                  refine takeH (i := 1) (v := ?_) (d := (some 102)) rfl (by kernel_rfl) (by kernel_rfl) (by kernel_rfl) rfl (fun _ _ _ h => h) (Or.inl ⟨by kernel_rfl, ?_⟩) (by assumption) ?_; rotate_left
                  · (intro w hSw; (try dsimp only at hSw); first | (go_simp; done) | (go_simp; with_reducible rfl))
                  (try simp only [Act.put, List.setIfInBounds_toArray, List.set_cons_zero, List.set_cons_succ])
                  refine takeH (i := 2) (v := ?_) (d := (some 103)) rfl (by kernel_rfl) (by kernel_rfl) (by kernel_rfl) rfl (fun _ _ _ h => h) (Or.inl ⟨by kernel_rfl, ?_⟩) (by assumption) ?_; rotate_left
                  · (intro w hSw; (try dsimp only at hSw); first | (go_simp; done) | (go_simp; with_reducible rfl))
                  (try simp only [Act.put, List.setIfInBounds_toArray, List.set_cons_zero, List.set_cons_succ])
                  refine takeH (i := 3) (v := ?_) (d := (some 104)) rfl (by kernel_rfl) (by kernel_rfl) (by kernel_rfl) rfl (fun _ _ _ h => h) (Or.inl ⟨by kernel_rfl, ?_⟩) (by assumption) ?_; rotate_left
                  · (intro w hSw; (try dsimp only at hSw); first | (go_simp; done) | (go_simp; with_reducible rfl))
                  (try simp only [Act.put, List.setIfInBounds_toArray, List.set_cons_zero, List.set_cons_succ])
                  refine takeH (i := 4) (v := ?_) (d := (some 105)) rfl (by kernel_rfl) (by kernel_rfl) (by kernel_rfl) rfl (fun _ _ _ h => h) (Or.inl ⟨by kernel_rfl, ?_⟩) (by assumption) ?_; rotate_left
                  · (intro w hSw; (try dsimp only at hSw); first | (go_simp; done) | (go_simp; with_reducible rfl))
                  (try simp only [Act.put, List.setIfInBounds_toArray, List.set_cons_zero, List.set_cons_succ])
                  refine takeH (i := 5) (v := ?_) (d := (some 106)) rfl (by kernel_rfl) (by kernel_rfl) (by kernel_rfl) rfl (fun _ _ _ h => h) (Or.inl ⟨by kernel_rfl, ?_⟩) (by assumption) ?_; rotate_left
                  · (intro w hSw; (try dsimp only at hSw); first | (go_simp; done) | (go_simp; with_reducible rfl))
                  (try simp only [Act.put, List.setIfInBounds_toArray, List.set_cons_zero, List.set_cons_succ])
                  refine takeH (i := 6) (v := ?_) (d := (some 107)) rfl (by kernel_rfl) (by kernel_rfl) (by kernel_rfl) rfl (fun _ _ _ h => h) (Or.inl ⟨by kernel_rfl, ?_⟩) (by assumption) ?_; rotate_left
                  · (intro w hSw; (try dsimp only at hSw); first | (go_simp; done) | (go_simp; with_reducible rfl))
                  (try simp only [Act.put, List.setIfInBounds_toArray, List.set_cons_zero, List.set_cons_succ])
                  refine takeH (i := 7) (v := ?_) (d := (some 108)) rfl (by kernel_rfl) (by kernel_rfl) (by kernel_rfl) rfl (fun _ _ _ h => h) (Or.inl ⟨by kernel_rfl, ?_⟩) (by assumption) ?_; rotate_left
                  · (intro w hSw; (try dsimp only at hSw); first | (go_simp; done) | (go_simp; with_reducible rfl))
                  (try simp only [Act.put, List.setIfInBounds_toArray, List.set_cons_zero, List.set_cons_succ])
                  refine takeH (i := 8) (v := ?_) (d := (some 109)) rfl (by kernel_rfl) (by kernel_rfl) (by kernel_rfl) rfl (fun _ _ _ h => h) (Or.inl ⟨by kernel_rfl, ?_⟩) (by assumption) ?_; rotate_left
                  · (intro w hSw; (try dsimp only at hSw); first | (go_simp; done) | (go_simp; with_reducible rfl))
                  (try simp only [Act.put, List.setIfInBounds_toArray, List.set_cons_zero, List.set_cons_succ])
                  refine takeH (i := 9) (v := ?_) (d := (some 110)) rfl (by kernel_rfl) (by kernel_rfl) (by kernel_rfl) rfl (fun _ _ _ h => h) (Or.inl ⟨by kernel_rfl, ?_⟩) (by assumption) ?_; rotate_left
                  · (intro w hSw; (try dsimp only at hSw); first | (go_simp; done) | (go_simp; with_reducible rfl))
                  (try simp only [Act.put, List.setIfInBounds_toArray, List.set_cons_zero, List.set_cons_succ])
                  refine takeH (i := 10) (v := ?_) (d := (some 111)) rfl (by kernel_rfl) (by kernel_rfl) (by kernel_rfl) rfl (fun _ _ _ h => h) (Or.inl ⟨by kernel_rfl, ?_⟩) (by assumption) ?_; rotate_left
                  · (intro w hSw; (try dsimp only at hSw); have q0 := cell_stay a2 hSw.1; first | (go_simp; done) | (go_simp; with_reducible rfl))
                  (try simp only [Act.put, List.setIfInBounds_toArray, List.set_cons_zero, List.set_cons_succ])
                  refine takeH (i := 11) (v := ?_) (d := (some 112)) rfl (by kernel_rfl) (by kernel_rfl) (by kernel_rfl) rfl (fun _ _ _ h => h) (Or.inl ⟨by kernel_rfl, ?_⟩) (by assumption) ?_; rotate_left
                  · (intro w hSw; (try dsimp only at hSw); first | (go_simp; done) | (go_simp; with_reducible rfl))
                  (try simp only [Act.put, List.setIfInBounds_toArray, List.set_cons_zero, List.set_cons_succ])
                  refine takeH (i := 12) (v := ?_) (d := (some 113)) rfl (by kernel_rfl) (by kernel_rfl) (by kernel_rfl) rfl (fun _ _ _ h => h) (Or.inl ⟨by kernel_rfl, ?_⟩) (by assumption) ?_; rotate_left
                  · (intro w hSw; (try dsimp only at hSw); first | (go_simp; done) | (go_simp; with_reducible rfl))
                  (try simp only [Act.put, List.setIfInBounds_toArray, List.set_cons_zero, List.set_cons_succ])
                  refine takeH (i := 13) (v := ?_) (d := (some 114)) rfl (by kernel_rfl) (by kernel_rfl) (by kernel_rfl) rfl (fun _ _ _ h => h) (Or.inl ⟨by kernel_rfl, ?_⟩) (by assumption) ?_; rotate_left
                  · (intro w hSw; (try dsimp only at hSw); first | (go_simp; done) | (go_simp; with_reducible rfl))
                  (try simp only [Act.put, List.setIfInBounds_toArray, List.set_cons_zero, List.set_cons_succ])
                  refine takeH (i := 14) (v := ?_) (d := (some 115)) rfl (by kernel_rfl) (by kernel_rfl) (by kernel_rfl) rfl (fun _ _ _ h => h) (Or.inl ⟨by kernel_rfl, ?_⟩) (by assumption) ?_; rotate_left
                  · (intro w hSw; (try dsimp only at hSw); first | (go_simp; done) | (go_simp; with_reducible rfl))
                  (try simp only [Act.put, List.setIfInBounds_toArray, List.set_cons_zero, List.set_cons_succ])
                  refine takeH (i := 15) (v := ?_) (d := (some 116)) rfl (by kernel_rfl) (by kernel_rfl) (by kernel_rfl) rfl (fun _ _ _ h => h) (Or.inl ⟨by kernel_rfl, ?_⟩) (by assumption) ?_; rotate_left
                  · (intro w hSw; (try dsimp only at hSw); first | (go_simp; done) | (go_simp; with_reducible rfl))
                  (try simp only [Act.put, List.setIfInBounds_toArray, List.set_cons_zero, List.set_cons_succ])
                  refine takeH (i := 16) (v := ?_) (d := (some 117)) rfl (by kernel_rfl) (by kernel_rfl) (by kernel_rfl) rfl (fun _ _ _ h => h) (Or.inl ⟨by kernel_rfl, ?_⟩) (by assumption) ?_; rotate_left
                  · (intro w hSw; (try dsimp only at hSw); have q0 := cell_stay a3 hSw.1; first | (go_simp; done) | (go_simp; with_reducible rfl))
                  (try simp only [Act.put, List.setIfInBounds_toArray, List.set_cons_zero, List.set_cons_succ])
                  refine takeH (i := 17) (v := ?_) (d := (some 118)) rfl (by kernel_rfl) (by kernel_rfl) (by kernel_rfl) rfl (fun _ _ _ h => h) (Or.inl ⟨by kernel_rfl, ?_⟩) (by assumption) ?_; rotate_left
                  · (intro w hSw; (try dsimp only at hSw); first | (go_simp; done) | (go_simp; with_reducible rfl))
                  (try simp only [Act.put, List.setIfInBounds_toArray, List.set_cons_zero, List.set_cons_succ])
                  refine takeH (i := 18) (v := ?_) (d := (some 119)) rfl (by kernel_rfl) (by kernel_rfl) (by kernel_rfl) rfl (fun _ _ _ h => h) (Or.inl ⟨by kernel_rfl, ?_⟩) (by assumption) ?_; rotate_left
                  · (intro w hSw; (try dsimp only at hSw); first | (go_simp; done) | (go_simp; with_reducible rfl))
                  (try simp only [Act.put, List.setIfInBounds_toArray, List.set_cons_zero, List.set_cons_succ])
                  refine takeH (i := 19) (v := ?_) (d := (some 120)) rfl (by kernel_rfl) (by kernel_rfl) (by kernel_rfl) rfl (fun _ _ _ h => h) (Or.inl ⟨by kernel_rfl, ?_⟩) (by assumption) ?_; rotate_left
                  · (intro w hSw; (try dsimp only at hSw); first | (go_simp; done) | (go_simp; with_reducible rfl))
                  (try simp only [Act.put, List.setIfInBounds_toArray, List.set_cons_zero, List.set_cons_succ])
                  refine takeH (i := 20) (v := ?_) (d := (some 121)) rfl (by kernel_rfl) (by kernel_rfl) (by kernel_rfl) rfl (fun _ _ _ h => h) (Or.inl ⟨by kernel_rfl, ?_⟩) (by assumption) ?_; rotate_left
                  · (intro w hSw; (try dsimp only at hSw); have q0 := cell_stay d2 hSw.1; first | (go_simp; done) | (go_simp; with_reducible rfl))
                  (try simp only [Act.put, List.setIfInBounds_toArray, List.set_cons_zero, List.set_cons_succ])
                  refine takeH (i := 21) (v := ?_) (d := (some 122)) rfl (by kernel_rfl) (by kernel_rfl) (by kernel_rfl) rfl (fun _ _ _ h => h) (Or.inl ⟨by kernel_rfl, ?_⟩) (by assumption) ?_; rotate_left
                  · (intro w hSw; (try dsimp only at hSw); first | (go_simp; done) | (go_simp; with_reducible rfl))
                  (try simp only [Act.put, List.setIfInBounds_toArray, List.set_cons_zero, List.set_cons_succ])
                  refine takeH (i := 22) (v := ?_) (d := (some 123)) rfl (by kernel_rfl) (by kernel_rfl) (by kernel_rfl) rfl (fun _ _ _ h => h) (Or.inl ⟨by kernel_rfl, ?_⟩) (by assumption) ?_; rotate_left
                  · (intro w hSw; (try dsimp only at hSw); first | (go_simp; done) | (go_simp; with_reducible rfl))
                  (try simp only [Act.put, List.setIfInBounds_toArray, List.set_cons_zero, List.set_cons_succ])
                  refine wpAnyH_done (by kernel_rfl) ?_ _
                  have HUc : Hid (Up wr.heap.size wr x0) := hHeld
                  have a2 := cell_stay a2 HUc.out.1
                  have a3 := cell_stay a3 HUc.out.1
                  have d1 := cell_stay d1 HUc.out.1
                  have d2 := cell_stay d2 HUc.out.1
                  clear hHeld
                  have HUe : Hid (Up wz.heap.size wz x0) := HUr.out.stay HUc.out.1
                  have HI3 : Hid (∀ i p, i < i2 + 1 → PT[i]? = some p → p.2 ≤ q) := fun i p h1 h2 => by
                    rcases Nat.lt_or_ge i i2 with h3 | h3
                    · exact HI2.out i p h3 h2
                    · obtain rfl : i = i2 := by omega
                      rw [HPM.out.2.1] at h2
                      rw [← Option.some.inj h2]
                      exact HEQ.out.1 hEP
                  clear HI2 a2 a3 d1 d2
                  go_wp2
                  go_roundg (m - (i2 + 1))
                  case measure => omega
                  case rel => exact ⟨i2 + 1, by omega, rfl, by go_num, HI3, HUe⟩
                · have e1 : decide ((E : Int) ≤ (P : Int)) = false := decide_eq_false (by omega)
                  have e2 : decide (E ≤ P) = false := decide_eq_false hEP
                  have e5 : (E ≤ P) = False := eq_false hEP
                  have cL := fun w' => letter_any r hfit w'
                  obtain ⟨lb, hlb⟩ : ∃ z, lB r = z := ⟨_, rfl⟩
                  have HLB : Hid (lB r = lb) := hlb
                  rw [hlb] at cL
                  clear hlb
                  go_upto_region 26 with fail
                  refine wp_region_held_drew (S := fun w' => Up wr.heap.size wr w') (by kernel_rfl) (Up.drew (Up.refl wr)) (fun hHeld => ?_)
                  (try dsimp only at hHeld)
                  obtain ⟨x0, hx0⟩ : ∃ x0, wr.drew = x0 := ⟨_, rfl⟩
                  rw [hx0] at hHeld ⊢
                  clear hx0
                  refine takeH (i := 0) (v := ?_) (d := (some 101)) rfl (by kernel_rfl) (by kernel_rfl) (by kernel_rfl) rfl (fun _ _ _ h => h) (Or.inl ⟨by kernel_rfl, ?_⟩) (by assumption) ?_; rotate_left
                  · (intro w hSw; (try dsimp only at hSw); first | (go_simp; done) | (go_simp; with_reducible rfl))
                  (try simp only [Act.put, List.setIfInBounds_toArray, List.set_cons_zero, List.set_cons_succ])
                  refine takeH (i := 1) (v := ?_) (d := (some 102)) rfl (by kernel_rfl) (by kernel_rfl) (by kernel_rfl) rfl (fun _ _ _ h => h) (Or.inl ⟨by kernel_rfl, ?_⟩) (by assumption) ?_; rotate_left
                  · (intro w hSw; (try dsimp only at hSw); first | (go_simp; done) | (go_simp; with_reducible rfl))
                  (try simp only [Act.put, List.setIfInBounds_toArray, List.set_cons_zero, List.set_cons_succ])
                  refine takeH (i := 2) (v := ?_) (d := (some 103)) rfl (by kernel_rfl) (by kernel_rfl) (by kernel_rfl) rfl (fun _ _ _ h => h) (Or.inl ⟨by kernel_rfl, ?_⟩) (by assumption) ?_; rotate_left
                  · (intro w hSw; (try dsimp only at hSw); first | (go_simp; done) | (go_simp; with_reducible rfl))
                  (try simp only [Act.put, List.setIfInBounds_toArray, List.set_cons_zero, List.set_cons_succ])
                  refine takeH (i := 3) (v := ?_) (d := (some 104)) rfl (by kernel_rfl) (by kernel_rfl) (by kernel_rfl) rfl (fun _ _ _ h => h) (Or.inl ⟨by kernel_rfl, ?_⟩) (by assumption) ?_; rotate_left
                  · (intro w hSw; (try dsimp only at hSw); first | (go_simp; done) | (go_simp; with_reducible rfl))
                  (try simp only [Act.put, List.setIfInBounds_toArray, List.set_cons_zero, List.set_cons_succ])
                  refine takeH (i := 4) (v := ?_) (d := (some 105)) rfl (by kernel_rfl) (by kernel_rfl) (by kernel_rfl) rfl (fun _ _ _ h => h) (Or.inl ⟨by kernel_rfl, ?_⟩) (by assumption) ?_; rotate_left
                  · (intro w hSw; (try dsimp only at hSw); first | (go_simp; done) | (go_simp; with_reducible rfl))
                  (try simp only [Act.put, List.setIfInBounds_toArray, List.set_cons_zero, List.set_cons_succ])
                  refine takeH (i := 5) (v := ?_) (d := (some 106)) rfl (by kernel_rfl) (by kernel_rfl) (by kernel_rfl) rfl (fun _ _ _ h => h) (Or.inl ⟨by kernel_rfl, ?_⟩) (by assumption) ?_; rotate_left
                  · (intro w hSw; (try dsimp only at hSw); first | (go_simp; done) | (go_simp; with_reducible rfl))
                  (try simp only [Act.put, List.setIfInBounds_toArray, List.set_cons_zero, List.set_cons_succ])
                  refine takeH (i := 6) (v := ?_) (d := (some 107)) rfl (by kernel_rfl) (by kernel_rfl) (by kernel_rfl) rfl (fun _ _ _ h => h) (Or.inl ⟨by kernel_rfl, ?_⟩) (by assumption) ?_; rotate_left
                  · (intro w hSw; (try dsimp only at hSw); first | (go_simp; done) | (go_simp; with_reducible rfl))
                  (try simp only [Act.put, List.setIfInBounds_toArray, List.set_cons_zero, List.set_cons_succ])
                  refine takeH (i := 7) (v := ?_) (d := (some 108)) rfl (by kernel_rfl) (by kernel_rfl) (by kernel_rfl) rfl (fun _ _ _ h => h) (Or.inl ⟨by kernel_rfl, ?_⟩) (by assumption) ?_; rotate_left
                  · (intro w hSw; (try dsimp only at hSw); first | (go_simp; done) | (go_simp; with_reducible rfl))
                  (try simp only [Act.put, List.setIfInBounds_toArray, List.set_cons_zero, List.set_cons_succ])
                  refine takeH (i := 8) (v := ?_) (d := (some 109)) rfl (by kernel_rfl) (by kernel_rfl) (by kernel_rfl) rfl (fun _ _ _ h => h) (Or.inl ⟨by kernel_rfl, ?_⟩) (by assumption) ?_; rotate_left
                  · (intro w hSw; (try dsimp only at hSw); first | (go_simp; done) | (go_simp; with_reducible rfl))
                  (try simp only [Act.put, List.setIfInBounds_toArray, List.set_cons_zero, List.set_cons_succ])
                  refine takeH (i := 9) (v := ?_) (d := (some 110)) rfl (by kernel_rfl) (by kernel_rfl) (by kernel_rfl) rfl (fun _ _ _ h => h) (Or.inl ⟨by kernel_rfl, ?_⟩) (by assumption) ?_; rotate_left
                  · (intro w hSw; (try dsimp only at hSw); first | (go_simp; done) | (go_simp; with_reducible rfl))
                  (try simp only [Act.put, List.setIfInBounds_toArray, List.set_cons_zero, List.set_cons_succ])
                  refine takeH (i := 10) (v := ?_) (d := (some 111)) rfl (by kernel_rfl) (by kernel_rfl) (by kernel_rfl) rfl (fun _ _ _ h => h) (Or.inl ⟨by kernel_rfl, ?_⟩) (by assumption) ?_; rotate_left
                  · (intro w hSw; (try dsimp only at hSw); have q0 := cell_stay a2 hSw.1; first | (go_simp; done) | (go_simp; with_reducible rfl))
                  (try simp only [Act.put, List.setIfInBounds_toArray, List.set_cons_zero, List.set_cons_succ])
                  refine takeH (i := 11) (v := ?_) (d := (some 112)) rfl (by kernel_rfl) (by kernel_rfl) (by kernel_rfl) rfl (fun _ _ _ h => h) (Or.inl ⟨by kernel_rfl, ?_⟩) (by assumption) ?_; rotate_left
                  · (intro w hSw; (try dsimp only at hSw); first | (go_simp; done) | (go_simp; with_reducible rfl))
                  (try simp only [Act.put, List.setIfInBounds_toArray, List.set_cons_zero, List.set_cons_succ])
                  refine takeH (i := 12) (v := ?_) (d := (some 113)) rfl (by kernel_rfl) (by kernel_rfl) (by kernel_rfl) rfl (fun _ _ _ h => h) (Or.inl ⟨by kernel_rfl, ?_⟩) (by assumption) ?_; rotate_left
                  · (intro w hSw; (try dsimp only at hSw); first | (go_simp; done) | (go_simp; with_reducible rfl))
                  (try simp only [Act.put, List.setIfInBounds_toArray, List.set_cons_zero, List.set_cons_succ])
                  refine takeH (i := 13) (v := ?_) (d := (some 114)) rfl (by kernel_rfl) (by kernel_rfl) (by kernel_rfl) rfl (fun _ _ _ h => h) (Or.inl ⟨by kernel_rfl, ?_⟩) (by assumption) ?_; rotate_left
                  · (intro w hSw; (try dsimp only at hSw); first | (go_simp; done) | (go_simp; with_reducible rfl))
                  (try simp only [Act.put, List.setIfInBounds_toArray, List.set_cons_zero, List.set_cons_succ])
                  refine takeH (i := 14) (v := ?_) (d := (some 115)) rfl (by kernel_rfl) (by kernel_rfl) (by kernel_rfl) rfl (fun _ _ _ h => h) (Or.inl ⟨by kernel_rfl, ?_⟩) (by assumption) ?_; rotate_left
                  · (intro w hSw; (try dsimp only at hSw); first | (go_simp; done) | (go_simp; with_reducible rfl))
                  (try simp only [Act.put, List.setIfInBounds_toArray, List.set_cons_zero, List.set_cons_succ])
                  refine takeH (i := 15) (v := ?_) (d := (some 116)) rfl (by kernel_rfl) (by kernel_rfl) (by kernel_rfl) rfl (fun _ _ _ h => h) (Or.inl ⟨by kernel_rfl, ?_⟩) (by assumption) ?_; rotate_left
                  · (intro w hSw; (try dsimp only at hSw); first | (go_simp; done) | (go_simp; with_reducible rfl))
                  (try simp only [Act.put, List.setIfInBounds_toArray, List.set_cons_zero, List.set_cons_succ])
                  refine takeH (i := 16) (v := ?_) (d := (some 117)) rfl (by kernel_rfl) (by kernel_rfl) (by kernel_rfl) rfl (fun _ _ _ h => h) (Or.inl ⟨by kernel_rfl, ?_⟩) (by assumption) ?_; rotate_left
                  · (intro w hSw; (try dsimp only at hSw); have q0 := cell_stay a3 hSw.1; first | (go_simp; done) | (go_simp; with_reducible rfl))
                  (try simp only [Act.put, List.setIfInBounds_toArray, List.set_cons_zero, List.set_cons_succ])
                  refine takeH (i := 17) (v := ?_) (d := (some 118)) rfl (by kernel_rfl) (by kernel_rfl) (by kernel_rfl) rfl (fun _ _ _ h => h) (Or.inl ⟨by kernel_rfl, ?_⟩) (by assumption) ?_; rotate_left
                  · (intro w hSw; (try dsimp only at hSw); first | (go_simp; done) | (go_simp; with_reducible rfl))
                  (try simp only [Act.put, List.setIfInBounds_toArray, List.set_cons_zero, List.set_cons_succ])
                  refine takeH (i := 18) (v := ?_) (d := (some 119)) rfl (by kernel_rfl) (by kernel_rfl) (by kernel_rfl) rfl (fun _ _ _ h => h) (Or.inl ⟨by kernel_rfl, ?_⟩) (by assumption) ?_; rotate_left
                  · (intro w hSw; (try dsimp only at hSw); first | (go_simp; done) | (go_simp; with_reducible rfl))
                  (try simp only [Act.put, List.setIfInBounds_toArray, List.set_cons_zero, List.set_cons_succ])
                  refine takeH (i := 19) (v := ?_) (d := (some 120)) rfl (by kernel_rfl) (by kernel_rfl) (by kernel_rfl) rfl (fun _ _ _ h => h) (Or.inl ⟨by kernel_rfl, ?_⟩) (by assumption) ?_; rotate_left
                  · (intro w hSw; (try dsimp only at hSw); first | (go_simp; done) | (go_simp; with_reducible rfl))
                  (try simp only [Act.put, List.setIfInBounds_toArray, List.set_cons_zero, List.set_cons_succ])
                  refine takeH (i := 20) (v := ?_) (d := (some 121)) rfl (by kernel_rfl) (by kernel_rfl) (by kernel_rfl) rfl (fun _ _ _ h => h) (Or.inl ⟨by kernel_rfl, ?_⟩) (by assumption) ?_; rotate_left
                  · (intro w hSw; (try dsimp only at hSw); have q0 := cell_stay d2 hSw.1; first | (go_simp; done) | (go_simp; with_reducible rfl))
                  (try simp only [Act.put, List.setIfInBounds_toArray, List.set_cons_zero, List.set_cons_succ])
                  refine takeH (i := 21) (v := ?_) (d := (some 122)) rfl (by kernel_rfl) (by kernel_rfl) (by kernel_rfl) rfl (fun _ _ _ h => h) (Or.inl ⟨by kernel_rfl, ?_⟩) (by assumption) ?_; rotate_left
                  · (intro w hSw; (try dsimp only at hSw); first | (go_simp; done) | (go_simp; with_reducible rfl))
                  (try simp only [Act.put, List.setIfInBounds_toArray, List.set_cons_zero, List.set_cons_succ])
                  refine takeH (i := 22) (v := ?_) (d := (some 123)) rfl (by kernel_rfl) (by kernel_rfl) (by kernel_rfl) rfl (fun _ _ _ h => h) (Or.inl ⟨by kernel_rfl, ?_⟩) (by assumption) ?_; rotate_left
                  · (intro w hSw; (try dsimp only at hSw); first | (go_simp; done) | (go_simp; with_reducible rfl))
                  (try simp only [Act.put, List.setIfInBounds_toArray, List.set_cons_zero, List.set_cons_succ])
                  refine wpAnyH_done (by kernel_rfl) ?_ _
                  have HUc : Hid (Up wr.heap.size wr x0) := hHeld
                  have a2 := cell_stay a2 HUc.out.1
                  have a3 := cell_stay a3 HUc.out.1
                  have d1 := cell_stay d1 HUc.out.1
                  have d2 := cell_stay d2 HUc.out.1
                  clear hHeld
                  by_cases hAP : A ≤ P
                  · have e3 : decide ((A : Int) ≤ (P : Int)) = true := decide_eq_true (by omega)
                    have e4 : decide (A ≤ P) = true := decide_eq_true hAP
                    have hinn : inn (RU U) U.length q = true := by
                      have h1 := HAQ.out.1 hAP
                      have h2 : q < pp.2 := by
                        rcases Nat.lt_or_ge q pp.2 with h3 | h3
                        · exact h3
                        · exact absurd (HEQ.out.2 h3) hEP
                      exact (pts_in HPM.out.1).2.2 q h1 h2
                    have hor := inn_or hinn
                    rw [HRU.out, HLB.out] at hor
                    clear hinn
                    go_upto_region 28 with fail
                    go_upto_region 28 with fail
                    refine wp_region_held_drew (S := fun w' => Up x0.heap.size x0 w') (by kernel_rfl) (Up.drew (Up.refl x0)) (fun hHeld => ?_)
                    (try dsimp only at hHeld)
                    obtain ⟨x9, hx9⟩ : ∃ x9, x0.drew = x9 := ⟨_, rfl⟩
                    rw [hx9] at hHeld ⊢
                    clear hx9
                    refine takeH (i := 0) (v := ?_) (d := (some 126)) rfl (by kernel_rfl) (by kernel_rfl) (by kernel_rfl) rfl (fun _ _ _ h => h) (Or.inl ⟨by kernel_rfl, ?_⟩) (by assumption) ?_; rotate_left
                    · (intro w hSw; (try dsimp only at hSw); first | (go_simp; done) | (go_simp; with_reducible rfl))
                    (try simp only [Act.put, List.setIfInBounds_toArray, List.set_cons_zero, List.set_cons_succ])
                    refine takeH (i := 1) (v := ?_) (d := (some 127)) rfl (by kernel_rfl) (by kernel_rfl) (by kernel_rfl) rfl (fun _ _ _ h => h) (Or.inl ⟨by kernel_rfl, ?_⟩) (by assumption) ?_; rotate_left
                    · (intro w hSw; (try dsimp only at hSw); first | (go_simp; done) | (go_simp; with_reducible rfl))
                    (try simp only [Act.put, List.setIfInBounds_toArray, List.set_cons_zero, List.set_cons_succ])
                    refine takeH (i := 2) (v := ?_) (d := (some 128)) rfl (by kernel_rfl) (by kernel_rfl) (by kernel_rfl) rfl (fun _ _ _ h => h) (Or.inl ⟨by kernel_rfl, ?_⟩) (by assumption) ?_; rotate_left
                    · (intro w hSw; (try dsimp only at hSw); first | (go_simp; done) | (go_simp; with_reducible rfl))
                    (try simp only [Act.put, List.setIfInBounds_toArray, List.set_cons_zero, List.set_cons_succ])
                    refine takeH (i := 3) (v := ?_) (d := (some 129)) rfl (by kernel_rfl) (by kernel_rfl) (by kernel_rfl) rfl (fun _ _ _ h => h) (Or.inl ⟨by kernel_rfl, ?_⟩) (by assumption) ?_; rotate_left
                    · (intro w hSw; (try dsimp only at hSw); first | (go_simp; done) | (go_simp; with_reducible rfl))
                    (try simp only [Act.put, List.setIfInBounds_toArray, List.set_cons_zero, List.set_cons_succ])
                    refine takeH (i := 4) (v := ?_) (d := (some 130)) rfl (by kernel_rfl) (by kernel_rfl) (by kernel_rfl) rfl (fun _ _ _ h => h) (Or.inl ⟨by kernel_rfl, ?_⟩) (by assumption) ?_; rotate_left
                    · (intro w hSw; (try dsimp only at hSw); first | (go_simp; done) | (go_simp; with_reducible rfl))
                    (try simp only [Act.put, List.setIfInBounds_toArray, List.set_cons_zero, List.set_cons_succ])
                    refine takeH (i := 5) (v := ?_) (d := (some 131)) rfl (by kernel_rfl) (by kernel_rfl) (by kernel_rfl) rfl (fun _ _ _ h => h) (Or.inl ⟨by kernel_rfl, ?_⟩) (by assumption) ?_; rotate_left
                    · (intro w hSw; (try dsimp only at hSw); first | (go_simp; done) | (go_simp; with_reducible rfl))
                    (try simp only [Act.put, List.setIfInBounds_toArray, List.set_cons_zero, List.set_cons_succ])
                    refine takeH (i := 6) (v := ?_) (d := (some 132)) rfl (by kernel_rfl) (by kernel_rfl) (by kernel_rfl) rfl (fun _ _ _ h => h) (Or.inl ⟨by kernel_rfl, ?_⟩) (by assumption) ?_; rotate_left
                    · (intro w hSw; (try dsimp only at hSw); first | (go_simp; done) | (go_simp; with_reducible rfl))
                    (try simp only [Act.put, List.setIfInBounds_toArray, List.set_cons_zero, List.set_cons_succ])
                    refine takeH (i := 7) (v := ?_) (d := (some 133)) rfl (by kernel_rfl) (by kernel_rfl) (by kernel_rfl) rfl (fun _ _ _ h => h) (Or.inl ⟨by kernel_rfl, ?_⟩) (by assumption) ?_; rotate_left
                    · (intro w hSw; (try dsimp only at hSw); have q0 := cell_stay d2 hSw.1; first | (go_simp; done) | (go_simp; with_reducible rfl))
                    (try simp only [Act.put, List.setIfInBounds_toArray, List.set_cons_zero, List.set_cons_succ])
                    refine takeH (i := 8) (v := ?_) (d := (some 134)) rfl (by kernel_rfl) (by kernel_rfl) (by kernel_rfl) rfl (fun _ _ _ h => h) (Or.inl ⟨by kernel_rfl, ?_⟩) (by assumption) ?_; rotate_left
                    · (intro w hSw; (try dsimp only at hSw); first | (go_simp; done) | (go_simp; with_reducible rfl))
                    (try simp only [Act.put, List.setIfInBounds_toArray, List.set_cons_zero, List.set_cons_succ])
                    refine takeH (i := 9) (v := ?_) (d := (some 135)) rfl (by kernel_rfl) (by kernel_rfl) (by kernel_rfl) rfl (fun _ _ _ h => h) (Or.inl ⟨by kernel_rfl, ?_⟩) (by assumption) ?_; rotate_left
                    · (intro w hSw; (try dsimp only at hSw); first | (go_simp; done) | (go_simp; with_reducible rfl))
                    (try simp only [Act.put, List.setIfInBounds_toArray, List.set_cons_zero, List.set_cons_succ])
                    refine takeH (i := 10) (v := ?_) (d := (some 136)) rfl (by kernel_rfl) (by kernel_rfl) (by kernel_rfl) rfl (fun _ _ _ h => h) (Or.inl ⟨by kernel_rfl, ?_⟩) (by assumption) ?_; rotate_left
                    · (intro w hSw; (try dsimp only at hSw); first | (go_simp; done) | (go_simp; with_reducible rfl))
                    (try simp only [Act.put, List.setIfInBounds_toArray, List.set_cons_zero, List.set_cons_succ])
                    refine takeH (i := 11) (v := ?_) (d := (some 137)) rfl (by kernel_rfl) (by kernel_rfl) (by kernel_rfl) rfl (fun _ _ _ h => h) (Or.inl ⟨by kernel_rfl, ?_⟩) (by assumption) ?_; rotate_left
                    · (intro w hSw; (try dsimp only at hSw); first | (go_simp; done) | (go_simp; with_reducible rfl))
                    (try simp only [Act.put, List.setIfInBounds_toArray, List.set_cons_zero, List.set_cons_succ])
                    refine takeH (i := 12) (v := ?_) (d := (some 138)) rfl (by kernel_rfl) (by kernel_rfl) (by kernel_rfl) rfl (fun _ _ _ h => h) (Or.inl ⟨by kernel_rfl, ?_⟩) (by assumption) ?_; rotate_left
                    · (intro w hSw; (try dsimp only at hSw); first | (go_simp; done) | (go_simp; with_reducible rfl))
                    (try simp only [Act.put, List.setIfInBounds_toArray, List.set_cons_zero, List.set_cons_succ])
                    refine takeH (i := 13) (v := ?_) (d := (some 139)) rfl (by kernel_rfl) (by kernel_rfl) (by kernel_rfl) rfl (fun _ _ _ h => h) (Or.inl ⟨by kernel_rfl, ?_⟩) (by assumption) ?_; rotate_left
                    · (intro w hSw; (try dsimp only at hSw); have q0 := cell_stay a2 hSw.1; first | (go_simp; done) | (go_simp; with_reducible rfl))
                    (try simp only [Act.put, List.setIfInBounds_toArray, List.set_cons_zero, List.set_cons_succ])
                    refine takeH (i := 14) (v := ?_) (d := (some 140)) rfl (by kernel_rfl) (by kernel_rfl) (by kernel_rfl) rfl (fun _ _ _ h => h) (Or.inl ⟨by kernel_rfl, ?_⟩) (by assumption) ?_; rotate_left
                    · (intro w hSw; (try dsimp only at hSw); first | (go_simp; done) | (go_simp; with_reducible rfl))
                    (try simp only [Act.put, List.setIfInBounds_toArray, List.set_cons_zero, List.set_cons_succ])
                    refine takeH (i := 15) (v := ?_) (d := (some 141)) rfl (by kernel_rfl) (by kernel_rfl) (by kernel_rfl) rfl (fun _ _ _ h => h) (Or.inl ⟨by kernel_rfl, ?_⟩) (by assumption) ?_; rotate_left
                    · (intro w hSw; (try dsimp only at hSw); first | (go_simp; done) | (go_simp; with_reducible rfl))
                    (try simp only [Act.put, List.setIfInBounds_toArray, List.set_cons_zero, List.set_cons_succ])
                    refine takeH (i := 16) (v := ?_) (d := (some 16)) rfl (by kernel_rfl) (by kernel_rfl) (by kernel_rfl) rfl (fun _ _ _ h => h) (Or.inl ⟨by kernel_rfl, ?_⟩) (by assumption) ?_; rotate_left
                    · (intro w hSw; (try dsimp only at hSw); first | (go_simp; done) | (go_simp; with_reducible rfl))
                    (try simp only [Act.put, List.setIfInBounds_toArray, List.set_cons_zero, List.set_cons_succ])
                    refine wpAnyH_done (by kernel_rfl) ?_ _
                    have d1 := cell_stay d1 hHeld.1
                    have HUe : Hid (Up w5.heap.size w5 x9) := HU9.out.stay (HUc.out.stay hHeld.1).1
                    clear hHeld d2
                    cases lb
                    · obtain rfl : r = 39 := hor.resolve_left Bool.false_ne_true
                      clear hor a2 a3
                      go_wp2_with fail
                      refine (cL _).mono ?_
                      rintro ev w7 ⟨rfl, hw7⟩
                      subst w7
                      go_wp2_with fail
                      refine (cL _).mono ?_
                      rintro ev w7 ⟨rfl, hw7⟩
                      subst w7
                      clear cL
                      go_wp2
                      go_roundg (k - (q + 1))
                      case measure => omega
                      case rel => exact ⟨q + 1, i2, by omega, hi2, rfl, by go_num, rfl, fun i p h1 h2 => Nat.le_succ_of_le (HI2.out i p h1 h2), HUe⟩
                    · clear hor a2 a3
                      go_wp2_with fail
                      refine (cL _).mono ?_
                      rintro ev w7 ⟨rfl, hw7⟩
                      subst w7
                      go_wp2_with fail
                      refine (cL _).mono ?_
                      rintro ev w7 ⟨rfl, hw7⟩
                      subst w7
                      clear cL
                      go_wp2
                      go_roundg (k - (q + 1))
                      case measure => omega
                      case rel => exact ⟨q + 1, i2, by omega, hi2, rfl, by go_num, rfl, fun i p h1 h2 => Nat.le_succ_of_le (HI2.out i p h1 h2), HUe⟩
                  · have e3 : decide ((A : Int) ≤ (P : Int)) = false := decide_eq_false (by omega)
                    have e4 : decide (A ≤ P) = false := decide_eq_false hAP
                    have e6 : (A ≤ P) = False := eq_false hAP
                    have hlbf : lb = false := by
                      cases hh : lb
                      · rfl
                      · have h1 : inn (RU U) U.length q = true := inn_letter (by rw [HUK.out]; exact hqk) (by rw [HRU.out, HLB.out, hh])
                        obtain ⟨p', hp', h2, h3⟩ := pts_cover h1
                        rw [HPT.out] at hp'
                        obtain ⟨j', hj'⟩ := List.mem_iff_getElem?.1 hp'
                        rcases Nat.lt_trichotomy j' i2 with h4 | h4 | h4
                        · have := HI2.out j' p' h4 hj'
                          omega
                        · subst h4
                          rw [HPM.out.2.1] at hj'
                          rw [← Option.some.inj hj'] at h2
                          exact absurd (HAQ.out.2 h2) hAP
                        · have h5 := chain_at HCH.out HPM.out.2.1 hj' h4
                          exact absurd (HEQ.out.2 (by omega)) hEP
                    subst hlbf
                    go_upto_region 28 with fail
                    go_upto_region 28 with fail
                    refine wp_region_held_drew (S := fun w' => Up x0.heap.size x0 w') (by kernel_rfl) (Up.drew (Up.refl x0)) (fun hHeld => ?_)
                    (try dsimp only at hHeld)
                    obtain ⟨x9, hx9⟩ : ∃ x9, x0.drew = x9 := ⟨_, rfl⟩
                    rw [hx9] at hHeld ⊢
                    clear hx9
                    refine takeH (i := 0) (v := ?_) (d := (some 126)) rfl (by kernel_rfl) (by kernel_rfl) (by kernel_rfl) rfl (fun _ _ _ h => h) (Or.inl ⟨by kernel_rfl, ?_⟩) (by assumption) ?_; rotate_left
                    · (intro w hSw; (try dsimp only at hSw); first | (go_simp; done) | (go_simp; with_reducible rfl))
                    (try simp only [Act.put, List.setIfInBounds_toArray, List.set_cons_zero, List.set_cons_succ])
                    refine takeH (i := 1) (v := ?_) (d := (some 127)) rfl (by kernel_rfl) (by kernel_rfl) (by kernel_rfl) rfl (fun _ _ _ h => h) (Or.inl ⟨by kernel_rfl, ?_⟩) (by assumption) ?_; rotate_left
                    · (intro w hSw; (try dsimp only at hSw); first | (go_simp; done) | (go_simp; with_reducible rfl))
                    (try simp only [Act.put, List.setIfInBounds_toArray, List.set_cons_zero, List.set_cons_succ])
                    refine takeH (i := 2) (v := ?_) (d := (some 128)) rfl (by kernel_rfl) (by kernel_rfl) (by kernel_rfl) rfl (fun _ _ _ h => h) (Or.inl ⟨by kernel_rfl, ?_⟩) (by assumption) ?_; rotate_left
                    · (intro w hSw; (try dsimp only at hSw); first | (go_simp; done) | (go_simp; with_reducible rfl))
                    (try simp only [Act.put, List.setIfInBounds_toArray, List.set_cons_zero, List.set_cons_succ])
                    refine takeH (i := 3) (v := ?_) (d := (some 129)) rfl (by kernel_rfl) (by kernel_rfl) (by kernel_rfl) rfl (fun _ _ _ h => h) (Or.inl ⟨by kernel_rfl, ?_⟩) (by assumption) ?_; rotate_left
                    · (intro w hSw; (try dsimp only at hSw); first | (go_simp; done) | (go_simp; with_reducible rfl))
                    (try simp only [Act.put, List.setIfInBounds_toArray, List.set_cons_zero, List.set_cons_succ])
                    refine takeH (i := 4) (v := ?_) (d := (some 130)) rfl (by kernel_rfl) (by kernel_rfl) (by kernel_rfl) rfl (fun _ _ _ h => h) (Or.inl ⟨by kernel_rfl, ?_⟩) (by assumption) ?_; rotate_left
                    · (intro w hSw; (try dsimp only at hSw); first | (go_simp; done) | (go_simp; with_reducible rfl))
                    (try simp only [Act.put, List.setIfInBounds_toArray, List.set_cons_zero, List.set_cons_succ])
                    refine takeH (i := 5) (v := ?_) (d := (some 131)) rfl (by kernel_rfl) (by kernel_rfl) (by kernel_rfl) rfl (fun _ _ _ h => h) (Or.inl ⟨by kernel_rfl, ?_⟩) (by assumption) ?_; rotate_left
                    · (intro w hSw; (try dsimp only at hSw); first | (go_simp; done) | (go_simp; with_reducible rfl))
                    (try simp only [Act.put, List.setIfInBounds_toArray, List.set_cons_zero, List.set_cons_succ])
                    refine takeH (i := 6) (v := ?_) (d := (some 132)) rfl (by kernel_rfl) (by kernel_rfl) (by kernel_rfl) rfl (fun _ _ _ h => h) (Or.inl ⟨by kernel_rfl, ?_⟩) (by assumption) ?_; rotate_left
                    · (intro w hSw; (try dsimp only at hSw); first | (go_simp; done) | (go_simp; with_reducible rfl))
                    (try simp only [Act.put, List.setIfInBounds_toArray, List.set_cons_zero, List.set_cons_succ])
                    refine takeH (i := 7) (v := ?_) (d := (some 133)) rfl (by kernel_rfl) (by kernel_rfl) (by kernel_rfl) rfl (fun _ _ _ h => h) (Or.inl ⟨by kernel_rfl, ?_⟩) (by assumption) ?_; rotate_left
                    · (intro w hSw; (try dsimp only at hSw); have q0 := cell_stay d2 hSw.1; first | (go_simp; done) | (go_simp; with_reducible rfl))
                    (try simp only [Act.put, List.setIfInBounds_toArray, List.set_cons_zero, List.set_cons_succ])
                    refine takeH (i := 8) (v := ?_) (d := (some 134)) rfl (by kernel_rfl) (by kernel_rfl) (by kernel_rfl) rfl (fun _ _ _ h => h) (Or.inl ⟨by kernel_rfl, ?_⟩) (by assumption) ?_; rotate_left
                    · (intro w hSw; (try dsimp only at hSw); first | (go_simp; done) | (go_simp; with_reducible rfl))
                    (try simp only [Act.put, List.setIfInBounds_toArray, List.set_cons_zero, List.set_cons_succ])
                    refine takeH (i := 9) (v := ?_) (d := (some 135)) rfl (by kernel_rfl) (by kernel_rfl) (by kernel_rfl) rfl (fun _ _ _ h => h) (Or.inl ⟨by kernel_rfl, ?_⟩) (by assumption) ?_; rotate_left
                    · (intro w hSw; (try dsimp only at hSw); first | (go_simp; done) | (go_simp; with_reducible rfl))
                    (try simp only [Act.put, List.setIfInBounds_toArray, List.set_cons_zero, List.set_cons_succ])
                    refine takeH (i := 10) (v := ?_) (d := (some 136)) rfl (by kernel_rfl) (by kernel_rfl) (by kernel_rfl) rfl (fun _ _ _ h => h) (Or.inl ⟨by kernel_rfl, ?_⟩) (by assumption) ?_; rotate_left
                    · (intro w hSw; (try dsimp only at hSw); first | (go_simp; done) | (go_simp; with_reducible rfl))
                    (try simp only [Act.put, List.setIfInBounds_toArray, List.set_cons_zero, List.set_cons_succ])
                    refine takeH (i := 11) (v := ?_) (d := (some 137)) rfl (by kernel_rfl) (by kernel_rfl) (by kernel_rfl) rfl (fun _ _ _ h => h) (Or.inl ⟨by kernel_rfl, ?_⟩) (by assumption) ?_; rotate_left
                    · (intro w hSw; (try dsimp only at hSw); first | (go_simp; done) | (go_simp; with_reducible rfl))
                    (try simp only [Act.put, List.setIfInBounds_toArray, List.set_cons_zero, List.set_cons_succ])
                    refine takeH (i := 12) (v := ?_) (d := (some 138)) rfl (by kernel_rfl) (by kernel_rfl) (by kernel_rfl) rfl (fun _ _ _ h => h) (Or.inl ⟨by kernel_rfl, ?_⟩) (by assumption) ?_; rotate_left
                    · (intro w hSw; (try dsimp only at hSw); first | (go_simp; done) | (go_simp; with_reducible rfl))
                    (try simp only [Act.put, List.setIfInBounds_toArray, List.set_cons_zero, List.set_cons_succ])
                    refine takeH (i := 13) (v := ?_) (d := (some 139)) rfl (by kernel_rfl) (by kernel_rfl) (by kernel_rfl) rfl (fun _ _ _ h => h) (Or.inl ⟨by kernel_rfl, ?_⟩) (by assumption) ?_; rotate_left
                    · (intro w hSw; (try dsimp only at hSw); have q0 := cell_stay a2 hSw.1; first | (go_simp; done) | (go_simp; with_reducible rfl))
                    (try simp only [Act.put, List.setIfInBounds_toArray, List.set_cons_zero, List.set_cons_succ])
                    refine takeH (i := 14) (v := ?_) (d := (some 140)) rfl (by kernel_rfl) (by kernel_rfl) (by kernel_rfl) rfl (fun _ _ _ h => h) (Or.inl ⟨by kernel_rfl, ?_⟩) (by assumption) ?_; rotate_left
                    · (intro w hSw; (try dsimp only at hSw); first | (go_simp; done) | (go_simp; with_reducible rfl))
                    (try simp only [Act.put, List.setIfInBounds_toArray, List.set_cons_zero, List.set_cons_succ])
                    refine takeH (i := 15) (v := ?_) (d := (some 141)) rfl (by kernel_rfl) (by kernel_rfl) (by kernel_rfl) rfl (fun _ _ _ h => h) (Or.inl ⟨by kernel_rfl, ?_⟩) (by assumption) ?_; rotate_left
                    · (intro w hSw; (try dsimp only at hSw); first | (go_simp; done) | (go_simp; with_reducible rfl))
                    (try simp only [Act.put, List.setIfInBounds_toArray, List.set_cons_zero, List.set_cons_succ])
                    refine takeH (i := 16) (v := ?_) (d := (some 16)) rfl (by kernel_rfl) (by kernel_rfl) (by kernel_rfl) rfl (fun _ _ _ h => h) (Or.inl ⟨by kernel_rfl, ?_⟩) (by assumption) ?_; rotate_left
                    · (intro w hSw; (try dsimp only at hSw); first | (go_simp; done) | (go_simp; with_reducible rfl))
                    (try simp only [Act.put, List.setIfInBounds_toArray, List.set_cons_zero, List.set_cons_succ])
                    refine wpAnyH_done (by kernel_rfl) ?_ _
                    have d1 := cell_stay d1 hHeld.1
                    have HUe : Hid (Up w5.heap.size w5 x9) := HU9.out.stay (HUc.out.stay hHeld.1).1
                    clear hHeld d2
                    clear a2 a3
                    go_wp2_with fail
                    refine (cL _).mono ?_
                    rintro ev w7 ⟨rfl, hw7⟩
                    subst w7
                    clear cL
                    go_wp2
                    go_roundg (k - (q + 1))
                    case measure => omega
                    case rel => exact ⟨q + 1, i2, by omega, hi2, rfl, by go_num, rfl, fun i p h1 h2 => Nat.le_succ_of_le (HI2.out i p h1 h2), HUe⟩
              · have s1 : ¬ (i2 : Int) < (m : Int) := by omega
                have s2 : decide ((i2 : Int) < (m : Int)) = false := decide_eq_false s1
                have s3 : decide (i2 < m) = false := decide_eq_false him
                have s4 : (i2 < m) = False := eq_false him
                have cL := fun w' => letter_any r hfit w'
                have hlbf : lB r = false := by
                  cases hh : lB r
                  · rfl
                  · have h1 : inn (RU U) U.length q = true := inn_letter (by rw [HUK.out]; exact hqk) (by rw [HRU.out, hh])
                    obtain ⟨p', hp', h2, h3⟩ := pts_cover h1
                    rw [HPT.out] at hp'
                    obtain ⟨j', hj'⟩ := List.mem_iff_getElem?.1 hp'
                    have hjm := (List.getElem?_eq_some_iff.1 hj').1
                    rw [HM.out] at hjm
                    have := HI2.out j' p' (by omega) hj'
                    omega
                rw [hlbf] at cL
                clear hlbf
                go_upto_region 26 with fail
                go_quiet (fail)
                have hbd := below_drewN (Below.refl wr.heap.size wr) nq
                obtain ⟨wd, hwd⟩ : ∃ x, wr.drewN nq = x := ⟨_, rfl⟩
                rw [hwd] at hbd ⊢
                have d1 := cell_stay d1 hbd
                have d2 := cell_stay d2 hbd
                have HU9d : Hid (Up w5.heap.size w5 wd) := HU9.out.stay hbd
                clear hwd hbd HU9
                go_upto_region 28 with fail
                go_quiet (fail)
                have hbd := below_drewN (Below.refl wd.heap.size wd) nq
                obtain ⟨we, hwe⟩ : ∃ x, wd.drewN nq = x := ⟨_, rfl⟩
                rw [hwe] at hbd ⊢
                have d1 := cell_stay d1 hbd
                have HUe : Hid (Up w5.heap.size w5 we) := HU9d.out.stay hbd
                clear hwe hbd HU9d d2
                go_wp2_with fail
                refine (cL _).mono ?_
                rintro ev w7 ⟨rfl, hw7⟩
                subst w7
                clear cL
                go_wp2
                go_roundg (k - (q + 1))
                case measure => omega
                case rel => exact ⟨q + 1, i2, by omega, hi2, rfl, by go_num, rfl, fun i p h1 h2 => Nat.le_succ_of_le (HI2.out i p h1 h2), HUe⟩
          · have r1 : ¬ (q : Int) < (k : Int) := by omega
            go_wp2
            go_ret
            exact ⟨rfl, HB5.out.trans (HU.out.1.mono HB5.out.size)⟩
end Go.Proofs.YtbhjkkbempnjeaaDoor
