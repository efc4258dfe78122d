/- The reference: tex: a command whose groups are read; verb. -/
import Derived.Test.YtlgfmhhhecaddaaDoorxRtM
import Derived.Test.YtlgfmhhhecaddaaDoorxGrp
namespace Go.Proofs.YtlgfmhhhecaddaaDoor
set_option linter.unusedVariables false
open Go.RowKit Go.ChangeShapes
section
variable {s : ByteArray} {c L : Nat → Int} {n g i : Nat} {w : World}
set_option maxRecDepth 100000 in
set_option maxHeartbeats 16000000 in
theorem rtex_cno (h : SC s c n) (hn : n ≤ 65536) (hR : LR w g n L) (hi : i < n) (h92 : c i = 92) (hlt : ltB (c (i + 1)) = true) (hv : isV (cmN c n i) = false) (hb : (isBg (cmN c n i) || bareB (cmN c n i)) = false) :
    Calls Tryd.prog 22 #[.slice (some ⟨g, 0, none⟩) n n, .string s, .int .i64 i] w (RtP w g n (cmE c n i) (cmL L c n i)) := by
  have hsz := h.1
  have z1 : (0 : Int) ≤ (i : Int) := by omega
  have z2 : (i : Int) < (n : Int) := by omega
  have z3 : i < s.size := by omega
  have hx := h.2.2.1 i z3
  rw [h92] at hx
  have hin : i + 1 < n := by
    rcases Nat.lt_or_ge (i + 1) n with h2 | h2
    · exact h2
    · rw [h.2.1.2 _ h2] at hlt; exact absurd hlt (by decide)
  have hK := cmK_le (c := c) hi
  have hK2 : i + 1 < cmK c n i := by
    unfold cmK ps
    rw [fs_no hin (by rw [hlt]; rfl)]
    exact fs_ge _ _ _
  have hby := cmN_byt h.2.1 hi
  have hsub : s.extract (i + 1) (cmK c n i) = strOfNums (cmN c n i) := sc_sub h (i + 1) (cmK c n i) hK.1 hK.2
  have hdk : fs (fun j => !ltB (c j)) n (i + 1) = cmK c n i := rfl
  have hEL : cmE c n i = cmK c n i ∧ cmL L c n i = setL L 2 (i : Int) ((cmK c n i : Nat) : Int) := by
    rw [Bool.or_eq_false_iff] at hb
    unfold cmE cmL cm1
    rw [hv, hb.1, hb.2]
    exact ⟨rfl, rfl⟩
  rw [hEL.1, hEL.2]
  generalize cmN c n i = l at *
  generalize cmK c n i = K at *
  have HKd : Hid (fs (fun j => !ltB (c j)) n (i + 1) = K) := hdk
  obtain ⟨X, hX⟩ : ∃ X, strOfNums l = X := ⟨_, rfl⟩
  rw [hX] at hsub
  have ev := nums_is hby [118, 101, 114, 98] (byt_lit _ rfl)
  have eb := nums_is hby [98, 101, 103, 105, 110] (byt_lit _ rfl)
  rw [hX] at ev eb
  simp only [List.map] at ev eb
  have cb := fun w' => rbare_any hby w'
  rw [hX] at cb
  have HX : Hid (strOfNums l = X) := hX
  have v1 : (0 : Int) ≤ (i : Int) + 1 := by omega
  have v2 : (i : Int) + 1 ≤ (K : Int) := by omega
  have v3 : (K : Int) ≤ (n : Int) := by omega
  have kv : (X.toList == [118, 101, 114, 98]) = false := by rw [show (X.toList == [118, 101, 114, 98]) = (l == [118, 101, 114, 98]) from ev]; exact hv
  rw [hb] at cb
  clear ev eb hv hb hEL
  clear h92 hlt hdk hX
  have HH : Hid (SC s c n ∧ LR w g n L) := ⟨h, hR⟩
  obtain ⟨Q, hQ⟩ : ∃ Q, RtP w g n K (setL L 2 (i : Int) (K : Int)) = Q := ⟨_, rfl⟩
  rw [hQ]
  have HQ : Hid (RtP w g n K (setL L 2 (i : Int) (K : Int)) = Q) := hQ
  clear h hR hQ
  go_enter Tryd.func22, Tryd.ntmps22
  go_wp2_with fail
  go_loopg [11] (n + 1 - (i + 1)) (fun q tv wr => ∃ k : Nat, q = n + 1 - k ∧ i + 1 ≤ k ∧ k ≤ n ∧ tv = .int .i64 k ∧ wr = w ∧ Hid (fs (fun j => !ltB (c j)) n k = K))
  case atStart => exact ⟨i + 1, rfl, Nat.le_refl _, by omega, by go_num, rfl, HKd.out⟩
  case round =>
    obtain ⟨k, hq, hk1, hk2, rfl, hw, HK⟩ := hrel
    subst wr
    have cT := rletter_any HH.out.1 (by omega) k w
    cases hlt : ltB (c k) with
    | true =>
      have hkn : k < n := by
        rcases Nat.lt_or_ge k n with h2 | h2
        · exact h2
        · rw [HH.out.1.2.1.2 k h2] at hlt; exact absurd hlt (by decide)
      rw [hlt] at cT
      have hk := HK.out
      rw [fs_no hkn (by rw [hlt]; rfl)] at hk
      have HK2 : Hid (fs (fun j => !ltB (c j)) n (k + 1) = K) := hk
      clear hk hlt
      go_wp2_with fail
      refine cT.mono ?_
      rintro ev w2 ⟨rfl, hw⟩
      subst w2
      go_wp2
      go_roundg (n + 1 - (k + 1))
      case measure => omega
      case rel => exact ⟨k + 1, rfl, by omega, by omega, by go_num, rfl, HK2⟩
    | false =>
      rw [hlt] at cT
      have hkk : k = K := by
        rw [← HK.out]
        exact (fs_yes (by rw [hlt]; rfl)).symm
      subst hkk
      clear hlt HK hq hk1 hk2
      go_wp2_with fail
      refine cT.mono ?_
      rintro ev w2 ⟨rfl, hw⟩
      subst w2
      clear cT
      have v0 : ((k : Int) == (i : Int) + 1) = false := by simp; omega
      go_wp2_with fail
      refine (rput_any HH.out.2 hn 2 i k hK.2).mono ?_
      rintro ev w2 ⟨rfl, hr2, hg2, -⟩
      obtain ⟨L1, hL1⟩ : ∃ L1, setL L 2 (i : Int) (k : Int) = L1 := ⟨_, rfl⟩
      rw [hL1] at hr2
      have HL1 : Hid (setL L 2 (i : Int) (k : Int) = L1) := hL1
      have HR2 : Hid (LR w2 g n L1 ∧ w.grownBy w2 (some g)) := ⟨hr2, hg2⟩
      clear hr2 hg2 hL1
      go_wp2_with fail
      refine (cb w2).mono ?_
      rintro ev w3 ⟨rfl, hw⟩
      subst w3
      go_wp2
      rw [← HQ.out, HL1.out]
      exact ⟨rfl, HR2.out.1, HR2.out.2⟩
set_option maxRecDepth 100000 in
set_option maxHeartbeats 16000000 in
theorem rtex_vrb (h : SC s c n) (hn : n ≤ 65536) (hR : LR w g n L) (hi : i < n) (h92 : c i = 92) (hlt : ltB (c (i + 1)) = true) (hv : isV (cmN c n i) = true) :
    Calls Tryd.prog 22 #[.slice (some ⟨g, 0, none⟩) n n, .string s, .int .i64 i] w (RtP w g n (cmE c n i) (cmL L c n i)) := by
  have hsz := h.1
  have z1 : (0 : Int) ≤ (i : Int) := by omega
  have z2 : (i : Int) < (n : Int) := by omega
  have z3 : i < s.size := by omega
  have hx := h.2.2.1 i z3
  rw [h92] at hx
  have hin : i + 1 < n := by
    rcases Nat.lt_or_ge (i + 1) n with h2 | h2
    · exact h2
    · rw [h.2.1.2 _ h2] at hlt; exact absurd hlt (by decide)
  have hK := cmK_le (c := c) hi
  have hK2 : i + 1 < cmK c n i := by
    unfold cmK ps
    rw [fs_no hin (by rw [hlt]; rfl)]
    exact fs_ge _ _ _
  have hby := cmN_byt h.2.1 hi
  have hsub : s.extract (i + 1) (cmK c n i) = strOfNums (cmN c n i) := sc_sub h (i + 1) (cmK c n i) hK.1 hK.2
  have hdk : fs (fun j => !ltB (c j)) n (i + 1) = cmK c n i := rfl
  obtain ⟨EE, hEE⟩ : ∃ EE, cmE c n i = EE := ⟨_, rfl⟩
  obtain ⟨LL, hLL⟩ : ∃ LL, cmL L c n i = LL := ⟨_, rfl⟩
  have HDf : Hid (EE = vbE c n (cmK c n i) ∧ LL = vbL (setL L 2 (i : Int) ((cmK c n i : Nat) : Int)) c n (cmK c n i)) := by
    rw [← hEE, ← hLL]
    unfold cmE cmL cm1
    rw [hv]
    exact ⟨rfl, rfl⟩
  rw [hEE, hLL]
  clear hEE hLL
  generalize cmN c n i = l at *
  generalize cmK c n i = K at *
  have HKd : Hid (fs (fun j => !ltB (c j)) n (i + 1) = K) := hdk
  obtain ⟨X, hX⟩ : ∃ X, strOfNums l = X := ⟨_, rfl⟩
  rw [hX] at hsub
  have ev := nums_is hby [118, 101, 114, 98] (byt_lit _ rfl)
  have eb := nums_is hby [98, 101, 103, 105, 110] (byt_lit _ rfl)
  rw [hX] at ev eb
  simp only [List.map] at ev eb
  have cb := fun w' => rbare_any hby w'
  rw [hX] at cb
  have HX : Hid (strOfNums l = X) := hX
  have v1 : (0 : Int) ≤ (i : Int) + 1 := by omega
  have v2 : (i : Int) + 1 ≤ (K : Int) := by omega
  have v3 : (K : Int) ≤ (n : Int) := by omega
  have kv : (X.toList == [118, 101, 114, 98]) = true := by rw [show (X.toList == [118, 101, 114, 98]) = (l == [118, 101, 114, 98]) from ev]; exact hv
  clear ev eb hv cb
  clear h92 hlt hdk hX
  have HH : Hid (SC s c n ∧ LR w g n L) := ⟨h, hR⟩
  obtain ⟨Q, hQ⟩ : ∃ Q, RtP w g n EE LL = Q := ⟨_, rfl⟩
  rw [hQ]
  have HQ : Hid (RtP w g n EE LL = Q) := hQ
  clear h hR hQ
  go_enter Tryd.func22, Tryd.ntmps22
  go_wp2_with fail
  go_loopg [11] (n + 1 - (i + 1)) (fun q tv wr => ∃ k : Nat, q = n + 1 - k ∧ i + 1 ≤ k ∧ k ≤ n ∧ tv = .int .i64 k ∧ wr = w ∧ Hid (fs (fun j => !ltB (c j)) n k = K))
  case atStart => exact ⟨i + 1, rfl, Nat.le_refl _, by omega, by go_num, rfl, HKd.out⟩
  case round =>
    obtain ⟨k, hq, hk1, hk2, rfl, hw, HK⟩ := hrel
    subst wr
    have cT := rletter_any HH.out.1 (by omega) k w
    cases hlt : ltB (c k) with
    | true =>
      have hkn : k < n := by
        rcases Nat.lt_or_ge k n with h2 | h2
        · exact h2
        · rw [HH.out.1.2.1.2 k h2] at hlt; exact absurd hlt (by decide)
      rw [hlt] at cT
      have hk := HK.out
      rw [fs_no hkn (by rw [hlt]; rfl)] at hk
      have HK2 : Hid (fs (fun j => !ltB (c j)) n (k + 1) = K) := hk
      clear hk hlt
      go_wp2_with fail
      refine cT.mono ?_
      rintro ev w2 ⟨rfl, hw⟩
      subst w2
      go_wp2
      go_roundg (n + 1 - (k + 1))
      case measure => omega
      case rel => exact ⟨k + 1, rfl, by omega, by omega, by go_num, rfl, HK2⟩
    | false =>
      rw [hlt] at cT
      have hkk : k = K := by
        rw [← HK.out]
        exact (fs_yes (by rw [hlt]; rfl)).symm
      subst hkk
      clear hlt HK hq hk1 hk2
      go_wp2_with fail
      refine cT.mono ?_
      rintro ev w2 ⟨rfl, hw⟩
      subst w2
      clear cT
      have v0 : ((k : Int) == (i : Int) + 1) = false := by simp; omega
      go_wp2_with fail
      refine (rput_any HH.out.2 hn 2 i k hK.2).mono ?_
      rintro ev w2 ⟨rfl, hr2, hg2, -⟩
      obtain ⟨L1, hL1⟩ : ∃ L1, setL L 2 (i : Int) (k : Int) = L1 := ⟨_, rfl⟩
      rw [hL1] at hr2
      have HL1 : Hid (setL L 2 (i : Int) (k : Int) = L1) := hL1
      have HR2 : Hid (LR w2 g n L1 ∧ w.grownBy w2 (some g)) := ⟨hr2, hg2⟩
      clear hr2 hg2 hL1
      have cS := rat_any HH.out.1 (by omega) k (by omega) ⟨#[42]⟩ [42] (byt_lit _ rfl) (by kernel_rfl) (by decide) (by simp) w2
      rw [oc1] at cS
      by_cases h42 : c k = 42
      · have hkn := in_of HH.out.1.2.1 (i := k) (by omega)
        rw [show (c k == 42) = true by simpa using h42] at cS
        have hvs : vbS c k = k + 1 := by unfold vbS; rw [if_pos h42]
        clear h42
        go_wp2_with fail
        refine cS.mono ?_
        rintro ev w3 ⟨rfl, hw⟩
        subst w3
        clear cS
        go_wp2_with fail
        rw [show ((k : Int) + 1) = ((k + 1 : Nat) : Int) by omega]
        refine (rput_any HR2.out.1 hn 2 k (k + 1) (by omega)).mono ?_
        rintro ev w3 ⟨rfl, hr3, hg3, -⟩
        obtain ⟨k1, hk1⟩ : ∃ k1, k + 1 = k1 := ⟨_, rfl⟩
        obtain ⟨L2, hL2⟩ : ∃ L2, setL L1 2 (k : Int) ((k + 1 : Nat) : Int) = L2 := ⟨_, rfl⟩
        rw [hL2] at hr3
        have HR3 : Hid (LR w3 g n L2 ∧ w.grownBy w3 (some g)) := ⟨hr3, grown_trans HR2.out.2 hg3⟩
        have HV : Hid (EE = (if n ≤ k1 ∨ c k1 = 10 then k1 else vbF c n k1) ∧ LL = setL L2 4 (k1 : Int) ((EE : Nat) : Int)) := by
          have hd := HDf.out
          rw [hd.1, hd.2]
          unfold vbL
          rw [HL1.out, hvs, hL2, hk1]
          unfold vbE
          rw [hvs, hk1]
          exact ⟨rfl, rfl⟩
        have hkr : (k : Int) + 1 = (k1 : Int) := by omega
        have hk1n : k1 ≤ n := by omega
        clear hr3 hg3 hL2 hvs HR2 hk1
        by_cases hnk : n ≤ k1
        · have y1 : (n : Int) ≤ (k1 : Int) := by omega
          have HF : Hid (EE = k1 ∧ LL = L2) := by
            have hv := HV.out
            rw [if_pos (Or.inl hnk)] at hv
            exact ⟨hv.1, hv.2.trans (by rw [hv.1, setL_zero])⟩
          go_wp2
          rw [← HQ.out, HF.out.1, HF.out.2]
          exact ⟨rfl, HR3.out.1, HR3.out.2⟩
        have y1 : ¬ (n : Int) ≤ (k1 : Int) := by omega
        have y2 : (0 : Int) ≤ (k1 : Int) := by omega
        have y3 : (k1 : Int) < (n : Int) := by omega
        have y4 : k1 < s.size := by omega
        have hx1 := HH.out.1.2.2.1 k1 y4
        by_cases h10 : c k1 = 10
        · have HF : Hid (EE = k1 ∧ LL = L2) := by
            have hv := HV.out
            rw [if_pos (Or.inr h10)] at hv
            exact ⟨hv.1, hv.2.trans (by rw [hv.1, setL_zero])⟩
          rw [h10] at hx1
          clear h10
          go_wp2
          rw [← HQ.out, HF.out.1, HF.out.2]
          exact ⟨rfl, HR3.out.1, HR3.out.2⟩
        have k10 : (c k1 == 10) = false := by simpa using h10
        have hR := bh_gt HH.out.1.2.1 (i := k1) (by omega)
        have cR := rbehind_any HH.out.1 (by omega) k1 (by omega) ⟨#[10]⟩ [10] b10 (by kernel_rfl) (by decide) (by simp) w3
        obtain ⟨R, hRR⟩ : ∃ R, bh [10] c n k1 = R := ⟨_, rfl⟩
        rw [hRR] at hR cR
        have HF : Hid (EE = (if fs (fun j => c j == c k1) R (k1 + 1) < R then fs (fun j => c j == c k1) R (k1 + 1) + 1 else R) ∧ LL = setL L2 4 (k1 : Int) ((EE : Nat) : Int)) := by
          have hv := HV.out
          rw [if_neg (by omega)] at hv
          refine ⟨?_, hv.2⟩
          rw [hv.1]
          unfold vbF vbQ vbN
          rw [hRR]
        obtain ⟨ck, hck⟩ : ∃ ck, c k1 = ck := ⟨_, rfl⟩
        rw [hck] at hx1 k10 HF
        clear hRR h10 hck HV
        go_wp2_with fail
        refine cR.mono ?_
        rintro ev w4 ⟨rfl, hw⟩
        subst w4
        clear cR
        go_wp2_with fail
        go_loopg [17, 18] (R - (k1 + 1)) (fun q e17 jv wr => ∃ j : Nat, q = R - j ∧ k1 + 1 ≤ j ∧ j ≤ R ∧ e17 = .int .i64 R ∧ jv = .int .i64 j ∧ Hid (fs (fun j => c j == ck) R j = fs (fun j => c j == ck) R (k1 + 1)) ∧ Hid (LR wr g n L2 ∧ w.grownBy wr (some g)))
        case atStart => exact ⟨k1 + 1, rfl, Nat.le_refl _, by omega, rfl, by go_num, rfl, HR3⟩
        case round =>
          obtain ⟨j, hq, hj1, hj2, rfl, rfl, HJ, HR4⟩ := hrel
          clear HR3
          by_cases hjr : j < R
          · have u1 : (j : Int) < (R : Int) := by omega
            have u2 : (0 : Int) ≤ (j : Int) := by omega
            have u3 : (j : Int) < (n : Int) := by omega
            have u4 : j < s.size := by omega
            have hx2 := HH.out.1.2.2.1 j u4
            have HD : Hid (∀ q, LR (wr.drewN q) g n L2 ∧ w.grownBy (wr.drewN q) (some g)) := fun q => ⟨HR4.out.1.stay (below_drewN (Below.refl _ _) q), grown_trans HR4.out.2 (grown_of (below_drewN (Below.refl _ _) q) (some g))⟩
            cases he : (c j == ck) with
            | true =>
              have hfj := HJ.out
              rw [fs_yes he] at hfj
              have HF2 : Hid (EE = j + 1 ∧ LL = setL L2 4 (k1 : Int) ((j + 1 : Nat) : Int)) := by
                have hv := HF.out
                rw [← hfj, if_pos hjr] at hv
                exact ⟨hv.1, hv.2.trans (by rw [hv.1])⟩
              generalize c j = cj at hx2 he
              clear hfj HJ HF HR4
              go_upto_region 59 with fail
              go_quiet (fail)
              have hrd := HD.out nq
              generalize wr.drewN nq = w5 at *
              clear HD
              go_wp2_with fail
              rw [show ((j : Int) + 1) = ((j + 1 : Nat) : Int) by omega]
              refine (rput_any hrd.1 hn 4 k1 (j + 1) (by omega)).mono ?_
              rintro ev w6 ⟨rfl, hr6, hg6, -⟩
              go_wp2
              rw [← HQ.out, HF2.out.1, HF2.out.2]
              exact ⟨by go_num, hr6, grown_trans hrd.2 hg6⟩
            | false =>
              have hfj := HJ.out
              rw [fs_no hjr he] at hfj
              have HJ2 : Hid (fs (fun j => c j == ck) R (j + 1) = fs (fun j => c j == ck) R (k1 + 1)) := hfj
              generalize c j = cj at hx2 he
              clear hfj HJ HR4
              go_upto_region 59 with fail
              go_quiet (fail)
              have hrd := HD.out nq
              generalize wr.drewN nq = w5 at *
              clear HD
              go_wp2
              go_roundg (R - (j + 1))
              case measure => omega
              case rel => exact ⟨j + 1, rfl, by omega, by omega, rfl, by go_num, HJ2, hrd⟩
          · have u1 : ¬ (j : Int) < (R : Int) := by omega
            have hfj := HJ.out
            rw [fs_end _ (by omega)] at hfj
            have HF2 : Hid (EE = R ∧ LL = setL L2 4 (k1 : Int) (R : Int)) := by
              have hv := HF.out
              rw [← hfj, if_neg hjr] at hv
              exact ⟨hv.1, hv.2.trans (by rw [hv.1])⟩
            clear hfj HJ HF
            go_wp2_with fail
            refine (rput_any HR4.out.1 hn 4 k1 R hR.2).mono ?_
            rintro ev w6 ⟨rfl, hr6, hg6, -⟩
            go_wp2
            rw [← HQ.out, HF2.out.1, HF2.out.2]
            exact ⟨rfl, hr6, grown_trans HR4.out.2 hg6⟩
      · rw [show (c k == 42) = false by simpa using h42] at cS
        have hvs : vbS c k = k := by unfold vbS; rw [if_neg h42]
        clear h42
        go_wp2_with fail
        refine cS.mono ?_
        rintro ev w3 ⟨rfl, hw⟩
        obtain ⟨k1, hk1⟩ : ∃ k1, k = k1 := ⟨_, rfl⟩
        obtain ⟨L2, hL2⟩ : ∃ L2, L1 = L2 := ⟨_, rfl⟩
        have HR3 : Hid (LR w3 g n L2 ∧ w.grownBy w3 (some g)) := by rw [hw, ← hL2]; exact HR2.out
        have HV : Hid (EE = (if n ≤ k1 ∨ c k1 = 10 then k1 else vbF c n k1) ∧ LL = setL L2 4 (k1 : Int) ((EE : Nat) : Int)) := by
          have hd := HDf.out
          rw [hd.1, hd.2]
          unfold vbL
          rw [HL1.out, hvs, setL_zero, hL2, hk1]
          unfold vbE
          rw [← hk1, hvs]
          exact ⟨rfl, rfl⟩
        rw [hk1]
        have hk1n : k1 ≤ n := by omega
        clear hL2 hvs HR2 cS hw
        clear hk1
        by_cases hnk : n ≤ k1
        · have y1 : (n : Int) ≤ (k1 : Int) := by omega
          have HF : Hid (EE = k1 ∧ LL = L2) := by
            have hv := HV.out
            rw [if_pos (Or.inl hnk)] at hv
            exact ⟨hv.1, hv.2.trans (by rw [hv.1, setL_zero])⟩
          go_wp2
          rw [← HQ.out, HF.out.1, HF.out.2]
          exact ⟨rfl, HR3.out.1, HR3.out.2⟩
        have y1 : ¬ (n : Int) ≤ (k1 : Int) := by omega
        have y2 : (0 : Int) ≤ (k1 : Int) := by omega
        have y3 : (k1 : Int) < (n : Int) := by omega
        have y4 : k1 < s.size := by omega
        have hx1 := HH.out.1.2.2.1 k1 y4
        by_cases h10 : c k1 = 10
        · have HF : Hid (EE = k1 ∧ LL = L2) := by
            have hv := HV.out
            rw [if_pos (Or.inr h10)] at hv
            exact ⟨hv.1, hv.2.trans (by rw [hv.1, setL_zero])⟩
          rw [h10] at hx1
          clear h10
          go_wp2
          rw [← HQ.out, HF.out.1, HF.out.2]
          exact ⟨rfl, HR3.out.1, HR3.out.2⟩
        have k10 : (c k1 == 10) = false := by simpa using h10
        have hR := bh_gt HH.out.1.2.1 (i := k1) (by omega)
        have cR := rbehind_any HH.out.1 (by omega) k1 (by omega) ⟨#[10]⟩ [10] b10 (by kernel_rfl) (by decide) (by simp) w3
        obtain ⟨R, hRR⟩ : ∃ R, bh [10] c n k1 = R := ⟨_, rfl⟩
        rw [hRR] at hR cR
        have HF : Hid (EE = (if fs (fun j => c j == c k1) R (k1 + 1) < R then fs (fun j => c j == c k1) R (k1 + 1) + 1 else R) ∧ LL = setL L2 4 (k1 : Int) ((EE : Nat) : Int)) := by
          have hv := HV.out
          rw [if_neg (by omega)] at hv
          refine ⟨?_, hv.2⟩
          rw [hv.1]
          unfold vbF vbQ vbN
          rw [hRR]
        obtain ⟨ck, hck⟩ : ∃ ck, c k1 = ck := ⟨_, rfl⟩
        rw [hck] at hx1 k10 HF
        clear hRR h10 hck HV
        go_wp2_with fail
        refine cR.mono ?_
        rintro ev w4 ⟨rfl, hw⟩
        subst w4
        clear cR
        go_wp2_with fail
        go_loopg [17, 18] (R - (k1 + 1)) (fun q e17 jv wr => ∃ j : Nat, q = R - j ∧ k1 + 1 ≤ j ∧ j ≤ R ∧ e17 = .int .i64 R ∧ jv = .int .i64 j ∧ Hid (fs (fun j => c j == ck) R j = fs (fun j => c j == ck) R (k1 + 1)) ∧ Hid (LR wr g n L2 ∧ w.grownBy wr (some g)))
        case atStart => exact ⟨k1 + 1, rfl, Nat.le_refl _, by omega, rfl, by go_num, rfl, HR3⟩
        case round =>
          obtain ⟨j, hq, hj1, hj2, rfl, rfl, HJ, HR4⟩ := hrel
          clear HR3
          by_cases hjr : j < R
          · have u1 : (j : Int) < (R : Int) := by omega
            have u2 : (0 : Int) ≤ (j : Int) := by omega
            have u3 : (j : Int) < (n : Int) := by omega
            have u4 : j < s.size := by omega
            have hx2 := HH.out.1.2.2.1 j u4
            have HD : Hid (∀ q, LR (wr.drewN q) g n L2 ∧ w.grownBy (wr.drewN q) (some g)) := fun q => ⟨HR4.out.1.stay (below_drewN (Below.refl _ _) q), grown_trans HR4.out.2 (grown_of (below_drewN (Below.refl _ _) q) (some g))⟩
            cases he : (c j == ck) with
            | true =>
              have hfj := HJ.out
              rw [fs_yes he] at hfj
              have HF2 : Hid (EE = j + 1 ∧ LL = setL L2 4 (k1 : Int) ((j + 1 : Nat) : Int)) := by
                have hv := HF.out
                rw [← hfj, if_pos hjr] at hv
                exact ⟨hv.1, hv.2.trans (by rw [hv.1])⟩
              generalize c j = cj at hx2 he
              clear hfj HJ HF HR4
              go_upto_region 59 with fail
              go_quiet (fail)
              have hrd := HD.out nq
              generalize wr.drewN nq = w5 at *
              clear HD
              go_wp2_with fail
              rw [show ((j : Int) + 1) = ((j + 1 : Nat) : Int) by omega]
              refine (rput_any hrd.1 hn 4 k1 (j + 1) (by omega)).mono ?_
              rintro ev w6 ⟨rfl, hr6, hg6, -⟩
              go_wp2
              rw [← HQ.out, HF2.out.1, HF2.out.2]
              exact ⟨by go_num, hr6, grown_trans hrd.2 hg6⟩
            | false =>
              have hfj := HJ.out
              rw [fs_no hjr he] at hfj
              have HJ2 : Hid (fs (fun j => c j == ck) R (j + 1) = fs (fun j => c j == ck) R (k1 + 1)) := hfj
              generalize c j = cj at hx2 he
              clear hfj HJ HR4
              go_upto_region 59 with fail
              go_quiet (fail)
              have hrd := HD.out nq
              generalize wr.drewN nq = w5 at *
              clear HD
              go_wp2
              go_roundg (R - (j + 1))
              case measure => omega
              case rel => exact ⟨j + 1, rfl, by omega, by omega, rfl, by go_num, HJ2, hrd⟩
          · have u1 : ¬ (j : Int) < (R : Int) := by omega
            have hfj := HJ.out
            rw [fs_end _ (by omega)] at hfj
            have HF2 : Hid (EE = R ∧ LL = setL L2 4 (k1 : Int) (R : Int)) := by
              have hv := HF.out
              rw [← hfj, if_neg hjr] at hv
              exact ⟨hv.1, hv.2.trans (by rw [hv.1])⟩
            clear hfj HJ HF
            go_wp2_with fail
            refine (rput_any HR4.out.1 hn 4 k1 R hR.2).mono ?_
            rintro ev w6 ⟨rfl, hr6, hg6, -⟩
            go_wp2
            rw [← HQ.out, HF2.out.1, HF2.out.2]
            exact ⟨rfl, hr6, grown_trans HR4.out.2 hg6⟩
end
end Go.Proofs.YtlgfmhhhecaddaaDoor
