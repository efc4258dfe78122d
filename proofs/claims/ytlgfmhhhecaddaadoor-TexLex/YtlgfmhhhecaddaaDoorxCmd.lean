/- tex: command. -/
import Derived.Test.YtlgfmhhhecaddaaDoorxRmk
import Derived.Test.YtlgfmhhhecaddaaDoorxGrp
namespace Go.Proofs.YtlgfmhhhecaddaaDoor
set_option linter.unusedVariables false
open Go.RowKit Go.ChangeShapes
/-- What comes next behind a command's name. -/
def cmF (l : List Int) : Nat := if isV l = true then 50 else if isBg l = true then 51 else if bareB l = true then 52 else 19
section
variable {w0 w : World} {S b off n cap B T gs i : Nat} {c L : Nat → Int}
set_option maxRecDepth 100000 in
set_option maxHeartbeats 16000000 in
theorem command_any (hs : Sta S b n cap B T gs c) (h : En w0 S w b off n cap B T gs c L i) (hi : i < n) (h1 : ltB (c (i + 1)) = true) :
    Calls Tryd.prog 42 #[.pointer (some ⟨B, 0, none⟩)] w (SP w0 S b off n cap B T gs c (stp (cmF (cmN c n i)) B) (cm1 L c n i) (cmK c n i)) := by
  obtain ⟨x0, x1, x2⟩ := h.cells
  have hn := hs.n6
  have hnc := hs.nc
  have hbig := hs.big
  have hin : i + 1 < n := by
    rcases Nat.lt_or_ge (i + 1) n with h2 | h2
    · exact h2
    · rw [hs.ch.2 _ h2] at h1; exact absurd h1 (by decide)
  have hK := cmK_le (c := c) hi
  have hK2 : i + 1 < cmK c n i := by
    unfold cmK ps
    rw [fs_no hin (by rw [h1]; rfl)]
    exact fs_ge _ _ _
  have HH : Hid (Sta S b n cap B T gs c ∧ En w0 S w b off n cap B T gs c L i) := ⟨hs, h⟩
  have hby := cmN_byt hs.ch hi
  have hcv0 : ∀ w', En w0 S w' b off n cap B T gs c (cm1 L c n i) (cmK c n i) → (convert 22 9 (.slice (some ⟨b, off + (i + 1), none⟩) (cmK c n i - (i + 1)) (cap - (i + 1)))).run Tryd.prog w' = .ok (.string (strOfNums (cmN c n i))) w' := fun w' h' => by
    have hfr := (BC.from h'.bc (i + 1) (by omega) hnc).upto (m := cmK c n i - (i + 1)) (by omega)
    rw [if_neg (by omega)] at hfr
    exact str_bc (cap := cap - (i + 1)) hfr
  obtain ⟨Q, hQ⟩ : ∃ Q, SP w0 S b off n cap B T gs c (stp (cmF (cmN c n i)) B) (cm1 L c n i) (cmK c n i) = Q := ⟨_, rfl⟩
  rw [hQ]
  have hdl : cm1 L c n i = setL L 2 (i : Int) ((cmK c n i : Nat) : Int) := rfl
  have hdk : cmK c n i = fs (fun j => !ltB (c j)) n (i + 1) := rfl
  generalize cmN c n i = l at hby hcv0 hQ
  generalize cm1 L c n i = L1 at hcv0 hQ hdl
  generalize cmK c n i = KK at hcv0 hQ hdl hdk hK hK2
  have HQ : Hid (SP w0 S b off n cap B T gs c (stp (cmF l) B) L1 KK = Q) := hQ
  have HCV : Hid (∀ w', En w0 S w' b off n cap B T gs c L1 KK → (convert 22 9 (.slice (some ⟨b, off + (i + 1), none⟩) (KK - (i + 1)) (cap - (i + 1)))).run Tryd.prog w' = .ok (.string (strOfNums l)) w') := hcv0
  have HD : Hid (L1 = setL L 2 (i : Int) (KK : Int) ∧ KK = fs (fun j => !ltB (c j)) n (i + 1)) := ⟨hdl, hdk⟩
  have HBY : Hid (Byt l) := hby
  clear hs h hQ hdl hdk hcv0 hby h1
  go_enter Tryd.func42, Tryd.ntmps42
  go_wp2_with fail
  go_loopg [4] (n + 1 - (i + 1)) (fun q tv wr => ∃ k : Nat, q = n + 1 - k ∧ i + 1 ≤ k ∧ k ≤ n ∧ tv = .int .i64 k ∧ wr = w ∧ Hid (fs (fun j => !ltB (c j)) n k = KK))
  case atStart => exact ⟨i + 1, rfl, Nat.le_refl _, by omega, by go_num, rfl, HD.out.2.symm⟩
  case round =>
    obtain ⟨k, hq, hk1, hk2, rfl, hwr, HK⟩ := hrel
    subst wr
    by_cases hgo : k < n ∧ ltB (c k) = true
    · obtain ⟨hkn, hlt⟩ := hgo
      have z1 : (k : Int) < (n : Int) := by omega
      have z2 : (0 : Int) ≤ (k : Int) := by omega
      have z4 : ¬ (k : Int) < 0 := by omega
      obtain ⟨b', off', e, hc⟩ := HH.out.2.bc k hkn
      injection e with e
      injection e with e1 e2 _
      subst e1 e2
      have hcb := HH.out.1.ch.1 k hkn
      have hk := HK.out
      rw [fs_no hkn (by rw [hlt]; rfl)] at hk
      have HK2 : Hid (fs (fun j => !ltB (c j)) n (k + 1) = KK) := hk
      have cT := letterT_any (c k) w
      rw [hlt] at cT
      obtain ⟨ck, hck⟩ : ∃ ck, c k = ck := ⟨_, rfl⟩
      rw [hck] at hc cT hcb
      clear hk hlt hck
      go_wp2_with fail
      refine cT.mono ?_
      rintro ev w2 ⟨rfl, hw⟩
      subst w2
      go_wp2
      go_roundg (n + 1 - (k + 1))
      case measure => omega
      case rel => exact ⟨k + 1, rfl, by omega, by omega, by go_num, rfl, HK2.out⟩
    · have hkk : k = KK := by
        rw [← HK.out]
        by_cases hkn : k < n
        · exact (fs_yes (by rw [show ltB (c k) = false by cases hh : ltB (c k) with | false => rfl | true => exact absurd ⟨hkn, hh⟩ hgo]; rfl)).symm
        · exact (fs_end _ (by omega)).symm
      have cF := flay_any HH.out.1 HH.out.2 (by omega) 2 KK KK (by omega) (by omega)
      rw [← HD.out.1] at cF
      obtain ⟨X, hX⟩ : ∃ X, strOfNums l = X := ⟨_, rfl⟩
      have HX : Hid (strOfNums l = X) := hX
      have e0 := nums_is HBY.out [118, 101, 114, 98] (byt_lit _ rfl)
      have e1 := nums_is HBY.out [98, 101, 103, 105, 110] (byt_lit _ rfl)
      have e2 := nums_is HBY.out [98, 105, 98, 108, 105, 111, 103, 114, 97, 112, 104, 121] (byt_lit _ rfl)
      have e3 := nums_is HBY.out [98, 105, 98, 108, 105, 111, 103, 114, 97, 112, 104, 121, 115, 116, 121, 108, 101] (byt_lit _ rfl)
      have e4 := nums_is HBY.out [99, 105, 116, 101] (byt_lit _ rfl)
      have e5 := nums_is HBY.out [100, 111, 99, 117, 109, 101, 110, 116, 99, 108, 97, 115, 115] (byt_lit _ rfl)
      have e6 := nums_is HBY.out [101, 110, 100] (byt_lit _ rfl)
      have e7 := nums_is HBY.out [105, 110, 99, 108, 117, 100, 101] (byt_lit _ rfl)
      have e8 := nums_is HBY.out [105, 110, 99, 108, 117, 100, 101, 103, 114, 97, 112, 104, 105, 99, 115] (byt_lit _ rfl)
      have e9 := nums_is HBY.out [105, 110, 112, 117, 116] (byt_lit _ rfl)
      have e10 := nums_is HBY.out [108, 97, 98, 101, 108] (byt_lit _ rfl)
      have e11 := nums_is HBY.out [112, 97, 103, 101, 114, 101, 102] (byt_lit _ rfl)
      have e12 := nums_is HBY.out [114, 101, 102] (byt_lit _ rfl)
      have e13 := nums_is HBY.out [117, 115, 101, 112, 97, 99, 107, 97, 103, 101] (byt_lit _ rfl)
      rw [hX] at e0 e1 e2 e3 e4 e5 e6 e7 e8 e9 e10 e11 e12 e13
      simp only [List.map] at e0 e1 e2 e3 e4 e5 e6 e7 e8 e9 e10 e11 e12 e13
      have y1 : (0 : Int) ≤ (i : Int) + 1 := by omega
      have y2 : (i : Int) + 1 ≤ (KK : Int) := by omega
      have y3 : (KK : Int) ≤ (cap : Int) := by omega
      have y4 : ¬ cap = i + 1 := by omega
      have HEE : Hid ((X.toList == [118, 101, 114, 98]) = (l == [118, 101, 114, 98]) ∧ (X.toList == [98, 101, 103, 105, 110]) = (l == [98, 101, 103, 105, 110]) ∧ (X.toList == [98, 105, 98, 108, 105, 111, 103, 114, 97, 112, 104, 121]) = (l == [98, 105, 98, 108, 105, 111, 103, 114, 97, 112, 104, 121]) ∧ (X.toList == [98, 105, 98, 108, 105, 111, 103, 114, 97, 112, 104, 121, 115, 116, 121, 108, 101]) = (l == [98, 105, 98, 108, 105, 111, 103, 114, 97, 112, 104, 121, 115, 116, 121, 108, 101]) ∧ (X.toList == [99, 105, 116, 101]) = (l == [99, 105, 116, 101]) ∧ (X.toList == [100, 111, 99, 117, 109, 101, 110, 116, 99, 108, 97, 115, 115]) = (l == [100, 111, 99, 117, 109, 101, 110, 116, 99, 108, 97, 115, 115]) ∧ (X.toList == [101, 110, 100]) = (l == [101, 110, 100]) ∧ (X.toList == [105, 110, 99, 108, 117, 100, 101]) = (l == [105, 110, 99, 108, 117, 100, 101]) ∧ (X.toList == [105, 110, 99, 108, 117, 100, 101, 103, 114, 97, 112, 104, 105, 99, 115]) = (l == [105, 110, 99, 108, 117, 100, 101, 103, 114, 97, 112, 104, 105, 99, 115]) ∧ (X.toList == [105, 110, 112, 117, 116]) = (l == [105, 110, 112, 117, 116]) ∧ (X.toList == [108, 97, 98, 101, 108]) = (l == [108, 97, 98, 101, 108]) ∧ (X.toList == [112, 97, 103, 101, 114, 101, 102]) = (l == [112, 97, 103, 101, 114, 101, 102]) ∧ (X.toList == [114, 101, 102]) = (l == [114, 101, 102]) ∧ (X.toList == [117, 115, 101, 112, 97, 99, 107, 97, 103, 101]) = (l == [117, 115, 101, 112, 97, 99, 107, 97, 103, 101])) := ⟨e0, e1, e2, e3, e4, e5, e6, e7, e8, e9, e10, e11, e12, e13⟩
      clear hX e0 e1 e2 e3 e4 e5 e6 e7 e8 e9 e10 e11 e12 e13
      by_cases hkn : k < n
      · have hlt : ltB (c k) = false := by cases hh : ltB (c k) with | false => rfl | true => exact absurd ⟨hkn, hh⟩ hgo
        have z1 : (k : Int) < (n : Int) := by omega
        have z2 : (0 : Int) ≤ (k : Int) := by omega
        have z4 : ¬ (k : Int) < 0 := by omega
        obtain ⟨b', off', e, hc⟩ := HH.out.2.bc k hkn
        injection e with e
        injection e with e1 e2 _
        subst e1 e2
        have hcb := HH.out.1.ch.1 k hkn
        have cT := letterT_any (c k) w
        rw [hlt] at cT
        obtain ⟨ck, hck⟩ : ∃ ck, c k = ck := ⟨_, rfl⟩
        rw [hck] at hc cT hcb
        clear hlt hck hgo
        subst hkk
        go_wp2_with fail
        refine cT.mono ?_
        rintro ev w2 ⟨rfl, hw⟩
        subst w2
        clear cT
        go_wp2_with fail
        clear x0 x1 x2
        refine cF.mono ?_
        rintro ev w3 ⟨rfl, hE3⟩
        obtain ⟨x0, x1, x2⟩ := hE3.cells
        have hcv := HCV.out w3 hE3
        rw [HX.out] at hcv
        have HE3 := Hid.mk' hE3
        clear hE3 cF
        obtain ⟨e0, e1, e2, e3, e4, e5, e6, e7, e8, e9, e10, e11, e12, e13⟩ := HEE.out
        by_cases h0 : l = [118, 101, 114, 98]
        · have k0 : (X.toList == [118, 101, 114, 98]) = true := by rw [e0, h0]; rfl
          have HF : Hid (cmF l = 50) := by show _ = _; rw [h0]; rfl
          clear h0 e0 e1 e2 e3 e4 e5 e6 e7 e8 e9 e10 e11 e12 e13
          go_wp2
          rw [← HQ.out, HF.out]
          exact ⟨rfl, HE3.out⟩
        · have k0 : (X.toList == [118, 101, 114, 98]) = false := by rw [e0]; simpa using h0
          by_cases h1 : l = [98, 101, 103, 105, 110]
          · have k1 : (X.toList == [98, 101, 103, 105, 110]) = true := by rw [e1, h1]; rfl
            have HF : Hid (cmF l = 51) := by show _ = _; rw [h1]; rfl
            clear h1 e0 e1 e2 e3 e4 e5 e6 e7 e8 e9 e10 e11 e12 e13 h0
            go_wp2
            rw [← HQ.out, HF.out]
            exact ⟨rfl, HE3.out⟩
          · have k1 : (X.toList == [98, 101, 103, 105, 110]) = false := by rw [e1]; simpa using h1
            by_cases h2 : l = [98, 105, 98, 108, 105, 111, 103, 114, 97, 112, 104, 121]
            · have k2 : (X.toList == [98, 105, 98, 108, 105, 111, 103, 114, 97, 112, 104, 121]) = true := by rw [e2, h2]; rfl
              have HF : Hid (cmF l = 52) := by show _ = _; rw [h2]; rfl
              clear h2 e0 e1 e2 e3 e4 e5 e6 e7 e8 e9 e10 e11 e12 e13 h0 h1
              go_wp2
              rw [← HQ.out, HF.out]
              exact ⟨rfl, HE3.out⟩
            · have k2 : (X.toList == [98, 105, 98, 108, 105, 111, 103, 114, 97, 112, 104, 121]) = false := by rw [e2]; simpa using h2
              by_cases h3 : l = [98, 105, 98, 108, 105, 111, 103, 114, 97, 112, 104, 121, 115, 116, 121, 108, 101]
              · have k3 : (X.toList == [98, 105, 98, 108, 105, 111, 103, 114, 97, 112, 104, 121, 115, 116, 121, 108, 101]) = true := by rw [e3, h3]; rfl
                have HF : Hid (cmF l = 52) := by show _ = _; rw [h3]; rfl
                clear h3 e0 e1 e2 e3 e4 e5 e6 e7 e8 e9 e10 e11 e12 e13 h0 h1 h2
                go_wp2
                rw [← HQ.out, HF.out]
                exact ⟨rfl, HE3.out⟩
              · have k3 : (X.toList == [98, 105, 98, 108, 105, 111, 103, 114, 97, 112, 104, 121, 115, 116, 121, 108, 101]) = false := by rw [e3]; simpa using h3
                by_cases h4 : l = [99, 105, 116, 101]
                · have k4 : (X.toList == [99, 105, 116, 101]) = true := by rw [e4, h4]; rfl
                  have HF : Hid (cmF l = 52) := by show _ = _; rw [h4]; rfl
                  clear h4 e0 e1 e2 e3 e4 e5 e6 e7 e8 e9 e10 e11 e12 e13 h0 h1 h2 h3
                  go_wp2
                  rw [← HQ.out, HF.out]
                  exact ⟨rfl, HE3.out⟩
                · have k4 : (X.toList == [99, 105, 116, 101]) = false := by rw [e4]; simpa using h4
                  by_cases h5 : l = [100, 111, 99, 117, 109, 101, 110, 116, 99, 108, 97, 115, 115]
                  · have k5 : (X.toList == [100, 111, 99, 117, 109, 101, 110, 116, 99, 108, 97, 115, 115]) = true := by rw [e5, h5]; rfl
                    have HF : Hid (cmF l = 52) := by show _ = _; rw [h5]; rfl
                    clear h5 e0 e1 e2 e3 e4 e5 e6 e7 e8 e9 e10 e11 e12 e13 h0 h1 h2 h3 h4
                    go_wp2
                    rw [← HQ.out, HF.out]
                    exact ⟨rfl, HE3.out⟩
                  · have k5 : (X.toList == [100, 111, 99, 117, 109, 101, 110, 116, 99, 108, 97, 115, 115]) = false := by rw [e5]; simpa using h5
                    by_cases h6 : l = [101, 110, 100]
                    · have k6 : (X.toList == [101, 110, 100]) = true := by rw [e6, h6]; rfl
                      have HF : Hid (cmF l = 52) := by show _ = _; rw [h6]; rfl
                      clear h6 e0 e1 e2 e3 e4 e5 e6 e7 e8 e9 e10 e11 e12 e13 h0 h1 h2 h3 h4 h5
                      go_wp2
                      rw [← HQ.out, HF.out]
                      exact ⟨rfl, HE3.out⟩
                    · have k6 : (X.toList == [101, 110, 100]) = false := by rw [e6]; simpa using h6
                      by_cases h7 : l = [105, 110, 99, 108, 117, 100, 101]
                      · have k7 : (X.toList == [105, 110, 99, 108, 117, 100, 101]) = true := by rw [e7, h7]; rfl
                        have HF : Hid (cmF l = 52) := by show _ = _; rw [h7]; rfl
                        clear h7 e0 e1 e2 e3 e4 e5 e6 e7 e8 e9 e10 e11 e12 e13 h0 h1 h2 h3 h4 h5 h6
                        go_wp2
                        rw [← HQ.out, HF.out]
                        exact ⟨rfl, HE3.out⟩
                      · have k7 : (X.toList == [105, 110, 99, 108, 117, 100, 101]) = false := by rw [e7]; simpa using h7
                        by_cases h8 : l = [105, 110, 99, 108, 117, 100, 101, 103, 114, 97, 112, 104, 105, 99, 115]
                        · have k8 : (X.toList == [105, 110, 99, 108, 117, 100, 101, 103, 114, 97, 112, 104, 105, 99, 115]) = true := by rw [e8, h8]; rfl
                          have HF : Hid (cmF l = 52) := by show _ = _; rw [h8]; rfl
                          clear h8 e0 e1 e2 e3 e4 e5 e6 e7 e8 e9 e10 e11 e12 e13 h0 h1 h2 h3 h4 h5 h6 h7
                          go_wp2
                          rw [← HQ.out, HF.out]
                          exact ⟨rfl, HE3.out⟩
                        · have k8 : (X.toList == [105, 110, 99, 108, 117, 100, 101, 103, 114, 97, 112, 104, 105, 99, 115]) = false := by rw [e8]; simpa using h8
                          by_cases h9 : l = [105, 110, 112, 117, 116]
                          · have k9 : (X.toList == [105, 110, 112, 117, 116]) = true := by rw [e9, h9]; rfl
                            have HF : Hid (cmF l = 52) := by show _ = _; rw [h9]; rfl
                            clear h9 e0 e1 e2 e3 e4 e5 e6 e7 e8 e9 e10 e11 e12 e13 h0 h1 h2 h3 h4 h5 h6 h7 h8
                            go_wp2
                            rw [← HQ.out, HF.out]
                            exact ⟨rfl, HE3.out⟩
                          · have k9 : (X.toList == [105, 110, 112, 117, 116]) = false := by rw [e9]; simpa using h9
                            by_cases h10 : l = [108, 97, 98, 101, 108]
                            · have k10 : (X.toList == [108, 97, 98, 101, 108]) = true := by rw [e10, h10]; rfl
                              have HF : Hid (cmF l = 52) := by show _ = _; rw [h10]; rfl
                              clear h10 e0 e1 e2 e3 e4 e5 e6 e7 e8 e9 e10 e11 e12 e13 h0 h1 h2 h3 h4 h5 h6 h7 h8 h9
                              go_wp2
                              rw [← HQ.out, HF.out]
                              exact ⟨rfl, HE3.out⟩
                            · have k10 : (X.toList == [108, 97, 98, 101, 108]) = false := by rw [e10]; simpa using h10
                              by_cases h11 : l = [112, 97, 103, 101, 114, 101, 102]
                              · have k11 : (X.toList == [112, 97, 103, 101, 114, 101, 102]) = true := by rw [e11, h11]; rfl
                                have HF : Hid (cmF l = 52) := by show _ = _; rw [h11]; rfl
                                clear h11 e0 e1 e2 e3 e4 e5 e6 e7 e8 e9 e10 e11 e12 e13 h0 h1 h2 h3 h4 h5 h6 h7 h8 h9 h10
                                go_wp2
                                rw [← HQ.out, HF.out]
                                exact ⟨rfl, HE3.out⟩
                              · have k11 : (X.toList == [112, 97, 103, 101, 114, 101, 102]) = false := by rw [e11]; simpa using h11
                                by_cases h12 : l = [114, 101, 102]
                                · have k12 : (X.toList == [114, 101, 102]) = true := by rw [e12, h12]; rfl
                                  have HF : Hid (cmF l = 52) := by show _ = _; rw [h12]; rfl
                                  clear h12 e0 e1 e2 e3 e4 e5 e6 e7 e8 e9 e10 e11 e12 e13 h0 h1 h2 h3 h4 h5 h6 h7 h8 h9 h10 h11
                                  go_wp2
                                  rw [← HQ.out, HF.out]
                                  exact ⟨rfl, HE3.out⟩
                                · have k12 : (X.toList == [114, 101, 102]) = false := by rw [e12]; simpa using h12
                                  by_cases h13 : l = [117, 115, 101, 112, 97, 99, 107, 97, 103, 101]
                                  · have k13 : (X.toList == [117, 115, 101, 112, 97, 99, 107, 97, 103, 101]) = true := by rw [e13, h13]; rfl
                                    have HF : Hid (cmF l = 52) := by show _ = _; rw [h13]; rfl
                                    clear h13 e0 e1 e2 e3 e4 e5 e6 e7 e8 e9 e10 e11 e12 e13 h0 h1 h2 h3 h4 h5 h6 h7 h8 h9 h10 h11 h12
                                    go_wp2
                                    rw [← HQ.out, HF.out]
                                    exact ⟨rfl, HE3.out⟩
                                  · have k13 : (X.toList == [117, 115, 101, 112, 97, 99, 107, 97, 103, 101]) = false := by rw [e13]; simpa using h13
                                    have HF : Hid (cmF l = 19) := by show _ = _; unfold cmF isV isBg bareB; simp [h0, h1, h2, h3, h4, h5, h6, h7, h8, h9, h10, h11, h12, h13]
                                    clear e0 e1 e2 e3 e4 e5 e6 e7 e8 e9 e10 e11 e12 e13 h0 h1 h2 h3 h4 h5 h6 h7 h8 h9 h10 h11 h12 h13
                                    go_wp2
                                    rw [← HQ.out, HF.out]
                                    exact ⟨rfl, HE3.out⟩
      · have z1 : ¬ (k : Int) < (n : Int) := by omega
        clear hgo
        subst hkk
        go_wp2_with fail
        clear x0 x1 x2
        refine cF.mono ?_
        rintro ev w3 ⟨rfl, hE3⟩
        obtain ⟨x0, x1, x2⟩ := hE3.cells
        have hcv := HCV.out w3 hE3
        rw [HX.out] at hcv
        have HE3 := Hid.mk' hE3
        clear hE3 cF
        obtain ⟨e0, e1, e2, e3, e4, e5, e6, e7, e8, e9, e10, e11, e12, e13⟩ := HEE.out
        by_cases h0 : l = [118, 101, 114, 98]
        · have k0 : (X.toList == [118, 101, 114, 98]) = true := by rw [e0, h0]; rfl
          have HF : Hid (cmF l = 50) := by show _ = _; rw [h0]; rfl
          clear h0 e0 e1 e2 e3 e4 e5 e6 e7 e8 e9 e10 e11 e12 e13
          go_wp2
          rw [← HQ.out, HF.out]
          exact ⟨rfl, HE3.out⟩
        · have k0 : (X.toList == [118, 101, 114, 98]) = false := by rw [e0]; simpa using h0
          by_cases h1 : l = [98, 101, 103, 105, 110]
          · have k1 : (X.toList == [98, 101, 103, 105, 110]) = true := by rw [e1, h1]; rfl
            have HF : Hid (cmF l = 51) := by show _ = _; rw [h1]; rfl
            clear h1 e0 e1 e2 e3 e4 e5 e6 e7 e8 e9 e10 e11 e12 e13 h0
            go_wp2
            rw [← HQ.out, HF.out]
            exact ⟨rfl, HE3.out⟩
          · have k1 : (X.toList == [98, 101, 103, 105, 110]) = false := by rw [e1]; simpa using h1
            by_cases h2 : l = [98, 105, 98, 108, 105, 111, 103, 114, 97, 112, 104, 121]
            · have k2 : (X.toList == [98, 105, 98, 108, 105, 111, 103, 114, 97, 112, 104, 121]) = true := by rw [e2, h2]; rfl
              have HF : Hid (cmF l = 52) := by show _ = _; rw [h2]; rfl
              clear h2 e0 e1 e2 e3 e4 e5 e6 e7 e8 e9 e10 e11 e12 e13 h0 h1
              go_wp2
              rw [← HQ.out, HF.out]
              exact ⟨rfl, HE3.out⟩
            · have k2 : (X.toList == [98, 105, 98, 108, 105, 111, 103, 114, 97, 112, 104, 121]) = false := by rw [e2]; simpa using h2
              by_cases h3 : l = [98, 105, 98, 108, 105, 111, 103, 114, 97, 112, 104, 121, 115, 116, 121, 108, 101]
              · have k3 : (X.toList == [98, 105, 98, 108, 105, 111, 103, 114, 97, 112, 104, 121, 115, 116, 121, 108, 101]) = true := by rw [e3, h3]; rfl
                have HF : Hid (cmF l = 52) := by show _ = _; rw [h3]; rfl
                clear h3 e0 e1 e2 e3 e4 e5 e6 e7 e8 e9 e10 e11 e12 e13 h0 h1 h2
                go_wp2
                rw [← HQ.out, HF.out]
                exact ⟨rfl, HE3.out⟩
              · have k3 : (X.toList == [98, 105, 98, 108, 105, 111, 103, 114, 97, 112, 104, 121, 115, 116, 121, 108, 101]) = false := by rw [e3]; simpa using h3
                by_cases h4 : l = [99, 105, 116, 101]
                · have k4 : (X.toList == [99, 105, 116, 101]) = true := by rw [e4, h4]; rfl
                  have HF : Hid (cmF l = 52) := by show _ = _; rw [h4]; rfl
                  clear h4 e0 e1 e2 e3 e4 e5 e6 e7 e8 e9 e10 e11 e12 e13 h0 h1 h2 h3
                  go_wp2
                  rw [← HQ.out, HF.out]
                  exact ⟨rfl, HE3.out⟩
                · have k4 : (X.toList == [99, 105, 116, 101]) = false := by rw [e4]; simpa using h4
                  by_cases h5 : l = [100, 111, 99, 117, 109, 101, 110, 116, 99, 108, 97, 115, 115]
                  · have k5 : (X.toList == [100, 111, 99, 117, 109, 101, 110, 116, 99, 108, 97, 115, 115]) = true := by rw [e5, h5]; rfl
                    have HF : Hid (cmF l = 52) := by show _ = _; rw [h5]; rfl
                    clear h5 e0 e1 e2 e3 e4 e5 e6 e7 e8 e9 e10 e11 e12 e13 h0 h1 h2 h3 h4
                    go_wp2
                    rw [← HQ.out, HF.out]
                    exact ⟨rfl, HE3.out⟩
                  · have k5 : (X.toList == [100, 111, 99, 117, 109, 101, 110, 116, 99, 108, 97, 115, 115]) = false := by rw [e5]; simpa using h5
                    by_cases h6 : l = [101, 110, 100]
                    · have k6 : (X.toList == [101, 110, 100]) = true := by rw [e6, h6]; rfl
                      have HF : Hid (cmF l = 52) := by show _ = _; rw [h6]; rfl
                      clear h6 e0 e1 e2 e3 e4 e5 e6 e7 e8 e9 e10 e11 e12 e13 h0 h1 h2 h3 h4 h5
                      go_wp2
                      rw [← HQ.out, HF.out]
                      exact ⟨rfl, HE3.out⟩
                    · have k6 : (X.toList == [101, 110, 100]) = false := by rw [e6]; simpa using h6
                      by_cases h7 : l = [105, 110, 99, 108, 117, 100, 101]
                      · have k7 : (X.toList == [105, 110, 99, 108, 117, 100, 101]) = true := by rw [e7, h7]; rfl
                        have HF : Hid (cmF l = 52) := by show _ = _; rw [h7]; rfl
                        clear h7 e0 e1 e2 e3 e4 e5 e6 e7 e8 e9 e10 e11 e12 e13 h0 h1 h2 h3 h4 h5 h6
                        go_wp2
                        rw [← HQ.out, HF.out]
                        exact ⟨rfl, HE3.out⟩
                      · have k7 : (X.toList == [105, 110, 99, 108, 117, 100, 101]) = false := by rw [e7]; simpa using h7
                        by_cases h8 : l = [105, 110, 99, 108, 117, 100, 101, 103, 114, 97, 112, 104, 105, 99, 115]
                        · have k8 : (X.toList == [105, 110, 99, 108, 117, 100, 101, 103, 114, 97, 112, 104, 105, 99, 115]) = true := by rw [e8, h8]; rfl
                          have HF : Hid (cmF l = 52) := by show _ = _; rw [h8]; rfl
                          clear h8 e0 e1 e2 e3 e4 e5 e6 e7 e8 e9 e10 e11 e12 e13 h0 h1 h2 h3 h4 h5 h6 h7
                          go_wp2
                          rw [← HQ.out, HF.out]
                          exact ⟨rfl, HE3.out⟩
                        · have k8 : (X.toList == [105, 110, 99, 108, 117, 100, 101, 103, 114, 97, 112, 104, 105, 99, 115]) = false := by rw [e8]; simpa using h8
                          by_cases h9 : l = [105, 110, 112, 117, 116]
                          · have k9 : (X.toList == [105, 110, 112, 117, 116]) = true := by rw [e9, h9]; rfl
                            have HF : Hid (cmF l = 52) := by show _ = _; rw [h9]; rfl
                            clear h9 e0 e1 e2 e3 e4 e5 e6 e7 e8 e9 e10 e11 e12 e13 h0 h1 h2 h3 h4 h5 h6 h7 h8
                            go_wp2
                            rw [← HQ.out, HF.out]
                            exact ⟨rfl, HE3.out⟩
                          · have k9 : (X.toList == [105, 110, 112, 117, 116]) = false := by rw [e9]; simpa using h9
                            by_cases h10 : l = [108, 97, 98, 101, 108]
                            · have k10 : (X.toList == [108, 97, 98, 101, 108]) = true := by rw [e10, h10]; rfl
                              have HF : Hid (cmF l = 52) := by show _ = _; rw [h10]; rfl
                              clear h10 e0 e1 e2 e3 e4 e5 e6 e7 e8 e9 e10 e11 e12 e13 h0 h1 h2 h3 h4 h5 h6 h7 h8 h9
                              go_wp2
                              rw [← HQ.out, HF.out]
                              exact ⟨rfl, HE3.out⟩
                            · have k10 : (X.toList == [108, 97, 98, 101, 108]) = false := by rw [e10]; simpa using h10
                              by_cases h11 : l = [112, 97, 103, 101, 114, 101, 102]
                              · have k11 : (X.toList == [112, 97, 103, 101, 114, 101, 102]) = true := by rw [e11, h11]; rfl
                                have HF : Hid (cmF l = 52) := by show _ = _; rw [h11]; rfl
                                clear h11 e0 e1 e2 e3 e4 e5 e6 e7 e8 e9 e10 e11 e12 e13 h0 h1 h2 h3 h4 h5 h6 h7 h8 h9 h10
                                go_wp2
                                rw [← HQ.out, HF.out]
                                exact ⟨rfl, HE3.out⟩
                              · have k11 : (X.toList == [112, 97, 103, 101, 114, 101, 102]) = false := by rw [e11]; simpa using h11
                                by_cases h12 : l = [114, 101, 102]
                                · have k12 : (X.toList == [114, 101, 102]) = true := by rw [e12, h12]; rfl
                                  have HF : Hid (cmF l = 52) := by show _ = _; rw [h12]; rfl
                                  clear h12 e0 e1 e2 e3 e4 e5 e6 e7 e8 e9 e10 e11 e12 e13 h0 h1 h2 h3 h4 h5 h6 h7 h8 h9 h10 h11
                                  go_wp2
                                  rw [← HQ.out, HF.out]
                                  exact ⟨rfl, HE3.out⟩
                                · have k12 : (X.toList == [114, 101, 102]) = false := by rw [e12]; simpa using h12
                                  by_cases h13 : l = [117, 115, 101, 112, 97, 99, 107, 97, 103, 101]
                                  · have k13 : (X.toList == [117, 115, 101, 112, 97, 99, 107, 97, 103, 101]) = true := by rw [e13, h13]; rfl
                                    have HF : Hid (cmF l = 52) := by show _ = _; rw [h13]; rfl
                                    clear h13 e0 e1 e2 e3 e4 e5 e6 e7 e8 e9 e10 e11 e12 e13 h0 h1 h2 h3 h4 h5 h6 h7 h8 h9 h10 h11 h12
                                    go_wp2
                                    rw [← HQ.out, HF.out]
                                    exact ⟨rfl, HE3.out⟩
                                  · have k13 : (X.toList == [117, 115, 101, 112, 97, 99, 107, 97, 103, 101]) = false := by rw [e13]; simpa using h13
                                    have HF : Hid (cmF l = 19) := by show _ = _; unfold cmF isV isBg bareB; simp [h0, h1, h2, h3, h4, h5, h6, h7, h8, h9, h10, h11, h12, h13]
                                    clear e0 e1 e2 e3 e4 e5 e6 e7 e8 e9 e10 e11 e12 e13 h0 h1 h2 h3 h4 h5 h6 h7 h8 h9 h10 h11 h12 h13
                                    go_wp2
                                    rw [← HQ.out, HF.out]
                                    exact ⟨rfl, HE3.out⟩
end
end Go.Proofs.YtlgfmhhhecaddaaDoor
