/- The reference: tex, groups that are not read; begin. -/
import Derived.Test.YtlgfmhhhecaddaaDoorxRtM
import Derived.Test.YtlgfmhhhecaddaaDoorxBeg
namespace Go.Proofs.YtlgfmhhhecaddaaDoor
set_option linter.unusedVariables false
open Go.RowKit Go.ChangeShapes
section
variable {s : ByteArray} {c L : Nat → Int} {n g i : Nat} {w : World}
set_option maxRecDepth 100000 in
set_option maxHeartbeats 16000000 in
theorem rtex_grp (h : SC s c n) (hn : n ≤ 65536) (hR : LR w g n L) (hi : i < n) (h92 : c i = 92) (hlt : ltB (c (i + 1)) = true) (hv : isV (cmN c n i) = false) (hb : (isBg (cmN c n i) || bareB (cmN c n i)) = true) :
    Calls Tryd.prog 22 #[.slice (some ⟨g, 0, none⟩) n n, .string s, .int .i64 i] w (RtP w g n (cmE c n i) (cmL L c n i)) := by
  have hsz := h.1
  have z1 : (0 : Int) ≤ (i : Int) := by omega
  have z2 : (i : Int) < (n : Int) := by omega
  have z3 : i < s.size := by omega
  have hx := h.2.2.1 i z3
  rw [h92] at hx
  have hin : i + 1 < n := by
    rcases Nat.lt_or_ge (i + 1) n with h2 | h2
    · exact h2
    · rw [h.2.1.2 _ h2] at hlt; exact absurd hlt (by decide)
  have hK := cmK_le (c := c) hi
  have hK2 : i + 1 < cmK c n i := by
    unfold cmK ps
    rw [fs_no hin (by rw [hlt]; rfl)]
    exact fs_ge _ _ _
  have hby := cmN_byt h.2.1 hi
  have hsub : s.extract (i + 1) (cmK c n i) = strOfNums (cmN c n i) := sc_sub h (i + 1) (cmK c n i) hK.1 hK.2
  have hdk : fs (fun j => !ltB (c j)) n (i + 1) = cmK c n i := rfl
  obtain ⟨EE, hEE⟩ : ∃ EE, cmE c n i = EE := ⟨_, rfl⟩
  obtain ⟨LL, hLL⟩ : ∃ LL, cmL L c n i = LL := ⟨_, rfl⟩
  have HDf : Hid (if isBg (cmN c n i) = true then (EE = bgE c n (cmK c n i) ∧ LL = bgL (setL L 2 (i : Int) ((cmK c n i : Nat) : Int)) c n (cmK c n i)) else (EE = gps c n (cmK c n i) ∧ LL = gpL (setL L 2 (i : Int) ((cmK c n i : Nat) : Int)) c n (cmK c n i))) := by
    show if _ then _ else _
    rw [← hEE, ← hLL]
    unfold cmE cmL cm1
    rw [hv]
    cases hh : isBg (cmN c n i) with
    | true => exact ⟨rfl, rfl⟩
    | false =>
      rw [hh] at hb
      have hb' : bareB (cmN c n i) = true := hb
      rw [hb']
      exact ⟨rfl, rfl⟩
  rw [hEE, hLL]
  clear hEE hLL
  generalize cmN c n i = l at *
  generalize cmK c n i = K at *
  have HKd : Hid (fs (fun j => !ltB (c j)) n (i + 1) = K) := hdk
  obtain ⟨X, hX⟩ : ∃ X, strOfNums l = X := ⟨_, rfl⟩
  rw [hX] at hsub
  have ev := nums_is hby [118, 101, 114, 98] (byt_lit _ rfl)
  have eb := nums_is hby [98, 101, 103, 105, 110] (byt_lit _ rfl)
  rw [hX] at ev eb
  simp only [List.map] at ev eb
  have cb := fun w' => rbare_any hby w'
  rw [hX] at cb
  have HX : Hid (strOfNums l = X) := hX
  have v1 : (0 : Int) ≤ (i : Int) + 1 := by omega
  have v2 : (i : Int) + 1 ≤ (K : Int) := by omega
  have v3 : (K : Int) ≤ (n : Int) := by omega
  have kv : (X.toList == [118, 101, 114, 98]) = false := by rw [show (X.toList == [118, 101, 114, 98]) = (l == [118, 101, 114, 98]) from ev]; exact hv
  rw [hb] at cb
  clear ev hv hb
  clear h92 hlt hdk hX
  have HH : Hid (SC s c n ∧ LR w g n L) := ⟨h, hR⟩
  obtain ⟨Q, hQ⟩ : ∃ Q, RtP w g n EE LL = Q := ⟨_, rfl⟩
  rw [hQ]
  have HQ : Hid (RtP w g n EE LL = Q) := hQ
  clear h hR hQ
  go_enter Tryd.func22, Tryd.ntmps22
  go_wp2_with fail
  go_loopg [11] (n + 1 - (i + 1)) (fun q tv wr => ∃ k : Nat, q = n + 1 - k ∧ i + 1 ≤ k ∧ k ≤ n ∧ tv = .int .i64 k ∧ wr = w ∧ Hid (fs (fun j => !ltB (c j)) n k = K))
  case atStart => exact ⟨i + 1, rfl, Nat.le_refl _, by omega, by go_num, rfl, HKd.out⟩
  case round =>
    obtain ⟨k, hq, hk1, hk2, rfl, hw, HK⟩ := hrel
    subst wr
    have cT := rletter_any HH.out.1 (by omega) k w
    cases hlt : ltB (c k) with
    | true =>
      have hkn : k < n := by
        rcases Nat.lt_or_ge k n with h2 | h2
        · exact h2
        · rw [HH.out.1.2.1.2 k h2] at hlt; exact absurd hlt (by decide)
      rw [hlt] at cT
      have hk := HK.out
      rw [fs_no hkn (by rw [hlt]; rfl)] at hk
      have HK2 : Hid (fs (fun j => !ltB (c j)) n (k + 1) = K) := hk
      clear hk hlt
      go_wp2_with fail
      refine cT.mono ?_
      rintro ev w2 ⟨rfl, hw⟩
      subst w2
      go_wp2
      go_roundg (n + 1 - (k + 1))
      case measure => omega
      case rel => exact ⟨k + 1, rfl, by omega, by omega, by go_num, rfl, HK2⟩
    | false =>
      rw [hlt] at cT
      have hkk : k = K := by
        rw [← HK.out]
        exact (fs_yes (by rw [hlt]; rfl)).symm
      subst hkk
      clear hlt HK hq hk1 hk2
      go_wp2_with fail
      refine cT.mono ?_
      rintro ev w2 ⟨rfl, hw⟩
      subst w2
      clear cT
      have v0 : ((k : Int) == (i : Int) + 1) = false := by simp; omega
      go_wp2_with fail
      refine (rput_any HH.out.2 hn 2 i k hK.2).mono ?_
      rintro ev w2 ⟨rfl, hr2, hg2, -⟩
      obtain ⟨L1, hL1⟩ : ∃ L1, setL L 2 (i : Int) (k : Int) = L1 := ⟨_, rfl⟩
      rw [hL1] at hr2
      have HL1 : Hid (setL L 2 (i : Int) (k : Int) = L1) := hL1
      have HR2 : Hid (LR w2 g n L1 ∧ w.grownBy w2 (some g)) := ⟨hr2, hg2⟩
      clear hr2 hg2 hL1
      go_wp2_with fail
      refine (cb w2).mono ?_
      rintro ev w3 ⟨rfl, hw⟩
      subst w3
      clear cb
      go_wp2_with fail
      go_loopg [19] (n - k) (fun q ev wr => ∃ e : Nat, q = n - e ∧ k ≤ e ∧ e ≤ n ∧ ev = .int .i64 e ∧ wr = w2 ∧ Hid (gps c n e = gps c n k))
      case atStart => exact ⟨k, rfl, Nat.le_refl _, hK.2, rfl, rfl, rfl⟩
      case round =>
        obtain ⟨e, hq, he1, he2, rfl, hw, HG⟩ := hrel
        subst wr
        have hg := grp_le c n e
        have cg := rgroup_any HH.out.1 hn e he2 w2
        by_cases h0 : grp c n e = 0
        · rw [h0, show brI 0 = -1 from rfl] at cg
          have hge := HG.out
          rw [gps_no h0] at hge
          have HGE : Hid (gps c n k = e) := hge.symm
          clear h0 hg HG hq hge
          go_wp2_with fail
          refine cg.mono ?_
          rintro ev w4 ⟨rfl, hw⟩
          subst w4
          clear cg
          go_wp2_with fail
          refine (rput_any HR2.out.1 hn 2 k e he2).mono ?_
          rintro ev w5 ⟨rfl, hr5, hg5, -⟩
          obtain ⟨L2, hL2⟩ : ∃ L2, setL L1 2 (k : Int) (e : Int) = L2 := ⟨_, rfl⟩
          rw [hL2] at hr5
          have HR5 : Hid (LR w5 g n L2 ∧ w.grownBy w5 (some g)) := ⟨hr5, grown_trans HR2.out.2 hg5⟩
          have HL2 : Hid (gpL (setL L 2 (i : Int) (k : Int)) c n k = L2) := by
            show _ = _
            unfold gpL
            rw [HGE.out, HL1.out, hL2]
          have cg2 := rgroup_any HH.out.1 hn k hK.2 w5
          have hg2 := grp_le c n k
          clear hr5 hg5 hL2 HR2
          cases hbg : isBg l with
          | false =>
            have kb : (X.toList == [98, 101, 103, 105, 110]) = false := by rw [show (X.toList == [98, 101, 103, 105, 110]) = (l == [98, 101, 103, 105, 110]) from eb]; exact hbg
            have HF : Hid (EE = e ∧ LL = L2) := by
              have hd := HDf.out
              rw [hbg] at hd
              exact ⟨hd.1.trans HGE.out, hd.2.trans HL2.out⟩
            obtain ⟨V, hV⟩ : ∃ V, brI (grp c n k) = V := ⟨_, rfl⟩
            rw [hV] at cg2
            clear hbg eb hV hg2
            go_wp2_with fail
            refine cg2.mono ?_
            rintro ev w6 ⟨rfl, hw⟩
            subst w6
            go_wp2
            rw [← HQ.out, HF.out.1, HF.out.2]
            exact ⟨rfl, HR5.out.1, HR5.out.2⟩
          | true =>
            have kb : (X.toList == [98, 101, 103, 105, 110]) = true := by rw [show (X.toList == [98, 101, 103, 105, 110]) = (l == [98, 101, 103, 105, 110]) from eb]; exact hbg
            have HD2 : Hid (EE = bgE c n k ∧ LL = bgL (setL L 2 (i : Int) (k : Int)) c n k) := by
              have hd := HDf.out
              rw [hbg] at hd
              exact hd
            clear hbg eb HDf
            by_cases hok : whB (bcd c n k) = true
            · have hgk : grp c n k ≠ 0 ∧ c k = 123 := by
                unfold bcd at hok
                by_cases h1 : grp c n k = 0 ∨ c k ≠ 123
                · rw [if_pos h1] at hok; exact absurd hok (by decide)
                · constructor
                  · exact fun e => h1 (Or.inl e)
                  · exact Classical.byContradiction fun e => h1 (Or.inr e)
              have t3 : k < s.size := by rw [HH.out.1.1]; omega
              have hbI : brI (grp c n k) = ((grp c n k : Nat) : Int) := by unfold brI; rw [if_neg hgk.1]
              rw [hbI] at cg2
              have hbd : bcd c n k = cl (fun j => c (k + 1 + j)) (grp c n k - 1 - (k + 1)) := by unfold bcd; rw [if_neg (by intro h; rcases h with h | h; exact hgk.1 h; exact h hgk.2)]
              obtain ⟨G, hG⟩ : ∃ G, grp c n k = G + 2 + k := ⟨grp c n k - 2 - k, by omega⟩
              rw [hG] at cg2 hbd hg2
              rw [show G + 2 + k - 1 - (k + 1) = G by omega] at hbd
              have hsb : s.extract (k + 1) (G + 1 + k) = strOfNums (bcd c n k) := by
                rw [hbd, sc_sub HH.out.1 (k + 1) (G + 1 + k) (by omega) (by omega), show G + 1 + k - (k + 1) = G by omega]
              have hbby := bcd_byt HH.out.1.2.1 k
              have cW := rwhole_any hbby w5
              rw [hok] at cW
              have hlen : (bcd c n k).length = G := by rw [hbd, cl_len]
              have hG20 := wh_len hok
              have htby := enT_byt hbby
              have htl : (enT (bcd c n k)).length = G + 6 := by simp [enT, hlen]
              have hE : EE = unE c n e (enT (bcd c n k)) ∧ LL = unL L2 c n e (enT (bcd c n k)) := by
                have hd := HD2.out
                unfold bgE bgL at hd
                rw [hok, HGE.out, HL2.out] at hd
                exact hd
              obtain ⟨lb, hlb⟩ : ∃ lb, bcd c n k = lb := ⟨_, rfl⟩
              rw [hlb] at hsb cW htby htl hE hG20
              obtain ⟨B, hB⟩ : ∃ B, strOfNums lb = B := ⟨_, rfl⟩
              have hBz : B.size = G := by rw [← hB, strOfNums_size, ← hlb, hlen]
              rw [hB] at hsb cW
              have hen : strOfNums (enT lb) = ⟨#[92, 101, 110, 100, 123]⟩ ++ B ++ ⟨#[125]⟩ := by
                show strOfNums (([92, 101, 110, 100, 123] ++ lb) ++ [125]) = _
                rw [nums_app, nums_app, hB]
                rfl
              obtain ⟨Z, hZ⟩ : ∃ Z, (⟨#[92, 101, 110, 100, 123]⟩ ++ B ++ ⟨#[125]⟩ : ByteArray) = Z := ⟨_, rfl⟩
              have hZz : Z.size = G + 6 := by rw [← hZ, ← hen, strOfNums_size, htl]
              have HZ : Hid (strOfNums (enT lb) = Z ∧ Byt (enT lb) ∧ (enT lb).length = G + 6) := ⟨by rw [hen, hZ], htby, htl⟩
              have HE : Hid (EE = unE c n e (enT lb) ∧ LL = unL L2 c n e (enT lb)) := hE
              have hx3 := HH.out.1.2.2.1 k t3
              rw [hgk.2] at hx3
              have hG9 : G ≤ 20 := by rw [← hlen, hlb]; exact hG20
              have t1 : (0 : Int) ≤ (k : Int) := by omega
              have t2 : (k : Int) < (n : Int) := by omega
              obtain ⟨u, hu⟩ : ∃ u, k + 1 = u := ⟨_, rfl⟩
              obtain ⟨v, hv⟩ : ∃ v, G + 1 + k = v := ⟨_, rfl⟩
              rw [hu, hv] at hsb
              have r1 : (k : Int) + 1 = (u : Int) := by omega
              have r2 : (G : Int) + 2 + (k : Int) - 1 = (v : Int) := by omega
              have t4 : (0 : Int) ≤ (u : Int) := by omega
              have t5 : (u : Int) ≤ (v : Int) := by omega
              have t6 : (v : Int) ≤ (n : Int) := by omega
              clear hu hv
              have t8 : (0 : Int) < ((G + 2 + k : Nat) : Int) := by omega
              have q1 : ¬ 9223372036854775807 < 5 + B.size := by omega
              have q2 : ¬ 9223372036854775807 < 5 + B.size + 1 := by omega
              have q3 : ¬ 9223372036854775807 < 5 + G := by omega
              have q4 : ¬ 9223372036854775807 < 5 + G + 1 := by omega
              clear hok hgk hbI hbd hG hbby hlen hG20 htby htl hE hlb hB hen hg2 HD2
              go_wp2_with fail
              refine cg2.mono ?_
              rintro ev w6 ⟨rfl, hw⟩
              subst w6
              clear cg2
              go_wp2_with fail
              refine cW.mono ?_
              rintro ev w6 ⟨rfl, hw⟩
              subst w6
              clear cW
              go_wp2_with fail
              go_loopg [22] (n - e) (fun q jv wr => ∃ j : Nat, q = n - j ∧ e ≤ j ∧ j ≤ n ∧ jv = .int .i64 j ∧ wr = w5 ∧ Hid (fs (oc (enT lb) c) n j = fs (oc (enT lb) c) n e))
              case atStart => exact ⟨e, rfl, Nat.le_refl _, he2, rfl, rfl, rfl⟩
              case round =>
                obtain ⟨j, hq, hj1, hj2, rfl, hw, HJ⟩ := hrel
                subst wr
                by_cases hjn : j < n
                · have u1 : (j : Int) < (n : Int) := by omega
                  have cc := rat_any HH.out.1 (by omega) j (by omega) Z (enT lb) HZ.out.2.1 HZ.out.1 (by rw [HZ.out.2.2]; omega) (enT_ne lb) w5
                  cases hok : oc (enT lb) c j with
                  | true =>
                    rw [hok] at cc
                    have hol := oc_len HH.out.1.2.1.2 (enT lb) HZ.out.2.1 j (enT_ne lb) hok
                    rw [HZ.out.2.2] at hol
                    have HF : Hid (EE = j + (G + 6) ∧ LL = setL (setL L2 4 (e : Int) (j : Int)) 2 (j : Int) ((j + (G + 6) : Nat) : Int)) := by
                      have hj := HJ.out
                      rw [fs_yes hok] at hj
                      have hd := HE.out
                      unfold unE unL bh at hd
                      rw [← hj, HZ.out.2.2, if_pos hjn, if_pos hjn] at hd
                      exact hd
                    clear hok HJ
                    go_wp2_with fail
                    refine cc.mono ?_
                    rintro ev w6 ⟨rfl, hw⟩
                    subst w6
                    clear cc
                    go_wp2_with fail
                    refine (rput_any HR5.out.1 hn 4 e j hj2).mono ?_
                    rintro ev w6 ⟨rfl, hr6, hg6, -⟩
                    go_wp2_with fail
                    rw [show ((j : Int) + ((G : Int) + 6)) = ((j + (G + 6) : Nat) : Int) by omega]
                    refine (rput_any hr6 hn 2 j (j + (G + 6)) hol).mono ?_
                    rintro ev w7 ⟨rfl, hr7, hg7, -⟩
                    go_wp2
                    rw [← HQ.out, HF.out.1, HF.out.2]
                    exact ⟨by go_num, hr7, grown_trans (grown_trans HR5.out.2 hg6) hg7⟩
                  | false =>
                    rw [hok] at cc
                    have hj := HJ.out
                    rw [fs_no hjn hok] at hj
                    have HJ2 : Hid (fs (oc (enT lb) c) n (j + 1) = fs (oc (enT lb) c) n e) := hj
                    clear hok hj HJ
                    go_wp2_with fail
                    refine cc.mono ?_
                    rintro ev w6 ⟨rfl, hw⟩
                    subst w6
                    clear cc
                    go_wp2
                    go_roundg (n - (j + 1))
                    case measure => omega
                    case rel => exact ⟨j + 1, rfl, by omega, by omega, by go_num, rfl, HJ2⟩
                · have u1 : ¬ (j : Int) < (n : Int) := by omega
                  have HF : Hid (EE = n ∧ LL = setL L2 4 (e : Int) (n : Int)) := by
                    have hj := HJ.out
                    rw [fs_end _ (by omega)] at hj
                    have hd := HE.out
                    unfold unE unL bh at hd
                    rw [← hj, if_neg hjn, if_neg hjn] at hd
                    exact hd
                  clear HJ
                  go_wp2_with fail
                  refine (rput_any HR5.out.1 hn 4 e n (Nat.le_refl _)).mono ?_
                  rintro ev w6 ⟨rfl, hr6, hg6, -⟩
                  go_wp2
                  rw [← HQ.out, HF.out.1, HF.out.2]
                  exact ⟨rfl, hr6, grown_trans HR5.out.2 hg6⟩
            · have HF : Hid (EE = e ∧ LL = L2) := by
                have hd := HD2.out
                unfold bgE bgL at hd
                rw [if_neg hok, if_neg hok] at hd
                exact ⟨hd.1.trans HGE.out, hd.2.trans HL2.out⟩
              clear HD2
              by_cases h0 : grp c n k = 0
              · rw [h0, show brI 0 = -1 from rfl] at cg2
                clear h0 hok hg2
                go_wp2_with fail
                refine cg2.mono ?_
                rintro ev w6 ⟨rfl, hw⟩
                subst w6
                go_wp2
                rw [← HQ.out, HF.out.1, HF.out.2]
                exact ⟨rfl, HR5.out.1, HR5.out.2⟩
              · have hbI : brI (grp c n k) = ((grp c n k : Nat) : Int) := by unfold brI; rw [if_neg h0]
                rw [hbI] at cg2
                have t1 : (0 : Int) ≤ (k : Int) := by omega
                have t2 : (k : Int) < (n : Int) := by omega
                have t3 : k < s.size := by have := HH.out.1.1; omega
                have hx3 := HH.out.1.2.2.1 k t3
                by_cases h123 : c k = 123
                · have hbd : bcd c n k = cl (fun j => c (k + 1 + j)) (grp c n k - 1 - (k + 1)) := by unfold bcd; rw [if_neg (by intro h; rcases h with h | h; exact h0 h; exact h h123)]
                  obtain ⟨G, hG⟩ : ∃ G, grp c n k = G + 2 + k := ⟨grp c n k - 2 - k, by omega⟩
                  rw [hG] at cg2 hbd hg2
                  rw [show G + 2 + k - 1 - (k + 1) = G by omega] at hbd
                  have hsb : s.extract (k + 1) (G + 1 + k) = strOfNums (bcd c n k) := by
                    rw [hbd, sc_sub HH.out.1 (k + 1) (G + 1 + k) (by omega) (by omega), show G + 1 + k - (k + 1) = G by omega]
                  have cW := rwhole_any (bcd_byt HH.out.1.2.1 k) w5
                  rw [show whB (bcd c n k) = false by cases hh : whB (bcd c n k) with | false => rfl | true => exact absurd hh hok] at cW
                  obtain ⟨B, hB⟩ : ∃ B, strOfNums (bcd c n k) = B := ⟨_, rfl⟩
                  rw [hB] at hsb cW
                  rw [h123] at hx3
                  obtain ⟨u, hu⟩ : ∃ u, k + 1 = u := ⟨_, rfl⟩
                  obtain ⟨v, hv⟩ : ∃ v, G + 1 + k = v := ⟨_, rfl⟩
                  rw [hu, hv] at hsb
                  have r1 : (k : Int) + 1 = (u : Int) := by omega
                  have r2 : (G : Int) + 2 + (k : Int) - 1 = (v : Int) := by omega
                  have t4 : (0 : Int) ≤ (u : Int) := by omega
                  have t5 : (u : Int) ≤ (v : Int) := by omega
                  have t6 : (v : Int) ≤ (n : Int) := by omega
                  clear hu hv
                  have t8 : (0 : Int) < ((G + 2 + k : Nat) : Int) := by omega
                  clear hok h0 hbI hbd hG hB hg2 h123
                  go_wp2_with fail
                  refine cg2.mono ?_
                  rintro ev w6 ⟨rfl, hw⟩
                  subst w6
                  clear cg2
                  go_wp2_with fail
                  refine cW.mono ?_
                  rintro ev w6 ⟨rfl, hw⟩
                  subst w6
                  go_wp2
                  rw [← HQ.out, HF.out.1, HF.out.2]
                  exact ⟨rfl, HR5.out.1, HR5.out.2⟩
                · have k123 : (c k == 123) = false := by simpa using h123
                  have t8 : (0 : Int) < ((grp c n k : Nat) : Int) := by omega
                  generalize c k = ck at hx3 k123
                  generalize grp c n k = G at cg2 t8
                  clear hok h0 hbI hg2 h123
                  go_wp2_with fail
                  refine cg2.mono ?_
                  rintro ev w6 ⟨rfl, hw⟩
                  subst w6
                  go_wp2
                  rw [← HQ.out, HF.out.1, HF.out.2]
                  exact ⟨rfl, HR5.out.1, HR5.out.2⟩
                  
        · have hb : brI (grp c n e) = ((grp c n e : Nat) : Int) := by unfold brI; rw [if_neg h0]
          rw [hb] at cg
          have hge := HG.out
          rw [gps_one h0] at hge
          obtain ⟨G, hG⟩ : ∃ G, grp c n e = G := ⟨_, rfl⟩
          rw [hG] at cg hge hg h0
          have HG2 : Hid (gps c n G = gps c n k) := hge
          have u1 : (0 : Int) < (G : Int) := by omega
          clear hge hb hG HG
          go_wp2_with fail
          refine cg.mono ?_
          rintro ev w4 ⟨rfl, hw⟩
          subst w4
          go_wp2_with fail
          refine cg.mono ?_
          rintro ev w4 ⟨rfl, hw⟩
          subst w4
          go_wp2
          go_roundg (n - G)
          case measure => omega
          case rel => exact ⟨G, rfl, by omega, by omega, rfl, rfl, HG2⟩
end
end Go.Proofs.YtlgfmhhhecaddaaDoor
