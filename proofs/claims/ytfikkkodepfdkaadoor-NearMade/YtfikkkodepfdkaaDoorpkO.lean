/- The law NearMade. -/
import Derived.Test.YtfikkkodepfdkaaDoorpkM
import Derived.Test.YtfikkkodepfdkaaDoorpkN
namespace Go.Proofs.YtfikkkodepfdkaaDoor
set_option linter.unusedVariables false
open Go.RowKit Go.ChangeShapes
open Qns (dd far at_)
theorem ascii_rs (m b : Nat) (zs : List Nat) (hb : 0 < b) (hb2 : b ≤ 26) : (rs (mtx m b zs)).length ≤ m := by
  rw [rs_len]
  have h1 := kS_le (mtx m b zs)
  have h2 := mtx_size m b zs
  omega
set_option maxHeartbeats 8000000 in
set_option maxRecDepth 100000 in
theorem made_law (w : World) (hT : Tabs w) (v : Value) (Z : List (List Nat)) (hv : BRR w v Z) (hl : Z.length ≤ maxLen) (vw : Value) (zw : List Nat) (hw : BR w vw zw) (hwl : zw.length ≤ maxLen) (q0 k0 : Int) (wq : (Lit.int .u8 q0).wf = true) (wk : (Lit.int .u8 k0).wf = true) (vp : Value) (zp : List Nat) (hp : BR w vp zp) (hpl : zp.length ≤ maxLen) :
    Calls Tryd.prog 5 #[v, vw, .int .u8 q0, .int .u8 k0, vp] w fun e w' => e = .returned (.bool true) ∧ Below w.heap.size w w' := by
  obtain ⟨q, rfl, hq⟩ := u8_nat wq
  obtain ⟨k, rfl, hk⟩ := u8_nat wk
  clear wq wk
  have HT : Hid (Tabs w) := hT
  have HV : Hid (BRR w v Z) := hv
  have HW : Hid (BR w vw zw) := hw
  have HP : Hid (BR w vp zp) := hp
  have HZL : Hid (zw.length ≤ maxLen) := hwl
  obtain ⟨ad, c, rfl, hc⟩ := hv
  obtain ⟨aw, cw, rfl, -⟩ := hw
  obtain ⟨ap, cp, rfl, hcp⟩ := hp
  have HC : Hid (∀ (j : Nat) (zs : List Nat), Z[j]? = some zs → zs.length ≤ maxLen ∧ ∃ b off u, ad = some ⟨b, off, none⟩ ∧ w.cell? ⟨b, off + j, none⟩ = some u ∧ BR w u zs) := hc
  have HCP : Hid (∀ (j : Nat) (x : Nat), zp[j]? = some x → x ≤ 255 ∧ ∃ b off, ap = some ⟨b, off, none⟩ ∧ w.cell? ⟨b, off + j, none⟩ = some (.int .u8 (x : Int))) := hcp
  obtain ⟨n, hn⟩ : ∃ n, Z.length = n := ⟨_, rfl⟩
  have HN : Hid (Z.length = n) := hn
  obtain ⟨np, hnp⟩ : ∃ n, zp.length = n := ⟨_, rfl⟩
  have HNP : Hid (zp.length = np) := hnp
  have hmx : maxLen ≤ 9223372036854775807 := by unfold maxLen; omega
  have hn2 : n ≤ 9223372036854775807 := by omega
  have hnp2 : np ≤ 9223372036854775807 := by omega
  rw [hn, hnp]
  obtain ⟨q4, hq4⟩ : ∃ x, q % 4 = x := ⟨_, rfl⟩
  obtain ⟨k33, hk33⟩ : ∃ x, k % 33 = x := ⟨_, rfl⟩
  have hq4l : q4 ≤ 3 := by omega
  have hk33l : k33 ≤ 32 := by omega
  have m1 : Int.tmod (q : Int) 4 = (q4 : Int) := by rw [← hq4]; exact nat_mod q 4
  have m2 : Int.tmod (k : Int) 33 = (k33 : Int) := by rw [← hk33]; exact nat_mod k 33
  obtain ⟨i9, hi9, hz90, hz91, hz92⟩ := info_parts info9
  have c0 := awakeN_any w HT.out
  clear hT hc hcp hq4 hk33 hn hnp hl hpl hwl hmx
  go_enter Tryd.func5, Tryd.ntmps5
  go_wp2_with fail
  refine c0.mono ?_
  rintro e w1 ⟨rfl, hb1⟩
  have HU1 : Hid (Up w.heap.size w w1) := (Up.refl w).stay hb1
  clear hb1 c0
  go_wp2
  go_loopg [12, 26] n (fun g l iv wr => ∃ (j : Nat) (l12 : Value), l = l12 ∧ j ≤ n ∧ g = n - j ∧ iv = .int .i64 j ∧ Hid (OS wr w.heap.size l12 (((Z.take j).take 50).map (mtx 7 3))) ∧ Hid (Up w.heap.size w wr))
  case atStart => exact ⟨0, _, rfl, Nat.zero_le _, rfl, rfl, World.ownsRow_nil _ _ _ _, HU1⟩
  case round =>
    obtain ⟨j, l12, rfl, hj, hg, rfl, HO, HU⟩ := hrel
    have z0 : (0 : Int) ≤ (j : Int) := by omega
    by_cases hlt : j < n
    · have z1 : (j : Int) < (n : Int) := by omega
      obtain ⟨zs, hzs⟩ : ∃ x, Z[j]? = some x := ⟨_, List.getElem?_eq_getElem (by rw [HN.out]; exact hlt)⟩
      obtain ⟨hzl, b, off, u, rfl, hcu, hbu⟩ := HC.out j zs hzs
      have hcw := cell_stay hcu HU.out.1
      by_cases h50 : j < 50
      · have z2 : (j : Int) < 50 := by omega
        have ct := mtext_any (hbu.stay HU.out.1) hzl
        obtain ⟨T, hTx⟩ : ∃ T, mtx 7 3 zs = T := ⟨_, rfl⟩
        rw [hTx] at ct
        have HNX : Hid ((((Z.take (j + 1)).take 50).map (mtx 7 3)) = ((Z.take j).take 50).map (mtx 7 3) ++ [T]) := by
          show _ = _
          have : ((Z.take (j + 1)).take 50) = (Z.take j).take 50 ++ [zs] := by
            rw [List.take_take, Nat.min_eq_right (by omega), List.take_take, Nat.min_eq_right (by omega), List.take_add_one, hzs]
            rfl
          rw [this, List.map_append, ← hTx]
          rfl
        have hle : (((Z.take j).take 50).map (mtx 7 3)).length ≤ 50 := by rw [List.length_map, List.length_take]; omega
        clear hzs hcu hTx hbu hzl
        obtain ⟨F, hF⟩ : ∃ F, ((Z.take j).take 50).map (mtx 7 3) = F := ⟨_, rfl⟩
        rw [hF] at HO HNX hle
        clear hF
        go_wp2_with fail
        refine ct.mono ?_
        rintro e w2 ⟨rfl, hb2⟩
        have HO2 : Hid (OS w2 w.heap.size u12 F) := HO.out.stay hb2
        have HU2 : Hid (Up w.heap.size w w2) := HU.out.stay hb2
        clear hb2 ct HO HU hcw
        go_wp2_with (at_builtin; refine wpList_append_own _ rfl _ _ 22 rfl w.heap.size 9 i9 _ 1 16 Tryd.underlying22 hi9 hz90 hz91 hz92 rfl (by decide) _ _ _ rfl (World.ownsRow.alloc HO2.out _) ⟨w2.heap.size, 0, none⟩ 1 1 [.string T] rfl rfl (World.news_of_block (Array.getElem?_push_size (xs := w2.heap) (x := .cells #[.string T] 9))) (one_one _ rfl) (by unfold maxLen; omega) (by omega) (by have := HU2.out.2; simp only [World.size_alloc]; omega) ?_)
        intro v' w3 hown2 hgr hnil
        have HO3 : Hid (OS w3 w.heap.size v' (((Z.take (j + 1)).take 50).map (mtx 7 3))) := by
          show w3.ownsRow _ _ _ _ _ _
          rw [HNX.out, List.length_append, List.map_append]
          exact hown2
        have HU3 : Hid (Up w.heap.size w w3) := (HU2.out.alloc _).grown hgr (own_base HO2.out)
        clear hown2 hgr hnil HO2 HU2
        go_wp2
        go_roundg (n - (j + 1))
        case measure => omega
        case rel => exact ⟨j + 1, _, rfl, by omega, rfl, by go_num, HO3, HU3⟩
      · have z2 : ¬ (j : Int) < 50 := by omega
        have HO2 : Hid (OS wr w.heap.size u12 (((Z.take (j + 1)).take 50).map (mtx 7 3))) := by
          show OS _ _ _ _
          rw [List.take_take, Nat.min_eq_left (by omega)]
          have := HO.out
          rw [List.take_take, Nat.min_eq_left (by omega)] at this
          exact this
        obtain ⟨au, nu, cu, rfl⟩ : ∃ a n c, u = .slice a n c := by
          obtain ⟨a, c, e, _⟩ := hbu
          exact ⟨a, _, c, e⟩
        clear hzs hcu hbu
        go_wp2
        go_roundg (n - (j + 1))
        case measure => omega
        case rel => exact ⟨j + 1, _, rfl, by omega, rfl, by go_num, HO2, HU⟩
    · obtain rfl : j = n := by omega
      have z1 : ¬ (j : Int) < (j : Int) := by omega
      have hO := HO.out
      rw [List.take_of_length_le (l := Z) (by rw [HN.out]; exact Nat.le_refl _)] at hO
      have hsz : ∀ s ∈ (Z.take 50).map (mtx 7 3), s.size ≤ 2000000 := fun s hs => by
        obtain ⟨zs, _, rfl⟩ := List.mem_map.1 hs
        have := mtx_size 7 3 zs
        omega
      obtain ⟨wT, rfl⟩ : ∃ wT, wT = wr := ⟨_, rfl⟩
      have c2 := sorted_any wT (tabs_stay HT.out HU.out.1) u12 _ hO.tl (by rw [List.length_map, List.length_take]; omega) hsz
      obtain ⟨Ls, eLs⟩ : ∃ Ls, (Z.take 50).map (mtx 7 3) = Ls := ⟨_, rfl⟩
      rw [eLs] at c2
      clear hO hsz eLs
      go_wp2_with fail
      refine c2.mono ?_
      rintro e w3 ⟨v3, rfl, hO3, hU3⟩
      have HU3 : Hid (Up w.heap.size w w3) := HU.out.stay hU3.1
      obtain ⟨hr, hgd, hL61⟩ := srtL_good Ls
      have hzz := makeP_zero hr hgd (by omega)
      generalize eL : srtL Ls = L at *
      have HO3 : Hid (OS w3 w.heap.size v3 L) := own_mono hO3 HU.out.2
      have HR : Hid (RiseK id L) := hr
      have HGD : Hid (∀ s ∈ L, GoodW s) := hgd
      have HZZ : Hid ((makeP L).1 = 0) := hzz
      have HGX : Hid (∀ s ∈ L, GoodX s) := fun s hs => GoodX.of (hgd s hs)
      obtain ⟨nL, hnL⟩ : ∃ q, L.length = q := ⟨_, rfl⟩
      have HL : Hid (L.length = nL) := hnL
      rw [hnL] at hL61
      obtain ⟨a3, c3, rfl, -, hno3, hso3⟩ := HO3.out.form
      have HSO : Hid (0 < nL → ∃ g, a3 = some ⟨g, 0, none⟩ ∧ g < w3.heap.size ∧ ∀ j, (hj : j < L.length) → w3.cell? ⟨g, j, none⟩ = some (.string L[j])) := fun h0 => by
        cases a3 with
        | none =>
          have := (hno3 rfl).1
          rw [this] at hnL
          simp at hnL
          omega
        | some a =>
          obtain ⟨g, rfl, _, h4, h5⟩ := hso3 a rfl
          exact ⟨g, rfl, h4, h5⟩
      rw [hnL] at HO3 ⊢
      clear hO3 hU3 c2 hr hgd hzz eL hnL hno3 hso3 HO HU
      go_wp2
      go_loopg [13, 44] np (fun g l iv wr => ∃ (j : Nat) (l13 : Value) (Pf : List ByteArray), l = l13 ∧ j ≤ np ∧ g = np - j ∧ iv = .int .i64 j ∧ Hid (OS wr w3.heap.size l13 Pf) ∧ Hid (Pf.length ≤ 5 ∧ ∀ s ∈ Pf, s.size ≤ 2000000) ∧ Hid (Up w3.heap.size w3 wr))
      case atStart => exact ⟨0, _, [], rfl, Nat.zero_le _, rfl, rfl, World.ownsRow_nil _ _ _ _, ⟨by simp, fun s hs => by cases hs⟩, Up.refl w3⟩
      case round =>
        obtain ⟨j2, l13, Pf, rfl, hj2, hg2, rfl, HOP, HPL, HUP⟩ := hrel
        have y0 : (0 : Int) ≤ (j2 : Int) := by omega
        obtain ⟨nq, hnq⟩ : ∃ q, Pf.length = q := ⟨_, rfl⟩
        have HNQ : Hid (Pf.length = nq) := hnq
        obtain ⟨a13, c13, e13⟩ : ∃ a c, u13 = .slice a nq c := by rw [← hnq]; exact own_slice HOP.out
        subst e13
        have hnq5 : nq ≤ 5 := by have := HPL.out.1; omega
        clear hnq
        by_cases hlt2 : j2 < np
        · have y1 : (j2 : Int) < (np : Int) := by omega
          obtain ⟨x, hx⟩ : ∃ x, zp[j2]? = some x := ⟨_, List.getElem?_eq_getElem (by rw [HNP.out]; exact hlt2)⟩
          obtain ⟨hx255, b, off, rfl, hcx⟩ := HCP.out j2 x hx
          have hcx2 := cell_stay (cell_stay hcx HU3.out.1) HUP.out.1
          clear hx hcx
          by_cases hgo : 0 < nL ∧ nq < 5
          · obtain ⟨hgo1, hgo2⟩ := hgo
            have g1 : (0 : Int) < (nL : Int) := by omega
            have g2 : (nq : Int) < 5 := by omega
            obtain ⟨g, rfl, hg3, hcs⟩ := HSO.out hgo1
            obtain ⟨ix, hix⟩ : ∃ ix, x % nL = ix := ⟨_, rfl⟩
            have hixl : ix < nL := by rw [← hix]; exact Nat.mod_lt _ hgo1
            have m3 : Int.tmod (x : Int) (nL : Int) = (ix : Int) := by rw [← hix]; exact nat_mod x nL
            have hcl := cell_stay (hcs ix (by rw [HL.out]; exact hixl)) HUP.out.1
            obtain ⟨t, ht⟩ : ∃ t, L[ix]'(by rw [HL.out]; exact hixl) = t := ⟨_, rfl⟩
            rw [ht] at hcl
            have HTS : Hid (t.size ≤ 2000000) := by
              show t.size ≤ _
              have := (HGD.out t (by rw [← ht]; exact List.getElem_mem _)).2.1
              omega
            have g3 : (ix : Int) < (nL : Int) := by omega
            have g4 : (0 : Int) ≤ (ix : Int) := by omega
            have g5 : ¬ (nL : Int) = 0 := by omega
            clear hcs hix ht
            go_wp2_with (at_builtin; refine wpList_append_own _ rfl _ _ 22 rfl w3.heap.size 9 i9 _ 1 16 Tryd.underlying22 hi9 hz90 hz91 hz92 rfl (by decide) _ _ _ rfl (World.ownsRow.alloc HOP.out _) ⟨wr.heap.size, 0, none⟩ 1 1 [.string t] rfl rfl (World.news_of_block (Array.getElem?_push_size (xs := wr.heap) (x := .cells #[.string t] 9))) (one_one _ rfl) (by unfold maxLen; have := HNQ.out; omega) (by have := HNQ.out; omega) (by have := HUP.out.2; simp only [World.size_alloc]; omega) ?_)
            intro v' w5 hown2 hgr hnil
            have HO5 : Hid (OS w5 w3.heap.size v' (Pf ++ [t])) := by
              show w5.ownsRow _ _ _ _ _ _
              rw [List.length_append, List.map_append]
              exact hown2
            have HU5 : Hid (Up w3.heap.size w3 w5) := (HUP.out.alloc _).grown hgr (own_base HOP.out)
            have HPL2 : Hid ((Pf ++ [t]).length ≤ 5 ∧ ∀ s ∈ Pf ++ [t], s.size ≤ 2000000) := by
              refine ⟨by rw [List.length_append, HNQ.out]; simp; omega, fun s hs => ?_⟩
              rcases List.mem_append.1 hs with hs | hs
              · exact HPL.out.2 s hs
              · simp at hs
                rw [hs]
                exact HTS.out
            clear hown2 hgr hnil HOP HUP hcl hcx2
            go_wp2
            go_roundg (np - (j2 + 1))
            case measure => omega
            case rel => exact ⟨j2 + 1, _, _, rfl, by omega, rfl, by go_num, HO5, HPL2, HU5⟩
          · by_cases hz : 0 < nL
            · have g1 : (0 : Int) < (nL : Int) := by omega
              have g2 : ¬ (nq : Int) < 5 := by omega
              go_wp2
              go_roundg (np - (j2 + 1))
              case measure => omega
              case rel => exact ⟨j2 + 1, _, _, rfl, by omega, rfl, by go_num, HOP, HPL, HUP⟩
            · have g1 : ¬ (0 : Int) < (nL : Int) := by omega
              go_wp2
              go_roundg (np - (j2 + 1))
              case measure => omega
              case rel => exact ⟨j2 + 1, _, _, rfl, by omega, rfl, by go_num, HOP, HPL, HUP⟩
        · obtain rfl : j2 = np := by omega
          have y1 : ¬ (j2 : Int) < (j2 : Int) := by omega
          obtain ⟨w6, rfl⟩ : ∃ w6, w6 = wr := ⟨_, rfl⟩
          have HU6 : Hid (Up w.heap.size w w6) := HU3.out.stay HUP.out.1
          have HO6 : Hid (OS w6 w.heap.size (.slice a3 nL c3) L) := by
            have := HO3.out.stay HUP.out.1
            exact this
          have c3' := made_has w6 (tabs_stay HT.out HU6.out.1) (.slice a3 nL c3) L HO6.out.tl HR.out HGD.out (by rw [HL.out]; omega)
          go_wp2_with fail
          refine c3'.mono ?_
          rintro e w7 ⟨hb7, vN, l, rfl, hM, hPn, hOk, h3, -⟩
          have HU7 : Hid (Up w.heap.size w w7) := HU6.out.stay hb7
          have hTr := tr_made hM hPn hOk h3 HZZ.out (by rw [HL.out]; omega)
          have HO7 : Hid (OS w7 w.heap.size (.slice a3 nL c3) L) := HO6.out.stay hb7
          have HP7 : Hid (OS w7 w3.heap.size (.slice a13 nq c13) Pf) := HOP.out.stay hb7
          generalize w6.heap.size + 1 = T at *
          have HTR : Hid (Tr w7 (.pointer (some ⟨T, 0, none⟩)) L) := hTr
          have ct := mtext_any (HW.out.stay HU7.out.1) HZL.out
          have hrs := ascii_rs 7 3 zw (by omega) (by omega)
          have hts := mtx_size 7 3 zw
          obtain ⟨s, hs⟩ : ∃ T, mtx 7 3 zw = T := ⟨_, rfl⟩
          rw [hs] at ct hrs hts
          have HMT : Hid (mtx 7 3 zw = s) := hs
          clear hM hPn hOk h3 hTr hb7 c3' HO6 HOP HUP HO3 hs
          go_wp2_with fail
          refine ct.mono ?_
          rintro e w8 ⟨rfl, hb8⟩
          have HU8 : Hid (Up w.heap.size w w8) := HU7.out.stay hb8
          have HO8 : Hid (OS w8 w.heap.size (.slice a3 nL c3) L) := HO7.out.stay hb8
          have HP8 : Hid (OS w8 w3.heap.size (.slice a13 nq c13) Pf) := HP7.out.stay hb8
          have c4 := words_any (s := s) (most := q4) (k := k33) (vp := .slice a13 nq c13) (Pf := Pf) (tabs_stay HT.out HU8.out.1) (HTR.out.stay ((Up.refl w7).stay hb8)) HP8.out.tl (by rw [HNQ.out]; omega) HPL.out.2 hq4l hk33l (by omega) (by omega)
          obtain ⟨N, hN⟩ : ∃ N, (nearsP Pf (rs s) q4 L).take k33 = N := ⟨_, rfl⟩
          have HN9 : Hid ((nearsP Pf (rs s) q4 L).take k33 = N) := hN
          have hNl : N.length ≤ 32 := by
            rw [← hN, List.length_take]
            omega
          rw [hN] at c4
          clear hN hb8 ct HO7 HP7
          go_wp2_with fail
          refine c4.mono ?_
          rintro e w9 ⟨v9, rfl, ho9, hb9⟩
          have HU9 : Hid (Up w.heap.size w w9) := HU8.out.stay hb9
          have HO9 : Hid (ON w9 w8.heap.size v9 N) := ho9
          have HL9 : Hid (OS w9 w.heap.size (.slice a3 nL c3) L) := HO8.out.stay hb9
          have HP9 : Hid (OS w9 w3.heap.size (.slice a13 nq c13) Pf) := HP8.out.stay hb9
          have ct := mtext_any (HW.out.stay HU9.out.1) HZL.out
          rw [HMT.out] at ct
          clear ho9 hb9 c4 HO8 HP8
          go_wp2_with fail
          refine ct.mono ?_
          rintro e wA ⟨rfl, hbA⟩
          have HUA : Hid (Up w.heap.size w wA) := HU9.out.stay hbA
          have HOA : Hid (ON wA w8.heap.size v9 N) := HO9.out.stay hbA
          have HLA : Hid (OS wA w.heap.size (.slice a3 nL c3) L) := HL9.out.stay hbA
          have HPA : Hid (OS wA w3.heap.size (.slice a13 nq c13) Pf) := HP9.out.stay hbA
          have c6 := nears_any HLA.out.tl (by rw [HL.out]; omega) HGX.out HPA.out.tl (by rw [HNQ.out]; omega) s (by omega) (by omega) q4 k33 hq4l hk33l
          rw [HN9.out] at c6
          clear hbA ct HO9 HL9 HP9
          go_wp2_with fail
          refine c6.mono ?_
          rintro e wB ⟨vB, rfl, hNL, hbB⟩
          have HUB : Hid (Up w.heap.size w wB) := HUA.out.stay hbB
          have c7 := sameN_any N v9 vB wB ((nl_on HOA.out).stay hbB) hNL (by omega)
          clear hNL hbB c6
          go_wp2_with fail
          refine c7.mono ?_
          rintro e wC ⟨rfl, hbC⟩
          have HUC : Hid (Up w.heap.size w wC) := HUB.out.stay hbC
          clear hbC c7
          go_wp2
          go_ret
          exact ⟨rfl, HUC.out.1⟩
end Go.Proofs.YtfikkkodepfdkaaDoor
