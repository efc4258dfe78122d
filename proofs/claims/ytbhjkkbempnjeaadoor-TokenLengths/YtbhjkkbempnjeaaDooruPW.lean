/- token: Words. -/
import Derived.Test.YtbhjkkbempnjeaaDooruPWd
import Derived.Test.YtbhjkkbempnjeaaDooruPSpl
namespace Go.Proofs.YtbhjkkbempnjeaaDoor
set_option linter.unusedVariables false
open Go.RowKit Go.ChangeShapes
set_option maxRecDepth 100000 in
set_option maxHeartbeats 8000000 in
theorem twords_any {w : World} {ad : Option Addr} {n cap : Nat} {c : Nat → Int} (hC : ∀ j, j < n → 0 ≤ c j ∧ c j < 256) (hb : BC w ad n c) (hcap : n ≤ cap) (hn : n ≤ 100000) (hbig : cap ≤ 9223372036854775807)
    {v : Value} {l : List U3} (h : US w v l) (hF : FitU l) (hk : l.length ≤ 5000) (hl : ∀ u ∈ l, -1000000 ≤ u.a ∧ u.a ≤ 1000000 ∧ -1000000 ≤ u.n ∧ u.n ≤ 1000000) (lo hi : Int) :
    Calls Tryd.prog 19 #[.slice ad n cap, v, .int .i64 lo, .int .i64 hi] w fun e w' => ∃ v', e = .returned v' ∧ WR w' w.heap.size v' (wordsL c n l lo hi) ∧ Below w.heap.size w w' := by
  have HUS : Hid (US w v l) := h
  have HBC : Hid (BC w ad n c) := hb
  have HB : Hid ((∀ j, j < n → 0 ≤ c j ∧ c j < 256) ∧ n ≤ cap ∧ n ≤ 100000 ∧ cap ≤ 9223372036854775807 ∧ FitU l ∧ ∀ u ∈ l, -1000000 ≤ u.a ∧ u.a ≤ 1000000 ∧ -1000000 ≤ u.n ∧ u.n ≤ 1000000) := ⟨hC, hcap, hn, hbig, hF, hl⟩
  obtain ⟨A, C, rfl, hCk, -⟩ := h
  have CR : Hid (∀ w', Up w.heap.size w w' → Calls Tryd.prog 12 #[.slice A l.length C] w' fun e w'' => ∃ v', e = .returned v' ∧ PR w'' w'.heap.size v' (runsL (RU l) l.length 0) ∧ Below w'.heap.size w' w'') := fun w' hu => truns_any (HUS.out.stay hu.1) hF (by omega)
  have CS : Hid (∀ w' (p : Nat × Nat), Up w.heap.size w w' → p.1 < p.2 → p.2 ≤ l.length → Calls Tryd.prog 15 #[.slice A l.length C, .agg #[.int .i64 (p.1 : Int), .int .i64 (p.2 : Int)]] w' fun e w'' => ∃ v', e = .returned v' ∧ PR w'' w'.heap.size v' (partsL (RU l) p.2 p.1) ∧ Below w'.heap.size w' w'') := fun w' p hu h1 h2 => by
    have := tsplit_any (HUS.out.stay hu.1) hF (by omega) (f := (p.1 : Int)) (t := (p.2 : Int)) (by omega) (by omega)
    rw [show (min (p.2 : Int) (l.length : Int)).toNat = p.2 by omega, show (max (p.1 : Int) 0).toNat = p.1 by omega] at this
    exact this
  obtain ⟨RS, hRS⟩ : ∃ RS, runsL (RU l) l.length 0 = RS := ⟨_, rfl⟩
  have HRS : Hid (runsL (RU l) l.length 0 = RS) := hRS
  have HIN : Hid (∀ p ∈ RS, p.1 < p.2 ∧ p.2 ≤ l.length) := fun p hp => by
    rw [← hRS] at hp
    exact (runsL_in hp).2
  have hRl : RS.length ≤ 5000 := by rw [← hRS]; have := runsL_len (RU l) l.length 0; omega
  obtain ⟨TOT, hTOT⟩ : ∃ T, wordsL c n l lo hi = T := ⟨_, rfl⟩
  have HT : Hid (wordsP c n l lo hi (ptsL (RU l) RS) = TOT) := by show _ = _; rw [← hRS]; exact hTOT
  rw [hTOT]
  rw [hRS] at CR
  obtain ⟨k, hkk⟩ : ∃ k, l.length = k := ⟨_, rfl⟩
  have HK : Hid (l.length = k) := hkk
  rw [hkk] at CR CS HIN hk hCk HUS ⊢
  obtain ⟨nr, hnr⟩ : ∃ q, RS.length = q := ⟨_, rfl⟩
  have HNR : Hid (RS.length = nr) := hnr
  rw [hnr] at hRl
  obtain ⟨i0, hin0, hz0, hz1, hz2⟩ := info_parts infoW
  have cr := CR.out _ (Up.refl w)
  clear hRS hTOT hkk hnr hC hb hcap hn hbig hF hl CR
  go_enter Tryd.func19, Tryd.ntmps19
  go_wp2_with fail
  refine cr.mono ?_
  rintro e w1 ⟨v1, rfl, hP1, hb1⟩
  have HU1 : Hid (Up w.heap.size w w1) := ⟨hb1, hb1.size⟩
  have HP1 : Hid (PR w1 w.heap.size v1 RS) := hP1
  obtain ⟨A1, C1, rfl⟩ : ∃ A1 C1, v1 = .slice A1 nr C1 := by
    obtain ⟨A1, C1, e, -⟩ := hP1.any
    exact ⟨A1, C1, by rw [e, HNR.out]⟩
  clear cr hb1 hP1
  go_wp2
  go_loopg [9, 18] nr (fun q ov iv wr => ∃ (i kk : Nat), i ≤ nr ∧ q = nr - i ∧ iv = .int .i64 (i : Int) ∧ kk ≤ 5000 * i ∧ Hid (∃ dn : List W4, dn.length = kk ∧ wr.ownsRow w.heap.size 51 4 ov kk (wC dn) ∧ dn ++ wordsP c n l lo hi (ptsL (RU l) (RS.drop i)) = TOT) ∧ Hid (PR wr w.heap.size (.slice A1 nr C1) RS) ∧ Hid (Up w.heap.size w wr))
  case atStart => exact ⟨0, 0, Nat.zero_le _, rfl, rfl, Nat.zero_le _, ⟨[], rfl, World.ownsRow_nil _ _ _ _, HT.out⟩, HP1, HU1⟩
  case round =>
    clear HP1 HU1
    obtain ⟨i, kk, hi1, hq, rfl, hkk, HO, HP, HU⟩ := hrel
    by_cases hlt : i < nr
    · have z0 : (0 : Int) ≤ (i : Int) := by omega
      have z1 : (i : Int) < (nr : Int) := by omega
      obtain ⟨p, hp⟩ : ∃ p, RS[i]? = some p := ⟨_, List.getElem?_eq_getElem (by rw [HNR.out]; exact hlt)⟩
      have hpin := HIN.out p (List.mem_of_getElem? hp)
      obtain ⟨A1', C1', eA, -, hA⟩ := HP.out.any
      injection eA with eA eN eC
      subst eA eC
      clear eN
      obtain ⟨b, off, rfl, hbl, a1, a2⟩ := hA i p hp
      obtain ⟨PS, hPS⟩ : ∃ q, partsL (RU l) p.2 p.1 = q := ⟨_, rfl⟩
      have HPS : Hid (partsL (RU l) p.2 p.1 = PS) := hPS
      have hdr : RS.drop i = p :: RS.drop (i + 1) := by
        have hlt' : i < RS.length := by rw [HNR.out]; exact hlt
        rw [List.drop_eq_getElem_cons hlt']
        rw [List.getElem?_eq_getElem hlt'] at hp
        rw [Option.some.inj hp]
      obtain ⟨RT, hRT⟩ : ∃ q, ptsL (RU l) (RS.drop (i + 1)) = q := ⟨_, rfl⟩
      have HRT : Hid (ptsL (RU l) (RS.drop (i + 1)) = RT) := hRT
      have HO2 : Hid (∃ dn : List W4, dn.length = kk ∧ wr.ownsRow w.heap.size 51 4 u9 kk (wC dn) ∧ dn ++ wordsP c n l lo hi (PS ++ RT) = TOT) := by
        obtain ⟨dn, d1, d2, d3⟩ := HO.out
        rw [hdr] at d3
        exact ⟨dn, d1, d2, by rw [← d3, ← hRT, ← hPS]; rfl⟩
      have CSp := fun w' (hu : Up w.heap.size w w') => CS.out w' p hu hpin.1 hpin.2
      rw [hPS] at CSp
      obtain ⟨p1, hp1⟩ : ∃ q, p.1 = q := ⟨_, rfl⟩
      obtain ⟨p2, hp2⟩ : ∃ q, p.2 = q := ⟨_, rfl⟩
      rw [hp1] at a1 CSp
      rw [hp2] at a2 CSp
      have HPI : Hid (∀ p ∈ PS, p.1 < p.2 ∧ p.2 ≤ k) := fun q hq => by
        rw [← hPS] at hq
        have := partsL_in hq
        omega
      have hPl : PS.length ≤ 5000 := by rw [← hPS]; have := partsL_len (RU l) p.2 p.1; omega
      obtain ⟨W0, hW0⟩ : ∃ W0, wr.alloc (.cells #[.int .i64 (p1 : Int), .int .i64 (p2 : Int)] 23) = W0 := ⟨_, rfl⟩
      have HW0 : Hid (Up wr.heap.size wr W0) := by rw [← hW0]; exact (Up.refl wr).alloc _
      have cS := CSp W0 (HU.out.stay HW0.out.1)
      obtain ⟨D, hD⟩ : ∃ D, wr.heap.size = D := ⟨_, rfl⟩
      have hcl : W0.heap[D]? = some (.cells #[.int .i64 (p1 : Int), .int .i64 (p2 : Int)] 23) := by rw [← hW0, ← hD]; exact heap_alloc_new _ _
      have k0 : W0.cell? ⟨D, 0, none⟩ = some (.int .i64 (p1 : Int)) := by simp [World.cell?, hcl]
      have k1 : W0.cell? ⟨D, 1, none⟩ = some (.int .i64 (p2 : Int)) := by simp [World.cell?, hcl]
      clear hcl
      clear hdr hRT hPS CSp hp hp1 hp2 hA HO hbl hpin
      go_wp2_with fail
      refine cS.mono ?_
      rintro ev w2 ⟨v2, rfl, hP2, hb2⟩
      have HU2 : Hid (Up wr.heap.size wr w2) := HW0.out.stay hb2
      have HP2 : Hid (PR w2 w.heap.size v2 PS) := hP2.mono (Nat.le_trans HU.out.2 HW0.out.2)
      clear cS hP2 hb2 hW0 HW0 hD k0 k1
      obtain ⟨np, hnp⟩ : ∃ q, PS.length = q := ⟨_, rfl⟩
      have HNP : Hid (PS.length = np) := hnp
      rw [hnp] at hPl
      obtain ⟨A2, C2, rfl⟩ : ∃ A2 C2, v2 = .slice A2 np C2 := by
        obtain ⟨A2, C2, e, -⟩ := HP2.out.any
        exact ⟨A2, C2, by rw [e, hnp]⟩
      have HO3 : Hid (∃ dn : List W4, dn.length = kk ∧ w2.ownsRow w.heap.size 51 4 u9 kk (wC dn) ∧ dn ++ wordsP c n l lo hi (PS.drop 0 ++ RT) = TOT) := by
        obtain ⟨dn, d1, d2, d3⟩ := HO2.out
        exact ⟨dn, d1, own_stay d2 HU2.out.1, d3⟩
      have HP1 : Hid (PR w2 w.heap.size (.slice (some ⟨b, off, none⟩) nr C1) RS) := HP.out.stay HU2.out.1
      have HUw : Hid (Up w.heap.size w w2) := HU.out.stay HU2.out.1
      clear hnp HO2 HP HU HU2 a1 a2
      go_wp2
      go_loopg [9, 26] np (fun q ov jv wr2 => ∃ (j k2 : Nat), j ≤ np ∧ q = np - j ∧ jv = .int .i64 (j : Int) ∧ k2 ≤ 5000 * i + j ∧ Hid (∃ dn : List W4, dn.length = k2 ∧ wr2.ownsRow w.heap.size 51 4 ov k2 (wC dn) ∧ dn ++ wordsP c n l lo hi (PS.drop j ++ RT) = TOT) ∧ Hid (PR wr2 w.heap.size (.slice (some ⟨b, off, none⟩) nr C1) RS) ∧ Hid (PR wr2 w.heap.size (.slice A2 np C2) PS) ∧ Hid (Up w.heap.size w wr2))
      case atStart => exact ⟨0, kk, Nat.zero_le _, rfl, rfl, by omega, HO3, HP1, HP2, HUw⟩
      case round =>
        clear HO3 HP1 HP2 HUw hkk
        obtain ⟨j, k2, hj1, hqj, rfl, hk2, HO, HP1, HP2, HU⟩ := hrel
        by_cases hjl : j < np
        · have y0 : (0 : Int) ≤ (j : Int) := by omega
          have y1 : (j : Int) < (np : Int) := by omega
          obtain ⟨q, hqq⟩ : ∃ q, PS[j]? = some q := ⟨_, List.getElem?_eq_getElem (by rw [HNP.out]; exact hjl)⟩
          have hqin := HPI.out q (List.mem_of_getElem? hqq)
          obtain ⟨A2', C2', eA, -, hA⟩ := HP2.out.any
          injection eA with eA eN eC
          subst eA eC
          clear eN
          obtain ⟨b2, off2, rfl, hbl, a1, a2⟩ := hA j q hqq
          have hdr : PS.drop j = q :: PS.drop (j + 1) := by
            have hlt' : j < PS.length := by rw [HNP.out]; exact hjl
            rw [List.drop_eq_getElem_cons hlt']
            rw [List.getElem?_eq_getElem hlt'] at hqq
            rw [Option.some.inj hqq]
          have HO2 : Hid (∃ dn : List W4, dn.length = k2 ∧ wr.ownsRow w.heap.size 51 4 u9 k2 (wC dn) ∧ dn ++ wordsP c n l lo hi (q :: (PS.drop (j + 1) ++ RT)) = TOT) := by
            obtain ⟨dn, d1, d2, d3⟩ := HO.out
            exact ⟨dn, d1, d2, by rw [← d3, hdr]; rfl⟩
          obtain ⟨lx, hlx⟩ : ∃ x, l[q.1]? = some x := ⟨_, List.getElem?_eq_getElem (by rw [HK.out]; omega)⟩
          obtain ⟨A3, C3, eA, -, hL⟩ := HUS.out
          injection eA with eA eN eC
          subst eA eC
          clear eN
          obtain ⟨lb, loff, rfl, -, -, -, -⟩ := hL q.1 lx hlx
          obtain ⟨N, hN⟩ : ∃ N, q.2 - q.1 = N := ⟨_, rfl⟩
          obtain ⟨e, he⟩ : ∃ e, N = e + 1 := ⟨N - 1, by omega⟩
          have hsub : US w (.slice (some ⟨lb, loff + q.1 * 3, none⟩) (q.2 - q.1) (C - q.1)) (sub l q.1 q.2) := by
            have h1 := HUS.out
            rw [← HK.out] at h1
            exact h1.sub (by omega) (by rw [HK.out]; exact hqin.2)
          have hds : (sub l q.1 q.2).length = e + 1 := by rw [sub_len (by omega) (by rw [HK.out]; exact hqin.2)]; omega
          have hkp : kpB lo hi q = (decide (lo ≤ (N : Int)) && decide ((N : Int) ≤ hi)) := by
            unfold kpB
            rw [hN]
          have HKP : Hid (kpB lo hi q = (decide (lo ≤ (N : Int)) && decide ((N : Int) ≤ hi))) := hkp
          obtain ⟨sU, hsU⟩ : ∃ s, sub l q.1 q.2 = s := ⟨_, rfl⟩
          rw [hN, hsU] at hsub
          rw [hsU] at hds
          have hsl : ∀ u ∈ sU, u ∈ l := fun u hu => by rw [← hsU] at hu; exact sub_mem hu
          obtain ⟨x, hx⟩ : ∃ x, sU[0]? = some x := ⟨_, List.getElem?_eq_getElem (by omega)⟩
          obtain ⟨y, hy⟩ : ∃ y, sU[e]? = some y := ⟨_, List.getElem?_eq_getElem (by omega)⟩
          have hwo : wOf c n l q = ⟨strOfNums (tU sU), x.a, y.a + y.n - x.a, litB c n sU⟩ := by
            have e1 : l[q.1]? = some x := by rw [← hx, ← hsU, sub_at (by omega), Nat.add_zero]
            have e2 : l[q.2 - 1]? = some y := by rw [← hy, ← hsU, sub_at (by omega), show q.1 + e = q.2 - 1 by omega]
            unfold wOf
            rw [hsU, List.getD_eq_getElem?_getD, List.getD_eq_getElem?_getD, e1, e2]
            rfl
          obtain ⟨tx, htx⟩ : ∃ z, strOfNums (tU sU) = z := ⟨_, rfl⟩
          obtain ⟨lt, hlt9⟩ : ∃ z, litB c n sU = z := ⟨_, rfl⟩
          obtain ⟨xa, hxa⟩ : ∃ z, x.a = z := ⟨_, rfl⟩
          obtain ⟨ln, hln⟩ : ∃ z, y.a + y.n - x.a = z := ⟨_, rfl⟩
          rw [htx, hlt9, hxa] at hwo
          have HWO : Hid (wOf c n l q = ⟨tx, xa, ln, lt⟩) := by show _ = _; rw [hwo, ← hln, hxa]
          have CW : Hid (∀ w', Up w.heap.size w w' → Calls Tryd.prog 33 #[.slice ad n cap, .slice (some ⟨lb, loff + q.1 * 3, none⟩) N (C - q.1)] w' fun ev w'' => ev = .returned (.agg #[.string tx, .int .i64 xa, .int .i64 ln, .bool lt]) ∧ Below w'.heap.size w' w'') := fun w' hu => by
            rw [← htx, ← hlt9, ← hxa, ← hln]
            exact tword_any HB.out.1 (HBC.out.stay hu.1) HB.out.2.1 HB.out.2.2.1 HB.out.2.2.2.1 (hsub.stay hu.1) (by omega) (fun u hu' => HB.out.2.2.2.2.2 u (hsl u hu')) hds hx hy
          obtain ⟨qa, hqa⟩ : ∃ z, q.1 = z := ⟨_, rfl⟩
          obtain ⟨qb, hqb⟩ : ∃ z, q.2 = z := ⟨_, rfl⟩
          rw [hqa] at a1 hN hqin CW
          rw [hqb] at a2 hN hqin
          have v0 : (0 : Int) ≤ (qa : Int) := by omega
          have v1 : (qa : Int) ≤ (qb : Int) := by omega
          have v2 : (qb : Int) ≤ (C : Int) := by omega
          have v3 : ¬ C = qa := by omega
          have v4 : qb - qa = N := hN
          have v5 : IntKind.i64.wrap ((qb : Int) - (qa : Int)) = (N : Int) := by rw [IntWalk.i64_in _ (by omega)]; omega
          have we : N ≤ 5000 := by omega
          obtain ⟨W0, hW0⟩ : ∃ W0, wr.alloc (.cells #[.int .i64 (qa : Int), .int .i64 (qb : Int)] 23) = W0 := ⟨_, rfl⟩
          have HW0 : Hid (Up wr.heap.size wr W0) := by rw [← hW0]; exact (Up.refl wr).alloc _
          obtain ⟨D, hD⟩ : ∃ D, wr.heap.size = D := ⟨_, rfl⟩
          have hcl : W0.heap[D]? = some (.cells #[.int .i64 (qa : Int), .int .i64 (qb : Int)] 23) := by rw [← hW0, ← hD]; exact heap_alloc_new _ _
          have k0 : W0.cell? ⟨D, 0, none⟩ = some (.int .i64 (qa : Int)) := by simp [World.cell?, hcl]
          have k1 : W0.cell? ⟨D, 1, none⟩ = some (.int .i64 (qb : Int)) := by simp [World.cell?, hcl]
          have HO3 : Hid (∃ dn : List W4, dn.length = k2 ∧ W0.ownsRow w.heap.size 51 4 u9 k2 (wC dn) ∧ dn ++ wordsP c n l lo hi (q :: (PS.drop (j + 1) ++ RT)) = TOT) := by
            obtain ⟨dn, d1, d2, d3⟩ := HO2.out
            exact ⟨dn, d1, own_stay d2 HW0.out.1, d3⟩
          have HQ1 : Hid (PR W0 w.heap.size (.slice (some ⟨b, off, none⟩) nr C1) RS) := HP1.out.stay HW0.out.1
          have HQ2 : Hid (PR W0 w.heap.size (.slice (some ⟨b2, off2, none⟩) np C2) PS) := HP2.out.stay HW0.out.1
          have HUd : Hid (Up w.heap.size w W0) := HU.out.stay HW0.out.1
          clear hL hA hdr hds hsl hlx hsU hx hy hqa hqb hxa hln hwo hkp hqq hbl he HO hqin HO2 HP1 HP2 HU HW0 hcl hN hsub htx hlt9
          by_cases c1 : lo ≤ (N : Int)
          · by_cases c2 : (N : Int) ≤ hi
            · have HO4 : Hid (∃ dn : List W4, dn.length = k2 ∧ W0.ownsRow w.heap.size 51 4 u9 k2 (wC dn) ∧ dn ++ ⟨tx, xa, ln, lt⟩ :: wordsP c n l lo hi (PS.drop (j + 1) ++ RT) = TOT) := by
                obtain ⟨dn, d1, d2, d3⟩ := HO3.out
                rw [wordsP_yes (by rw [HKP.out, show decide (lo ≤ (N : Int)) = true by simpa using c1, show decide ((N : Int) ≤ hi) = true by simpa using c2]; rfl), HWO.out] at d3
                exact ⟨dn, d1, d2, d3⟩
              have cW := CW.out W0 HUd.out
              clear HO3 HWO HKP
              go_wp2_with fail
              refine cW.mono ?_
              rintro ev w2 ⟨rfl, hb2⟩
              have HU2 : Hid (Up w.heap.size w w2) := HUd.out.stay hb2
              have HO5 : Hid (∃ dn : List W4, dn.length = k2 ∧ w2.ownsRow w.heap.size 51 4 u9 k2 (wC dn) ∧ dn ++ ⟨tx, xa, ln, lt⟩ :: wordsP c n l lo hi (PS.drop (j + 1) ++ RT) = TOT) := by
                obtain ⟨dn, d1, d2, d3⟩ := HO4.out
                exact ⟨dn, d1, own_stay d2 hb2, d3⟩
              have HR1 : Hid (PR w2 w.heap.size (.slice (some ⟨b, off, none⟩) nr C1) RS) := HQ1.out.stay hb2
              have HR2 : Hid (PR w2 w.heap.size (.slice (some ⟨b2, off2, none⟩) np C2) PS) := HQ2.out.stay hb2
              clear cW hb2 HO4 HQ1 HQ2 HUd CW k0 k1 hW0 hD
              obtain ⟨dn, hdl, hdo, hdr⟩ := HO5.out
              have hdo4 := World.ownsRow.alloc hdo (.cells #[.string tx, .int .i64 xa, .int .i64 ln, .bool lt] 51)
              have HD4 : Hid _ := hdo4
              go_wp2_with (at_builtin; refine wpList_append_own _ rfl _ _ 47 rfl w.heap.size 51 i0 _ 4 40 Tryd.underlying47 hin0 hz0 hz1 hz2 rfl (by decide) _ _ _ rfl (World.ownsRow.alloc hdo _) ⟨w2.heap.size, 0, none⟩ 1 1 [.string tx, .int .i64 xa, .int .i64 ln, .bool lt] rfl rfl ?c1 ?c2 ?c3 ?c4 ?c5 ?_)
              case c1 =>
                intro j u hj
                match j, hj with
                | 0, hj => simp at hj; subst hj; simp [Addr.add]
                | 1, hj => simp at hj; subst hj; simp [Addr.add]
                | 2, hj => simp at hj; subst hj; simp [Addr.add]
                | 3, hj => simp at hj; subst hj; simp [Addr.add]
                | (j + 4), hj => simp at hj
              case c2 => intro u hu; simp at hu; rcases hu with rfl | rfl | rfl | rfl <;> rfl
              case c3 => unfold maxLen; omega
              case c4 => omega
              case c5 => have := HU2.out.2; simp only [World.size_alloc]; omega
              intro v' w5 hown2 hgr hnil
              have HO6 : Hid (∃ dn : List W4, dn.length = k2 + 1 ∧ w5.ownsRow w.heap.size 51 4 v' (k2 + 1) (wC dn) ∧ dn ++ wordsP c n l lo hi (PS.drop (j + 1) ++ RT) = TOT) := by
                refine ⟨dn ++ [⟨tx, xa, ln, lt⟩], by rw [List.length_append, hdl]; rfl, ?_, ?_⟩
                · rw [wC_app]; exact hown2
                · rw [← hdr]; simp
              have hb4 : Below w2.heap.size w2 (w2.alloc (.cells #[.string tx, .int .i64 xa, .int .i64 ln, .bool lt] 51)) := below_alloc w2 _
              have HR1' : Hid (PR w5 w.heap.size (.slice (some ⟨b, off, none⟩) nr C1) RS) := World.ownsRow.kept (HR1.out.stay hb4) hgr (own_oth (HR1.out.stay hb4) HD4.out (by decide))
              have HR2' : Hid (PR w5 w.heap.size (.slice (some ⟨b2, off2, none⟩) np C2) PS) := World.ownsRow.kept (HR2.out.stay hb4) hgr (own_oth (HR2.out.stay hb4) HD4.out (by decide))
              have HU5 : Hid (Up w.heap.size w w5) := (HU2.out.alloc _).grown hgr (own_base HD4.out)
              clear hown2 hgr hnil hdo hdo4 hdl hdr hb4 HD4 HO5 HR1 HR2 HU2
              go_wp2
              go_roundg (np - (j + 1))
              case measure => omega
              case rel => exact ⟨j + 1, k2 + 1, by omega, rfl, by go_num, by omega, HO6, HR1', HR2', HU5⟩
            · have HO4 : Hid (∃ dn : List W4, dn.length = k2 ∧ W0.ownsRow w.heap.size 51 4 u9 k2 (wC dn) ∧ dn ++ wordsP c n l lo hi (PS.drop (j + 1) ++ RT) = TOT) := by
                obtain ⟨dn, d1, d2, d3⟩ := HO3.out
                rw [wordsP_no (by rw [HKP.out, show decide ((N : Int) ≤ hi) = false by simpa using c2]; simp)] at d3
                exact ⟨dn, d1, d2, d3⟩
              clear HO3 HWO HKP CW
              go_wp2
              go_roundg (np - (j + 1))
              case measure => omega
              case rel => exact ⟨j + 1, k2, by omega, rfl, by go_num, by omega, HO4, HQ1, HQ2, HUd⟩
          · have HO4 : Hid (∃ dn : List W4, dn.length = k2 ∧ W0.ownsRow w.heap.size 51 4 u9 k2 (wC dn) ∧ dn ++ wordsP c n l lo hi (PS.drop (j + 1) ++ RT) = TOT) := by
              obtain ⟨dn, d1, d2, d3⟩ := HO3.out
              rw [wordsP_no (by rw [HKP.out, show decide (lo ≤ (N : Int)) = false by simpa using c1]; rfl)] at d3
              exact ⟨dn, d1, d2, d3⟩
            clear HO3 HWO HKP CW
            go_wp2
            go_roundg (np - (j + 1))
            case measure => omega
            case rel => exact ⟨j + 1, k2, by omega, rfl, by go_num, by omega, HO4, HQ1, HQ2, HUd⟩
        · have y1 : ¬ (j : Int) < (np : Int) := by omega
          have HO4 : Hid (∃ dn : List W4, dn.length = k2 ∧ wr.ownsRow w.heap.size 51 4 u9 k2 (wC dn) ∧ dn ++ wordsP c n l lo hi (ptsL (RU l) (RS.drop (i + 1))) = TOT) := by
            obtain ⟨dn, d1, d2, d3⟩ := HO.out
            rw [List.drop_eq_nil_of_le (by rw [HNP.out]; omega), List.nil_append, ← HRT.out] at d3
            exact ⟨dn, d1, d2, d3⟩
          have hlt3 : np ≤ 5000 := hPl
          clear HO HP2
          go_wp2
          go_roundg (nr - (i + 1))
          case measure => omega
          case rel => exact ⟨i + 1, k2, by omega, rfl, by go_num, by omega, HO4, HP1, HU⟩
    · have z1 : ¬ (i : Int) < (nr : Int) := by omega
      obtain ⟨dn, d1, d2, d3⟩ := HO.out
      rw [List.drop_eq_nil_of_le (by rw [HNR.out]; omega), show wordsP c n l lo hi (ptsL (RU l) []) = [] from rfl, List.append_nil] at d3
      subst d3
      have HFn : Hid (WR wr w.heap.size u9 dn ∧ Below w.heap.size w wr) := ⟨by unfold WR; rw [d1]; exact d2, HU.out.1⟩
      clear d1 d2 HO HU HP
      go_wp2
      go_ret
      exact ⟨_, rfl, HFn.out.1, HFn.out.2⟩
end Go.Proofs.YtbhjkkbempnjeaaDoor
