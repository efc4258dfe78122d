/- The reference: Words. -/
import Derived.Test.YtbhjkkbempnjeaaDooruWdP
namespace Go.Proofs.YtbhjkkbempnjeaaDoor
set_option linter.unusedVariables false
open Go.RowKit Go.ChangeShapes
/-- Two rows of other kinds lie in other blocks. -/
theorem own_oth {w : World} {b1 b2 e1 e2 s1 s2 n1 n2 : Nat} {v1 v2 : Value} {x1 x2 : List Value} (h1 : w.ownsRow b1 e1 s1 v1 n1 x1) (h2 : w.ownsRow b2 e2 s2 v2 n2 x2) (he : e1 ≠ e2) : v1.ownBlock = none ∨ v1.ownBlock ≠ v2.ownBlock := by
  obtain ⟨_, ⟨rfl, _⟩ | ⟨g1, c1, u1, rfl, _, hh1, _⟩⟩ := h1
  · exact Or.inl rfl
  · obtain ⟨_, ⟨rfl, _⟩ | ⟨g2, c2, u2, rfl, _, hh2, _⟩⟩ := h2
    · exact Or.inr (by simp [Value.ownBlock])
    · refine Or.inr (fun e => ?_)
      simp only [Value.ownBlock, Option.some.injEq] at e
      subst e
      rw [hh1] at hh2
      cases hh2
      exact he rfl
set_option maxRecDepth 100000 in
set_option maxHeartbeats 8000000 in
theorem rwords_any {w : World} {ad : Option Addr} {n cap : Nat} {c : Nat → Int} (hC : ∀ j, j < n → 0 ≤ c j ∧ c j < 256) (hb : BC w ad n c) (hcap : n ≤ cap) (hn : n ≤ 100000) (hbig : cap ≤ 9223372036854775807)
    {v : Value} {l : List U3} (h : US w v l) (hF : FitU l) (hk : l.length ≤ 5000) (hl : ∀ u ∈ l, -1000000 ≤ u.a ∧ u.a ≤ 1000000 ∧ -1000000 ≤ u.n ∧ u.n ≤ 1000000) (lo hi : Int) :
    Calls Tryd.prog 20 #[.slice ad n cap, v, .int .i64 lo, .int .i64 hi] w fun e w' => ∃ v', e = .returned v' ∧ WR w' w.heap.size v' (wordsL c n l lo hi) ∧ Below w.heap.size w w' := by
  have HUS : Hid (US w v l) := h
  have HBC : Hid (BC w ad n c) := hb
  have HB : Hid ((∀ j, j < n → 0 ≤ c j ∧ c j < 256) ∧ n ≤ cap ∧ n ≤ 100000 ∧ cap ≤ 9223372036854775807 ∧ FitU l ∧ ∀ u ∈ l, -1000000 ≤ u.a ∧ u.a ≤ 1000000 ∧ -1000000 ≤ u.n ∧ u.n ≤ 1000000) := ⟨hC, hcap, hn, hbig, hF, hl⟩
  obtain ⟨A, C, rfl, hCk, -⟩ := h
  have CR : Hid (∀ w', Up w.heap.size w w' → Calls Tryd.prog 14 #[.slice A l.length C] w' fun e w'' => ∃ v', e = .returned v' ∧ PR w'' w'.heap.size v' (runsL (RU l) l.length 0) ∧ Below w'.heap.size w' w'') := fun w' hu => rruns_any (HUS.out.stay hu.1) hF (by omega)
  have CS : Hid (∀ w' (p : Nat × Nat), Up w.heap.size w w' → p.1 < p.2 → p.2 ≤ l.length → Calls Tryd.prog 16 #[.slice A l.length C, .int .i64 (p.1 : Int), .int .i64 (p.2 : Int)] w' fun e w'' => ∃ v', e = .returned v' ∧ PR w'' w'.heap.size v' (partsL (RU l) p.2 p.1) ∧ Below w'.heap.size w' w'') := fun w' p hu h1 h2 => by
    have := rsplit_any (HUS.out.stay hu.1) hF (by omega) (f := (p.1 : Int)) (t := (p.2 : Int)) (by omega) (by omega)
    rw [show (min (p.2 : Int) (l.length : Int)).toNat = p.2 by omega, show (max (p.1 : Int) 0).toNat = p.1 by omega] at this
    exact this
  obtain ⟨RS, hRS⟩ : ∃ RS, runsL (RU l) l.length 0 = RS := ⟨_, rfl⟩
  have HRS : Hid (runsL (RU l) l.length 0 = RS) := hRS
  have HIN : Hid (∀ p ∈ RS, p.1 < p.2 ∧ p.2 ≤ l.length) := fun p hp => by
    rw [← hRS] at hp
    exact (runsL_in hp).2
  have hRl : RS.length ≤ 5000 := by rw [← hRS]; have := runsL_len (RU l) l.length 0; omega
  obtain ⟨TOT, hTOT⟩ : ∃ T, wordsL c n l lo hi = T := ⟨_, rfl⟩
  have HT : Hid (wordsP c n l lo hi (ptsL (RU l) RS) = TOT) := by show _ = _; rw [← hRS]; exact hTOT
  rw [hTOT]
  rw [hRS] at CR
  obtain ⟨k, hkk⟩ : ∃ k, l.length = k := ⟨_, rfl⟩
  have HK : Hid (l.length = k) := hkk
  rw [hkk] at CR CS HIN hk hCk HUS ⊢
  obtain ⟨nr, hnr⟩ : ∃ q, RS.length = q := ⟨_, rfl⟩
  have HNR : Hid (RS.length = nr) := hnr
  rw [hnr] at hRl
  obtain ⟨i0, hin0, hz0, hz1, hz2⟩ := info_parts infoW
  have cr := CR.out _ (Up.refl w)
  clear hRS hTOT hkk hnr hC hb hcap hn hbig hF hl CR
  go_enter Tryd.func20, Tryd.ntmps20
  go_wp2_with fail
  refine cr.mono ?_
  rintro e w1 ⟨v1, rfl, hP1, hb1⟩
  have HU1 : Hid (Up w.heap.size w w1) := ⟨hb1, hb1.size⟩
  have HP1 : Hid (PR w1 w.heap.size v1 RS) := hP1
  obtain ⟨A1, C1, rfl⟩ : ∃ A1 C1, v1 = .slice A1 nr C1 := by
    obtain ⟨A1, C1, e, -⟩ := hP1.any
    exact ⟨A1, C1, by rw [e, HNR.out]⟩
  clear cr hb1 hP1
  go_wp2
  go_loopg [9, 11] nr (fun q ov iv wr => ∃ (i kk : Nat), i ≤ nr ∧ q = nr - i ∧ iv = .int .i64 (i : Int) ∧ kk ≤ 5000 * i ∧ Hid (∃ dn : List W4, dn.length = kk ∧ wr.ownsRow w.heap.size 51 4 ov kk (wC dn) ∧ dn ++ wordsP c n l lo hi (ptsL (RU l) (RS.drop i)) = TOT) ∧ Hid (PR wr w.heap.size (.slice A1 nr C1) RS) ∧ Hid (Up w.heap.size w wr))
  case atStart => exact ⟨0, 0, Nat.zero_le _, rfl, rfl, Nat.zero_le _, ⟨[], rfl, World.ownsRow_nil _ _ _ _, HT.out⟩, HP1, HU1⟩
  case round =>
    clear HP1 HU1
    obtain ⟨i, kk, hi1, hq, rfl, hkk, HO, HP, HU⟩ := hrel
    by_cases hlt : i < nr
    · have z0 : (0 : Int) ≤ (i : Int) := by omega
      have z1 : (i : Int) < (nr : Int) := by omega
      obtain ⟨p, hp⟩ : ∃ p, RS[i]? = some p := ⟨_, List.getElem?_eq_getElem (by rw [HNR.out]; exact hlt)⟩
      have hpin := HIN.out p (List.mem_of_getElem? hp)
      obtain ⟨A1', C1', eA, -, hA⟩ := HP.out.any
      injection eA with eA eN eC
      subst eA eC
      clear eN
      obtain ⟨b, off, rfl, hbl, a1, a2⟩ := hA i p hp
      obtain ⟨PS, hPS⟩ : ∃ q, partsL (RU l) p.2 p.1 = q := ⟨_, rfl⟩
      have HPS : Hid (partsL (RU l) p.2 p.1 = PS) := hPS
      have hdr : RS.drop i = p :: RS.drop (i + 1) := by
        have hlt' : i < RS.length := by rw [HNR.out]; exact hlt
        rw [List.drop_eq_getElem_cons hlt']
        rw [List.getElem?_eq_getElem hlt'] at hp
        rw [Option.some.inj hp]
      obtain ⟨RT, hRT⟩ : ∃ q, ptsL (RU l) (RS.drop (i + 1)) = q := ⟨_, rfl⟩
      have HRT : Hid (ptsL (RU l) (RS.drop (i + 1)) = RT) := hRT
      have HO2 : Hid (∃ dn : List W4, dn.length = kk ∧ wr.ownsRow w.heap.size 51 4 u9 kk (wC dn) ∧ dn ++ wordsP c n l lo hi (PS ++ RT) = TOT) := by
        obtain ⟨dn, d1, d2, d3⟩ := HO.out
        rw [hdr] at d3
        exact ⟨dn, d1, d2, by rw [← d3, ← hRT, ← hPS]; rfl⟩
      have CSp := fun w' (hu : Up w.heap.size w w') => CS.out w' p hu hpin.1 hpin.2
      rw [hPS] at CSp
      obtain ⟨p1, hp1⟩ : ∃ q, p.1 = q := ⟨_, rfl⟩
      obtain ⟨p2, hp2⟩ : ∃ q, p.2 = q := ⟨_, rfl⟩
      rw [hp1] at a1 CSp
      rw [hp2] at a2 CSp
      have HCS : Hid (∀ w', Up w.heap.size w w' → Calls Tryd.prog 16 #[.slice A k C, .int .i64 (p1 : Int), .int .i64 (p2 : Int)] w' fun e w'' => ∃ v', e = .returned v' ∧ PR w'' w'.heap.size v' PS ∧ Below w'.heap.size w' w'') := CSp
      have HPI : Hid (∀ p ∈ PS, p.1 < p.2 ∧ p.2 ≤ k) := fun q hq => by
        rw [← hPS] at hq
        have := partsL_in hq
        omega
      have hPl : PS.length ≤ 5000 := by rw [← hPS]; have := partsL_len (RU l) p.2 p.1; omega
      clear hdr hRT hPS CSp hp hp1 hp2 hA HO hbl hpin
      go_upto_region 6 with fail
      refine wp_region_held_drew (S := fun w' => Up wr.heap.size wr w') (by kernel_rfl) (Up.drew (Up.refl wr)) (fun hHeld => ?_)
      (try dsimp only at hHeld)
      obtain ⟨x0, hx0⟩ : ∃ x0, wr.drew = x0 := ⟨_, rfl⟩
      rw [hx0] at hHeld ⊢
      clear hx0
      refine takeH (i := 0) (v := ?_) (d := (some 24)) rfl (by kernel_rfl) (by kernel_rfl) (by kernel_rfl) rfl (fun _ _ _ h => h) (Or.inl ⟨by kernel_rfl, ?_⟩) (by assumption) ?_; rotate_left
      · (intro w hSw; (try dsimp only at hSw); first | (go_simp; done) | (go_simp; with_reducible rfl))
      (try simp only [Act.put, List.setIfInBounds_toArray, List.set_cons_zero, List.set_cons_succ])
      refine takeH (i := 1) (v := ?_) (d := (some 25)) rfl (by kernel_rfl) (by kernel_rfl) (by kernel_rfl) rfl (fun _ _ _ h => h) (Or.inl ⟨by kernel_rfl, ?_⟩) (by assumption) ?_; rotate_left
      · (intro w hSw; (try dsimp only at hSw); first | (go_simp; done) | (go_simp; with_reducible rfl))
      (try simp only [Act.put, List.setIfInBounds_toArray, List.set_cons_zero, List.set_cons_succ])
      refine takeH (i := 2) (v := ?_) (d := (some 26)) rfl (by kernel_rfl) (by kernel_rfl) (by kernel_rfl) rfl (fun _ _ _ h => h) (Or.inl ⟨by kernel_rfl, ?_⟩) (by assumption) ?_; rotate_left
      · (intro w hSw; (try dsimp only at hSw); first | (go_simp; done) | (go_simp; with_reducible rfl))
      (try simp only [Act.put, List.setIfInBounds_toArray, List.set_cons_zero, List.set_cons_succ])
      refine takeH (i := 3) (v := ?_) (d := (some 27)) rfl (by kernel_rfl) (by kernel_rfl) (by kernel_rfl) rfl (fun _ _ _ h => h) (Or.inl ⟨by kernel_rfl, ?_⟩) (by assumption) ?_; rotate_left
      · (intro w hSw; (try dsimp only at hSw); first | (go_simp; done) | (go_simp; with_reducible rfl))
      (try simp only [Act.put, List.setIfInBounds_toArray, List.set_cons_zero, List.set_cons_succ])
      refine takeH (i := 4) (v := ?_) (d := (some 28)) rfl (by kernel_rfl) (by kernel_rfl) (by kernel_rfl) rfl (fun _ _ _ h => h) (Or.inl ⟨by kernel_rfl, ?_⟩) (by assumption) ?_; rotate_left
      · (intro w hSw; (try dsimp only at hSw); first | (go_simp; done) | (go_simp; with_reducible rfl))
      (try simp only [Act.put, List.setIfInBounds_toArray, List.set_cons_zero, List.set_cons_succ])
      refine takeH (i := 5) (v := ?_) (d := (some 29)) rfl (by kernel_rfl) (by kernel_rfl) (by kernel_rfl) rfl (fun _ _ _ h => h) (Or.inl ⟨by kernel_rfl, ?_⟩) (by assumption) ?_; rotate_left
      · (intro w hSw; (try dsimp only at hSw); have q0 := cell_stay a1 hSw.1; first | (go_simp; done) | (go_simp; with_reducible rfl))
      (try simp only [Act.put, List.setIfInBounds_toArray, List.set_cons_zero, List.set_cons_succ])
      refine takeH (i := 6) (v := ?_) (d := (some 30)) rfl (by kernel_rfl) (by kernel_rfl) (by kernel_rfl) rfl (fun _ _ _ h => h) (Or.inl ⟨by kernel_rfl, ?_⟩) (by assumption) ?_; rotate_left
      · (intro w hSw; (try dsimp only at hSw); first | (go_simp; done) | (go_simp; with_reducible rfl))
      (try simp only [Act.put, List.setIfInBounds_toArray, List.set_cons_zero, List.set_cons_succ])
      refine takeH (i := 7) (v := ?_) (d := (some 31)) rfl (by kernel_rfl) (by kernel_rfl) (by kernel_rfl) rfl (fun _ _ _ h => h) (Or.inl ⟨by kernel_rfl, ?_⟩) (by assumption) ?_; rotate_left
      · (intro w hSw; (try dsimp only at hSw); first | (go_simp; done) | (go_simp; with_reducible rfl))
      (try simp only [Act.put, List.setIfInBounds_toArray, List.set_cons_zero, List.set_cons_succ])
      refine takeH (i := 8) (v := ?_) (d := (some 32)) rfl (by kernel_rfl) (by kernel_rfl) (by kernel_rfl) rfl (fun _ _ _ h => h) (Or.inl ⟨by kernel_rfl, ?_⟩) (by assumption) ?_; rotate_left
      · (intro w hSw; (try dsimp only at hSw); first | (go_simp; done) | (go_simp; with_reducible rfl))
      (try simp only [Act.put, List.setIfInBounds_toArray, List.set_cons_zero, List.set_cons_succ])
      refine takeH (i := 9) (v := ?_) (d := (some 33)) rfl (by kernel_rfl) (by kernel_rfl) (by kernel_rfl) rfl (fun _ _ _ h => h) (Or.inl ⟨by kernel_rfl, ?_⟩) (by assumption) ?_; rotate_left
      · (intro w hSw; (try dsimp only at hSw); first | (go_simp; done) | (go_simp; with_reducible rfl))
      (try simp only [Act.put, List.setIfInBounds_toArray, List.set_cons_zero, List.set_cons_succ])
      refine takeH (i := 10) (v := ?_) (d := (some 34)) rfl (by kernel_rfl) (by kernel_rfl) (by kernel_rfl) rfl (fun _ _ _ h => h) (Or.inl ⟨by kernel_rfl, ?_⟩) (by assumption) ?_; rotate_left
      · (intro w hSw; (try dsimp only at hSw); have q0 := cell_stay a2 hSw.1; first | (go_simp; done) | (go_simp; with_reducible rfl))
      (try simp only [Act.put, List.setIfInBounds_toArray, List.set_cons_zero, List.set_cons_succ])
      have cS := HCS.out x0 (HU.out.stay hHeld.1)
      refine wpAnyH_ready (rs := [11]) (by kernel_rfl) (by simp) (AllReadyH.cons rfl (fun K hK => ?_) AllReadyH.nil)
      (try rw [if_pos (by kernel_rfl)])
      go_simp
      refine cS.mono ?_
      rintro ev w2 ⟨v2, rfl, hP2, hb2⟩
      have HU2 : Hid (Up wr.heap.size wr w2) := hHeld.stay hb2
      have HP2 : Hid (PR w2 w.heap.size v2 PS) := hP2.mono (Nat.le_trans HU.out.2 hHeld.2)
      clear cS hP2 hb2 hHeld
      go_wp2_with fail
      refine hK.out _ _ HU2.out (fun hHeld => ?_)
      clear hK K
      (try dsimp only at hHeld)
      (try simp only [Act.put, List.setIfInBounds_toArray, List.set_cons_zero, List.set_cons_succ])
      refine takeH (i := 12) (v := ?_) (d := (some 12)) rfl (by kernel_rfl) (by kernel_rfl) (by kernel_rfl) rfl (fun _ _ _ h => h) (Or.inl ⟨by kernel_rfl, ?_⟩) (by assumption) ?_; rotate_left
      · (intro w hSw; (try dsimp only at hSw); first | (go_simp; done) | (go_simp; with_reducible rfl))
      (try simp only [Act.put, List.setIfInBounds_toArray, List.set_cons_zero, List.set_cons_succ])
      refine wpAnyH_done (by kernel_rfl) ?_ _
      clear HCS hHeld
      obtain ⟨np, hnp⟩ : ∃ q, PS.length = q := ⟨_, rfl⟩
      have HNP : Hid (PS.length = np) := hnp
      rw [hnp] at hPl
      obtain ⟨A2, C2, rfl⟩ : ∃ A2 C2, v2 = .slice A2 np C2 := by
        obtain ⟨A2, C2, e, -⟩ := HP2.out.any
        exact ⟨A2, C2, by rw [e, hnp]⟩
      have HO3 : Hid (∃ dn : List W4, dn.length = kk ∧ w2.ownsRow w.heap.size 51 4 u9 kk (wC dn) ∧ dn ++ wordsP c n l lo hi (PS.drop 0 ++ RT) = TOT) := by
        obtain ⟨dn, d1, d2, d3⟩ := HO2.out
        exact ⟨dn, d1, own_stay d2 HU2.out.1, d3⟩
      have HP1 : Hid (PR w2 w.heap.size (.slice (some ⟨b, off, none⟩) nr C1) RS) := HP.out.stay HU2.out.1
      have HUw : Hid (Up w.heap.size w w2) := HU.out.stay HU2.out.1
      clear hnp HO2 HP HU HU2 a1 a2
      go_wp2
      go_loopg [9, 13] np (fun q ov jv wr2 => ∃ (j k2 : Nat), j ≤ np ∧ q = np - j ∧ jv = .int .i64 (j : Int) ∧ k2 ≤ 5000 * i + j ∧ Hid (∃ dn : List W4, dn.length = k2 ∧ wr2.ownsRow w.heap.size 51 4 ov k2 (wC dn) ∧ dn ++ wordsP c n l lo hi (PS.drop j ++ RT) = TOT) ∧ Hid (PR wr2 w.heap.size (.slice (some ⟨b, off, none⟩) nr C1) RS) ∧ Hid (PR wr2 w.heap.size (.slice A2 np C2) PS) ∧ Hid (Up w.heap.size w wr2))
      case atStart => exact ⟨0, kk, Nat.zero_le _, rfl, rfl, by omega, HO3, HP1, HP2, HUw⟩
      case round =>
        clear HO3 HP1 HP2 HUw hkk
        obtain ⟨j, k2, hj1, hqj, rfl, hk2, HO, HP1, HP2, HU⟩ := hrel
        by_cases hjl : j < np
        · have y0 : (0 : Int) ≤ (j : Int) := by omega
          have y1 : (j : Int) < (np : Int) := by omega
          obtain ⟨q, hqq⟩ : ∃ q, PS[j]? = some q := ⟨_, List.getElem?_eq_getElem (by rw [HNP.out]; exact hjl)⟩
          have hqin := HPI.out q (List.mem_of_getElem? hqq)
          obtain ⟨A2', C2', eA, -, hA⟩ := HP2.out.any
          injection eA with eA eN eC
          subst eA eC
          clear eN
          obtain ⟨b2, off2, rfl, hbl, a1, a2⟩ := hA j q hqq
          have hdr : PS.drop j = q :: PS.drop (j + 1) := by
            have hlt' : j < PS.length := by rw [HNP.out]; exact hjl
            rw [List.drop_eq_getElem_cons hlt']
            rw [List.getElem?_eq_getElem hlt'] at hqq
            rw [Option.some.inj hqq]
          have HO2 : Hid (∃ dn : List W4, dn.length = k2 ∧ wr.ownsRow w.heap.size 51 4 u9 k2 (wC dn) ∧ dn ++ wordsP c n l lo hi (q :: (PS.drop (j + 1) ++ RT)) = TOT) := by
            obtain ⟨dn, d1, d2, d3⟩ := HO.out
            exact ⟨dn, d1, d2, by rw [← d3, hdr]; rfl⟩
          obtain ⟨lx, hlx⟩ : ∃ x, l[q.1]? = some x := ⟨_, List.getElem?_eq_getElem (by rw [HK.out]; omega)⟩
          obtain ⟨A3, C3, eA, -, hL⟩ := HUS.out
          injection eA with eA eN eC
          subst eA eC
          clear eN
          obtain ⟨lb, loff, rfl, -, -, xw, -⟩ := hL q.1 lx hlx
          have hsub : US wr (.slice (some ⟨lb, loff + q.1 * 3, none⟩) (q.2 - q.1) (C - q.1)) (sub l q.1 q.2) := by
            have h1 := HUS.out.stay HU.out.1
            rw [← HK.out] at h1
            exact h1.sub (by omega) (by rw [HK.out]; exact hqin.2)
          obtain ⟨e, he⟩ : ∃ e, q.2 = q.1 + (e + 1) := ⟨q.2 - q.1 - 1, by omega⟩
          have hds : (sub l q.1 q.2).length = e + 1 := by rw [sub_len (by omega) (by rw [HK.out]; exact hqin.2)]; omega
          have hkp : kpB lo hi q = (decide (lo ≤ ((e + 1 : Nat) : Int)) && decide (((e + 1 : Nat) : Int) ≤ hi)) := by
            unfold kpB
            rw [show q.2 - q.1 = e + 1 by omega]
          have HKP : Hid (kpB lo hi q = (decide (lo ≤ ((e + 1 : Nat) : Int)) && decide (((e + 1 : Nat) : Int) ≤ hi))) := hkp
          obtain ⟨sU, hsU⟩ : ∃ s, sub l q.1 q.2 = s := ⟨_, rfl⟩
          have HSU : Hid (sub l q.1 q.2 = sU) := hsU
          rw [show q.2 - q.1 = e + 1 by omega, hsU] at hsub
          rw [hsU] at hds
          have hsl : ∀ u ∈ sU, u ∈ l := fun u hu => by rw [← hsU] at hu; exact sub_mem hu
          obtain ⟨x, hx⟩ : ∃ x, sU[0]? = some x := ⟨_, List.getElem?_eq_getElem (by omega)⟩
          obtain ⟨y, hy⟩ : ∃ y, sU[e]? = some y := ⟨_, List.getElem?_eq_getElem (by omega)⟩
          have hlx2 : lx = x := by
            have e1 : l[q.1]? = some x := by rw [← hx, ← hsU, sub_at (by omega), Nat.add_zero]
            rw [hlx] at e1
            exact Option.some.inj e1
          rw [hlx2] at xw
          clear hlx2
          have hwo : wOf c n l q = ⟨strOfNums (tU sU), x.a, y.a + y.n - x.a, litB c n sU⟩ := by
            have e1 : l[q.1]? = some x := by rw [← hx, ← hsU, sub_at (by omega), Nat.add_zero]
            have e2 : l[q.2 - 1]? = some y := by rw [← hy, ← hsU, sub_at (by omega), show q.1 + e = q.2 - 1 by omega]
            unfold wOf
            rw [hsU, List.getD_eq_getElem?_getD, List.getD_eq_getElem?_getD, e1, e2]
            rfl
          have HWO : Hid (wOf c n l q = ⟨strOfNums (tU sU), x.a, y.a + y.n - x.a, litB c n sU⟩) := hwo
          have bx := HB.out.2.2.2.2.2 x (hsl x (List.mem_of_getElem? hx))
          have by' := HB.out.2.2.2.2.2 y (hsl y (List.mem_of_getElem? hy))
          obtain ⟨A4, C4, eA, hC4, hS⟩ := hsub
          injection eA with eA eN eC
          subst eA eC
          clear eN
          obtain ⟨b4, off4, eB, -, -, x1, -⟩ := hS 0 x hx
          injection eB with eB
          injection eB with eB1 eB2 _
          subst eB1 eB2
          obtain ⟨b4, off4, eB, -, -, y2, y3⟩ := hS e y hy
          injection eB with eB
          injection eB with eB1 eB2 _
          subst eB1 eB2
          rw [Nat.zero_mul, Nat.add_zero] at x1
          obtain ⟨qa, hqa⟩ : ∃ z, q.1 = z := ⟨_, rfl⟩
          obtain ⟨qb, hqb⟩ : ∃ z, q.2 = z := ⟨_, rfl⟩
          obtain ⟨xa, hxa⟩ : ∃ z, x.a = z := ⟨_, rfl⟩
          obtain ⟨ya, hya⟩ : ∃ z, y.a = z := ⟨_, rfl⟩
          obtain ⟨yn, hyn⟩ : ∃ z, y.n = z := ⟨_, rfl⟩
          have HSS : Hid (US wr (.slice (some ⟨lb, loff + qa * 3, none⟩) (e + 1) (C - qa)) sU) := by
            show US _ _ _
            rw [← hqa]
            exact ⟨_, _, by rw [hds], hC4, hS⟩
          have HSB : Hid (∀ u ∈ sU, -1000000 ≤ u.a ∧ u.a ≤ 1000000 ∧ -1000000 ≤ u.n ∧ u.n ≤ 1000000) := fun u hu => HB.out.2.2.2.2.2 u (hsl u hu)
          have HSL : Hid (sU.length = e + 1) := hds
          rw [hqa] at a1 he hqin x1 y2 y3 xw
          rw [hqb] at a2 he hqin
          rw [hxa] at x1 bx xw
          rw [hya] at y2 by'
          rw [hyn] at y3 by'
          rw [hxa, hya, hyn] at HWO
          have v0 : (0 : Int) ≤ (qa : Int) := by omega
          have v1 : (qa : Int) ≤ (qb : Int) := by omega
          have v2 : (qb : Int) ≤ (C : Int) := by omega
          have v3 : ¬ C = qa := by omega
          have v4 : qb - qa = e + 1 := by omega
          have we : e + 1 ≤ 5000 := by omega
          have HQK : Hid (qa < qb ∧ qb ≤ k) := hqin
          clear hS hL hA hdr hds hsl hlx hsU hx hy hqa hqb hxa hya hyn hwo hkp hqq hC4 hbl he HO hqin
          have HXW : Hid (w.cell? ⟨lb, loff + qa * 3 + 1, none⟩ = some (.int .i64 xa)) := xw
          clear xw
          go_upto_region 10 with fail
          go_quiet (fail)
          have hbd := below_drewN (Below.refl wr.heap.size wr) nq
          obtain ⟨wd, hwd⟩ : ∃ x, wr.drewN nq = x := ⟨_, rfl⟩
          rw [hwd] at hbd ⊢
          have HO3 : Hid (∃ dn : List W4, dn.length = k2 ∧ wd.ownsRow w.heap.size 51 4 u9 k2 (wC dn) ∧ dn ++ wordsP c n l lo hi (q :: (PS.drop (j + 1) ++ RT)) = TOT) := by
            obtain ⟨dn, d1, d2, d3⟩ := HO2.out
            exact ⟨dn, d1, own_stay d2 hbd, d3⟩
          have HQ1 : Hid (PR wd w.heap.size (.slice (some ⟨b, off, none⟩) nr C1) RS) := HP1.out.stay hbd
          have HQ2 : Hid (PR wd w.heap.size (.slice (some ⟨b2, off2, none⟩) np C2) PS) := HP2.out.stay hbd
          have HUd : Hid (Up w.heap.size w wd) := HU.out.stay hbd
          have HSd : Hid (US wd (.slice (some ⟨lb, loff + qa * 3, none⟩) (e + 1) (C - qa)) sU) := HSS.out.stay hbd
          have x1 := cell_stay x1 hbd
          have y2 := cell_stay y2 hbd
          have y3 := cell_stay y3 hbd
          clear hwd hbd HO2 HP1 HP2 HU HSS a1 a2 v0 v1 v2 v3
          have w0 : (0 : Int) ≤ (e : Int) := by omega
          have w1' : (e : Int) < ((e + 1 : Nat) : Int) := by omega
          have w2' : ((e + 1 : Nat) : Int) - 1 = (e : Int) := by omega
          have w3' : (0 : Int) < ((e + 1 : Nat) : Int) := by omega
          by_cases c1 : ((e + 1 : Nat) : Int) < lo
          · have HO4 : Hid (∃ dn : List W4, dn.length = k2 ∧ wd.ownsRow w.heap.size 51 4 u9 k2 (wC dn) ∧ dn ++ wordsP c n l lo hi (PS.drop (j + 1) ++ RT) = TOT) := by
              obtain ⟨dn, d1, d2, d3⟩ := HO3.out
              rw [wordsP_no (by rw [HKP.out, show decide (lo ≤ ((e + 1 : Nat) : Int)) = false by simp; omega]; rfl)] at d3
              exact ⟨dn, d1, d2, d3⟩
            clear HO3 x1 y2 y3
            go_wp2
            go_roundg (np - (j + 1))
            case measure => omega
            case rel => exact ⟨j + 1, k2, by omega, rfl, by go_num, by omega, HO4, HQ1, HQ2, HUd⟩
          · by_cases c2 : hi < ((e + 1 : Nat) : Int)
            · have HO4 : Hid (∃ dn : List W4, dn.length = k2 ∧ wd.ownsRow w.heap.size 51 4 u9 k2 (wC dn) ∧ dn ++ wordsP c n l lo hi (PS.drop (j + 1) ++ RT) = TOT) := by
                obtain ⟨dn, d1, d2, d3⟩ := HO3.out
                rw [wordsP_no (by rw [HKP.out, show decide (((e + 1 : Nat) : Int) ≤ hi) = false by simp; omega]; simp)] at d3
                exact ⟨dn, d1, d2, d3⟩
              clear HO3 x1 y2 y3
              go_wp2
              go_roundg (np - (j + 1))
              case measure => omega
              case rel => exact ⟨j + 1, k2, by omega, rfl, by go_num, by omega, HO4, HQ1, HQ2, HUd⟩
            · have HO4 : Hid (∃ dn : List W4, dn.length = k2 ∧ wd.ownsRow w.heap.size 51 4 u9 k2 (wC dn) ∧ dn ++ ⟨strOfNums (tU sU), xa, ya + yn - xa, litB c n sU⟩ :: wordsP c n l lo hi (PS.drop (j + 1) ++ RT) = TOT) := by
                obtain ⟨dn, d1, d2, d3⟩ := HO3.out
                rw [wordsP_yes (by rw [HKP.out, show decide (lo ≤ ((e + 1 : Nat) : Int)) = true by simp; omega, show decide (((e + 1 : Nat) : Int) ≤ hi) = true by simp; omega]; rfl), HWO.out] at d3
                exact ⟨dn, d1, d2, d3⟩
              have z5 : IntKind.i64.wrap (ya + yn) = ya + yn := IntWalk.i64_in _ (by omega)
              have z6 : IntKind.i64.wrap (ya + yn - xa) = ya + yn - xa := IntWalk.i64_in _ (by omega)
              clear HO3 HWO HKP
              go_upto_region 12 with fail
              go_quiet (fail)
              have hbd := below_drewN (Below.refl wd.heap.size wd) nq
              obtain ⟨wx, hwx⟩ : ∃ x, wd.drewN nq = x := ⟨_, rfl⟩
              rw [hwx] at hbd ⊢
              have HO5 : Hid (∃ dn : List W4, dn.length = k2 ∧ wx.ownsRow w.heap.size 51 4 u9 k2 (wC dn) ∧ dn ++ ⟨strOfNums (tU sU), xa, ya + yn - xa, litB c n sU⟩ :: wordsP c n l lo hi (PS.drop (j + 1) ++ RT) = TOT) := by
                obtain ⟨dn, d1, d2, d3⟩ := HO4.out
                exact ⟨dn, d1, own_stay d2 hbd, d3⟩
              have HR1 : Hid (PR wx w.heap.size (.slice (some ⟨b, off, none⟩) nr C1) RS) := HQ1.out.stay hbd
              have HR2 : Hid (PR wx w.heap.size (.slice (some ⟨b2, off2, none⟩) np C2) PS) := HQ2.out.stay hbd
              have HUx : Hid (Up w.heap.size w wx) := HUd.out.stay hbd
              have HSx : Hid (US wx (.slice (some ⟨lb, loff + qa * 3, none⟩) (e + 1) (C - qa)) sU) := HSd.out.stay hbd
              clear x1
              obtain ⟨tx, htx⟩ : ∃ z, strOfNums (tU sU) = z := ⟨_, rfl⟩
              obtain ⟨lt, hlt9⟩ : ∃ z, litB c n sU = z := ⟨_, rfl⟩
              rw [htx, hlt9] at HO5
              have HCT : Hid (∀ w', Up wx.heap.size wx w' → Calls Tryd.prog 34 #[.slice (some ⟨lb, loff + qa * 3, none⟩) (e + 1) (C - qa)] w' fun ev w'' => ev = .returned (.string tx) ∧ Below w'.heap.size w' w'') := fun w' hu => by
                rw [← htx]
                exact rtextU_any (HSx.out.stay hu.1) (by rw [HSL.out]; omega)
              have HCL : Hid (∀ w', Up wx.heap.size wx w' → Calls Tryd.prog 35 #[.slice ad n cap, .slice (some ⟨lb, loff + qa * 3, none⟩) (e + 1) (C - qa)] w' fun ev w'' => ev = .returned (.bool lt) ∧ Below w'.heap.size w' w'') := fun w' hu => by
                rw [← hlt9]
                exact rlit_any HB.out.1 (HBC.out.stay (HUx.out.stay hu.1).1) HB.out.2.1 HB.out.2.2.1 HB.out.2.2.2.1 (HSx.out.stay hu.1) (by rw [HSL.out]; omega) HSB.out
              clear hwx hbd HO4 HQ1 HQ2 HUd HSd htx hlt9 y2 y3 z5
              go_upto_region 13 with fail
              refine wp_region_held_drew (S := fun w' => Up w.heap.size w w') (by kernel_rfl) (Up.drew HUx.out) (fun hHeld => ?_)
              (try dsimp only at hHeld)
              obtain ⟨x0, hx0⟩ : ∃ x0, wx.drew = x0 := ⟨_, rfl⟩
              have HU0 : Hid (Up wx.heap.size wx x0) := by rw [← hx0]; exact (Up.refl wx).drew
              rw [hx0] at hHeld ⊢
              clear hx0
              refine takeH (i := 0) (v := ?_) (d := (some 81)) rfl (by kernel_rfl) (by kernel_rfl) (by kernel_rfl) rfl (fun _ _ _ h => h) (Or.inl ⟨by kernel_rfl, ?_⟩) (by assumption) ?_; rotate_left
              · (intro w hSw; (try dsimp only at hSw); first | (go_simp; done) | (go_simp; with_reducible rfl))
              (try simp only [Act.put, List.setIfInBounds_toArray, List.set_cons_zero, List.set_cons_succ])
              refine takeH (i := 1) (v := ?_) (d := (some 82)) rfl (by kernel_rfl) (by kernel_rfl) (by kernel_rfl) rfl (fun _ _ _ h => h) (Or.inl ⟨by kernel_rfl, ?_⟩) (by assumption) ?_; rotate_left
              · (intro w hSw; (try dsimp only at hSw); first | (go_simp; done) | (go_simp; with_reducible rfl))
              (try simp only [Act.put, List.setIfInBounds_toArray, List.set_cons_zero, List.set_cons_succ])
              refine takeH (i := 3) (v := ?_) (d := (some 84)) rfl (by kernel_rfl) (by kernel_rfl) (by kernel_rfl) rfl (fun _ _ _ h => h) (Or.inl ⟨by kernel_rfl, ?_⟩) (by assumption) ?_; rotate_left
              · (intro w hSw; (try dsimp only at hSw); first | (go_simp; done) | (go_simp; with_reducible rfl))
              (try simp only [Act.put, List.setIfInBounds_toArray, List.set_cons_zero, List.set_cons_succ])
              refine takeH (i := 4) (v := ?_) (d := (some 85)) rfl (by kernel_rfl) (by kernel_rfl) (by kernel_rfl) rfl (fun _ _ _ h => h) (Or.inl ⟨by kernel_rfl, ?_⟩) (by assumption) ?_; rotate_left
              · (intro w hSw; (try dsimp only at hSw); first | (go_simp; done) | (go_simp; with_reducible rfl))
              (try simp only [Act.put, List.setIfInBounds_toArray, List.set_cons_zero, List.set_cons_succ])
              refine takeH (i := 5) (v := ?_) (d := (some 86)) rfl (by kernel_rfl) (by kernel_rfl) (by kernel_rfl) rfl (fun _ _ _ h => h) (Or.inl ⟨by kernel_rfl, ?_⟩) (by assumption) ?_; rotate_left
              · (intro w hSw; (try dsimp only at hSw); first | (go_simp; done) | (go_simp; with_reducible rfl))
              (try simp only [Act.put, List.setIfInBounds_toArray, List.set_cons_zero, List.set_cons_succ])
              refine takeH (i := 6) (v := ?_) (d := (some 87)) rfl (by kernel_rfl) (by kernel_rfl) (by kernel_rfl) rfl (fun _ _ _ h => h) (Or.inl ⟨by kernel_rfl, ?_⟩) (by assumption) ?_; rotate_left
              · (intro w hSw; (try dsimp only at hSw); first | (go_simp; done) | (go_simp; with_reducible rfl))
              (try simp only [Act.put, List.setIfInBounds_toArray, List.set_cons_zero, List.set_cons_succ])
              refine takeH (i := 7) (v := ?_) (d := (some 88)) rfl (by kernel_rfl) (by kernel_rfl) (by kernel_rfl) rfl (fun _ _ _ h => h) (Or.inl ⟨by kernel_rfl, ?_⟩) (by assumption) ?_; rotate_left
              · (intro w hSw; (try dsimp only at hSw); have q0 := cell_stay HXW.out hSw.1; first | (go_simp; done) | (go_simp; with_reducible rfl))
              (try simp only [Act.put, List.setIfInBounds_toArray, List.set_cons_zero, List.set_cons_succ])
              refine takeH (i := 8) (v := ?_) (d := (some 89)) rfl (by kernel_rfl) (by kernel_rfl) (by kernel_rfl) rfl (fun _ _ _ h => h) (Or.inl ⟨by kernel_rfl, ?_⟩) (by assumption) ?_; rotate_left
              · (intro w hSw; (try dsimp only at hSw); first | (go_simp; done) | (go_simp; with_reducible rfl))
              (try simp only [Act.put, List.setIfInBounds_toArray, List.set_cons_zero, List.set_cons_succ])
              refine takeH (i := 9) (v := ?_) (d := (some 90)) rfl (by kernel_rfl) (by kernel_rfl) (by kernel_rfl) rfl (fun _ _ _ h => h) (Or.inl ⟨by kernel_rfl, ?_⟩) (by assumption) ?_; rotate_left
              · (intro w hSw; (try dsimp only at hSw); first | (go_simp; done) | (go_simp; with_reducible rfl))
              (try simp only [Act.put, List.setIfInBounds_toArray, List.set_cons_zero, List.set_cons_succ])
              refine takeH (i := 10) (v := ?_) (d := (some 91)) rfl (by kernel_rfl) (by kernel_rfl) (by kernel_rfl) rfl (fun _ _ _ h => h) (Or.inl ⟨by kernel_rfl, ?_⟩) (by assumption) ?_; rotate_left
              · (intro w hSw; (try dsimp only at hSw); first | (go_simp; done) | (go_simp; with_reducible rfl))
              (try simp only [Act.put, List.setIfInBounds_toArray, List.set_cons_zero, List.set_cons_succ])
              refine takeH (i := 11) (v := ?_) (d := (some 92)) rfl (by kernel_rfl) (by kernel_rfl) (by kernel_rfl) rfl (fun _ _ _ h => h) (Or.inl ⟨by kernel_rfl, ?_⟩) (by assumption) ?_; rotate_left
              · (intro w hSw; (try dsimp only at hSw); first | (go_simp; done) | (go_simp; with_reducible rfl))
              (try simp only [Act.put, List.setIfInBounds_toArray, List.set_cons_zero, List.set_cons_succ])
              refine takeH (i := 12) (v := ?_) (d := (some 93)) rfl (by kernel_rfl) (by kernel_rfl) (by kernel_rfl) rfl (fun _ _ _ h => h) (Or.inl ⟨by kernel_rfl, ?_⟩) (by assumption) ?_; rotate_left
              · (intro w hSw; (try dsimp only at hSw); first | (go_simp; done) | (go_simp; with_reducible rfl))
              (try simp only [Act.put, List.setIfInBounds_toArray, List.set_cons_zero, List.set_cons_succ])
              refine takeH (i := 13) (v := ?_) (d := (some 94)) rfl (by kernel_rfl) (by kernel_rfl) (by kernel_rfl) rfl (fun _ _ _ h => h) (Or.inl ⟨by kernel_rfl, ?_⟩) (by assumption) ?_; rotate_left
              · (intro w hSw; (try dsimp only at hSw); have q0 := cell_stay HXW.out hSw.1; first | (go_simp; done) | (go_simp; with_reducible rfl))
              (try simp only [Act.put, List.setIfInBounds_toArray, List.set_cons_zero, List.set_cons_succ])
              refine takeH (i := 14) (v := ?_) (d := (some 95)) rfl (by kernel_rfl) (by kernel_rfl) (by kernel_rfl) rfl (fun _ _ _ h => h) (Or.inl ⟨by kernel_rfl, ?_⟩) (by assumption) ?_; rotate_left
              · (intro w hSw; (try dsimp only at hSw); first | (go_simp; done) | (go_simp; with_reducible rfl))
              (try simp only [Act.put, List.setIfInBounds_toArray, List.set_cons_zero, List.set_cons_succ])
              refine takeH (i := 15) (v := ?_) (d := (some 96)) rfl (by kernel_rfl) (by kernel_rfl) (by kernel_rfl) rfl (fun _ _ _ h => h) (Or.inl ⟨by kernel_rfl, ?_⟩) (by assumption) ?_; rotate_left
              · (intro w hSw; (try dsimp only at hSw); first | (go_simp; done) | (go_simp; with_reducible rfl))
              (try simp only [Act.put, List.setIfInBounds_toArray, List.set_cons_zero, List.set_cons_succ])
              refine takeH (i := 16) (v := ?_) (d := (some 97)) rfl (by kernel_rfl) (by kernel_rfl) (by kernel_rfl) rfl (fun _ _ _ h => h) (Or.inl ⟨by kernel_rfl, ?_⟩) (by assumption) ?_; rotate_left
              · (intro w hSw; (try dsimp only at hSw); first | (go_simp; done) | (go_simp; with_reducible rfl))
              (try simp only [Act.put, List.setIfInBounds_toArray, List.set_cons_zero, List.set_cons_succ])
              refine takeH (i := 17) (v := ?_) (d := (some 98)) rfl (by kernel_rfl) (by kernel_rfl) (by kernel_rfl) rfl (fun _ _ _ h => h) (Or.inl ⟨by kernel_rfl, ?_⟩) (by assumption) ?_; rotate_left
              · (intro w hSw; (try dsimp only at hSw); first | (go_simp; done) | (go_simp; with_reducible rfl))
              (try simp only [Act.put, List.setIfInBounds_toArray, List.set_cons_zero, List.set_cons_succ])
              have cT := HCT.out x0 HU0.out
              refine wpAnyH_ready (rs := [2]) (by kernel_rfl) (by simp) (AllReadyH.cons rfl (fun K hK => ?_) AllReadyH.nil)
              (try rw [if_pos (by kernel_rfl)])
              go_simp
              refine cT.mono ?_
              rintro ev w2 ⟨rfl, hb2⟩
              have HU2 : Hid (Up wx.heap.size wx w2) := HU0.out.stay hb2
              clear cT hb2 hHeld
              go_wp2_with fail
              refine hK.out _ _ (HUx.out.stay HU2.out.1) (fun hHeld => ?_)
              clear hK K
              (try dsimp only at hHeld)
              (try simp only [Act.put, List.setIfInBounds_toArray, List.set_cons_zero, List.set_cons_succ])
              have cL := HCL.out w2 HU2.out
              refine wpAnyH_ready (rs := [18]) (by kernel_rfl) (by simp) (AllReadyH.cons rfl (fun K hK => ?_) AllReadyH.nil)
              (try rw [if_pos (by kernel_rfl)])
              go_simp
              refine cL.mono ?_
              rintro ev w3 ⟨rfl, hb3⟩
              have HU3 : Hid (Up wx.heap.size wx w3) := HU2.out.stay hb3
              clear cL hb3 hHeld HU2
              go_wp2_with fail
              refine hK.out _ _ (HUx.out.stay HU3.out.1) (fun hHeld => ?_)
              clear hK K
              (try dsimp only at hHeld)
              (try simp only [Act.put, List.setIfInBounds_toArray, List.set_cons_zero, List.set_cons_succ])
              refine takeH (i := 19) (v := ?_) (d := (some 100)) rfl (by kernel_rfl) (by kernel_rfl) (by kernel_rfl) rfl (fun _ _ _ h => h) (Or.inl ⟨by kernel_rfl, ?_⟩) (by assumption) ?_; rotate_left
              · (intro w hSw; (try dsimp only at hSw); first | (go_simp; done) | (go_simp; with_reducible rfl))
              (try simp only [Act.put, List.setIfInBounds_toArray, List.set_cons_zero, List.set_cons_succ])
              have hb3 := HU3.out.1
              obtain ⟨dn, hdl, hdo, hdr⟩ := HO5.out
              have hdo := own_stay hdo hb3
              obtain ⟨w4, hw4⟩ : ∃ x, w3.alloc (.cells #[.string tx, .int .i64 xa, .int .i64 (ya + yn - xa), .bool lt] 51) = x := ⟨_, rfl⟩
              refine wpAnyH_ready (rs := [20]) (by kernel_rfl) (by simp) (AllReadyH.cons rfl (fun K hK => ?_) AllReadyH.nil)
              (try rw [if_pos (by kernel_rfl)])
              go_simp
              have hn4 : w4.heap[w3.heap.size]? = some (.cells #[.string tx, .int .i64 xa, .int .i64 (ya + yn - xa), .bool lt] 51) := by rw [← hw4]; exact heap_alloc_new _ _
              have HU4 : Hid (Up wx.heap.size wx w4) := by rw [← hw4]; exact HU3.out.alloc _
              have hdo4 := World.ownsRow.alloc hdo (.cells #[.string tx, .int .i64 xa, .int .i64 (ya + yn - xa), .bool lt] 51)
              rw [hw4] at hdo4
              have hw34 : Below w3.heap.size w3 w4 := by rw [← hw4]; exact below_alloc w3 _
              refine hK.out _ _ (HUx.out.stay HU4.out.1) (fun hHeld => ?_)
              clear hK K
              (try dsimp only at hHeld)
              (try simp only [Act.put, List.setIfInBounds_toArray, List.set_cons_zero, List.set_cons_succ])
              refine wpAnyH_ready (rs := [21]) (by kernel_rfl) (by simp) (AllReadyH.cons rfl (fun K hK => ?_) AllReadyH.nil)
              rw [if_pos (by kernel_rfl)]
              refine wp_append_own _ (.tmp 81) (.tmp 101) 47 rfl w.heap.size 51 i0 _ 4 40 Tryd.underlying47 hin0 hz0 hz1 hz2 rfl (by decide) _ _ _ rfl hdo4 ⟨w3.heap.size, 0, none⟩ 1 1 [.string tx, .int .i64 xa, .int .i64 (ya + yn - xa), .bool lt] rfl rfl ?c1 ?c2 ?c3 ?c4 ?c5 ?_
              case c1 =>
                intro j u hj
                match j, hj with
                | 0, hj => simp at hj; subst hj; simp [Addr.add, World.cell?, hn4]
                | 1, hj => simp at hj; subst hj; simp [Addr.add, World.cell?, hn4]
                | 2, hj => simp at hj; subst hj; simp [Addr.add, World.cell?, hn4]
                | 3, hj => simp at hj; subst hj; simp [Addr.add, World.cell?, hn4]
                | (j + 4), hj => simp at hj
              case c2 => intro u hu; simp at hu; rcases hu with rfl | rfl | rfl | rfl <;> rfl
              case c3 => unfold maxLen; omega
              case c4 => omega
              case c5 => exact (HUx.out.stay HU4.out.1).2
              intro v' w5 hown2 hgr hnil
              have HO6 : Hid (∃ dn : List W4, dn.length = k2 + 1 ∧ w5.ownsRow w.heap.size 51 4 v' (k2 + 1) (wC dn) ∧ dn ++ wordsP c n l lo hi (PS.drop (j + 1) ++ RT) = TOT) := by
                refine ⟨dn ++ [⟨tx, xa, ya + yn - xa, lt⟩], by rw [List.length_append, hdl]; rfl, ?_, ?_⟩
                · rw [wC_app]; exact hown2
                · rw [← hdr]; simp
              have HR1' : Hid (PR w5 w.heap.size (.slice (some ⟨b, off, none⟩) nr C1) RS) := World.ownsRow.kept (HR1.out.stay HU4.out.1) hgr (own_oth (HR1.out.stay HU4.out.1) hdo4 (by decide))
              have HR2' : Hid (PR w5 w.heap.size (.slice (some ⟨b2, off2, none⟩) np C2) PS) := World.ownsRow.kept (HR2.out.stay HU4.out.1) hgr (own_oth (HR2.out.stay HU4.out.1) hdo4 (by decide))
              have HU5 : Hid (Up w.heap.size w w5) := (HUx.out.stay HU4.out.1).grown hgr (own_base hdo4)
              change K (Act.put _ (some 102) _) _
              clear hown2 hgr hnil hdo hdo4 hdl hdr hn4 hw34 hw4
              refine hK.out _ _ HU5.out (fun hHeld => ?_)
              clear hK K
              (try dsimp only at hHeld)
              (try simp only [Act.put, List.setIfInBounds_toArray, List.set_cons_zero, List.set_cons_succ])
              refine takeH (i := 22) (v := ?_) (d := (some 9)) rfl (by kernel_rfl) (by kernel_rfl) (by kernel_rfl) rfl (fun _ _ _ h => h) (Or.inl ⟨by kernel_rfl, ?_⟩) (by assumption) ?_; rotate_left
              · (intro w hSw; (try dsimp only at hSw); first | (go_simp; done) | (go_simp; with_reducible rfl))
              (try simp only [Act.put, List.setIfInBounds_toArray, List.set_cons_zero, List.set_cons_succ])
              refine wpAnyH_done (by kernel_rfl) ?_ _
              go_wp2
              go_roundg (np - (j + 1))
              case measure => omega
              case rel => exact ⟨j + 1, k2 + 1, by omega, rfl, by go_num, by omega, HO6, HR1', HR2', HU5⟩
        · have y1 : ¬ (j : Int) < (np : Int) := by omega
          have HO4 : Hid (∃ dn : List W4, dn.length = k2 ∧ wr.ownsRow w.heap.size 51 4 u9 k2 (wC dn) ∧ dn ++ wordsP c n l lo hi (ptsL (RU l) (RS.drop (i + 1))) = TOT) := by
            obtain ⟨dn, d1, d2, d3⟩ := HO.out
            rw [List.drop_eq_nil_of_le (by rw [HNP.out]; omega), List.nil_append, ← HRT.out] at d3
            exact ⟨dn, d1, d2, d3⟩
          have hlt3 : np ≤ 5000 := hPl
          clear HO HP2
          go_wp2
          go_roundg (nr - (i + 1))
          case measure => omega
          case rel => exact ⟨i + 1, k2, by omega, rfl, by go_num, by omega, HO4, HP1, HU⟩
    · have z1 : ¬ (i : Int) < (nr : Int) := by omega
      obtain ⟨dn, d1, d2, d3⟩ := HO.out
      rw [List.drop_eq_nil_of_le (by rw [HNR.out]; omega), show wordsP c n l lo hi (ptsL (RU l) []) = [] from rfl, List.append_nil] at d3
      subst d3
      have HFn : Hid (WR wr w.heap.size u9 dn ∧ Below w.heap.size w wr) := ⟨by unfold WR; rw [d1]; exact d2, HU.out.1⟩
      clear d1 d2 HO HU HP
      go_wp2
      go_ret
      exact ⟨_, rfl, HFn.out.1, HFn.out.2⟩
end Go.Proofs.YtbhjkkbempnjeaaDoor
