/- The reference: parts. -/
import Derived.Test.YtbhjkkbempnjeaaDooruRun
import Derived.BigQuiet
namespace Go.Proofs.YtbhjkkbempnjeaaDoor
set_option linter.unusedVariables false
open Go.RowKit Go.ChangeShapes
set_option maxRecDepth 100000 in
set_option maxHeartbeats 8000000 in
theorem rsplit_any {w : World} {v : Value} {l : List U3} (h : US w v l) (hF : FitU l) (hk : l.length ≤ 100000) {f t : Int} (hf : -9223372036854775808 ≤ f ∧ f ≤ 9223372036854775807) (ht : -9223372036854775808 ≤ t ∧ t ≤ 9223372036854775807) :
    Calls Tryd.prog 16 #[v, .int .i64 f, .int .i64 t] w fun e w' => ∃ v', e = .returned v' ∧ PR w' w.heap.size v' (partsL (RU l) (min t (l.length : Int)).toNat (max f 0).toNat) ∧ Below w.heap.size w w' := by
  have HFU : Hid (FitU l) := hF
  have HUS : Hid (US w v l) := h
  obtain ⟨A, C, rfl, hC, hh⟩ := h
  obtain ⟨n, hn⟩ : ∃ n, l.length = n := ⟨_, rfl⟩
  have HN : Hid (l.length = n) := hn
  rw [hn] at hk hC HUS ⊢
  obtain ⟨R, hR⟩ : ∃ R, RU l = R := ⟨_, rfl⟩
  have HR : Hid (RU l = R) := hR
  rw [hR]
  obtain ⟨e, he⟩ : ∃ e, (min t (n : Int)).toNat = e := ⟨_, rfl⟩
  obtain ⟨F, hFf⟩ : ∃ F, (max f 0).toNat = F := ⟨_, rfl⟩
  rw [he, hFf]
  obtain ⟨L, hL⟩ : ∃ L, partsL R e F = L := ⟨_, rfl⟩
  rw [hL]
  have HL : Hid (partsL R e F = L) := hL
  obtain ⟨i0, hi, hz0, hz1, hz2⟩ := info_parts infoP
  have hen : e ≤ n := by omega
  clear hn hR hL hF hh
  by_cases q1 : f < 0
  · obtain rfl : F = 0 := by omega
    clear hFf
    by_cases q2 : (n : Int) < t
    · have HT : Hid (∀ i : Nat, (i : Int) < (n : Int) ↔ i < e) := fun i => by omega
      clear he
      go_enter Tryd.func16, Tryd.ntmps16
      go_wp2
      go_loopg [7, 8] (e - 0) (fun q ov iv wr => ∃ (i k : Nat), (i ≤ e ∨ k = 0) ∧ q = e - i ∧ iv = .int .i64 (i : Int) ∧ (k = 0 ∨ k ≤ i) ∧ Hid (∃ dn : List (Nat × Nat), dn.length = k ∧ wr.ownsRow w.heap.size 23 2 ov k (pC dn) ∧ dn ++ partsL R e i = L) ∧ Hid (Up w.heap.size w wr))
      case atStart => exact ⟨0, 0, Or.inr rfl, rfl, by first | rfl | go_num, Or.inl rfl, ⟨[], rfl, World.ownsRow_nil _ _ _ _, HL.out⟩, Up.refl _⟩
      case round =>
        obtain ⟨i, k, hi1, hq, rfl, hk2, HO, HU⟩ := hrel
        by_cases hlt : i < e
        · have z1 : (i : Int) < (n : Int) := (HT.out i).2 hlt
          have z8 : IntKind.i64.wrap ((i : Int) + 1) = ((i + 1 : Nat) : Int) := by rw [IntWalk.i64_in _ (by omega)]; omega
          obtain ⟨E, hE⟩ : ∃ E, pGo R e (i + 1) = E := ⟨_, rfl⟩
          have HE : Hid (pGo R e (i + 1) = E) := hE
          have hE12 : i + 1 ≤ E ∧ E ≤ e := by rw [← hE]; exact pGo_ge (e - (i + 1)) (i + 1) (by omega)
          have HO2 : Hid (∃ dn : List (Nat × Nat), dn.length = k ∧ wr.ownsRow w.heap.size 23 2 u7 k (pC dn) ∧ dn ++ (i, E) :: partsL R e E = L) := by
            obtain ⟨dn, d1, d2, d3⟩ := HO.out
            exact ⟨dn, d1, d2, by rw [← d3, partsL_step hlt, hE]⟩
          clear HO hE
          go_wp2
          clear z8
          go_loopg [9] (e - (i + 1)) (fun q jv wr2 => ∃ m : Nat, i ≤ m ∧ m + 1 ≤ E ∧ q = e - (m + 1) ∧ jv = .int .i64 ((m + 1 : Nat) : Int) ∧ Hid (Up wr.heap.size wr wr2))
          case atStart => exact ⟨i, Nat.le_refl _, by omega, rfl, by go_num, Up.refl _⟩
          case round =>
            obtain ⟨m, hm1, hm2, hqm, rfl, HUr⟩ := hrel
            have HUa : Hid (Up w.heap.size w wr) := HU.out.stay HUr.out.1
            have HOa : Hid (∃ dn : List (Nat × Nat), dn.length = k ∧ wr.ownsRow w.heap.size 23 2 u7 k (pC dn) ∧ dn ++ (i, E) :: partsL R e E = L) := by
              obtain ⟨dn, d1, d2, d3⟩ := HO2.out
              exact ⟨dn, d1, own_stay d2 HUr.out.1, d3⟩
            clear HO2 HU
            by_cases hme : m + 1 < e
            · have hc1 : cutB R e (m + 1) = true → E = m + 1 := fun hc => by
                rcases Nat.lt_or_ge (m + 1) E with hlt2 | hge
                · rw [pGo_no (R := R) (e := e) (e - (i + 1)) (i + 1) (by omega) (m + 1) (by omega) (by rw [HE.out]; exact hlt2)] at hc
                  cases hc
                · omega
              have hc2 : cutB R e (m + 1) = false → m + 1 + 1 ≤ E := fun hc => by
                rcases Nat.lt_or_ge (m + 1) E with hlt2 | hge
                · omega
                · obtain rfl : E = m + 1 := by omega
                  rcases pGo_is (R := R) (e := e) (e - (i + 1)) (i + 1) (by omega) with h1 | h1
                  · rw [HE.out] at h1; omega
                  · rw [HE.out, hc] at h1; cases h1
              have HC1 : Hid (cutB R e (m + 1) = true → E = m + 1) := hc1
              have HC2 : Hid (cutB R e (m + 1) = false → m + 1 + 1 ≤ E) := hc2
              clear hc1 hc2
              obtain ⟨x, hx⟩ : ∃ x, l[m]? = some x := ⟨_, List.getElem?_eq_getElem (by rw [HN.out]; omega)⟩
              obtain ⟨y, hy⟩ : ∃ y, l[m + 1]? = some y := ⟨_, List.getElem?_eq_getElem (by rw [HN.out]; omega)⟩
              have hRx : R m = x.r := by rw [← HR.out]; exact RU_at hx
              have hRy : R (m + 1) = y.r := by rw [← HR.out]; exact RU_at hy
              have fx := HFU.out x (List.mem_of_getElem? hx)
              obtain ⟨rA, hrA⟩ : ∃ r, x.r = r := ⟨_, rfl⟩
              obtain ⟨rN, hrN⟩ : ∃ r, y.r = r := ⟨_, rfl⟩
              obtain ⟨A2, C2, eA, -, hh⟩ := HUS.out
              injection eA with eA1 eA2 eA3
              subst eA1 eA3
              clear eA2
              obtain ⟨b, off, rfl, hbl, a1, -, -⟩ := hh m x hx
              obtain ⟨b', off', eB, -, a2, -, -⟩ := hh (m + 1) y hy
              injection eB with eB
              injection eB with eB1 eB2 _
              subst eB1 eB2
              have a1 := cell_stay a1 HUa.out.1
              have a2 := cell_stay a2 HUa.out.1
              rw [hrA] at a1 hRx fx
              rw [hrN] at a2 hRy
              obtain ⟨b1, hb1⟩ : ∃ q, gB rN = q := ⟨_, rfl⟩
              obtain ⟨b2, hb2⟩ : ∃ q, sB rA = q := ⟨_, rfl⟩
              obtain ⟨b3, hb3⟩ : ∃ q, gB rA = q := ⟨_, rfl⟩
              have C1 := fun w' => rgreat_any rN w'
              have C2 := fun w' => rsmall_any rA fx w'
              have C3 := fun w' => rgreat_any rA w'
              rw [hb1] at C1
              rw [hb2] at C2
              rw [hb3] at C3
              have HCB : Hid (cutB R e (m + 1) = (b1 && (b2 || (b3 && decide (m + 1 + 1 < e) && sB (R (m + 1 + 1)))))) := by
                show cutB R e (m + 1) = _
                unfold cutB
                rw [show m + 1 - 1 = m by omega, hRx, hRy, hb1, hb2, hb3]
              have z2 : ((m + 1 : Nat) : Int) < (n : Int) := (HT.out (m + 1)).2 hme
              have z3 : (0 : Int) ≤ ((m + 1 : Nat) : Int) := by omega
              have z4 : ((m + 1 : Nat) : Int) - 1 = (m : Int) := by omega
              have z5 : (m : Int) < (n : Int) := by omega
              have z6 : (0 : Int) ≤ (m : Int) := by omega
              have z7 : ((m + 1 : Nat) : Int) < (n : Int) := by omega
              have z9 : IntKind.i64.wrap (((m + 1 : Nat) : Int) + 1) = ((m + 2 : Nat) : Int) := by rw [IntWalk.i64_in _ (by omega)]; omega
              have HX : Hid (∀ r, l[m + 1 + 1]? = some r → wr.cell? ⟨b, off + (m + 1 + 1) * 3, none⟩ = some (.int .i32 r.r)) := fun r hr => by
                obtain ⟨b', off', eB, -, a3, -, -⟩ := hh (m + 1 + 1) r hr
                injection eB with eB
                injection eB with eB1 eB2 _
                subst eB1 eB2
                exact cell_stay a3 HUa.out.1
              clear hh hx hy hRx hRy hrA hrN hb1 hb2 hb3 fx hbl
              go_upto_region 10 with fail
              go_quiet (fail)
              have hbd := below_drewN (Below.refl wr.heap.size wr) nq
              have HU3 : Hid (Up w.heap.size w (wr.drewN nq)) := HUa.out.stay hbd
              have HO3 : Hid (∃ dn : List (Nat × Nat), dn.length = k ∧ (wr.drewN nq).ownsRow w.heap.size 23 2 u7 k (pC dn) ∧ dn ++ (i, E) :: partsL R e E = L) := by
                obtain ⟨dn, d1, d2, d3⟩ := HOa.out
                exact ⟨dn, d1, own_stay d2 hbd, d3⟩
              have HX3 : Hid (∀ r, l[m + 1 + 1]? = some r → (wr.drewN nq).cell? ⟨b, off + (m + 1 + 1) * 3, none⟩ = some (.int .i32 r.r)) := fun r hr => cell_stay (HX.out r hr) hbd
              have HR3 : Hid _ := HUr.out.stay hbd
              obtain ⟨wd, hwd⟩ : ∃ x, wr.drewN nq = x := ⟨_, rfl⟩
              rw [hwd] at HU3 HO3 HX3 HR3 ⊢
              clear hbd hwd HUa HOa HX a1 a2 HUr
              cases b1
              · have HCO : Hid (m + 1 + 1 ≤ E) := HC2.out (by rw [HCB.out]; rfl)
                clear HCB HC1 HC2 HX3
                go_wp2_with fail
                refine (C1 _).mono ?_
                rintro ev w9 ⟨rfl, hw9⟩
                subst w9
                go_wp2_with fail
                refine (C1 _).mono ?_
                rintro ev w9 ⟨rfl, hw9⟩
                subst w9
                go_wp2
                go_roundg (e - (m + 2))
                case measure => omega
                case rel => exact ⟨m + 1, by omega, HCO.out, rfl, by go_num, HR3⟩
              · cases b2
                · cases b3
                  · have HCO : Hid (m + 1 + 1 ≤ E) := HC2.out (by rw [HCB.out]; rfl)
                    clear HCB HC1 HC2 HX3
                    go_wp2_with fail
                    refine (C1 _).mono ?_
                    rintro ev w9 ⟨rfl, hw9⟩
                    subst w9
                    go_wp2_with fail
                    refine (C2 _).mono ?_
                    rintro ev w9 ⟨rfl, hw9⟩
                    subst w9
                    go_wp2_with fail
                    refine (C1 _).mono ?_
                    rintro ev w9 ⟨rfl, hw9⟩
                    subst w9
                    go_wp2_with fail
                    refine (C3 _).mono ?_
                    rintro ev w9 ⟨rfl, hw9⟩
                    subst w9
                    go_wp2
                    go_roundg (e - (m + 2))
                    case measure => omega
                    case rel => exact ⟨m + 1, by omega, HCO.out, rfl, by go_num, HR3⟩
                  · by_cases hl2 : m + 1 + 1 < e
                    · have y2 : ((m + 2 : Nat) : Int) < (n : Int) := (HT.out (m + 2)).2 hl2
                      have y3 : ((m + 2 : Nat) : Int) < (n : Int) := by omega
                      have y4 : (0 : Int) ≤ ((m + 2 : Nat) : Int) := by omega
                      obtain ⟨x, hx⟩ : ∃ x, l[m + 1 + 1]? = some x := ⟨_, List.getElem?_eq_getElem (by rw [HN.out]; omega)⟩
                      have a3 := HX3.out x hx
                      have hRx : R (m + 1 + 1) = x.r := by rw [← HR.out]; exact RU_at hx
                      have fx := HFU.out x (List.mem_of_getElem? hx)
                      obtain ⟨rX, hrX⟩ : ∃ r, x.r = r := ⟨_, rfl⟩
                      rw [hrX] at a3 hRx fx
                      obtain ⟨b4, hb4⟩ : ∃ q, sB rX = q := ⟨_, rfl⟩
                      have C4 := fun w' => rsmall_any rX fx w'
                      rw [hb4] at C4
                      have hcb := HCB.out
                      rw [hRx, hb4, show decide (m + 1 + 1 < e) = true by simpa using hl2] at hcb
                      have HCB2 : Hid (cutB R e (m + 1) = b4) := hcb
                      clear hcb HCB hx hRx hb4 hrX fx HX3
                      cases b4
                      · have HCO : Hid (m + 1 + 1 ≤ E) := HC2.out HCB2.out
                        clear HCB2 HC1 HC2
                        go_wp2_with fail
                        refine (C1 _).mono ?_
                        rintro ev w9 ⟨rfl, hw9⟩
                        subst w9
                        go_wp2_with fail
                        refine (C2 _).mono ?_
                        rintro ev w9 ⟨rfl, hw9⟩
                        subst w9
                        go_wp2_with fail
                        refine (C1 _).mono ?_
                        rintro ev w9 ⟨rfl, hw9⟩
                        subst w9
                        go_wp2_with fail
                        refine (C3 _).mono ?_
                        rintro ev w9 ⟨rfl, hw9⟩
                        subst w9
                        go_wp2_with fail
                        refine (C4 _).mono ?_
                        rintro ev w9 ⟨rfl, hw9⟩
                        subst w9
                        go_wp2
                        go_roundg (e - (m + 2))
                        case measure => omega
                        case rel => exact ⟨m + 1, by omega, HCO.out, rfl, by go_num, HR3⟩
                      · obtain rfl : E = m + 1 := HC1.out HCB2.out
                        clear HCB2 HC1 HC2
                        go_wp2_with fail
                        refine (C1 _).mono ?_
                        rintro ev w9 ⟨rfl, hw9⟩
                        subst w9
                        go_wp2_with fail
                        refine (C2 _).mono ?_
                        rintro ev w9 ⟨rfl, hw9⟩
                        subst w9
                        go_wp2_with fail
                        refine (C1 _).mono ?_
                        rintro ev w9 ⟨rfl, hw9⟩
                        subst w9
                        go_wp2_with fail
                        refine (C3 _).mono ?_
                        rintro ev w9 ⟨rfl, hw9⟩
                        subst w9
                        go_wp2_with fail
                        refine (C4 _).mono ?_
                        rintro ev w9 ⟨rfl, hw9⟩
                        subst w9
                        obtain ⟨dn, hdl, hdo, hdr⟩ := HO3.out
                        go_wp2_with (at_builtin; refine wpList_append_own _ rfl _ _ 30 rfl w.heap.size 23 i0 _ 2 16 Tryd.underlying30 hi hz0 hz1 hz2 rfl (by decide) _ _ _ rfl (World.ownsRow.alloc hdo _) ⟨wd.heap.size, 0, none⟩ 1 1 [.int .i64 (i : Int), .int .i64 ((m + 1 : Nat) : Int)] rfl rfl ?c1 ?c2 ?c3 ?c4 ?c5 ?_)
                        case c1 =>
                          intro j u hj
                          match j, hj with
                          | 0, hj => simp at hj; subst hj; simp [Addr.add]
                          | 1, hj => simp at hj; subst hj; simp [Addr.add]
                          | (j + 2), hj => simp at hj
                        case c2 => intro u hu; simp at hu; rcases hu with rfl | rfl <;> rfl
                        case c3 => unfold maxLen; omega
                        case c4 => omega
                        case c5 => have := HU3.out.2; simp only [World.size_alloc]; omega
                        intro v' w3 hown2 hgr hnil
                        have HO4 : Hid (∃ dn : List (Nat × Nat), dn.length = k + 1 ∧ w3.ownsRow w.heap.size 23 2 v' (k + 1) (pC dn) ∧ dn ++ partsL R e (m + 1) = L) := by
                          refine ⟨dn ++ [(i, m + 1)], by rw [List.length_append, hdl]; rfl, ?_, ?_⟩
                          · rw [pC_app]; exact hown2
                          · rw [← hdr]; simp
                        have HU4 : Hid (Up w.heap.size w w3) := (HU3.out.alloc _).grown hgr (own_base hdo)
                        clear hown2 hgr hnil HO3 hdo hdl hdr HU3
                        go_wp2
                        go_roundg (e - (m + 1))
                        case measure => omega
                        case rel => exact ⟨m + 1, k + 1, by omega, rfl, by go_num, by omega, HO4, HU4⟩
                    · have HCO : Hid (m + 1 + 1 ≤ E) := HC2.out (by rw [HCB.out, show decide (m + 1 + 1 < e) = false by simpa using hl2]; rfl)
                      have y2 : ¬ ((m + 2 : Nat) : Int) < (n : Int) := fun hh => hl2 ((HT.out (m + 2)).1 hh)
                      clear HCB HC1 HC2 HX3
                      go_wp2_with fail
                      refine (C1 _).mono ?_
                      rintro ev w9 ⟨rfl, hw9⟩
                      subst w9
                      go_wp2_with fail
                      refine (C2 _).mono ?_
                      rintro ev w9 ⟨rfl, hw9⟩
                      subst w9
                      go_wp2_with fail
                      refine (C1 _).mono ?_
                      rintro ev w9 ⟨rfl, hw9⟩
                      subst w9
                      go_wp2_with fail
                      refine (C3 _).mono ?_
                      rintro ev w9 ⟨rfl, hw9⟩
                      subst w9
                      go_wp2
                      go_roundg (e - (m + 2))
                      case measure => omega
                      case rel => exact ⟨m + 1, by omega, HCO.out, rfl, by go_num, HR3⟩
                · obtain rfl : E = m + 1 := HC1.out (by rw [HCB.out]; rfl)
                  clear HCB HC1 HC2 HX3
                  go_wp2_with fail
                  refine (C1 _).mono ?_
                  rintro ev w9 ⟨rfl, hw9⟩
                  subst w9
                  go_wp2_with fail
                  refine (C2 _).mono ?_
                  rintro ev w9 ⟨rfl, hw9⟩
                  subst w9
                  obtain ⟨dn, hdl, hdo, hdr⟩ := HO3.out
                  go_wp2_with (at_builtin; refine wpList_append_own _ rfl _ _ 30 rfl w.heap.size 23 i0 _ 2 16 Tryd.underlying30 hi hz0 hz1 hz2 rfl (by decide) _ _ _ rfl (World.ownsRow.alloc hdo _) ⟨wd.heap.size, 0, none⟩ 1 1 [.int .i64 (i : Int), .int .i64 ((m + 1 : Nat) : Int)] rfl rfl ?c1 ?c2 ?c3 ?c4 ?c5 ?_)
                  case c1 =>
                    intro j u hj
                    match j, hj with
                    | 0, hj => simp at hj; subst hj; simp [Addr.add]
                    | 1, hj => simp at hj; subst hj; simp [Addr.add]
                    | (j + 2), hj => simp at hj
                  case c2 => intro u hu; simp at hu; rcases hu with rfl | rfl <;> rfl
                  case c3 => unfold maxLen; omega
                  case c4 => omega
                  case c5 => have := HU3.out.2; simp only [World.size_alloc]; omega
                  intro v' w3 hown2 hgr hnil
                  have HO4 : Hid (∃ dn : List (Nat × Nat), dn.length = k + 1 ∧ w3.ownsRow w.heap.size 23 2 v' (k + 1) (pC dn) ∧ dn ++ partsL R e (m + 1) = L) := by
                    refine ⟨dn ++ [(i, m + 1)], by rw [List.length_append, hdl]; rfl, ?_, ?_⟩
                    · rw [pC_app]; exact hown2
                    · rw [← hdr]; simp
                  have HU4 : Hid (Up w.heap.size w w3) := (HU3.out.alloc _).grown hgr (own_base hdo)
                  clear hown2 hgr hnil HO3 hdo hdl hdr HU3
                  go_wp2
                  go_roundg (e - (m + 1))
                  case measure => omega
                  case rel => exact ⟨m + 1, k + 1, by omega, rfl, by go_num, by omega, HO4, HU4⟩
            · obtain rfl : E = m + 1 := by omega
              have HU3 := HUa
              have HO3 := HOa
              have z2 : decide ((m : Int) + 1 < (n : Int)) = false := decide_eq_false fun hh => hme ((HT.out (m + 1)).1 (by omega))
              clear HUa HOa
              obtain ⟨dn, hdl, hdo, hdr⟩ := HO3.out
              go_wp2_with (at_builtin; refine wpList_append_own _ rfl _ _ 30 rfl w.heap.size 23 i0 _ 2 16 Tryd.underlying30 hi hz0 hz1 hz2 rfl (by decide) _ _ _ rfl (World.ownsRow.alloc hdo _) ⟨wr.heap.size, 0, none⟩ 1 1 [.int .i64 (i : Int), .int .i64 ((m + 1 : Nat) : Int)] rfl rfl ?c1 ?c2 ?c3 ?c4 ?c5 ?_)
              case c1 =>
                intro j u hj
                match j, hj with
                | 0, hj => simp at hj; subst hj; simp [Addr.add]
                | 1, hj => simp at hj; subst hj; simp [Addr.add]
                | (j + 2), hj => simp at hj
              case c2 => intro u hu; simp at hu; rcases hu with rfl | rfl <;> rfl
              case c3 => unfold maxLen; omega
              case c4 => omega
              case c5 => have := HU3.out.2; simp only [World.size_alloc]; omega
              intro v' w3 hown2 hgr hnil
              have HO4 : Hid (∃ dn : List (Nat × Nat), dn.length = k + 1 ∧ w3.ownsRow w.heap.size 23 2 v' (k + 1) (pC dn) ∧ dn ++ partsL R e (m + 1) = L) := by
                refine ⟨dn ++ [(i, m + 1)], by rw [List.length_append, hdl]; rfl, ?_, ?_⟩
                · rw [pC_app]; exact hown2
                · rw [← hdr]; simp
              have HU4 : Hid (Up w.heap.size w w3) := (HU3.out.alloc _).grown hgr (own_base hdo)
              clear hown2 hgr hnil HO3 hdo hdl hdr HU3
              go_wp2
              go_roundg (e - (m + 1))
              case measure => omega
              case rel => exact ⟨m + 1, k + 1, by omega, rfl, by go_num, by omega, HO4, HU4⟩
        · have z1 : ¬ (i : Int) < (n : Int) := fun hh => hlt ((HT.out i).1 hh)
          obtain ⟨dn, d1, d2, d3⟩ := HO.out
          rw [partsL_end (by omega), List.append_nil] at d3
          subst d3
          have HFn : Hid (PR wr w.heap.size u7 dn ∧ Below w.heap.size w wr) := ⟨by unfold PR; rw [d1]; exact d2, HU.out.1⟩
          clear d1 d2 HO HU
          go_wp2
          go_ret
          exact ⟨_, rfl, HFn.out.1, HFn.out.2⟩
    · have HT : Hid (∀ i : Nat, (i : Int) < t ↔ i < e) := fun i => by omega
      clear he
      go_enter Tryd.func16, Tryd.ntmps16
      go_wp2
      go_loopg [7, 8] (e - 0) (fun q ov iv wr => ∃ (i k : Nat), (i ≤ e ∨ k = 0) ∧ q = e - i ∧ iv = .int .i64 (i : Int) ∧ (k = 0 ∨ k ≤ i) ∧ Hid (∃ dn : List (Nat × Nat), dn.length = k ∧ wr.ownsRow w.heap.size 23 2 ov k (pC dn) ∧ dn ++ partsL R e i = L) ∧ Hid (Up w.heap.size w wr))
      case atStart => exact ⟨0, 0, Or.inr rfl, rfl, by first | rfl | go_num, Or.inl rfl, ⟨[], rfl, World.ownsRow_nil _ _ _ _, HL.out⟩, Up.refl _⟩
      case round =>
        obtain ⟨i, k, hi1, hq, rfl, hk2, HO, HU⟩ := hrel
        by_cases hlt : i < e
        · have z1 : (i : Int) < t := (HT.out i).2 hlt
          have z8 : IntKind.i64.wrap ((i : Int) + 1) = ((i + 1 : Nat) : Int) := by rw [IntWalk.i64_in _ (by omega)]; omega
          obtain ⟨E, hE⟩ : ∃ E, pGo R e (i + 1) = E := ⟨_, rfl⟩
          have HE : Hid (pGo R e (i + 1) = E) := hE
          have hE12 : i + 1 ≤ E ∧ E ≤ e := by rw [← hE]; exact pGo_ge (e - (i + 1)) (i + 1) (by omega)
          have HO2 : Hid (∃ dn : List (Nat × Nat), dn.length = k ∧ wr.ownsRow w.heap.size 23 2 u7 k (pC dn) ∧ dn ++ (i, E) :: partsL R e E = L) := by
            obtain ⟨dn, d1, d2, d3⟩ := HO.out
            exact ⟨dn, d1, d2, by rw [← d3, partsL_step hlt, hE]⟩
          clear HO hE
          go_wp2
          clear z8
          go_loopg [9] (e - (i + 1)) (fun q jv wr2 => ∃ m : Nat, i ≤ m ∧ m + 1 ≤ E ∧ q = e - (m + 1) ∧ jv = .int .i64 ((m + 1 : Nat) : Int) ∧ Hid (Up wr.heap.size wr wr2))
          case atStart => exact ⟨i, Nat.le_refl _, by omega, rfl, by go_num, Up.refl _⟩
          case round =>
            obtain ⟨m, hm1, hm2, hqm, rfl, HUr⟩ := hrel
            have HUa : Hid (Up w.heap.size w wr) := HU.out.stay HUr.out.1
            have HOa : Hid (∃ dn : List (Nat × Nat), dn.length = k ∧ wr.ownsRow w.heap.size 23 2 u7 k (pC dn) ∧ dn ++ (i, E) :: partsL R e E = L) := by
              obtain ⟨dn, d1, d2, d3⟩ := HO2.out
              exact ⟨dn, d1, own_stay d2 HUr.out.1, d3⟩
            clear HO2 HU
            by_cases hme : m + 1 < e
            · have hc1 : cutB R e (m + 1) = true → E = m + 1 := fun hc => by
                rcases Nat.lt_or_ge (m + 1) E with hlt2 | hge
                · rw [pGo_no (R := R) (e := e) (e - (i + 1)) (i + 1) (by omega) (m + 1) (by omega) (by rw [HE.out]; exact hlt2)] at hc
                  cases hc
                · omega
              have hc2 : cutB R e (m + 1) = false → m + 1 + 1 ≤ E := fun hc => by
                rcases Nat.lt_or_ge (m + 1) E with hlt2 | hge
                · omega
                · obtain rfl : E = m + 1 := by omega
                  rcases pGo_is (R := R) (e := e) (e - (i + 1)) (i + 1) (by omega) with h1 | h1
                  · rw [HE.out] at h1; omega
                  · rw [HE.out, hc] at h1; cases h1
              have HC1 : Hid (cutB R e (m + 1) = true → E = m + 1) := hc1
              have HC2 : Hid (cutB R e (m + 1) = false → m + 1 + 1 ≤ E) := hc2
              clear hc1 hc2
              obtain ⟨x, hx⟩ : ∃ x, l[m]? = some x := ⟨_, List.getElem?_eq_getElem (by rw [HN.out]; omega)⟩
              obtain ⟨y, hy⟩ : ∃ y, l[m + 1]? = some y := ⟨_, List.getElem?_eq_getElem (by rw [HN.out]; omega)⟩
              have hRx : R m = x.r := by rw [← HR.out]; exact RU_at hx
              have hRy : R (m + 1) = y.r := by rw [← HR.out]; exact RU_at hy
              have fx := HFU.out x (List.mem_of_getElem? hx)
              obtain ⟨rA, hrA⟩ : ∃ r, x.r = r := ⟨_, rfl⟩
              obtain ⟨rN, hrN⟩ : ∃ r, y.r = r := ⟨_, rfl⟩
              obtain ⟨A2, C2, eA, -, hh⟩ := HUS.out
              injection eA with eA1 eA2 eA3
              subst eA1 eA3
              clear eA2
              obtain ⟨b, off, rfl, hbl, a1, -, -⟩ := hh m x hx
              obtain ⟨b', off', eB, -, a2, -, -⟩ := hh (m + 1) y hy
              injection eB with eB
              injection eB with eB1 eB2 _
              subst eB1 eB2
              have a1 := cell_stay a1 HUa.out.1
              have a2 := cell_stay a2 HUa.out.1
              rw [hrA] at a1 hRx fx
              rw [hrN] at a2 hRy
              obtain ⟨b1, hb1⟩ : ∃ q, gB rN = q := ⟨_, rfl⟩
              obtain ⟨b2, hb2⟩ : ∃ q, sB rA = q := ⟨_, rfl⟩
              obtain ⟨b3, hb3⟩ : ∃ q, gB rA = q := ⟨_, rfl⟩
              have C1 := fun w' => rgreat_any rN w'
              have C2 := fun w' => rsmall_any rA fx w'
              have C3 := fun w' => rgreat_any rA w'
              rw [hb1] at C1
              rw [hb2] at C2
              rw [hb3] at C3
              have HCB : Hid (cutB R e (m + 1) = (b1 && (b2 || (b3 && decide (m + 1 + 1 < e) && sB (R (m + 1 + 1)))))) := by
                show cutB R e (m + 1) = _
                unfold cutB
                rw [show m + 1 - 1 = m by omega, hRx, hRy, hb1, hb2, hb3]
              have z2 : ((m + 1 : Nat) : Int) < t := (HT.out (m + 1)).2 hme
              have z3 : (0 : Int) ≤ ((m + 1 : Nat) : Int) := by omega
              have z4 : ((m + 1 : Nat) : Int) - 1 = (m : Int) := by omega
              have z5 : (m : Int) < (n : Int) := by omega
              have z6 : (0 : Int) ≤ (m : Int) := by omega
              have z7 : ((m + 1 : Nat) : Int) < (n : Int) := by omega
              have z9 : IntKind.i64.wrap (((m + 1 : Nat) : Int) + 1) = ((m + 2 : Nat) : Int) := by rw [IntWalk.i64_in _ (by omega)]; omega
              have HX : Hid (∀ r, l[m + 1 + 1]? = some r → wr.cell? ⟨b, off + (m + 1 + 1) * 3, none⟩ = some (.int .i32 r.r)) := fun r hr => by
                obtain ⟨b', off', eB, -, a3, -, -⟩ := hh (m + 1 + 1) r hr
                injection eB with eB
                injection eB with eB1 eB2 _
                subst eB1 eB2
                exact cell_stay a3 HUa.out.1
              clear hh hx hy hRx hRy hrA hrN hb1 hb2 hb3 fx hbl
              go_upto_region 10 with fail
              go_quiet (fail)
              have hbd := below_drewN (Below.refl wr.heap.size wr) nq
              have HU3 : Hid (Up w.heap.size w (wr.drewN nq)) := HUa.out.stay hbd
              have HO3 : Hid (∃ dn : List (Nat × Nat), dn.length = k ∧ (wr.drewN nq).ownsRow w.heap.size 23 2 u7 k (pC dn) ∧ dn ++ (i, E) :: partsL R e E = L) := by
                obtain ⟨dn, d1, d2, d3⟩ := HOa.out
                exact ⟨dn, d1, own_stay d2 hbd, d3⟩
              have HX3 : Hid (∀ r, l[m + 1 + 1]? = some r → (wr.drewN nq).cell? ⟨b, off + (m + 1 + 1) * 3, none⟩ = some (.int .i32 r.r)) := fun r hr => cell_stay (HX.out r hr) hbd
              have HR3 : Hid _ := HUr.out.stay hbd
              obtain ⟨wd, hwd⟩ : ∃ x, wr.drewN nq = x := ⟨_, rfl⟩
              rw [hwd] at HU3 HO3 HX3 HR3 ⊢
              clear hbd hwd HUa HOa HX a1 a2 HUr
              cases b1
              · have HCO : Hid (m + 1 + 1 ≤ E) := HC2.out (by rw [HCB.out]; rfl)
                clear HCB HC1 HC2 HX3
                go_wp2_with fail
                refine (C1 _).mono ?_
                rintro ev w9 ⟨rfl, hw9⟩
                subst w9
                go_wp2_with fail
                refine (C1 _).mono ?_
                rintro ev w9 ⟨rfl, hw9⟩
                subst w9
                go_wp2
                go_roundg (e - (m + 2))
                case measure => omega
                case rel => exact ⟨m + 1, by omega, HCO.out, rfl, by go_num, HR3⟩
              · cases b2
                · cases b3
                  · have HCO : Hid (m + 1 + 1 ≤ E) := HC2.out (by rw [HCB.out]; rfl)
                    clear HCB HC1 HC2 HX3
                    go_wp2_with fail
                    refine (C1 _).mono ?_
                    rintro ev w9 ⟨rfl, hw9⟩
                    subst w9
                    go_wp2_with fail
                    refine (C2 _).mono ?_
                    rintro ev w9 ⟨rfl, hw9⟩
                    subst w9
                    go_wp2_with fail
                    refine (C1 _).mono ?_
                    rintro ev w9 ⟨rfl, hw9⟩
                    subst w9
                    go_wp2_with fail
                    refine (C3 _).mono ?_
                    rintro ev w9 ⟨rfl, hw9⟩
                    subst w9
                    go_wp2
                    go_roundg (e - (m + 2))
                    case measure => omega
                    case rel => exact ⟨m + 1, by omega, HCO.out, rfl, by go_num, HR3⟩
                  · by_cases hl2 : m + 1 + 1 < e
                    · have y2 : ((m + 2 : Nat) : Int) < t := (HT.out (m + 2)).2 hl2
                      have y3 : ((m + 2 : Nat) : Int) < (n : Int) := by omega
                      have y4 : (0 : Int) ≤ ((m + 2 : Nat) : Int) := by omega
                      obtain ⟨x, hx⟩ : ∃ x, l[m + 1 + 1]? = some x := ⟨_, List.getElem?_eq_getElem (by rw [HN.out]; omega)⟩
                      have a3 := HX3.out x hx
                      have hRx : R (m + 1 + 1) = x.r := by rw [← HR.out]; exact RU_at hx
                      have fx := HFU.out x (List.mem_of_getElem? hx)
                      obtain ⟨rX, hrX⟩ : ∃ r, x.r = r := ⟨_, rfl⟩
                      rw [hrX] at a3 hRx fx
                      obtain ⟨b4, hb4⟩ : ∃ q, sB rX = q := ⟨_, rfl⟩
                      have C4 := fun w' => rsmall_any rX fx w'
                      rw [hb4] at C4
                      have hcb := HCB.out
                      rw [hRx, hb4, show decide (m + 1 + 1 < e) = true by simpa using hl2] at hcb
                      have HCB2 : Hid (cutB R e (m + 1) = b4) := hcb
                      clear hcb HCB hx hRx hb4 hrX fx HX3
                      cases b4
                      · have HCO : Hid (m + 1 + 1 ≤ E) := HC2.out HCB2.out
                        clear HCB2 HC1 HC2
                        go_wp2_with fail
                        refine (C1 _).mono ?_
                        rintro ev w9 ⟨rfl, hw9⟩
                        subst w9
                        go_wp2_with fail
                        refine (C2 _).mono ?_
                        rintro ev w9 ⟨rfl, hw9⟩
                        subst w9
                        go_wp2_with fail
                        refine (C1 _).mono ?_
                        rintro ev w9 ⟨rfl, hw9⟩
                        subst w9
                        go_wp2_with fail
                        refine (C3 _).mono ?_
                        rintro ev w9 ⟨rfl, hw9⟩
                        subst w9
                        go_wp2_with fail
                        refine (C4 _).mono ?_
                        rintro ev w9 ⟨rfl, hw9⟩
                        subst w9
                        go_wp2
                        go_roundg (e - (m + 2))
                        case measure => omega
                        case rel => exact ⟨m + 1, by omega, HCO.out, rfl, by go_num, HR3⟩
                      · obtain rfl : E = m + 1 := HC1.out HCB2.out
                        clear HCB2 HC1 HC2
                        go_wp2_with fail
                        refine (C1 _).mono ?_
                        rintro ev w9 ⟨rfl, hw9⟩
                        subst w9
                        go_wp2_with fail
                        refine (C2 _).mono ?_
                        rintro ev w9 ⟨rfl, hw9⟩
                        subst w9
                        go_wp2_with fail
                        refine (C1 _).mono ?_
                        rintro ev w9 ⟨rfl, hw9⟩
                        subst w9
                        go_wp2_with fail
                        refine (C3 _).mono ?_
                        rintro ev w9 ⟨rfl, hw9⟩
                        subst w9
                        go_wp2_with fail
                        refine (C4 _).mono ?_
                        rintro ev w9 ⟨rfl, hw9⟩
                        subst w9
                        obtain ⟨dn, hdl, hdo, hdr⟩ := HO3.out
                        go_wp2_with (at_builtin; refine wpList_append_own _ rfl _ _ 30 rfl w.heap.size 23 i0 _ 2 16 Tryd.underlying30 hi hz0 hz1 hz2 rfl (by decide) _ _ _ rfl (World.ownsRow.alloc hdo _) ⟨wd.heap.size, 0, none⟩ 1 1 [.int .i64 (i : Int), .int .i64 ((m + 1 : Nat) : Int)] rfl rfl ?c1 ?c2 ?c3 ?c4 ?c5 ?_)
                        case c1 =>
                          intro j u hj
                          match j, hj with
                          | 0, hj => simp at hj; subst hj; simp [Addr.add]
                          | 1, hj => simp at hj; subst hj; simp [Addr.add]
                          | (j + 2), hj => simp at hj
                        case c2 => intro u hu; simp at hu; rcases hu with rfl | rfl <;> rfl
                        case c3 => unfold maxLen; omega
                        case c4 => omega
                        case c5 => have := HU3.out.2; simp only [World.size_alloc]; omega
                        intro v' w3 hown2 hgr hnil
                        have HO4 : Hid (∃ dn : List (Nat × Nat), dn.length = k + 1 ∧ w3.ownsRow w.heap.size 23 2 v' (k + 1) (pC dn) ∧ dn ++ partsL R e (m + 1) = L) := by
                          refine ⟨dn ++ [(i, m + 1)], by rw [List.length_append, hdl]; rfl, ?_, ?_⟩
                          · rw [pC_app]; exact hown2
                          · rw [← hdr]; simp
                        have HU4 : Hid (Up w.heap.size w w3) := (HU3.out.alloc _).grown hgr (own_base hdo)
                        clear hown2 hgr hnil HO3 hdo hdl hdr HU3
                        go_wp2
                        go_roundg (e - (m + 1))
                        case measure => omega
                        case rel => exact ⟨m + 1, k + 1, by omega, rfl, by go_num, by omega, HO4, HU4⟩
                    · have HCO : Hid (m + 1 + 1 ≤ E) := HC2.out (by rw [HCB.out, show decide (m + 1 + 1 < e) = false by simpa using hl2]; rfl)
                      have y2 : ¬ ((m + 2 : Nat) : Int) < t := fun hh => hl2 ((HT.out (m + 2)).1 hh)
                      clear HCB HC1 HC2 HX3
                      go_wp2_with fail
                      refine (C1 _).mono ?_
                      rintro ev w9 ⟨rfl, hw9⟩
                      subst w9
                      go_wp2_with fail
                      refine (C2 _).mono ?_
                      rintro ev w9 ⟨rfl, hw9⟩
                      subst w9
                      go_wp2_with fail
                      refine (C1 _).mono ?_
                      rintro ev w9 ⟨rfl, hw9⟩
                      subst w9
                      go_wp2_with fail
                      refine (C3 _).mono ?_
                      rintro ev w9 ⟨rfl, hw9⟩
                      subst w9
                      go_wp2
                      go_roundg (e - (m + 2))
                      case measure => omega
                      case rel => exact ⟨m + 1, by omega, HCO.out, rfl, by go_num, HR3⟩
                · obtain rfl : E = m + 1 := HC1.out (by rw [HCB.out]; rfl)
                  clear HCB HC1 HC2 HX3
                  go_wp2_with fail
                  refine (C1 _).mono ?_
                  rintro ev w9 ⟨rfl, hw9⟩
                  subst w9
                  go_wp2_with fail
                  refine (C2 _).mono ?_
                  rintro ev w9 ⟨rfl, hw9⟩
                  subst w9
                  obtain ⟨dn, hdl, hdo, hdr⟩ := HO3.out
                  go_wp2_with (at_builtin; refine wpList_append_own _ rfl _ _ 30 rfl w.heap.size 23 i0 _ 2 16 Tryd.underlying30 hi hz0 hz1 hz2 rfl (by decide) _ _ _ rfl (World.ownsRow.alloc hdo _) ⟨wd.heap.size, 0, none⟩ 1 1 [.int .i64 (i : Int), .int .i64 ((m + 1 : Nat) : Int)] rfl rfl ?c1 ?c2 ?c3 ?c4 ?c5 ?_)
                  case c1 =>
                    intro j u hj
                    match j, hj with
                    | 0, hj => simp at hj; subst hj; simp [Addr.add]
                    | 1, hj => simp at hj; subst hj; simp [Addr.add]
                    | (j + 2), hj => simp at hj
                  case c2 => intro u hu; simp at hu; rcases hu with rfl | rfl <;> rfl
                  case c3 => unfold maxLen; omega
                  case c4 => omega
                  case c5 => have := HU3.out.2; simp only [World.size_alloc]; omega
                  intro v' w3 hown2 hgr hnil
                  have HO4 : Hid (∃ dn : List (Nat × Nat), dn.length = k + 1 ∧ w3.ownsRow w.heap.size 23 2 v' (k + 1) (pC dn) ∧ dn ++ partsL R e (m + 1) = L) := by
                    refine ⟨dn ++ [(i, m + 1)], by rw [List.length_append, hdl]; rfl, ?_, ?_⟩
                    · rw [pC_app]; exact hown2
                    · rw [← hdr]; simp
                  have HU4 : Hid (Up w.heap.size w w3) := (HU3.out.alloc _).grown hgr (own_base hdo)
                  clear hown2 hgr hnil HO3 hdo hdl hdr HU3
                  go_wp2
                  go_roundg (e - (m + 1))
                  case measure => omega
                  case rel => exact ⟨m + 1, k + 1, by omega, rfl, by go_num, by omega, HO4, HU4⟩
            · obtain rfl : E = m + 1 := by omega
              have HU3 := HUa
              have HO3 := HOa
              have z2 : decide ((m : Int) + 1 < t) = false := decide_eq_false fun hh => hme ((HT.out (m + 1)).1 (by omega))
              clear HUa HOa
              obtain ⟨dn, hdl, hdo, hdr⟩ := HO3.out
              go_wp2_with (at_builtin; refine wpList_append_own _ rfl _ _ 30 rfl w.heap.size 23 i0 _ 2 16 Tryd.underlying30 hi hz0 hz1 hz2 rfl (by decide) _ _ _ rfl (World.ownsRow.alloc hdo _) ⟨wr.heap.size, 0, none⟩ 1 1 [.int .i64 (i : Int), .int .i64 ((m + 1 : Nat) : Int)] rfl rfl ?c1 ?c2 ?c3 ?c4 ?c5 ?_)
              case c1 =>
                intro j u hj
                match j, hj with
                | 0, hj => simp at hj; subst hj; simp [Addr.add]
                | 1, hj => simp at hj; subst hj; simp [Addr.add]
                | (j + 2), hj => simp at hj
              case c2 => intro u hu; simp at hu; rcases hu with rfl | rfl <;> rfl
              case c3 => unfold maxLen; omega
              case c4 => omega
              case c5 => have := HU3.out.2; simp only [World.size_alloc]; omega
              intro v' w3 hown2 hgr hnil
              have HO4 : Hid (∃ dn : List (Nat × Nat), dn.length = k + 1 ∧ w3.ownsRow w.heap.size 23 2 v' (k + 1) (pC dn) ∧ dn ++ partsL R e (m + 1) = L) := by
                refine ⟨dn ++ [(i, m + 1)], by rw [List.length_append, hdl]; rfl, ?_, ?_⟩
                · rw [pC_app]; exact hown2
                · rw [← hdr]; simp
              have HU4 : Hid (Up w.heap.size w w3) := (HU3.out.alloc _).grown hgr (own_base hdo)
              clear hown2 hgr hnil HO3 hdo hdl hdr HU3
              go_wp2
              go_roundg (e - (m + 1))
              case measure => omega
              case rel => exact ⟨m + 1, k + 1, by omega, rfl, by go_num, by omega, HO4, HU4⟩
        · have z1 : ¬ (i : Int) < t := fun hh => hlt ((HT.out i).1 hh)
          obtain ⟨dn, d1, d2, d3⟩ := HO.out
          rw [partsL_end (by omega), List.append_nil] at d3
          subst d3
          have HFn : Hid (PR wr w.heap.size u7 dn ∧ Below w.heap.size w wr) := ⟨by unfold PR; rw [d1]; exact d2, HU.out.1⟩
          clear d1 d2 HO HU
          go_wp2
          go_ret
          exact ⟨_, rfl, HFn.out.1, HFn.out.2⟩
  · obtain rfl : f = (F : Int) := by omega
    clear hFf
    by_cases q2 : (n : Int) < t
    · have HT : Hid (∀ i : Nat, (i : Int) < (n : Int) ↔ i < e) := fun i => by omega
      clear he
      go_enter Tryd.func16, Tryd.ntmps16
      go_wp2
      go_loopg [7, 8] (e - F) (fun q ov iv wr => ∃ (i k : Nat), (i ≤ e ∨ k = 0) ∧ q = e - i ∧ iv = .int .i64 (i : Int) ∧ (k = 0 ∨ k ≤ i) ∧ Hid (∃ dn : List (Nat × Nat), dn.length = k ∧ wr.ownsRow w.heap.size 23 2 ov k (pC dn) ∧ dn ++ partsL R e i = L) ∧ Hid (Up w.heap.size w wr))
      case atStart => exact ⟨F, 0, Or.inr rfl, rfl, by first | rfl | go_num, Or.inl rfl, ⟨[], rfl, World.ownsRow_nil _ _ _ _, HL.out⟩, Up.refl _⟩
      case round =>
        obtain ⟨i, k, hi1, hq, rfl, hk2, HO, HU⟩ := hrel
        by_cases hlt : i < e
        · have z1 : (i : Int) < (n : Int) := (HT.out i).2 hlt
          have z8 : IntKind.i64.wrap ((i : Int) + 1) = ((i + 1 : Nat) : Int) := by rw [IntWalk.i64_in _ (by omega)]; omega
          obtain ⟨E, hE⟩ : ∃ E, pGo R e (i + 1) = E := ⟨_, rfl⟩
          have HE : Hid (pGo R e (i + 1) = E) := hE
          have hE12 : i + 1 ≤ E ∧ E ≤ e := by rw [← hE]; exact pGo_ge (e - (i + 1)) (i + 1) (by omega)
          have HO2 : Hid (∃ dn : List (Nat × Nat), dn.length = k ∧ wr.ownsRow w.heap.size 23 2 u7 k (pC dn) ∧ dn ++ (i, E) :: partsL R e E = L) := by
            obtain ⟨dn, d1, d2, d3⟩ := HO.out
            exact ⟨dn, d1, d2, by rw [← d3, partsL_step hlt, hE]⟩
          clear HO hE
          go_wp2
          clear z8
          go_loopg [9] (e - (i + 1)) (fun q jv wr2 => ∃ m : Nat, i ≤ m ∧ m + 1 ≤ E ∧ q = e - (m + 1) ∧ jv = .int .i64 ((m + 1 : Nat) : Int) ∧ Hid (Up wr.heap.size wr wr2))
          case atStart => exact ⟨i, Nat.le_refl _, by omega, rfl, by go_num, Up.refl _⟩
          case round =>
            obtain ⟨m, hm1, hm2, hqm, rfl, HUr⟩ := hrel
            have HUa : Hid (Up w.heap.size w wr) := HU.out.stay HUr.out.1
            have HOa : Hid (∃ dn : List (Nat × Nat), dn.length = k ∧ wr.ownsRow w.heap.size 23 2 u7 k (pC dn) ∧ dn ++ (i, E) :: partsL R e E = L) := by
              obtain ⟨dn, d1, d2, d3⟩ := HO2.out
              exact ⟨dn, d1, own_stay d2 HUr.out.1, d3⟩
            clear HO2 HU
            by_cases hme : m + 1 < e
            · have hc1 : cutB R e (m + 1) = true → E = m + 1 := fun hc => by
                rcases Nat.lt_or_ge (m + 1) E with hlt2 | hge
                · rw [pGo_no (R := R) (e := e) (e - (i + 1)) (i + 1) (by omega) (m + 1) (by omega) (by rw [HE.out]; exact hlt2)] at hc
                  cases hc
                · omega
              have hc2 : cutB R e (m + 1) = false → m + 1 + 1 ≤ E := fun hc => by
                rcases Nat.lt_or_ge (m + 1) E with hlt2 | hge
                · omega
                · obtain rfl : E = m + 1 := by omega
                  rcases pGo_is (R := R) (e := e) (e - (i + 1)) (i + 1) (by omega) with h1 | h1
                  · rw [HE.out] at h1; omega
                  · rw [HE.out, hc] at h1; cases h1
              have HC1 : Hid (cutB R e (m + 1) = true → E = m + 1) := hc1
              have HC2 : Hid (cutB R e (m + 1) = false → m + 1 + 1 ≤ E) := hc2
              clear hc1 hc2
              obtain ⟨x, hx⟩ : ∃ x, l[m]? = some x := ⟨_, List.getElem?_eq_getElem (by rw [HN.out]; omega)⟩
              obtain ⟨y, hy⟩ : ∃ y, l[m + 1]? = some y := ⟨_, List.getElem?_eq_getElem (by rw [HN.out]; omega)⟩
              have hRx : R m = x.r := by rw [← HR.out]; exact RU_at hx
              have hRy : R (m + 1) = y.r := by rw [← HR.out]; exact RU_at hy
              have fx := HFU.out x (List.mem_of_getElem? hx)
              obtain ⟨rA, hrA⟩ : ∃ r, x.r = r := ⟨_, rfl⟩
              obtain ⟨rN, hrN⟩ : ∃ r, y.r = r := ⟨_, rfl⟩
              obtain ⟨A2, C2, eA, -, hh⟩ := HUS.out
              injection eA with eA1 eA2 eA3
              subst eA1 eA3
              clear eA2
              obtain ⟨b, off, rfl, hbl, a1, -, -⟩ := hh m x hx
              obtain ⟨b', off', eB, -, a2, -, -⟩ := hh (m + 1) y hy
              injection eB with eB
              injection eB with eB1 eB2 _
              subst eB1 eB2
              have a1 := cell_stay a1 HUa.out.1
              have a2 := cell_stay a2 HUa.out.1
              rw [hrA] at a1 hRx fx
              rw [hrN] at a2 hRy
              obtain ⟨b1, hb1⟩ : ∃ q, gB rN = q := ⟨_, rfl⟩
              obtain ⟨b2, hb2⟩ : ∃ q, sB rA = q := ⟨_, rfl⟩
              obtain ⟨b3, hb3⟩ : ∃ q, gB rA = q := ⟨_, rfl⟩
              have C1 := fun w' => rgreat_any rN w'
              have C2 := fun w' => rsmall_any rA fx w'
              have C3 := fun w' => rgreat_any rA w'
              rw [hb1] at C1
              rw [hb2] at C2
              rw [hb3] at C3
              have HCB : Hid (cutB R e (m + 1) = (b1 && (b2 || (b3 && decide (m + 1 + 1 < e) && sB (R (m + 1 + 1)))))) := by
                show cutB R e (m + 1) = _
                unfold cutB
                rw [show m + 1 - 1 = m by omega, hRx, hRy, hb1, hb2, hb3]
              have z2 : ((m + 1 : Nat) : Int) < (n : Int) := (HT.out (m + 1)).2 hme
              have z3 : (0 : Int) ≤ ((m + 1 : Nat) : Int) := by omega
              have z4 : ((m + 1 : Nat) : Int) - 1 = (m : Int) := by omega
              have z5 : (m : Int) < (n : Int) := by omega
              have z6 : (0 : Int) ≤ (m : Int) := by omega
              have z7 : ((m + 1 : Nat) : Int) < (n : Int) := by omega
              have z9 : IntKind.i64.wrap (((m + 1 : Nat) : Int) + 1) = ((m + 2 : Nat) : Int) := by rw [IntWalk.i64_in _ (by omega)]; omega
              have HX : Hid (∀ r, l[m + 1 + 1]? = some r → wr.cell? ⟨b, off + (m + 1 + 1) * 3, none⟩ = some (.int .i32 r.r)) := fun r hr => by
                obtain ⟨b', off', eB, -, a3, -, -⟩ := hh (m + 1 + 1) r hr
                injection eB with eB
                injection eB with eB1 eB2 _
                subst eB1 eB2
                exact cell_stay a3 HUa.out.1
              clear hh hx hy hRx hRy hrA hrN hb1 hb2 hb3 fx hbl
              go_upto_region 10 with fail
              go_quiet (fail)
              have hbd := below_drewN (Below.refl wr.heap.size wr) nq
              have HU3 : Hid (Up w.heap.size w (wr.drewN nq)) := HUa.out.stay hbd
              have HO3 : Hid (∃ dn : List (Nat × Nat), dn.length = k ∧ (wr.drewN nq).ownsRow w.heap.size 23 2 u7 k (pC dn) ∧ dn ++ (i, E) :: partsL R e E = L) := by
                obtain ⟨dn, d1, d2, d3⟩ := HOa.out
                exact ⟨dn, d1, own_stay d2 hbd, d3⟩
              have HX3 : Hid (∀ r, l[m + 1 + 1]? = some r → (wr.drewN nq).cell? ⟨b, off + (m + 1 + 1) * 3, none⟩ = some (.int .i32 r.r)) := fun r hr => cell_stay (HX.out r hr) hbd
              have HR3 : Hid _ := HUr.out.stay hbd
              obtain ⟨wd, hwd⟩ : ∃ x, wr.drewN nq = x := ⟨_, rfl⟩
              rw [hwd] at HU3 HO3 HX3 HR3 ⊢
              clear hbd hwd HUa HOa HX a1 a2 HUr
              cases b1
              · have HCO : Hid (m + 1 + 1 ≤ E) := HC2.out (by rw [HCB.out]; rfl)
                clear HCB HC1 HC2 HX3
                go_wp2_with fail
                refine (C1 _).mono ?_
                rintro ev w9 ⟨rfl, hw9⟩
                subst w9
                go_wp2_with fail
                refine (C1 _).mono ?_
                rintro ev w9 ⟨rfl, hw9⟩
                subst w9
                go_wp2
                go_roundg (e - (m + 2))
                case measure => omega
                case rel => exact ⟨m + 1, by omega, HCO.out, rfl, by go_num, HR3⟩
              · cases b2
                · cases b3
                  · have HCO : Hid (m + 1 + 1 ≤ E) := HC2.out (by rw [HCB.out]; rfl)
                    clear HCB HC1 HC2 HX3
                    go_wp2_with fail
                    refine (C1 _).mono ?_
                    rintro ev w9 ⟨rfl, hw9⟩
                    subst w9
                    go_wp2_with fail
                    refine (C2 _).mono ?_
                    rintro ev w9 ⟨rfl, hw9⟩
                    subst w9
                    go_wp2_with fail
                    refine (C1 _).mono ?_
                    rintro ev w9 ⟨rfl, hw9⟩
                    subst w9
                    go_wp2_with fail
                    refine (C3 _).mono ?_
                    rintro ev w9 ⟨rfl, hw9⟩
                    subst w9
                    go_wp2
                    go_roundg (e - (m + 2))
                    case measure => omega
                    case rel => exact ⟨m + 1, by omega, HCO.out, rfl, by go_num, HR3⟩
                  · by_cases hl2 : m + 1 + 1 < e
                    · have y2 : ((m + 2 : Nat) : Int) < (n : Int) := (HT.out (m + 2)).2 hl2
                      have y3 : ((m + 2 : Nat) : Int) < (n : Int) := by omega
                      have y4 : (0 : Int) ≤ ((m + 2 : Nat) : Int) := by omega
                      obtain ⟨x, hx⟩ : ∃ x, l[m + 1 + 1]? = some x := ⟨_, List.getElem?_eq_getElem (by rw [HN.out]; omega)⟩
                      have a3 := HX3.out x hx
                      have hRx : R (m + 1 + 1) = x.r := by rw [← HR.out]; exact RU_at hx
                      have fx := HFU.out x (List.mem_of_getElem? hx)
                      obtain ⟨rX, hrX⟩ : ∃ r, x.r = r := ⟨_, rfl⟩
                      rw [hrX] at a3 hRx fx
                      obtain ⟨b4, hb4⟩ : ∃ q, sB rX = q := ⟨_, rfl⟩
                      have C4 := fun w' => rsmall_any rX fx w'
                      rw [hb4] at C4
                      have hcb := HCB.out
                      rw [hRx, hb4, show decide (m + 1 + 1 < e) = true by simpa using hl2] at hcb
                      have HCB2 : Hid (cutB R e (m + 1) = b4) := hcb
                      clear hcb HCB hx hRx hb4 hrX fx HX3
                      cases b4
                      · have HCO : Hid (m + 1 + 1 ≤ E) := HC2.out HCB2.out
                        clear HCB2 HC1 HC2
                        go_wp2_with fail
                        refine (C1 _).mono ?_
                        rintro ev w9 ⟨rfl, hw9⟩
                        subst w9
                        go_wp2_with fail
                        refine (C2 _).mono ?_
                        rintro ev w9 ⟨rfl, hw9⟩
                        subst w9
                        go_wp2_with fail
                        refine (C1 _).mono ?_
                        rintro ev w9 ⟨rfl, hw9⟩
                        subst w9
                        go_wp2_with fail
                        refine (C3 _).mono ?_
                        rintro ev w9 ⟨rfl, hw9⟩
                        subst w9
                        go_wp2_with fail
                        refine (C4 _).mono ?_
                        rintro ev w9 ⟨rfl, hw9⟩
                        subst w9
                        go_wp2
                        go_roundg (e - (m + 2))
                        case measure => omega
                        case rel => exact ⟨m + 1, by omega, HCO.out, rfl, by go_num, HR3⟩
                      · obtain rfl : E = m + 1 := HC1.out HCB2.out
                        clear HCB2 HC1 HC2
                        go_wp2_with fail
                        refine (C1 _).mono ?_
                        rintro ev w9 ⟨rfl, hw9⟩
                        subst w9
                        go_wp2_with fail
                        refine (C2 _).mono ?_
                        rintro ev w9 ⟨rfl, hw9⟩
                        subst w9
                        go_wp2_with fail
                        refine (C1 _).mono ?_
                        rintro ev w9 ⟨rfl, hw9⟩
                        subst w9
                        go_wp2_with fail
                        refine (C3 _).mono ?_
                        rintro ev w9 ⟨rfl, hw9⟩
                        subst w9
                        go_wp2_with fail
                        refine (C4 _).mono ?_
                        rintro ev w9 ⟨rfl, hw9⟩
                        subst w9
                        obtain ⟨dn, hdl, hdo, hdr⟩ := HO3.out
                        go_wp2_with (at_builtin; refine wpList_append_own _ rfl _ _ 30 rfl w.heap.size 23 i0 _ 2 16 Tryd.underlying30 hi hz0 hz1 hz2 rfl (by decide) _ _ _ rfl (World.ownsRow.alloc hdo _) ⟨wd.heap.size, 0, none⟩ 1 1 [.int .i64 (i : Int), .int .i64 ((m + 1 : Nat) : Int)] rfl rfl ?c1 ?c2 ?c3 ?c4 ?c5 ?_)
                        case c1 =>
                          intro j u hj
                          match j, hj with
                          | 0, hj => simp at hj; subst hj; simp [Addr.add]
                          | 1, hj => simp at hj; subst hj; simp [Addr.add]
                          | (j + 2), hj => simp at hj
                        case c2 => intro u hu; simp at hu; rcases hu with rfl | rfl <;> rfl
                        case c3 => unfold maxLen; omega
                        case c4 => omega
                        case c5 => have := HU3.out.2; simp only [World.size_alloc]; omega
                        intro v' w3 hown2 hgr hnil
                        have HO4 : Hid (∃ dn : List (Nat × Nat), dn.length = k + 1 ∧ w3.ownsRow w.heap.size 23 2 v' (k + 1) (pC dn) ∧ dn ++ partsL R e (m + 1) = L) := by
                          refine ⟨dn ++ [(i, m + 1)], by rw [List.length_append, hdl]; rfl, ?_, ?_⟩
                          · rw [pC_app]; exact hown2
                          · rw [← hdr]; simp
                        have HU4 : Hid (Up w.heap.size w w3) := (HU3.out.alloc _).grown hgr (own_base hdo)
                        clear hown2 hgr hnil HO3 hdo hdl hdr HU3
                        go_wp2
                        go_roundg (e - (m + 1))
                        case measure => omega
                        case rel => exact ⟨m + 1, k + 1, by omega, rfl, by go_num, by omega, HO4, HU4⟩
                    · have HCO : Hid (m + 1 + 1 ≤ E) := HC2.out (by rw [HCB.out, show decide (m + 1 + 1 < e) = false by simpa using hl2]; rfl)
                      have y2 : ¬ ((m + 2 : Nat) : Int) < (n : Int) := fun hh => hl2 ((HT.out (m + 2)).1 hh)
                      clear HCB HC1 HC2 HX3
                      go_wp2_with fail
                      refine (C1 _).mono ?_
                      rintro ev w9 ⟨rfl, hw9⟩
                      subst w9
                      go_wp2_with fail
                      refine (C2 _).mono ?_
                      rintro ev w9 ⟨rfl, hw9⟩
                      subst w9
                      go_wp2_with fail
                      refine (C1 _).mono ?_
                      rintro ev w9 ⟨rfl, hw9⟩
                      subst w9
                      go_wp2_with fail
                      refine (C3 _).mono ?_
                      rintro ev w9 ⟨rfl, hw9⟩
                      subst w9
                      go_wp2
                      go_roundg (e - (m + 2))
                      case measure => omega
                      case rel => exact ⟨m + 1, by omega, HCO.out, rfl, by go_num, HR3⟩
                · obtain rfl : E = m + 1 := HC1.out (by rw [HCB.out]; rfl)
                  clear HCB HC1 HC2 HX3
                  go_wp2_with fail
                  refine (C1 _).mono ?_
                  rintro ev w9 ⟨rfl, hw9⟩
                  subst w9
                  go_wp2_with fail
                  refine (C2 _).mono ?_
                  rintro ev w9 ⟨rfl, hw9⟩
                  subst w9
                  obtain ⟨dn, hdl, hdo, hdr⟩ := HO3.out
                  go_wp2_with (at_builtin; refine wpList_append_own _ rfl _ _ 30 rfl w.heap.size 23 i0 _ 2 16 Tryd.underlying30 hi hz0 hz1 hz2 rfl (by decide) _ _ _ rfl (World.ownsRow.alloc hdo _) ⟨wd.heap.size, 0, none⟩ 1 1 [.int .i64 (i : Int), .int .i64 ((m + 1 : Nat) : Int)] rfl rfl ?c1 ?c2 ?c3 ?c4 ?c5 ?_)
                  case c1 =>
                    intro j u hj
                    match j, hj with
                    | 0, hj => simp at hj; subst hj; simp [Addr.add]
                    | 1, hj => simp at hj; subst hj; simp [Addr.add]
                    | (j + 2), hj => simp at hj
                  case c2 => intro u hu; simp at hu; rcases hu with rfl | rfl <;> rfl
                  case c3 => unfold maxLen; omega
                  case c4 => omega
                  case c5 => have := HU3.out.2; simp only [World.size_alloc]; omega
                  intro v' w3 hown2 hgr hnil
                  have HO4 : Hid (∃ dn : List (Nat × Nat), dn.length = k + 1 ∧ w3.ownsRow w.heap.size 23 2 v' (k + 1) (pC dn) ∧ dn ++ partsL R e (m + 1) = L) := by
                    refine ⟨dn ++ [(i, m + 1)], by rw [List.length_append, hdl]; rfl, ?_, ?_⟩
                    · rw [pC_app]; exact hown2
                    · rw [← hdr]; simp
                  have HU4 : Hid (Up w.heap.size w w3) := (HU3.out.alloc _).grown hgr (own_base hdo)
                  clear hown2 hgr hnil HO3 hdo hdl hdr HU3
                  go_wp2
                  go_roundg (e - (m + 1))
                  case measure => omega
                  case rel => exact ⟨m + 1, k + 1, by omega, rfl, by go_num, by omega, HO4, HU4⟩
            · obtain rfl : E = m + 1 := by omega
              have HU3 := HUa
              have HO3 := HOa
              have z2 : decide ((m : Int) + 1 < (n : Int)) = false := decide_eq_false fun hh => hme ((HT.out (m + 1)).1 (by omega))
              clear HUa HOa
              obtain ⟨dn, hdl, hdo, hdr⟩ := HO3.out
              go_wp2_with (at_builtin; refine wpList_append_own _ rfl _ _ 30 rfl w.heap.size 23 i0 _ 2 16 Tryd.underlying30 hi hz0 hz1 hz2 rfl (by decide) _ _ _ rfl (World.ownsRow.alloc hdo _) ⟨wr.heap.size, 0, none⟩ 1 1 [.int .i64 (i : Int), .int .i64 ((m + 1 : Nat) : Int)] rfl rfl ?c1 ?c2 ?c3 ?c4 ?c5 ?_)
              case c1 =>
                intro j u hj
                match j, hj with
                | 0, hj => simp at hj; subst hj; simp [Addr.add]
                | 1, hj => simp at hj; subst hj; simp [Addr.add]
                | (j + 2), hj => simp at hj
              case c2 => intro u hu; simp at hu; rcases hu with rfl | rfl <;> rfl
              case c3 => unfold maxLen; omega
              case c4 => omega
              case c5 => have := HU3.out.2; simp only [World.size_alloc]; omega
              intro v' w3 hown2 hgr hnil
              have HO4 : Hid (∃ dn : List (Nat × Nat), dn.length = k + 1 ∧ w3.ownsRow w.heap.size 23 2 v' (k + 1) (pC dn) ∧ dn ++ partsL R e (m + 1) = L) := by
                refine ⟨dn ++ [(i, m + 1)], by rw [List.length_append, hdl]; rfl, ?_, ?_⟩
                · rw [pC_app]; exact hown2
                · rw [← hdr]; simp
              have HU4 : Hid (Up w.heap.size w w3) := (HU3.out.alloc _).grown hgr (own_base hdo)
              clear hown2 hgr hnil HO3 hdo hdl hdr HU3
              go_wp2
              go_roundg (e - (m + 1))
              case measure => omega
              case rel => exact ⟨m + 1, k + 1, by omega, rfl, by go_num, by omega, HO4, HU4⟩
        · have z1 : ¬ (i : Int) < (n : Int) := fun hh => hlt ((HT.out i).1 hh)
          obtain ⟨dn, d1, d2, d3⟩ := HO.out
          rw [partsL_end (by omega), List.append_nil] at d3
          subst d3
          have HFn : Hid (PR wr w.heap.size u7 dn ∧ Below w.heap.size w wr) := ⟨by unfold PR; rw [d1]; exact d2, HU.out.1⟩
          clear d1 d2 HO HU
          go_wp2
          go_ret
          exact ⟨_, rfl, HFn.out.1, HFn.out.2⟩
    · have HT : Hid (∀ i : Nat, (i : Int) < t ↔ i < e) := fun i => by omega
      clear he
      go_enter Tryd.func16, Tryd.ntmps16
      go_wp2
      go_loopg [7, 8] (e - F) (fun q ov iv wr => ∃ (i k : Nat), (i ≤ e ∨ k = 0) ∧ q = e - i ∧ iv = .int .i64 (i : Int) ∧ (k = 0 ∨ k ≤ i) ∧ Hid (∃ dn : List (Nat × Nat), dn.length = k ∧ wr.ownsRow w.heap.size 23 2 ov k (pC dn) ∧ dn ++ partsL R e i = L) ∧ Hid (Up w.heap.size w wr))
      case atStart => exact ⟨F, 0, Or.inr rfl, rfl, by first | rfl | go_num, Or.inl rfl, ⟨[], rfl, World.ownsRow_nil _ _ _ _, HL.out⟩, Up.refl _⟩
      case round =>
        obtain ⟨i, k, hi1, hq, rfl, hk2, HO, HU⟩ := hrel
        by_cases hlt : i < e
        · have z1 : (i : Int) < t := (HT.out i).2 hlt
          have z8 : IntKind.i64.wrap ((i : Int) + 1) = ((i + 1 : Nat) : Int) := by rw [IntWalk.i64_in _ (by omega)]; omega
          obtain ⟨E, hE⟩ : ∃ E, pGo R e (i + 1) = E := ⟨_, rfl⟩
          have HE : Hid (pGo R e (i + 1) = E) := hE
          have hE12 : i + 1 ≤ E ∧ E ≤ e := by rw [← hE]; exact pGo_ge (e - (i + 1)) (i + 1) (by omega)
          have HO2 : Hid (∃ dn : List (Nat × Nat), dn.length = k ∧ wr.ownsRow w.heap.size 23 2 u7 k (pC dn) ∧ dn ++ (i, E) :: partsL R e E = L) := by
            obtain ⟨dn, d1, d2, d3⟩ := HO.out
            exact ⟨dn, d1, d2, by rw [← d3, partsL_step hlt, hE]⟩
          clear HO hE
          go_wp2
          clear z8
          go_loopg [9] (e - (i + 1)) (fun q jv wr2 => ∃ m : Nat, i ≤ m ∧ m + 1 ≤ E ∧ q = e - (m + 1) ∧ jv = .int .i64 ((m + 1 : Nat) : Int) ∧ Hid (Up wr.heap.size wr wr2))
          case atStart => exact ⟨i, Nat.le_refl _, by omega, rfl, by go_num, Up.refl _⟩
          case round =>
            obtain ⟨m, hm1, hm2, hqm, rfl, HUr⟩ := hrel
            have HUa : Hid (Up w.heap.size w wr) := HU.out.stay HUr.out.1
            have HOa : Hid (∃ dn : List (Nat × Nat), dn.length = k ∧ wr.ownsRow w.heap.size 23 2 u7 k (pC dn) ∧ dn ++ (i, E) :: partsL R e E = L) := by
              obtain ⟨dn, d1, d2, d3⟩ := HO2.out
              exact ⟨dn, d1, own_stay d2 HUr.out.1, d3⟩
            clear HO2 HU
            by_cases hme : m + 1 < e
            · have hc1 : cutB R e (m + 1) = true → E = m + 1 := fun hc => by
                rcases Nat.lt_or_ge (m + 1) E with hlt2 | hge
                · rw [pGo_no (R := R) (e := e) (e - (i + 1)) (i + 1) (by omega) (m + 1) (by omega) (by rw [HE.out]; exact hlt2)] at hc
                  cases hc
                · omega
              have hc2 : cutB R e (m + 1) = false → m + 1 + 1 ≤ E := fun hc => by
                rcases Nat.lt_or_ge (m + 1) E with hlt2 | hge
                · omega
                · obtain rfl : E = m + 1 := by omega
                  rcases pGo_is (R := R) (e := e) (e - (i + 1)) (i + 1) (by omega) with h1 | h1
                  · rw [HE.out] at h1; omega
                  · rw [HE.out, hc] at h1; cases h1
              have HC1 : Hid (cutB R e (m + 1) = true → E = m + 1) := hc1
              have HC2 : Hid (cutB R e (m + 1) = false → m + 1 + 1 ≤ E) := hc2
              clear hc1 hc2
              obtain ⟨x, hx⟩ : ∃ x, l[m]? = some x := ⟨_, List.getElem?_eq_getElem (by rw [HN.out]; omega)⟩
              obtain ⟨y, hy⟩ : ∃ y, l[m + 1]? = some y := ⟨_, List.getElem?_eq_getElem (by rw [HN.out]; omega)⟩
              have hRx : R m = x.r := by rw [← HR.out]; exact RU_at hx
              have hRy : R (m + 1) = y.r := by rw [← HR.out]; exact RU_at hy
              have fx := HFU.out x (List.mem_of_getElem? hx)
              obtain ⟨rA, hrA⟩ : ∃ r, x.r = r := ⟨_, rfl⟩
              obtain ⟨rN, hrN⟩ : ∃ r, y.r = r := ⟨_, rfl⟩
              obtain ⟨A2, C2, eA, -, hh⟩ := HUS.out
              injection eA with eA1 eA2 eA3
              subst eA1 eA3
              clear eA2
              obtain ⟨b, off, rfl, hbl, a1, -, -⟩ := hh m x hx
              obtain ⟨b', off', eB, -, a2, -, -⟩ := hh (m + 1) y hy
              injection eB with eB
              injection eB with eB1 eB2 _
              subst eB1 eB2
              have a1 := cell_stay a1 HUa.out.1
              have a2 := cell_stay a2 HUa.out.1
              rw [hrA] at a1 hRx fx
              rw [hrN] at a2 hRy
              obtain ⟨b1, hb1⟩ : ∃ q, gB rN = q := ⟨_, rfl⟩
              obtain ⟨b2, hb2⟩ : ∃ q, sB rA = q := ⟨_, rfl⟩
              obtain ⟨b3, hb3⟩ : ∃ q, gB rA = q := ⟨_, rfl⟩
              have C1 := fun w' => rgreat_any rN w'
              have C2 := fun w' => rsmall_any rA fx w'
              have C3 := fun w' => rgreat_any rA w'
              rw [hb1] at C1
              rw [hb2] at C2
              rw [hb3] at C3
              have HCB : Hid (cutB R e (m + 1) = (b1 && (b2 || (b3 && decide (m + 1 + 1 < e) && sB (R (m + 1 + 1)))))) := by
                show cutB R e (m + 1) = _
                unfold cutB
                rw [show m + 1 - 1 = m by omega, hRx, hRy, hb1, hb2, hb3]
              have z2 : ((m + 1 : Nat) : Int) < t := (HT.out (m + 1)).2 hme
              have z3 : (0 : Int) ≤ ((m + 1 : Nat) : Int) := by omega
              have z4 : ((m + 1 : Nat) : Int) - 1 = (m : Int) := by omega
              have z5 : (m : Int) < (n : Int) := by omega
              have z6 : (0 : Int) ≤ (m : Int) := by omega
              have z7 : ((m + 1 : Nat) : Int) < (n : Int) := by omega
              have z9 : IntKind.i64.wrap (((m + 1 : Nat) : Int) + 1) = ((m + 2 : Nat) : Int) := by rw [IntWalk.i64_in _ (by omega)]; omega
              have HX : Hid (∀ r, l[m + 1 + 1]? = some r → wr.cell? ⟨b, off + (m + 1 + 1) * 3, none⟩ = some (.int .i32 r.r)) := fun r hr => by
                obtain ⟨b', off', eB, -, a3, -, -⟩ := hh (m + 1 + 1) r hr
                injection eB with eB
                injection eB with eB1 eB2 _
                subst eB1 eB2
                exact cell_stay a3 HUa.out.1
              clear hh hx hy hRx hRy hrA hrN hb1 hb2 hb3 fx hbl
              go_upto_region 10 with fail
              go_quiet (fail)
              have hbd := below_drewN (Below.refl wr.heap.size wr) nq
              have HU3 : Hid (Up w.heap.size w (wr.drewN nq)) := HUa.out.stay hbd
              have HO3 : Hid (∃ dn : List (Nat × Nat), dn.length = k ∧ (wr.drewN nq).ownsRow w.heap.size 23 2 u7 k (pC dn) ∧ dn ++ (i, E) :: partsL R e E = L) := by
                obtain ⟨dn, d1, d2, d3⟩ := HOa.out
                exact ⟨dn, d1, own_stay d2 hbd, d3⟩
              have HX3 : Hid (∀ r, l[m + 1 + 1]? = some r → (wr.drewN nq).cell? ⟨b, off + (m + 1 + 1) * 3, none⟩ = some (.int .i32 r.r)) := fun r hr => cell_stay (HX.out r hr) hbd
              have HR3 : Hid _ := HUr.out.stay hbd
              obtain ⟨wd, hwd⟩ : ∃ x, wr.drewN nq = x := ⟨_, rfl⟩
              rw [hwd] at HU3 HO3 HX3 HR3 ⊢
              clear hbd hwd HUa HOa HX a1 a2 HUr
              cases b1
              · have HCO : Hid (m + 1 + 1 ≤ E) := HC2.out (by rw [HCB.out]; rfl)
                clear HCB HC1 HC2 HX3
                go_wp2_with fail
                refine (C1 _).mono ?_
                rintro ev w9 ⟨rfl, hw9⟩
                subst w9
                go_wp2_with fail
                refine (C1 _).mono ?_
                rintro ev w9 ⟨rfl, hw9⟩
                subst w9
                go_wp2
                go_roundg (e - (m + 2))
                case measure => omega
                case rel => exact ⟨m + 1, by omega, HCO.out, rfl, by go_num, HR3⟩
              · cases b2
                · cases b3
                  · have HCO : Hid (m + 1 + 1 ≤ E) := HC2.out (by rw [HCB.out]; rfl)
                    clear HCB HC1 HC2 HX3
                    go_wp2_with fail
                    refine (C1 _).mono ?_
                    rintro ev w9 ⟨rfl, hw9⟩
                    subst w9
                    go_wp2_with fail
                    refine (C2 _).mono ?_
                    rintro ev w9 ⟨rfl, hw9⟩
                    subst w9
                    go_wp2_with fail
                    refine (C1 _).mono ?_
                    rintro ev w9 ⟨rfl, hw9⟩
                    subst w9
                    go_wp2_with fail
                    refine (C3 _).mono ?_
                    rintro ev w9 ⟨rfl, hw9⟩
                    subst w9
                    go_wp2
                    go_roundg (e - (m + 2))
                    case measure => omega
                    case rel => exact ⟨m + 1, by omega, HCO.out, rfl, by go_num, HR3⟩
                  · by_cases hl2 : m + 1 + 1 < e
                    · have y2 : ((m + 2 : Nat) : Int) < t := (HT.out (m + 2)).2 hl2
                      have y3 : ((m + 2 : Nat) : Int) < (n : Int) := by omega
                      have y4 : (0 : Int) ≤ ((m + 2 : Nat) : Int) := by omega
                      obtain ⟨x, hx⟩ : ∃ x, l[m + 1 + 1]? = some x := ⟨_, List.getElem?_eq_getElem (by rw [HN.out]; omega)⟩
                      have a3 := HX3.out x hx
                      have hRx : R (m + 1 + 1) = x.r := by rw [← HR.out]; exact RU_at hx
                      have fx := HFU.out x (List.mem_of_getElem? hx)
                      obtain ⟨rX, hrX⟩ : ∃ r, x.r = r := ⟨_, rfl⟩
                      rw [hrX] at a3 hRx fx
                      obtain ⟨b4, hb4⟩ : ∃ q, sB rX = q := ⟨_, rfl⟩
                      have C4 := fun w' => rsmall_any rX fx w'
                      rw [hb4] at C4
                      have hcb := HCB.out
                      rw [hRx, hb4, show decide (m + 1 + 1 < e) = true by simpa using hl2] at hcb
                      have HCB2 : Hid (cutB R e (m + 1) = b4) := hcb
                      clear hcb HCB hx hRx hb4 hrX fx HX3
                      cases b4
                      · have HCO : Hid (m + 1 + 1 ≤ E) := HC2.out HCB2.out
                        clear HCB2 HC1 HC2
                        go_wp2_with fail
                        refine (C1 _).mono ?_
                        rintro ev w9 ⟨rfl, hw9⟩
                        subst w9
                        go_wp2_with fail
                        refine (C2 _).mono ?_
                        rintro ev w9 ⟨rfl, hw9⟩
                        subst w9
                        go_wp2_with fail
                        refine (C1 _).mono ?_
                        rintro ev w9 ⟨rfl, hw9⟩
                        subst w9
                        go_wp2_with fail
                        refine (C3 _).mono ?_
                        rintro ev w9 ⟨rfl, hw9⟩
                        subst w9
                        go_wp2_with fail
                        refine (C4 _).mono ?_
                        rintro ev w9 ⟨rfl, hw9⟩
                        subst w9
                        go_wp2
                        go_roundg (e - (m + 2))
                        case measure => omega
                        case rel => exact ⟨m + 1, by omega, HCO.out, rfl, by go_num, HR3⟩
                      · obtain rfl : E = m + 1 := HC1.out HCB2.out
                        clear HCB2 HC1 HC2
                        go_wp2_with fail
                        refine (C1 _).mono ?_
                        rintro ev w9 ⟨rfl, hw9⟩
                        subst w9
                        go_wp2_with fail
                        refine (C2 _).mono ?_
                        rintro ev w9 ⟨rfl, hw9⟩
                        subst w9
                        go_wp2_with fail
                        refine (C1 _).mono ?_
                        rintro ev w9 ⟨rfl, hw9⟩
                        subst w9
                        go_wp2_with fail
                        refine (C3 _).mono ?_
                        rintro ev w9 ⟨rfl, hw9⟩
                        subst w9
                        go_wp2_with fail
                        refine (C4 _).mono ?_
                        rintro ev w9 ⟨rfl, hw9⟩
                        subst w9
                        obtain ⟨dn, hdl, hdo, hdr⟩ := HO3.out
                        go_wp2_with (at_builtin; refine wpList_append_own _ rfl _ _ 30 rfl w.heap.size 23 i0 _ 2 16 Tryd.underlying30 hi hz0 hz1 hz2 rfl (by decide) _ _ _ rfl (World.ownsRow.alloc hdo _) ⟨wd.heap.size, 0, none⟩ 1 1 [.int .i64 (i : Int), .int .i64 ((m + 1 : Nat) : Int)] rfl rfl ?c1 ?c2 ?c3 ?c4 ?c5 ?_)
                        case c1 =>
                          intro j u hj
                          match j, hj with
                          | 0, hj => simp at hj; subst hj; simp [Addr.add]
                          | 1, hj => simp at hj; subst hj; simp [Addr.add]
                          | (j + 2), hj => simp at hj
                        case c2 => intro u hu; simp at hu; rcases hu with rfl | rfl <;> rfl
                        case c3 => unfold maxLen; omega
                        case c4 => omega
                        case c5 => have := HU3.out.2; simp only [World.size_alloc]; omega
                        intro v' w3 hown2 hgr hnil
                        have HO4 : Hid (∃ dn : List (Nat × Nat), dn.length = k + 1 ∧ w3.ownsRow w.heap.size 23 2 v' (k + 1) (pC dn) ∧ dn ++ partsL R e (m + 1) = L) := by
                          refine ⟨dn ++ [(i, m + 1)], by rw [List.length_append, hdl]; rfl, ?_, ?_⟩
                          · rw [pC_app]; exact hown2
                          · rw [← hdr]; simp
                        have HU4 : Hid (Up w.heap.size w w3) := (HU3.out.alloc _).grown hgr (own_base hdo)
                        clear hown2 hgr hnil HO3 hdo hdl hdr HU3
                        go_wp2
                        go_roundg (e - (m + 1))
                        case measure => omega
                        case rel => exact ⟨m + 1, k + 1, by omega, rfl, by go_num, by omega, HO4, HU4⟩
                    · have HCO : Hid (m + 1 + 1 ≤ E) := HC2.out (by rw [HCB.out, show decide (m + 1 + 1 < e) = false by simpa using hl2]; rfl)
                      have y2 : ¬ ((m + 2 : Nat) : Int) < t := fun hh => hl2 ((HT.out (m + 2)).1 hh)
                      clear HCB HC1 HC2 HX3
                      go_wp2_with fail
                      refine (C1 _).mono ?_
                      rintro ev w9 ⟨rfl, hw9⟩
                      subst w9
                      go_wp2_with fail
                      refine (C2 _).mono ?_
                      rintro ev w9 ⟨rfl, hw9⟩
                      subst w9
                      go_wp2_with fail
                      refine (C1 _).mono ?_
                      rintro ev w9 ⟨rfl, hw9⟩
                      subst w9
                      go_wp2_with fail
                      refine (C3 _).mono ?_
                      rintro ev w9 ⟨rfl, hw9⟩
                      subst w9
                      go_wp2
                      go_roundg (e - (m + 2))
                      case measure => omega
                      case rel => exact ⟨m + 1, by omega, HCO.out, rfl, by go_num, HR3⟩
                · obtain rfl : E = m + 1 := HC1.out (by rw [HCB.out]; rfl)
                  clear HCB HC1 HC2 HX3
                  go_wp2_with fail
                  refine (C1 _).mono ?_
                  rintro ev w9 ⟨rfl, hw9⟩
                  subst w9
                  go_wp2_with fail
                  refine (C2 _).mono ?_
                  rintro ev w9 ⟨rfl, hw9⟩
                  subst w9
                  obtain ⟨dn, hdl, hdo, hdr⟩ := HO3.out
                  go_wp2_with (at_builtin; refine wpList_append_own _ rfl _ _ 30 rfl w.heap.size 23 i0 _ 2 16 Tryd.underlying30 hi hz0 hz1 hz2 rfl (by decide) _ _ _ rfl (World.ownsRow.alloc hdo _) ⟨wd.heap.size, 0, none⟩ 1 1 [.int .i64 (i : Int), .int .i64 ((m + 1 : Nat) : Int)] rfl rfl ?c1 ?c2 ?c3 ?c4 ?c5 ?_)
                  case c1 =>
                    intro j u hj
                    match j, hj with
                    | 0, hj => simp at hj; subst hj; simp [Addr.add]
                    | 1, hj => simp at hj; subst hj; simp [Addr.add]
                    | (j + 2), hj => simp at hj
                  case c2 => intro u hu; simp at hu; rcases hu with rfl | rfl <;> rfl
                  case c3 => unfold maxLen; omega
                  case c4 => omega
                  case c5 => have := HU3.out.2; simp only [World.size_alloc]; omega
                  intro v' w3 hown2 hgr hnil
                  have HO4 : Hid (∃ dn : List (Nat × Nat), dn.length = k + 1 ∧ w3.ownsRow w.heap.size 23 2 v' (k + 1) (pC dn) ∧ dn ++ partsL R e (m + 1) = L) := by
                    refine ⟨dn ++ [(i, m + 1)], by rw [List.length_append, hdl]; rfl, ?_, ?_⟩
                    · rw [pC_app]; exact hown2
                    · rw [← hdr]; simp
                  have HU4 : Hid (Up w.heap.size w w3) := (HU3.out.alloc _).grown hgr (own_base hdo)
                  clear hown2 hgr hnil HO3 hdo hdl hdr HU3
                  go_wp2
                  go_roundg (e - (m + 1))
                  case measure => omega
                  case rel => exact ⟨m + 1, k + 1, by omega, rfl, by go_num, by omega, HO4, HU4⟩
            · obtain rfl : E = m + 1 := by omega
              have HU3 := HUa
              have HO3 := HOa
              have z2 : decide ((m : Int) + 1 < t) = false := decide_eq_false fun hh => hme ((HT.out (m + 1)).1 (by omega))
              clear HUa HOa
              obtain ⟨dn, hdl, hdo, hdr⟩ := HO3.out
              go_wp2_with (at_builtin; refine wpList_append_own _ rfl _ _ 30 rfl w.heap.size 23 i0 _ 2 16 Tryd.underlying30 hi hz0 hz1 hz2 rfl (by decide) _ _ _ rfl (World.ownsRow.alloc hdo _) ⟨wr.heap.size, 0, none⟩ 1 1 [.int .i64 (i : Int), .int .i64 ((m + 1 : Nat) : Int)] rfl rfl ?c1 ?c2 ?c3 ?c4 ?c5 ?_)
              case c1 =>
                intro j u hj
                match j, hj with
                | 0, hj => simp at hj; subst hj; simp [Addr.add]
                | 1, hj => simp at hj; subst hj; simp [Addr.add]
                | (j + 2), hj => simp at hj
              case c2 => intro u hu; simp at hu; rcases hu with rfl | rfl <;> rfl
              case c3 => unfold maxLen; omega
              case c4 => omega
              case c5 => have := HU3.out.2; simp only [World.size_alloc]; omega
              intro v' w3 hown2 hgr hnil
              have HO4 : Hid (∃ dn : List (Nat × Nat), dn.length = k + 1 ∧ w3.ownsRow w.heap.size 23 2 v' (k + 1) (pC dn) ∧ dn ++ partsL R e (m + 1) = L) := by
                refine ⟨dn ++ [(i, m + 1)], by rw [List.length_append, hdl]; rfl, ?_, ?_⟩
                · rw [pC_app]; exact hown2
                · rw [← hdr]; simp
              have HU4 : Hid (Up w.heap.size w w3) := (HU3.out.alloc _).grown hgr (own_base hdo)
              clear hown2 hgr hnil HO3 hdo hdl hdr HU3
              go_wp2
              go_roundg (e - (m + 1))
              case measure => omega
              case rel => exact ⟨m + 1, k + 1, by omega, rfl, by go_num, by omega, HO4, HU4⟩
        · have z1 : ¬ (i : Int) < t := fun hh => hlt ((HT.out i).1 hh)
          obtain ⟨dn, d1, d2, d3⟩ := HO.out
          rw [partsL_end (by omega), List.append_nil] at d3
          subst d3
          have HFn : Hid (PR wr w.heap.size u7 dn ∧ Below w.heap.size w wr) := ⟨by unfold PR; rw [d1]; exact d2, HU.out.1⟩
          clear d1 d2 HO HU
          go_wp2
          go_ret
          exact ⟨_, rfl, HFn.out.1, HFn.out.2⟩
end Go.Proofs.YtbhjkkbempnjeaaDoor
