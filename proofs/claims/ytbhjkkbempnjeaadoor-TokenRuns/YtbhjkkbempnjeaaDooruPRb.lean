/- token: runs. -/
import Derived.Test.YtbhjkkbempnjeaaDooruPRa
namespace Go.Proofs.YtbhjkkbempnjeaaDoor
set_option linter.unusedVariables false
open Go.RowKit Go.ChangeShapes
set_option maxRecDepth 100000 in
set_option maxHeartbeats 4000000 in
theorem truns_any {w : World} {v : Value} {l : List U3} (h : US w v l) (hF : FitU l) (hk : l.length ≤ 100000) :
    Calls Tryd.prog 12 #[v] w fun e w' => ∃ v', e = .returned v' ∧ PR w' w.heap.size v' (runsL (RU l) l.length 0) ∧ Below w.heap.size w w' := by
  have CI : Hid (∀ (w' : World) (j : Nat), Up w.heap.size w w' → j < l.length → Calls Tryd.prog 26 #[v, .int .i64 (j : Int)] w' fun e w'' => e = .returned (.bool (inn (RU l) l.length j)) ∧ w'' = w') := fun w' j hu hj => tcnt_any (h.stay hu.1) hF (by omega) j hj
  obtain ⟨A, C, rfl, hC, hh⟩ := h
  obtain ⟨n, hn⟩ : ∃ n, l.length = n := ⟨_, rfl⟩
  rw [hn] at hk hC CI ⊢
  obtain ⟨R, hR⟩ : ∃ R, RU l = R := ⟨_, rfl⟩
  rw [hR] at CI ⊢
  obtain ⟨L, hL⟩ : ∃ L, runsL R n 0 = L := ⟨_, rfl⟩
  rw [hL]
  have HL : Hid (runsL R n 0 = L) := hL
  obtain ⟨i0, hi, hz0, hz1, hz2⟩ := info_parts infoP
  clear hn hR hL hh hF
  go_enter Tryd.func12, Tryd.ntmps12
  go_wp2
  go_loopg [3, 4] (n + 1) (fun q ov iv wr => ∃ (i k : Nat), i ≤ n + 1 ∧ q = n + 1 - i ∧ iv = .int .i64 (i : Int) ∧ k ≤ i ∧ Hid (∃ dn : List (Nat × Nat), dn.length = k ∧ wr.ownsRow w.heap.size 23 2 ov k (pC dn) ∧ dn ++ runsL R n i = L) ∧ Hid (Up w.heap.size w wr))
  case atStart => exact ⟨0, 0, Nat.zero_le _, rfl, rfl, Nat.le_refl _, ⟨[], rfl, World.ownsRow_nil _ _ _ _, HL.out⟩, Up.refl _⟩
  case round =>
    obtain ⟨i, k, hi1, hq, rfl, hk2, HO, HU⟩ := hrel
    by_cases hlt : i < n
    · have z1 : (i : Int) < (n : Int) := by omega
      obtain ⟨E, hE⟩ : ∃ E, rEnd R n i = E := ⟨_, rfl⟩
      have HE : Hid (rEnd R n i = E) := hE
      have hEi : i ≤ E := by rw [← hE]; exact rEnd_ge R n i
      have hEn : E ≤ n := by rw [← hE]; exact rEnd_le (n - i) i (by omega)
      have HNI : Hid (inn R n E = false) := by rw [← hE]; exact rEnd_not (n - i) i (by omega)
      have HO2 : Hid (∃ dn : List (Nat × Nat), dn.length = k ∧ wr.ownsRow w.heap.size 23 2 u3 k (pC dn) ∧ dn ++ runsL R n i = L) := HO
      have HY : Hid (i < E → runsL R n i = (i, E) :: runsL R n E) := fun hlt2 => by
        cases hin : inn R n i
        · rw [rEnd_out hin] at hE; omega
        · rw [runsL_yes hin, hE]
      clear HO hE
      go_wp2
      go_loopg [5] (n - i) (fun q jv wr2 => ∃ j : Nat, i ≤ j ∧ j ≤ E ∧ q = n - j ∧ jv = .int .i64 (j : Int) ∧ wr2 = wr)
      case atStart => exact ⟨i, Nat.le_refl _, hEi, rfl, rfl, rfl⟩
      case round =>
        obtain ⟨j, hj1, hj2, hqj, rfl, rfl⟩ := hrel
        by_cases hjE : j < E
        · have hin : inn R n j = true := rEnd_all (n - i) i (by omega) j hj1 (by rw [HE.out]; exact hjE)
          have c2 := CI.out wr j HU.out (by omega)
          rw [hin] at c2
          clear hin
          have y0 : (j : Int) < (n : Int) := by omega
          have y1 : IntKind.i64.wrap ((j : Int) + 1) = ((j + 1 : Nat) : Int) := by rw [IntWalk.i64_in _ (by omega)]; omega
          go_wp2_with fail
          refine c2.mono ?_
          rintro ev w1 ⟨rfl, hw1⟩
          subst w1
          clear c2
          go_wp2
          go_roundg (n - (j + 1))
          case measure => omega
          case rel => exact ⟨j + 1, by omega, by omega, rfl, by go_num, rfl⟩
        · obtain rfl : j = E := by omega
          by_cases hjn : j < n
          · have c2 := CI.out wr j HU.out hjn
            rw [HNI.out] at c2
            have y0 : (j : Int) < (n : Int) := by omega
            by_cases hij : i < j
            · have y2 : (i : Int) < (j : Int) := by omega
              have HO2 : Hid (∃ dn : List (Nat × Nat), dn.length = k ∧ wr.ownsRow w.heap.size 23 2 u3 k (pC dn) ∧ dn ++ (i, j) :: runsL R n j = L) := by
                obtain ⟨dn, d1, d2, d3⟩ := HO2.out
                exact ⟨dn, d1, d2, by rw [← d3, HY.out hij]⟩
              clear HY
              go_wp2_with fail
              refine c2.mono ?_
              rintro ev w1 ⟨rfl, hw1⟩
              subst w1
              clear c2
              obtain ⟨dn, hdl, hdo, hdr⟩ := HO2.out
              go_wp2_with (at_builtin; refine wpList_append_own _ rfl _ _ 30 rfl w.heap.size 23 i0 _ 2 16 Tryd.underlying30 hi hz0 hz1 hz2 rfl (by decide) _ _ _ rfl (World.ownsRow.alloc hdo _) ⟨wr.heap.size, 0, none⟩ 1 1 [.int .i64 (i : Int), .int .i64 (j : Int)] rfl rfl ?c1 ?c2 ?c3 ?c4 ?c5 ?_)
              case c1 =>
                intro j u hj
                match j, hj with
                | 0, hj => simp at hj; subst hj; simp [Addr.add]
                | 1, hj => simp at hj; subst hj; simp [Addr.add]
                | (j + 2), hj => simp at hj
              case c2 => intro u hu; simp at hu; rcases hu with rfl | rfl <;> rfl
              case c3 => unfold maxLen; omega
              case c4 => omega
              case c5 => have := HU.out.2; simp only [World.size_alloc]; omega
              intro v' w3 hown2 hgr hnil
              have HO3 : Hid (∃ dn : List (Nat × Nat), dn.length = k + 1 ∧ w3.ownsRow w.heap.size 23 2 v' (k + 1) (pC dn) ∧ dn ++ runsL R n (j + 1) = L) := by
                refine ⟨dn ++ [(i, j)], by rw [List.length_append, hdl]; rfl, ?_, ?_⟩
                · rw [pC_app]; exact hown2
                · rw [← hdr, ← runsL_no HNI.out]; simp
              have HU3 : Hid (Up w.heap.size w w3) := (HU.out.alloc _).grown hgr (own_base hdo)
              clear hown2 hgr hnil HO2 hdo hdl hdr
              go_wp2
              go_roundg (n + 1 - (j + 1))
              case measure => omega
              case rel => exact ⟨j + 1, k + 1, by omega, rfl, by go_num, by omega, HO3, HU3⟩
            · obtain rfl : i = j := by omega
              have y2 : ¬ (i : Int) < (i : Int) := by omega
              have HO3 : Hid (∃ dn : List (Nat × Nat), dn.length = k ∧ wr.ownsRow w.heap.size 23 2 u3 k (pC dn) ∧ dn ++ runsL R n (i + 1) = L) := by
                obtain ⟨dn, d1, d2, d3⟩ := HO2.out
                exact ⟨dn, d1, d2, by rw [← d3, runsL_no HNI.out]⟩
              clear HO2 HY
              go_wp2_with fail
              refine c2.mono ?_
              rintro ev w1 ⟨rfl, hw1⟩
              subst w1
              clear c2
              go_wp2
              go_roundg (n + 1 - (i + 1))
              case measure => omega
              case rel => exact ⟨i + 1, k, by omega, rfl, by go_num, by omega, HO3, HU⟩
          · obtain rfl : j = n := by omega
            have y0 : ¬ (j : Int) < (j : Int) := by omega
            have y2 : (i : Int) < (j : Int) := by omega
            have HO2 : Hid (∃ dn : List (Nat × Nat), dn.length = k ∧ wr.ownsRow w.heap.size 23 2 u3 k (pC dn) ∧ dn ++ (i, j) :: runsL R j j = L) := by
              obtain ⟨dn, d1, d2, d3⟩ := HO2.out
              exact ⟨dn, d1, d2, by rw [← d3, HY.out hlt]⟩
            clear HY
            obtain ⟨dn, hdl, hdo, hdr⟩ := HO2.out
            go_wp2_with (at_builtin; refine wpList_append_own _ rfl _ _ 30 rfl w.heap.size 23 i0 _ 2 16 Tryd.underlying30 hi hz0 hz1 hz2 rfl (by decide) _ _ _ rfl (World.ownsRow.alloc hdo _) ⟨wr.heap.size, 0, none⟩ 1 1 [.int .i64 (i : Int), .int .i64 (j : Int)] rfl rfl ?c1 ?c2 ?c3 ?c4 ?c5 ?_)
            case c2 => exact ⟨rfl, rfl⟩
            case c3 => unfold maxLen; omega
            case c4 => omega
            case c5 => have := HU.out.2; omega
            intro v' w3 hown2 hgr hnil
            have HO3 : Hid (∃ dn : List (Nat × Nat), dn.length = k + 1 ∧ w3.ownsRow w.heap.size 23 2 v' (k + 1) (pC dn) ∧ dn ++ runsL R j (j + 1) = L) := by
              refine ⟨dn ++ [(i, j)], by rw [List.length_append, hdl]; rfl, ?_, ?_⟩
              · rw [pC_app]; exact hown2
              · rw [← hdr, ← runsL_no HNI.out]; simp
            have HU3 : Hid (Up w.heap.size w w3) := (HU.out.alloc _).grown hgr (own_base hdo)
            clear hown2 hgr hnil HO2 hdo hdl hdr
            go_wp2
            go_roundg (j + 1 - (j + 1))
            case measure => omega
            case rel => exact ⟨j + 1, k + 1, by omega, rfl, by go_num, by omega, HO3, HU3⟩
    · have z1 : ¬ (i : Int) < (n : Int) := by omega
      obtain ⟨dn, d1, d2, d3⟩ := HO.out
      rw [runsL_end (by omega), List.append_nil] at d3
      subst d3
      have HFn : Hid (PR wr w.heap.size u3 dn ∧ Below w.heap.size w wr) := ⟨by unfold PR; rw [d1]; exact d2, HU.out.1⟩
      clear d1 d2 HO HU
      go_wp2
      go_ret
      exact ⟨_, rfl, HFn.out.1, HFn.out.2⟩
end Go.Proofs.YtbhjkkbempnjeaaDoor
