/- The reference's Check. -/
import Derived.Test.YteeeekpeokgaeaaDoorPkVRnx3
namespace Go.Proofs.YteeeekpeokgaeaaDoor.Tns
set_option linter.unusedVariables false
open Go.RowKit Go.ChangeShapes
set_option maxHeartbeats 2000000 in
set_option maxRecDepth 100000 in
theorem rcheck_any (s : ByteArray) (w : World) (hs : s.size ≤ 5000) :
    Calls Tryd.prog 36 #[.string s] w fun e w' => e = .returned (.int .i64 (chk s)) ∧ Below w.heap.size w w' := by
  by_cases h64 : 64 < s.size
  · have hd : chk s = 3 := by unfold chk chkL; simp [h64]
    rw [hd]
    clear hd
    have h64' : (64 : Int) < (s.size : Int) := by omega
    go_enter Tryd.func36, Tryd.ntmps36
    go_wp2
    go_ret
    exact ⟨rfl, Below.refl _ _⟩
  · have h64' : ¬ (64 : Int) < (s.size : Int) := by omega
    have hd : chk s = bif okw false (rl s (kS s)) then 0 else 5 := by unfold chk chkL; rw [if_neg h64]
    rw [hd]
    clear hd
    have hfit : ∀ j, j < kS s → Fit (rn s (pos s j)) := fun j hj => rl_fit (kS_ends s) j hj
    obtain ⟨L, hL⟩ : ∃ L, rl s (kS s) = L := ⟨_, rfl⟩
    have hln : L.length = kS s := by rw [← hL]; simp [rl]
    have hat : ∀ j, j < kS s → L.getD j 0 = rn s (pos s j) := fun j hj => by
      have := rl_at s (kS s) j hj
      rw [hL] at this
      simp [List.getD, this]
    have c1 := rrunes_any s w (by omega)
    rw [hL]
    obtain ⟨Z, hZ⟩ : ∃ Z : Int, (bif okw false L then 0 else 5) = Z := ⟨_, rfl⟩
    rw [hZ]
    have HZ : Hid ((bif okw false L then (0 : Int) else 5) = Z) := hZ
    clear hZ
    go_enter Tryd.func36, Tryd.ntmps36
    go_wp2_with fail
    refine c1.mono ?_
    rintro e w1 ⟨k, v, rfl, he, hown, hb1⟩
    obtain rfl := kS_is he
    have HB1 : Hid (Below w.heap.size w w1) := hb1
    have hks := (kS_ends s).le
    have hcc : 0 < kS s → ∃ g c, v = .slice (some ⟨g, 0, none⟩) (kS s) c ∧ ∀ j, j < kS s → w1.cell? ⟨g, j, none⟩ = some (.int .i32 (L.getD j 0)) := fun h0 => by
      have h00 := hown
      obtain ⟨_, ⟨_, h2⟩ | ⟨g, cap, cur, rfl, hg, hh, h3⟩⟩ := hown
      · omega
      · refine ⟨g, cap, rfl, fun j hj => ?_⟩
        rw [h00.cellAt j (by omega), hat j hj]
        simp [rcells, List.getElem?_range hj]
    have hfit2 : ∀ j, j < kS s → Fit (L.getD j 0) := fun j hj => by rw [hat j hj]; exact hfit j hj
    obtain ⟨ad, cp, rfl⟩ := own_form hown
    generalize hkk : kS s = n at *
    clear hown hb1 c1 he hat hfit hL hkk
    have HA : Hid (∀ j, j < n → Fit (L.getD j 0)) := hfit2
    have HLN : Hid (L.length = n) := hln
    have HC : Hid (0 < n → ∃ g c, Value.slice ad n cp = .slice (some ⟨g, 0, none⟩) n c ∧ ∀ j, j < n → w1.cell? ⟨g, j, none⟩ = some (.int .i32 (L.getD j 0))) := hcc
    clear hfit2 hln hcc
    go_wp2
    go_loopg [4] (n) (fun g iv wr => ∃ i : Nat, i ≤ n ∧ g = n - i ∧ iv = .int .i64 i ∧ wr = w1 ∧ Hid (∀ j, j < i → good L j = true))
    case atStart => exact ⟨0, Nat.zero_le _, rfl, rfl, rfl, fun j hj => absurd hj (Nat.not_lt_zero j)⟩
    case round =>
      obtain ⟨i, hi, hg, rfl, hw, HG⟩ := hrel
      subst wr
      by_cases hlt : i < n
      · obtain ⟨g, c, hv, hcell⟩ := HC.out (by omega)
        cases hv
        have z0 : (0 : Int) ≤ (i : Int) := by omega
        have z1 : (i : Int) < (n : Int) := by omega
        have e1 := hcell i hlt
        have hf1 := HA.out i hlt
        have HCE : Hid (∀ j, j < n → w1.cell? ⟨g, j, none⟩ = some (.int .i32 (L.getD j 0))) := hcell
        clear hcell
        obtain ⟨x, hx⟩ : ∃ x, L.getD i 0 = x := ⟨_, rfl⟩
        rw [hx] at e1 hf1
        have E1 : Hid (w1.cell? ⟨g, i, none⟩ = some (.int .i32 x)) := e1
        have cl := rletter_any x hf1 w1
        cases hl : lB x
        · rw [hl] at cl
          by_cases h39 : x = 39
          · by_cases hi0 : 0 < i
            · have hi0' : (0 : Int) < (i : Int) := by omega
              by_cases hn1 : i + 1 < n
              · have hn1' : (i : Int) + 1 < (n : Int) := by omega
                obtain ⟨p, hp⟩ : ∃ p, i = p + 1 := ⟨i - 1, by omega⟩
                have hpi : (i : Int) - 1 = (p : Int) := by omega
                have ep := HCE.out p (by omega)
                have fp := HA.out p (by omega)
                have en := HCE.out (i + 1) hn1
                have fn := HA.out (i + 1) hn1
                have y0 : (0 : Int) ≤ (p : Int) := by omega
                have y1 : (p : Int) < (n : Int) := by omega
                have y2 : (0 : Int) ≤ (i : Int) + 1 := by omega
                have hpe : L.getD (i - 1) 0 = L.getD p 0 := by rw [hp]; rfl
                obtain ⟨y, hy⟩ : ∃ y, L.getD p 0 = y := ⟨_, rfl⟩
                obtain ⟨z, hz⟩ : ∃ z, L.getD (i + 1) 0 = z := ⟨_, rfl⟩
                rw [hy] at ep fp hpe
                rw [hz] at en fn
                have cy := rletter_any y fp w1
                have cz := rletter_any z fn w1
                cases hly : lB y
                · rw [hly] at cy
                  have hgd : good L i = false := by unfold good; rw [hx, hl]; rw [hpe, hly]; simp
                  have HZ2 : Hid (Z = 5) := by show _ = _; rw [← HZ.out, okw_false L i (by rw [HLN.out]; exact hlt) hgd]; rfl
                  clear hgd
                  clear hx hl hy hz hpe hly hp hi0 hn1
                  subst h39
                  go_wp2_with fail
                  refine cl.mono ?_
                  rintro e w2 ⟨rfl, hw⟩
                  subst w2
                  clear cl
                  go_wp2_with fail
                  refine cy.mono ?_
                  rintro e w2 ⟨rfl, hw⟩
                  subst w2
                  clear cy
                  go_wp2
                  go_ret
                  rw [HZ2.out]
                  exact ⟨rfl, HB1.out⟩
                · rw [hly] at cy
                  cases hlz : lB z
                  · rw [hlz] at cz
                    have hgd : good L i = false := by unfold good; rw [hx, hl]; rw [hz, hlz]; simp
                    have HZ2 : Hid (Z = 5) := by show _ = _; rw [← HZ.out, okw_false L i (by rw [HLN.out]; exact hlt) hgd]; rfl
                    clear hgd
                    clear hx hl hy hz hpe hly hlz hp hi0 hn1
                    subst h39
                    go_wp2_with fail
                    refine cl.mono ?_
                    rintro e w2 ⟨rfl, hw⟩
                    subst w2
                    clear cl
                    go_wp2_with fail
                    refine cy.mono ?_
                    rintro e w2 ⟨rfl, hw⟩
                    subst w2
                    clear cy
                    go_wp2_with fail
                    refine cz.mono ?_
                    rintro e w2 ⟨rfl, hw⟩
                    subst w2
                    clear cz
                    go_wp2
                    go_ret
                    rw [HZ2.out]
                    exact ⟨rfl, HB1.out⟩
                  · rw [hlz] at cz
                    have hgd : good L i = true := by
                      unfold good
                      rw [hx, hl, hpe, hly, hz, hlz, h39]
                      have hnn : i + 1 < L.length := by rw [HLN.out]; exact hn1
                      simp [hi0, hnn]
                    have HG2 : Hid (∀ j, j < i + 1 → good L j = true) := fun j hj => by
                      rcases Nat.lt_succ_iff_lt_or_eq.1 hj with h | h
                      · exact HG.out j h
                      · rw [h]; exact hgd
                    clear hgd hx hl hy hz hpe hly hlz hp hi0 hn1
                    subst h39
                    go_wp2_with fail
                    refine cl.mono ?_
                    rintro e w2 ⟨rfl, hw⟩
                    subst w2
                    clear cl
                    go_wp2_with fail
                    refine cy.mono ?_
                    rintro e w2 ⟨rfl, hw⟩
                    subst w2
                    clear cy
                    go_wp2_with fail
                    refine cz.mono ?_
                    rintro e w2 ⟨rfl, hw⟩
                    subst w2
                    clear cz
                    go_wp2
                    go_roundg (n - (i + 1))
                    case measure => omega
                    case rel => exact ⟨i + 1, hlt, rfl, by go_num, rfl, HG2⟩
              · have hn1' : ¬ (i : Int) + 1 < (n : Int) := by omega
                have hgd : good L i = false := by unfold good; rw [hx, hl]; have hnn : ¬ i + 1 < L.length := (by rw [HLN.out]; exact hn1); simp [hnn]
                have HZ2 : Hid (Z = 5) := by show _ = _; rw [← HZ.out, okw_false L i (by rw [HLN.out]; exact hlt) hgd]; rfl
                clear hgd
                clear hx hl hi0 hn1
                subst h39
                go_wp2_with fail
                refine cl.mono ?_
                rintro e w2 ⟨rfl, hw⟩
                subst w2
                clear cl
                go_wp2
                go_ret
                rw [HZ2.out]
                exact ⟨rfl, HB1.out⟩
            · have hi0' : ¬ (0 : Int) < (i : Int) := by omega
              have hgd : good L i = false := by unfold good; rw [hx, hl]; simp [hi0]
              have HZ2 : Hid (Z = 5) := by show _ = _; rw [← HZ.out, okw_false L i (by rw [HLN.out]; exact hlt) hgd]; rfl
              clear hgd
              clear hx hl hi0
              subst h39
              go_wp2_with fail
              refine cl.mono ?_
              rintro e w2 ⟨rfl, hw⟩
              subst w2
              clear cl
              go_wp2
              go_ret
              rw [HZ2.out]
              exact ⟨rfl, HB1.out⟩
          · have h39b : (x == 39) = false := by simpa using h39
            have hgd : good L i = false := by unfold good; rw [hx, hl]; simp [h39]
            have HZ2 : Hid (Z = 5) := by show _ = _; rw [← HZ.out, okw_false L i (by rw [HLN.out]; exact hlt) hgd]; rfl
            clear hgd
            clear hx hl
            go_wp2_with fail
            refine cl.mono ?_
            rintro e w2 ⟨rfl, hw⟩
            subst w2
            clear cl
            go_wp2
            go_ret
            rw [HZ2.out]
            exact ⟨rfl, HB1.out⟩
        · rw [hl] at cl
          have hgd : good L i = true := by unfold good; rw [hx, hl]; rfl
          have HG2 : Hid (∀ j, j < i + 1 → good L j = true) := fun j hj => by
            rcases Nat.lt_succ_iff_lt_or_eq.1 hj with h | h
            · exact HG.out j h
            · rw [h]; exact hgd
          clear hgd hx hl
          go_wp2_with fail
          refine cl.mono ?_
          rintro e w2 ⟨rfl, hw⟩
          subst w2
          clear cl
          go_wp2
          go_roundg (n - (i + 1))
          case measure => omega
          case rel => exact ⟨i + 1, hlt, rfl, by go_num, rfl, HG2⟩
      · obtain rfl : i = n := by omega
        by_cases h0 : i = 0
        · subst h0
          have HZ2 : Hid (Z = 5) := by
            show _ = _
            rw [← HZ.out, List.eq_nil_of_length_eq_zero HLN.out]; rfl
          go_wp2
          go_ret
          rw [HZ2.out]
          exact ⟨rfl, HB1.out⟩
        · have HZ2 : Hid (Z = 0) := by
            show _ = _
            rw [← HZ.out, okw_true L (by rw [HLN.out]; exact h0) (fun j hj => HG.out j (by rw [← HLN.out]; exact hj))]; rfl
          have h0' : ¬ (i : Int) = 0 := by omega
          go_wp2
          go_ret
          rw [HZ2.out]
          exact ⟨rfl, HB1.out⟩
end Go.Proofs.YteeeekpeokgaeaaDoor.Tns
