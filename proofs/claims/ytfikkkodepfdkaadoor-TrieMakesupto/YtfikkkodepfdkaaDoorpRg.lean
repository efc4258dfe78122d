/- The reference's Right: as Make tells. -/
import Derived.Test.YtfikkkodepfdkaaDoorpUF
import Derived.Test.YtfikkkodepfdkaaDoorpkC
namespace Go.Proofs.YtfikkkodepfdkaaDoor
set_option linter.unusedVariables false
open Go.RowKit Go.ChangeShapes
theorem ucell0 (s : ByteArray) (k j : Nat) (hj : j < k) : (Lns.ucells s k)[j * 3]? = some (.int .i32 (rn s (pos s j))) := by
  induction k with
  | zero => omega
  | succ k ih =>
    rw [Lns.ucells_succ]
    have hl : ∀ k, (Lns.ucells s k).length = k * 3 := fun k => by
      induction k with
      | zero => rfl
      | succ k ih => rw [Lns.ucells_succ, List.length_append, ih]; simp; omega
    rcases Nat.lt_or_ge j k with h | h
    · rw [List.getElem?_append_left (by rw [hl]; omega)]
      exact ih h
    · obtain rfl : j = k := by omega
      rw [List.getElem?_append_right (by rw [hl]; omega), hl]
      simp
theorem bw_below (w : World) (e : TypeId) (s : ByteArray) : Below w.heap.size w (Lib.bytesWorld w e s) :=
  ⟨rfl, rfl, rfl, by rw [Lib.bytesWorld_size]; omega, fun k hk => Lib.bytesWorld_at_old w e s k hk⟩
theorem get_toList (s : ByteArray) (j : Nat) (h : j < s.size) : s.data.toList.getD j 0 = s.get! j := by
  have h' : j < s.data.size := h
  show s.data.toList.getD j 0 = s.data[j]!
  rw [getElem!_pos s.data j h', List.getD, Array.getElem?_toList, Array.getElem?_eq_getElem h', Option.getD_some]
theorem by_conv (w : World) (s : ByteArray) : Lns.By (Lib.bytesWorld w 5 s) w.heap.size 0 s := by
  intro j hj
  rw [Nat.zero_add, Lib.bytesWorld_cell w 5 s j hj, get_toList s j hj]
set_option maxHeartbeats 2000000 in
set_option maxRecDepth 100000 in
theorem right_any (w : World) (v : Value) (L : List ByteArray) (hv : TL w v L) (hL : L.length ≤ 200) :
    Calls Tryd.prog 11 #[v] w fun e w' => e = .returned (.int .i64 (makeP L).1) ∧ Below w.heap.size w w' := by
  obtain ⟨ad, c, rfl, hc⟩ := hv
  have HC : Hid (∀ (j : Nat) (s : ByteArray), L[j]? = some s → ∃ b off, ad = some ⟨b, off, none⟩ ∧ w.cell? ⟨b, off + j, none⟩ = some (.string s)) := hc
  clear hc
  obtain ⟨z, ez⟩ : ∃ z, (makeP L).1 = z := ⟨_, rfl⟩
  rw [ez]
  have HZ : Hid ((makeP L).1 = z) := ez
  generalize en : L.length = n at *
  have EN : Hid (L.length = n) := en
  clear en ez
  go_enter Tryd.func11, Tryd.ntmps11
  go_wp2
  go_loopg [3] n (fun g iv wr => ∃ (i : Nat) (a : ByteArray) (P : List PN), i ≤ n ∧ g = n - i ∧ iv = .int .i64 i ∧ Hid ((makeG i a P (L.drop i)).1 = z) ∧ Hid ((i = 0 ∧ a = ⟨#[]⟩) ∨ ∃ i', i = i' + 1 ∧ L[i']? = some a) ∧ Hid (Up w.heap.size w wr))
  case atStart => exact ⟨0, ⟨#[]⟩, [pn0], Nat.zero_le _, rfl, rfl, HZ, Or.inl ⟨rfl, rfl⟩, Up.refl w⟩
  case round =>
    obtain ⟨i, a, P, hin, hg, rfl, HM, HA, HU⟩ := hrel
    have z0 : (0 : Int) ≤ (i : Int) := by omega
    by_cases hlt : i < n
    · have z1 : (i : Int) < (n : Int) := by omega
      obtain ⟨s, hs⟩ : ∃ s, L[i]? = some s := ⟨_, List.getElem?_eq_getElem (by rw [EN.out]; exact hlt)⟩
      have hmd := makeG_drop hs i a P
      rw [hmd] at HM
      obtain ⟨b, off, rfl, hcs⟩ := HC.out i s hs
      have HS : Hid (L[i]? = some s) := hs
      have hc1 := cell_stay hcs HU.out.1
      clear hmd hs hcs
      by_cases h1 : s.size = 0
      · have he : s.toList.isEmpty = true := by rw [empty_size]; simpa using h1
        have hz5 : z = 5 := by
          have := HM.out
          have hk : chkP i s a (rs s) = 5 := by unfold chkP; rw [if_pos h1]
          rw [hk, if_neg (by decide)] at this
          exact this.symm
        subst hz5
        go_wp2
        go_ret
        exact ⟨rfl, HU.out.1⟩
      have he : s.toList.isEmpty = false := by rw [empty_size]; simpa using h1
      go_upto_region 6 with fail
      go_cut [30] (fun tv wx => tv = .bool (!lw a s) ∧ Hid (Up w.heap.size w wx))
      case first =>
        rcases HA.out with ⟨h0, ha⟩ | ⟨i', h0, ha⟩
        · subst h0 ha
          have hl : lw ⟨#[]⟩ s = true := lw_empty s (by omega)
          have hl' : (!lw ⟨#[]⟩ s) = false := by rw [hl]; rfl
          have g0 : decide ((0 : Int) < ((0 : Nat) : Int)) = false := rfl
          have HL' : Hid ((!lw ⟨#[]⟩ s) = false) := hl'
          clear hl hl'
          go_quiet (fail)
          go_wp2
          go_meet
          case rel => exact ⟨by rw [HL'.out], HU.out.drewN _⟩
        · subst h0
          obtain ⟨b', off', e', hca⟩ := HC.out i' a ha
          cases e'
          have hca1 := cell_stay hca HU.out.1
          have hle := le_lw s a
          have g0 : (0 : Int) < (i' : Int) + 1 := by omega
          have g1 : (i' : Int) + 1 - 1 = (i' : Int) := by omega
          have g2 : (i' : Int) < (n : Int) := by omega
          have g3 : (0 : Int) ≤ (i' : Int) := by omega
          have HLE : Hid ((Op.bytesLess s.toList a.toList || s.toList == a.toList) = !lw a s) := hle
          clear hca ha
          go_quiet (fail)
          go_wp2
          go_meet
          case rel => exact ⟨by first | rfl | rw [← HLE.out], HU.out.drewN _⟩
      case rest =>
        obtain ⟨rfl, HU2⟩ := hcut
        have hc2 : wc.cell? ⟨b, off + i, none⟩ = some (.string s) := by
          obtain ⟨b', off', e', hcs⟩ := HC.out i s HS.out
          cases e'
          exact cell_stay hcs HU2.out.1
        clear hc1 HU
        cases hl : lw a s with
        | false =>
          have hz8 : z = 8 := by
            have := HM.out
            have hk : chkP i s a (rs s) = 8 := by unfold chkP; rw [if_neg h1, if_pos hl]
            rw [hk, if_neg (by decide)] at this
            exact this.symm
          subst hz8
          clear hl
          go_wp2
          go_ret
          exact ⟨rfl, HU2.out.1⟩
        | true =>
          by_cases h64 : 64 < s.size
          · have y1 : (64 : Int) < (s.size : Int) := by omega
            have hz3 : z = 3 := by
              have := HM.out
              have hk : chkP i s a (rs s) = 3 := by unfold chkP; rw [if_neg h1, if_neg (by rw [hl]; decide), if_pos h64]
              rw [hk, if_neg (by decide)] at this
              exact this.symm
            subst hz3
            clear hl
            go_wp2
            go_ret
            exact ⟨rfl, HU2.out.1⟩
          have y1 : ¬ (64 : Int) < (s.size : Int) := by omega
          have y2 : ¬ (4095 : Int) < (i : Int) := by omega
          have hcv := Lib.run_convert_string_bytes (P := Tryd.prog) wc 9 43 5 s (u := .string) Tryd.underlying9 Tryd.underlying43 Tryd.underlying5
          have cu := Lns.runits_any s wc.heap.size 0 (grownCap wc s.size 0 5) (Lib.bytesWorld wc 5 s) (by omega) (grownCap_ge wc s.size 0 5) (by_conv wc s)
          have HU3 : Hid (Up w.heap.size w (Lib.bytesWorld wc 5 s)) := HU2.out.stay (bw_below wc 5 s)
          have HCK : Hid (chkP i s a (rs s) = if (-1 : Int) ∈ rs s then 5 else 0) := by
            show _ = _
            unfold chkP
            rw [if_neg h1, if_neg (by rw [hl]; decide), if_neg h64, if_neg (by omega)]
          have HLT : Hid (lw a s = true) := hl
          clear hl
          go_wp2_with fail
          refine cu.mono ?_
          rintro e wd' ⟨k, v4, rfl, hE, hO4, hb4⟩
          obtain rfl : k = kS s := (kS_is hE).symm
          have HO4 : Hid (wd'.ownsRow (Lib.bytesWorld wc 5 s).heap.size 65 3 v4 (kS s) (Lns.ucells s (kS s))) := hO4
          have HU4 : Hid (Up w.heap.size w wd') := HU3.out.stay hb4
          obtain ⟨a4, c4, rfl⟩ := own_slice hO4
          have hkl := kS_le s
          obtain ⟨kk, ekk⟩ : ∃ q, kS s = q := ⟨_, rfl⟩
          have HKK : Hid (kS s = kk) := ekk
          rw [ekk] at hkl HO4 ⊢
          clear hE hO4 hb4 cu hcv HU3 ekk
          go_wp2
          go_loopg [5] kk (fun g jv wx => ∃ j : Nat, j ≤ kk ∧ g = kk - j ∧ jv = .int .i64 j ∧ wx = wd' ∧ Hid (∀ j', j' < j → rn s (pos s j') ≠ -1))
          case atStart => exact ⟨0, Nat.zero_le _, rfl, rfl, rfl, fun j' h => absurd h (Nat.not_lt_zero j')⟩
          case round =>
            obtain ⟨j, hjn, hg2, rfl, hwx, HJ⟩ := hrel
            subst wr
            have x0 : (0 : Int) ≤ (j : Int) := by omega
            by_cases hjk : j < kk
            · have x1 : (j : Int) < (kk : Int) := by omega
              obtain ⟨g4, rfl⟩ : ∃ g4, a4 = some ⟨g4, 0, none⟩ := by
                obtain ⟨_, ⟨e1, e2⟩ | ⟨g', cap, _, e1, _⟩⟩ := HO4.out
                · omega
                · injection e1 with e1 _ _; exact ⟨g', e1⟩
              have hcj : wd'.cell? ⟨g4, j * 3, none⟩ = some (.int .i32 (rn s (pos s j))) := by
                rw [HO4.out.cellAt (j * 3) (by omega)]
                have := ucell0 s kk j hjk
                simpa using this
              have hrr := rn_range s (pos s j) ((kS_ends s).2 j (by rw [HKK.out]; exact hjk))
              obtain ⟨x, ex⟩ : ∃ x, rn s (pos s j) = x := ⟨_, rfl⟩
              rw [ex] at hcj hrr
              have HX : Hid (rn s (pos s j) = x) := ex
              have hx0 : x = -1 ∨ 0 ≤ x := by
                rcases hrr with h | h
                · exact Or.inl h
                · rw [okR_iff] at h; exact Or.inr h.1
              clear hrr ex
              rcases hx0 with hx1 | hx1
              · subst hx1
                have hz5 : z = 5 := by
                  have := HM.out
                  have hm : (-1 : Int) ∈ rs s := by
                    unfold rs rl
                    rw [List.mem_map]
                    exact ⟨j, by simp; rw [HKK.out]; exact hjk, HX.out⟩
                  rw [HCK.out, if_pos hm, if_neg (by decide)] at this
                  exact this.symm
                subst hz5
                go_wp2
                go_ret
                exact ⟨rfl, HU4.out.1⟩
              · have hx2 : ¬ x < 0 := by omega
                have HJ2 : Hid (∀ j', j' < j + 1 → rn s (pos s j') ≠ -1) := fun j' h => by
                  rcases Nat.lt_or_ge j' j with q | q
                  · exact HJ.out j' q
                  · obtain rfl : j' = j := by omega
                    rw [HX.out]; omega
                go_wp2
                go_roundg (kk - (j + 1))
                case measure => omega
                case rel => exact ⟨j + 1, by omega, rfl, by go_num, rfl, HJ2⟩
            · obtain rfl : j = kk := by omega
              have x1 : ¬ (j : Int) < (j : Int) := by omega
              have HNX : Hid ((makeG (i + 1) s (addP P (rs s)) (L.drop (i + 1))).1 = z) := by
                have := HM.out
                have hm : (-1 : Int) ∉ rs s := by
                  unfold rs rl
                  rw [List.mem_map]
                  rintro ⟨j', h1, h2⟩
                  exact HJ.out j' (by rw [← HKK.out]; simpa using h1) h2
                rw [HCK.out, if_neg hm, if_pos rfl] at this
                exact this
              go_wp2
              go_roundg (n - (i + 1))
              case measure => omega
              case rel => exact ⟨i + 1, s, addP P (rs s), by omega, rfl, by go_num, HNX, Or.inr ⟨i, rfl, HS.out⟩, HU4⟩
    · obtain rfl : i = n := by omega
      have z1 : ¬ (i : Int) < (i : Int) := by omega
      have hz0 : z = 0 := by
        have := HM.out
        rw [List.drop_of_length_le (by rw [EN.out]; exact Nat.le_refl _)] at this
        exact this.symm
      subst hz0
      go_wp2
      go_ret
      exact ⟨rfl, HU.out.1⟩
end Go.Proofs.YtfikkkodepfdkaaDoor
