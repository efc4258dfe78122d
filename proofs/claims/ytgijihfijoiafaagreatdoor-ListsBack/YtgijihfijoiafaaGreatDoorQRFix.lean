/- The reference's Fixes, run. -/
import Derived.Test.YtgijihfijoiafaaGreatDoorQPREntRFxA
namespace Go.Proofs.YtgijihfijoiafaaGreatDoor
set_option linter.unusedVariables false
open Go.RowKit Go.ChangeShapes
open Classical in
set_option maxRecDepth 100000 in
set_option maxHeartbeats 4000000 in
theorem rfixes_run (s : ByteArray) (v : Value) (w : World) (hs : s.size ≤ 40000) (hb : Lns.BSl w v s) (hL : longL (linesL s) 0 = 0) :
    Calls Tryz.prog 19 #[v] w fun e w' => ∃ st c ln, runR fstep (linesL s) 0 ([], false) = (st, c, ln) ∧ Below w.heap.size w w' ∧ st.1.length ≤ 4096 ∧
      ((c = 0 ∧ ∃ u ys, e = .returned (.tuple #[u, .int .i64 0, .int .i64 0]) ∧ w'.ownsRow w.heap.size 49 2 u ys.length (fcells ys) ∧ (ys.map Fx.p).Perm st.1 ∧ RiseK Fx.f ys ∧ ∀ x ∈ ys, w'.ownsRow w.heap.size 9 1 x.v x.l.length (x.l.map Value.string)) ∨
       (c ≠ 0 ∧ e = .returned (.tuple #[.slice none 0 0, .int .i64 c, .int .i64 ln]))) := by
  have ct := rrows_any s v w hs hb hL
  have hnl := Lns.nL_le s
  have HL : Hid (∀ t ∈ linesL s, t.size ≤ 4096) := longL_zero _ _ hL
  obtain ⟨Z, hZ⟩ : ∃ Z, runR fstep (linesL s) 0 ([], false) = Z := ⟨_, rfl⟩
  rw [hZ]
  have HZ : Hid (runR fstep (linesL s) 0 ([], false) = Z) := hZ
  obtain ⟨vd, vc, rfl⟩ := hb.form
  obtain ⟨i0, hi, hz0, hz1, hz2⟩ := info_parts infoF
  clear hb hL hZ
  go_enter Tryz.func19, Tryz.ntmps19
  go_wp2_with fail
  refine ct.mono ?_
  rintro e w1 ⟨v1, rfl, hown, hb1⟩
  obtain ⟨g, hg, ht, hgl⟩ := tsg_own hown
  have HB : Hid (Up w.heap.size w w1) := (Up.refl w).stay hb1
  have HT : Hid (TSg w1 g v1 (Lns.nL s) (fun j => rowB (Lns.line s j))) := ht
  obtain ⟨ad, c, rfl, had⟩ := ht.form
  clear ht hown hb1 ct
  generalize hn : Lns.nL s = n at *
  have HN : Hid (Lns.nL s = n) := hn
  clear hn
  go_wp2
  go_loopg [7, 8] (n) (fun gh ov iv wr => ∃ k : Nat, ∃ st : FSt, ∃ xs : List Fx, k ≤ n ∧ gh = n - k ∧ iv = .int .i64 k ∧ Hid (RF st xs) ∧ Hid (RM w1 xs ov wr) ∧ Hid (runR fstep ((linesL s).drop k) k st = Z))
  case atStart => exact ⟨0, ([], false), [], Nat.zero_le _, rfl, rfl, ⟨List.Perm.refl _, List.Pairwise.nil, Nat.zero_le _, rfl⟩, ⟨World.ownsRow_nil _ _ _ _, (fun x hx => by cases hx), Up.refl w1⟩, HZ⟩
  case round =>
    obtain ⟨k, st, xs, hk, hgh, rfl, HW, HM, HR⟩ := hrel
    obtain ⟨wR, hwR⟩ : ∃ wR, wR = wr := ⟨_, rfl⟩
    rw [← hwR] at HM ⊢
    clear hwR
    by_cases hlt : k < n
    · obtain rfl := had (by omega)
      have z0 : (0 : Int) ≤ (k : Int) := by omega
      have z1 : (k : Int) < (n : Int) := by omega
      have hgw := hgl (by omega)
      have hc := HT.out.at (HM.out.u.1.block g hgw) k hlt
      have htl : (rowB (Lns.line s k)).size ≤ 4096 := Nat.le_trans (rowB_size _) (HL.out _ (by unfold linesL; rw [HN.out]; exact List.mem_map.2 ⟨k, List.mem_range.2 hlt, rfl⟩))
      have HR1 := HR.out
      rw [linesL_drop s k (by rw [HN.out]; exact hlt)] at HR1
      unfold runR at HR1
      (try simp only at hc)
      generalize rowB (Lns.line s k) = r at hc htl HR1
      have hol := HW.out.len
      have hst1 := HW.out.n
      by_cases hr : r.size = 0
      · rw [if_pos hr] at HR1
        have HR2 : Hid (runR fstep ((linesL s).drop (k + 1)) (k + 1) st = Z) := HR1
        clear HR HR1
        obtain rfl : r = ⟨#[]⟩ := by
          cases r with
          | mk d => congr 1; exact Array.eq_empty_of_size_eq_zero hr
        go_wp2
        go_roundg (n - (k + 1))
        case measure => omega
        case rel => exact ⟨k + 1, st, xs, hlt, rfl, by go_num, HW, HM, HR2⟩
      · rw [if_neg hr] at HR1
        have hne : r.toList.isEmpty = false := by
          cases e : r.toList.isEmpty
          · rfl
          · exfalso
            have h2 := toList_length r
            rw [List.isEmpty_iff.1 e] at h2
            exact hr h2.symm
        have ce := rentry_any r wR htl
        go_wp2_with fail
        refine ce.mono ?_
        rintro e w2 ⟨F, L, xv, cd, hent, rfl, hoL, hb2⟩
        have HM2 : Hid (RM w1 xs u7 w2) := HM.out.stay hb2
        have HOL : Hid (w2.ownsRow w1.heap.size 9 1 xv L.length (L.map Value.string)) := own_mono2 hoL HM.out.u.2
        obtain ⟨va, vc', rfl⟩ := own_form hoL
        clear ce hb2 hoL HM hc
        by_cases hcd : cd = 0
        · subst hcd
          have bx := Bk.new w2 #[.string F, .slice va L.length vc'] 49
          have hal : Below w2.heap.size w2 (w2.alloc (.cells #[.string F, .slice va L.length vc'] 49)) := (Below.refl _ _).alloc (Nat.le_refl _) _
          have HM3 : Hid (RM w1 xs u7 (w2.alloc (.cells #[.string F, .slice va L.length vc'] 49))) := HM2.out.stay hal
          have HOL3 : Hid ((w2.alloc (.cells #[.string F, .slice va L.length vc'] 49)).ownsRow w1.heap.size 9 1 (.slice va L.length vc') L.length (L.map Value.string)) := own_stay HOL.out hal
          clear hal HM2 HOL
          go_upto_region 12 with fail
          generalize w2.alloc (.cells #[.string F, .slice va L.length vc'] 49) = w3 at bx HM3 HOL3 ⊢
          generalize w2.heap.size = X at bx ⊢
          have BX0 : Hid (w3.cell? ⟨X, 0, none⟩ = some (.string F)) := bx.cell 0 rfl
          have BX1 : Hid (w3.cell? ⟨X, 1, none⟩ = some (.slice va L.length vc')) := bx.cell 1 rfl
          clear bx
          have hml := HM3.out.o
          rcases (⟨hml.1, hml.2⟩ : _ ∧ _) with ⟨_, ⟨hov, hx0⟩ | ⟨q, cap, cur, hov, hqb, hqh, hnc, hcm, _⟩⟩
          · obtain rfl : xs = [] := List.eq_nil_of_length_eq_zero hx0
            subst hov
            clear hml hx0
            have hfs : fstep st r = ((st.1 ++ [(F, L)], false), 0) := by
              have h1 : st.1 = [] := List.eq_nil_of_length_eq_zero (by rw [← hol]; rfl)
              unfold fstep
              rw [hent, if_neg (by simp), if_neg (by rw [h1]; simp), if_neg (by rw [h1]; simp)]
            rw [hfs, if_pos rfl] at HR1
            have HR2 : Hid (runR fstep ((linesL s).drop (k + 1)) (k + 1) (st.1 ++ [(F, L)], false) = Z) := HR1
            have HW2 : Hid (RF (st.1 ++ [(F, L)], false) [⟨F, L, va, vc'⟩]) := by
              have h1 : st.1 = [] := List.eq_nil_of_length_eq_zero (by rw [← hol]; rfl)
              rw [h1]
              exact ⟨List.Perm.refl _, List.pairwise_singleton _ _, by simp, rfl⟩
            clear HR1 HR hfs hol hst1 hent hr HW
            have dec : decide ((0 : Int) < 0) = false := by decide
            go_wp2_with fail
            go_loopg [11] (0) (fun gh iv wr => iv = .int .i64 0 ∧ Hid (Up w3.heap.size w3 wr))
            case atStart => exact ⟨rfl, Up.refl w3⟩
            case round =>
              obtain ⟨rfl, HU4⟩ := hrel
              obtain ⟨w4, hw4⟩ : ∃ w4, w4 = wr := ⟨_, rfl⟩
              rw [← hw4] at HU4 ⊢
              clear hw4
              go_wp2_with fail
              go_quiet (fail)
              obtain ⟨wA, hwA⟩ : ∃ wA, w4.drewN nq = wA := ⟨_, rfl⟩
              rw [hwA]
              have HUA : Hid (Up w3.heap.size w3 wA) := by rw [← hwA]; exact HU4.out.stay (Go.below_drewN (Below.refl _ _) _)
              clear hwA nq
              go_wp2_with fail
              go_quiet (fail)
              obtain ⟨wB, hwB⟩ : ∃ wB, wA.drewN nq = wB := ⟨_, rfl⟩
              rw [hwB]
              have HUB : Hid (Up w3.heap.size w3 wB) := by rw [← hwB]; exact HUA.out.stay (Go.below_drewN (Below.refl _ _) _)
              clear hwB nq
              have BB0 : Hid (wB.cell? ⟨X, 0, none⟩ = some (.string F)) := cell_keep BX0.out HUB.out.1
              have BB1 : Hid (wB.cell? ⟨X, 1, none⟩ = some (.slice va L.length vc')) := cell_keep BX1.out HUB.out.1
              have HSA : ∀ c : Nat, Hid (Srcs wB (.slice none 0 c) 0 2 (fcells [])) := fun c => ⟨rfl, Or.inl ⟨none, c, rfl, rfl⟩⟩
              go_wp2_with fail
              refine wp_region_held_drew (S := fun w' => Up wB.heap.size wB w') (by kernel_rfl) (Lns.Up.drew (Up.refl wB)) (fun hHeld => ?_)
              (try dsimp only at hHeld)
              obtain ⟨x0, hx0⟩ : ∃ x0, wB.drew = x0 := ⟨_, rfl⟩
              rw [hx0] at hHeld ⊢
              clear hx0
              refine Lns.takeH (i := 1) (v := ?_) (d := (some 82)) rfl (by kernel_rfl) (by kernel_rfl) (by kernel_rfl) rfl (fun _ _ _ h => h) (Or.inl ⟨by kernel_rfl, ?_⟩) (by assumption) ?_; rotate_left
              · (intro w hSw; (try dsimp only at hSw); first | (go_simp; done) | (go_simp; with_reducible rfl))
              (try simp only [Act.put, List.setIfInBounds_toArray, List.set_cons_zero, List.set_cons_succ])
              refine Lns.takeH (i := 2) (v := ?_) (d := (some 83)) rfl (by kernel_rfl) (by kernel_rfl) (by kernel_rfl) rfl (fun _ _ _ h => h) (Or.inl ⟨by kernel_rfl, ?_⟩) (by assumption) ?_; rotate_left
              · (intro w hSw; (try dsimp only at hSw); first | (go_simp; done) | (go_simp; with_reducible rfl))
              (try simp only [Act.put, List.setIfInBounds_toArray, List.set_cons_zero, List.set_cons_succ])
              refine Lns.takeH (i := 3) (v := ?_) (d := (some 84)) rfl (by kernel_rfl) (by kernel_rfl) (by kernel_rfl) rfl (fun _ _ _ h => h) (Or.inl ⟨by kernel_rfl, ?_⟩) (by assumption) ?_; rotate_left
              · (intro w hSw; (try dsimp only at hSw); first | (go_simp; done) | (go_simp; with_reducible rfl))
              (try simp only [Act.put, List.setIfInBounds_toArray, List.set_cons_zero, List.set_cons_succ])
              refine Lns.takeH (i := 5) (v := ?_) (d := (some 86)) rfl (by kernel_rfl) (by kernel_rfl) (by kernel_rfl) rfl (fun _ _ _ h => h) (Or.inl ⟨by kernel_rfl, ?_⟩) (by assumption) ?_; rotate_left
              · (intro w hSw; (try dsimp only at hSw); have q0 := Lns.Up.cell hSw BB0.out; have q1 := Lns.Up.cell hSw BB1.out; first | (go_simp; done) | (go_simp; with_reducible rfl))
              (try simp only [Act.put, List.setIfInBounds_toArray, List.set_cons_zero, List.set_cons_succ])
              refine Lns.takeH (i := 8) (v := ?_) (d := (some 89)) rfl (by kernel_rfl) (by kernel_rfl) (by kernel_rfl) rfl (fun _ _ _ h => h) (Or.inl ⟨by kernel_rfl, ?_⟩) (by assumption) ?_; rotate_left
              · (intro w hSw; (try dsimp only at hSw); first | (go_simp; done) | (go_simp; with_reducible rfl))
              (try simp only [Act.put, List.setIfInBounds_toArray, List.set_cons_zero, List.set_cons_succ])
              refine Lns.takeH (i := 9) (v := ?_) (d := (some 90)) rfl (by kernel_rfl) (by kernel_rfl) (by kernel_rfl) rfl (fun _ _ _ h => h) (Or.inl ⟨by kernel_rfl, ?_⟩) (by assumption) ?_; rotate_left
              · (intro w hSw; (try dsimp only at hSw); first | (go_simp; done) | (go_simp; with_reducible rfl))
              (try simp only [Act.put, List.setIfInBounds_toArray, List.set_cons_zero, List.set_cons_succ])
              refine Lns.takeH (i := 10) (v := ?_) (d := (some 91)) rfl (by kernel_rfl) (by kernel_rfl) (by kernel_rfl) rfl (fun _ _ _ h => h) (Or.inl ⟨by kernel_rfl, ?_⟩) (by assumption) ?_; rotate_left
              · (intro w hSw; (try dsimp only at hSw); first | (go_simp; done) | (go_simp; with_reducible rfl))
              (try simp only [Act.put, List.setIfInBounds_toArray, List.set_cons_zero, List.set_cons_succ])
              refine wpAnyH_ready (rs := [0, 6]) (by kernel_rfl) (by simp) (AllReadyH.cons rfl (fun K hK => ?_) (AllReadyH.cons rfl (fun K hK => ?_) AllReadyH.nil))
              · rw [if_pos (by kernel_rfl)]
                go_simp
                have O20 : Hid ((x0.alloc (.cells #[] 49)).ownsRow wB.heap.size 49 2 (.slice (some ⟨x0.heap.size, 0, none⟩) 0 0) 0 []) := World.ownsRow_lit x0 #[] 0 hHeld.2 (Nat.zero_le _) rfl
                refine hK.out _ _ (hHeld.alloc _ : Up wB.heap.size wB _) (fun hHeld => ?_)
                clear hK K
                (try dsimp only at hHeld)
                (try simp only [Act.put, List.setIfInBounds_toArray, List.set_cons_zero, List.set_cons_succ])
                obtain ⟨x1, hx1⟩ : ∃ x1, x0.alloc (.cells #[] 49) = x1 := ⟨_, rfl⟩
                rw [hx1] at hHeld O20 ⊢
                refine wpAnyH_ready (rs := [4, 6]) (by kernel_rfl) (by simp) (AllReadyH.cons rfl (fun K hK => ?_) (AllReadyH.cons rfl (fun K hK => ?_) AllReadyH.nil))
                · rw [if_pos (by kernel_rfl)]
                  refine app_src_wp (.tmp 81) (.tmp 84) 38 rfl wB.heap.size 49 i0 _ 2 40 Tryz.underlying38 hi hz0 hz1 hz2 rfl (by decide) _ _ _ rfl O20.out _ _ _ rfl ((HSA _).out.stay hHeld.1) (fcells_one _) (by unfold maxLen; omega) (by omega) hHeld.2 ?_
                  intro v24 x2 ho24 hg24
                  change K (Act.put _ (some 85) _) _
                  have O24 : Hid (x2.ownsRow wB.heap.size 49 2 v24 (0 + 0) ([] ++ fcells [])) := ho24
                  have hu24 : Up wB.heap.size wB x2 := hHeld.grown hg24 (own_base O20.out)
                  clear ho24 hg24 O20
                  refine hK.out _ _ (hu24 : Up wB.heap.size wB _) (fun hHeld => ?_)
                  clear hK K
                  (try dsimp only at hHeld)
                  (try simp only [Act.put, List.setIfInBounds_toArray, List.set_cons_zero, List.set_cons_succ])
                  clear hu24
                  refine wpAnyH_ready (rs := [6]) (by kernel_rfl) (by simp) (AllReadyH.cons rfl (fun K hK => ?_) AllReadyH.nil)
                  rw [if_pos (by kernel_rfl)]
                  go_simp
                  have S26 : Hid (Srcs (x2.alloc (.cells #[.string F, (.slice va L.length vc')] 49)) (.slice (some ⟨x2.heap.size, 0, none⟩) 1 1) 1 2 [.string F, (.slice va L.length vc')]) := srcs_new x2 #[.string F, (.slice va L.length vc')] 49 1 2 1 rfl
                  have O24' := O24.out.alloc (.cells #[.string F, (.slice va L.length vc')] 49)
                  clear O24
                  have O24 : Hid (World.ownsRow _ _ _ _ _ _ _) := O24'
                  clear O24'
                  refine hK.out _ _ (hHeld.alloc _ : Up wB.heap.size wB _) (fun hHeld => ?_)
                  clear hK K
                  (try dsimp only at hHeld)
                  (try simp only [Act.put, List.setIfInBounds_toArray, List.set_cons_zero, List.set_cons_succ])
                  obtain ⟨x3, hx3⟩ : ∃ x3, x2.alloc (.cells #[.string F, (.slice va L.length vc')] 49) = x3 := ⟨_, rfl⟩
                  rw [hx3] at hHeld O24 S26 ⊢
                  refine wpAnyH_ready (rs := [7]) (by kernel_rfl) (by simp) (AllReadyH.cons rfl (fun K hK => ?_) AllReadyH.nil)
                  rw [if_pos (by kernel_rfl)]
                  refine app_src_wp (.tmp 85) (.tmp 87) 38 rfl wB.heap.size 49 i0 _ 2 40 Tryz.underlying38 hi hz0 hz1 hz2 rfl (by decide) _ _ _ rfl O24.out _ _ _ rfl S26.out (two_one _ _ rfl rfl) (by unfold maxLen; omega) (by omega) hHeld.2 ?_
                  intro v27 y1 ho27 hg27
                  change K (Act.put _ (some 88) _) _
                  have O27 : Hid (y1.ownsRow wB.heap.size 49 2 v27 (0 + 0 + 1) ([] ++ fcells [] ++ [.string F, (.slice va L.length vc')])) := ho27
                  have hu27 : Up wB.heap.size wB y1 := hHeld.grown hg27 (own_base O24.out)
                  clear ho27 hg27 O24 S26
                  refine hK.out _ _ (hu27 : Up wB.heap.size wB _) (fun hHeld => ?_)
                  clear hK K
                  (try dsimp only at hHeld)
                  (try simp only [Act.put, List.setIfInBounds_toArray, List.set_cons_zero, List.set_cons_succ])
                  clear hu27
                  refine wpAnyH_ready (rs := [11]) (by kernel_rfl) (by simp) (AllReadyH.cons rfl (fun K hK => ?_) AllReadyH.nil)
                  rw [if_pos (by kernel_rfl)]
                  refine app_src_wp (.tmp 88) (.tmp 91) 38 rfl wB.heap.size 49 i0 _ 2 40 Tryz.underlying38 hi hz0 hz1 hz2 rfl (by decide) _ _ _ rfl O27.out _ _ _ rfl ((HSA _).out.stay hHeld.1) (fcells_one _) (by unfold maxLen; omega) (by omega) hHeld.2 ?_
                  intro v31 y2 ho31 hg31
                  change K (Act.put _ (some 92) _) _
                  have O31 : Hid (y2.ownsRow wB.heap.size 49 2 v31 (0 + 0 + 1 + (0 - 0)) ([] ++ fcells [] ++ [.string F, (.slice va L.length vc')] ++ fcells [])) := ho31
                  have hu31 : Up wB.heap.size wB y2 := hHeld.grown hg31 (own_base O27.out)
                  clear ho31 hg31 O27
                  refine hK.out _ _ (hu31 : Up wB.heap.size wB _) (fun hHeld => ?_)
                  clear hK K
                  (try dsimp only at hHeld)
                  (try simp only [Act.put, List.setIfInBounds_toArray, List.set_cons_zero, List.set_cons_succ])
                  clear hu31
                  refine Lns.takeH (i := 12) (v := ?_) (d := (some 7)) rfl (by kernel_rfl) (by kernel_rfl) (by kernel_rfl) rfl (fun _ _ _ h => h) (Or.inl ⟨by kernel_rfl, ?_⟩) (by assumption) ?_; rotate_left
                  · (intro w hSw; (try dsimp only at hSw); first | (go_simp; done) | (go_simp; with_reducible rfl))
                  (try simp only [Act.put, List.setIfInBounds_toArray, List.set_cons_zero, List.set_cons_succ])
                  refine wpAnyH_done (by kernel_rfl) ?_ _
                  have HU9 : Hid (Up wB.heap.size wB y2) := hHeld
                  clear hHeld
                  have HM9 : Hid (RM w1 [⟨F, L, va, vc'⟩] v31 y2) := by
                    have hu := HUB.out
                    have hu3 := HM3.out.u
                    refine ⟨own_mono2 (base := wB.heap.size) ?_ (Nat.le_trans hu3.2 hu.2), fun x hx => ?_, hu3.stay (hu.1.trans (HU9.out.1.mono hu.1.size))⟩
                    · simpa [fcells, Fx.v] using O31.out
                    · obtain rfl := List.mem_singleton.1 hx
                      exact own_stay (own_stay HOL3.out hu.1) HU9.out.1
                  obtain ⟨oa, oc, hof⟩ := own_form O31.out
                  subst hof
                  clear O31
                  go_wp2
                  go_roundg (n - (k + 1))
                  case measure => omega
                  case rel => exact ⟨k + 1, (st.1 ++ [(F, L)], false), [⟨F, L, va, vc'⟩], hlt, rfl, by go_num, HW2, HM9, HR2⟩
                · rw [if_pos (by kernel_rfl)]
                  go_simp
                  have S26 : Hid (Srcs (x1.alloc (.cells #[.string F, (.slice va L.length vc')] 49)) (.slice (some ⟨x1.heap.size, 0, none⟩) 1 1) 1 2 [.string F, (.slice va L.length vc')]) := srcs_new x1 #[.string F, (.slice va L.length vc')] 49 1 2 1 rfl
                  have O20' := O20.out.alloc (.cells #[.string F, (.slice va L.length vc')] 49)
                  clear O20
                  have O20 : Hid (World.ownsRow _ _ _ _ _ _ _) := O20'
                  clear O20'
                  have hne : x0.heap.size < x1.heap.size := by rw [← hx1]; simp
                  refine hK.out _ _ (hHeld.alloc _ : Up wB.heap.size wB _) (fun hHeld => ?_)
                  clear hK K
                  (try dsimp only at hHeld)
                  (try simp only [Act.put, List.setIfInBounds_toArray, List.set_cons_zero, List.set_cons_succ])
                  obtain ⟨x2, hx2⟩ : ∃ x2, x1.alloc (.cells #[.string F, (.slice va L.length vc')] 49) = x2 := ⟨_, rfl⟩
                  rw [hx2] at hHeld O20 S26 ⊢
                  refine wpAnyH_ready (rs := [4]) (by kernel_rfl) (by simp) (AllReadyH.cons rfl (fun K hK => ?_) AllReadyH.nil)
                  rw [if_pos (by kernel_rfl)]
                  refine app_src_wp (.tmp 81) (.tmp 84) 38 rfl wB.heap.size 49 i0 _ 2 40 Tryz.underlying38 hi hz0 hz1 hz2 rfl (by decide) _ _ _ rfl O20.out _ _ _ rfl ((HSA _).out.stay hHeld.1) (fcells_one _) (by unfold maxLen; omega) (by omega) hHeld.2 ?_
                  intro v24 x3 ho24 hg24
                  change K (Act.put _ (some 85) _) _
                  have O24 : Hid (x3.ownsRow wB.heap.size 49 2 v24 (0 + 0) ([] ++ fcells [])) := ho24
                  have S26' := S26.out.grown hg24 (fun e => by have e' : some x0.heap.size = some x1.heap.size := e; injection e' with e'; omega)
                  clear S26
                  have S26 : Hid (Srcs _ _ _ _ _) := S26'
                  clear S26'
                  have hu24 : Up wB.heap.size wB x3 := hHeld.grown hg24 (own_base O20.out)
                  clear ho24 hg24 O20
                  refine hK.out _ _ (hu24 : Up wB.heap.size wB _) (fun hHeld => ?_)
                  clear hK K
                  (try dsimp only at hHeld)
                  (try simp only [Act.put, List.setIfInBounds_toArray, List.set_cons_zero, List.set_cons_succ])
                  clear hu24
                  refine wpAnyH_ready (rs := [7]) (by kernel_rfl) (by simp) (AllReadyH.cons rfl (fun K hK => ?_) AllReadyH.nil)
                  rw [if_pos (by kernel_rfl)]
                  refine app_src_wp (.tmp 85) (.tmp 87) 38 rfl wB.heap.size 49 i0 _ 2 40 Tryz.underlying38 hi hz0 hz1 hz2 rfl (by decide) _ _ _ rfl O24.out _ _ _ rfl S26.out (two_one _ _ rfl rfl) (by unfold maxLen; omega) (by omega) hHeld.2 ?_
                  intro v27 y1 ho27 hg27
                  change K (Act.put _ (some 88) _) _
                  have O27 : Hid (y1.ownsRow wB.heap.size 49 2 v27 (0 + 0 + 1) ([] ++ fcells [] ++ [.string F, (.slice va L.length vc')])) := ho27
                  have hu27 : Up wB.heap.size wB y1 := hHeld.grown hg27 (own_base O24.out)
                  clear ho27 hg27 O24 S26
                  refine hK.out _ _ (hu27 : Up wB.heap.size wB _) (fun hHeld => ?_)
                  clear hK K
                  (try dsimp only at hHeld)
                  (try simp only [Act.put, List.setIfInBounds_toArray, List.set_cons_zero, List.set_cons_succ])
                  clear hu27
                  refine wpAnyH_ready (rs := [11]) (by kernel_rfl) (by simp) (AllReadyH.cons rfl (fun K hK => ?_) AllReadyH.nil)
                  rw [if_pos (by kernel_rfl)]
                  refine app_src_wp (.tmp 88) (.tmp 91) 38 rfl wB.heap.size 49 i0 _ 2 40 Tryz.underlying38 hi hz0 hz1 hz2 rfl (by decide) _ _ _ rfl O27.out _ _ _ rfl ((HSA _).out.stay hHeld.1) (fcells_one _) (by unfold maxLen; omega) (by omega) hHeld.2 ?_
                  intro v31 y2 ho31 hg31
                  change K (Act.put _ (some 92) _) _
                  have O31 : Hid (y2.ownsRow wB.heap.size 49 2 v31 (0 + 0 + 1 + (0 - 0)) ([] ++ fcells [] ++ [.string F, (.slice va L.length vc')] ++ fcells [])) := ho31
                  have hu31 : Up wB.heap.size wB y2 := hHeld.grown hg31 (own_base O27.out)
                  clear ho31 hg31 O27
                  refine hK.out _ _ (hu31 : Up wB.heap.size wB _) (fun hHeld => ?_)
                  clear hK K
                  (try dsimp only at hHeld)
                  (try simp only [Act.put, List.setIfInBounds_toArray, List.set_cons_zero, List.set_cons_succ])
                  clear hu31
                  refine Lns.takeH (i := 12) (v := ?_) (d := (some 7)) rfl (by kernel_rfl) (by kernel_rfl) (by kernel_rfl) rfl (fun _ _ _ h => h) (Or.inl ⟨by kernel_rfl, ?_⟩) (by assumption) ?_; rotate_left
                  · (intro w hSw; (try dsimp only at hSw); first | (go_simp; done) | (go_simp; with_reducible rfl))
                  (try simp only [Act.put, List.setIfInBounds_toArray, List.set_cons_zero, List.set_cons_succ])
                  refine wpAnyH_done (by kernel_rfl) ?_ _
                  have HU9 : Hid (Up wB.heap.size wB y2) := hHeld
                  clear hHeld
                  have HM9 : Hid (RM w1 [⟨F, L, va, vc'⟩] v31 y2) := by
                    have hu := HUB.out
                    have hu3 := HM3.out.u
                    refine ⟨own_mono2 (base := wB.heap.size) ?_ (Nat.le_trans hu3.2 hu.2), fun x hx => ?_, hu3.stay (hu.1.trans (HU9.out.1.mono hu.1.size))⟩
                    · simpa [fcells, Fx.v] using O31.out
                    · obtain rfl := List.mem_singleton.1 hx
                      exact own_stay (own_stay HOL3.out hu.1) HU9.out.1
                  obtain ⟨oa, oc, hof⟩ := own_form O31.out
                  subst hof
                  clear O31
                  go_wp2
                  go_roundg (n - (k + 1))
                  case measure => omega
                  case rel => exact ⟨k + 1, (st.1 ++ [(F, L)], false), [⟨F, L, va, vc'⟩], hlt, rfl, by go_num, HW2, HM9, HR2⟩
              · rw [if_pos (by kernel_rfl)]
                go_simp
                have S26 : Hid (Srcs (x0.alloc (.cells #[.string F, (.slice va L.length vc')] 49)) (.slice (some ⟨x0.heap.size, 0, none⟩) 1 1) 1 2 [.string F, (.slice va L.length vc')]) := srcs_new x0 #[.string F, (.slice va L.length vc')] 49 1 2 1 rfl
                refine hK.out _ _ (hHeld.alloc _ : Up wB.heap.size wB _) (fun hHeld => ?_)
                clear hK K
                (try dsimp only at hHeld)
                (try simp only [Act.put, List.setIfInBounds_toArray, List.set_cons_zero, List.set_cons_succ])
                obtain ⟨x1, hx1⟩ : ∃ x1, x0.alloc (.cells #[.string F, (.slice va L.length vc')] 49) = x1 := ⟨_, rfl⟩
                rw [hx1] at hHeld S26 ⊢
                refine wpAnyH_ready (rs := [0]) (by kernel_rfl) (by simp) (AllReadyH.cons rfl (fun K hK => ?_) AllReadyH.nil)
                rw [if_pos (by kernel_rfl)]
                go_simp
                have O20 : Hid ((x1.alloc (.cells #[] 49)).ownsRow wB.heap.size 49 2 (.slice (some ⟨x1.heap.size, 0, none⟩) 0 0) 0 []) := World.ownsRow_lit x1 #[] 0 hHeld.2 (Nat.zero_le _) rfl
                have S26' := S26.out.stay ((Below.refl _ _).alloc (Nat.le_refl _) (.cells #[] 49))
                clear S26
                have S26 : Hid (Srcs _ _ _ _ _) := S26'
                clear S26'
                have hne : x0.heap.size < x1.heap.size := by rw [← hx1]; simp
                refine hK.out _ _ (hHeld.alloc _ : Up wB.heap.size wB _) (fun hHeld => ?_)
                clear hK K
                (try dsimp only at hHeld)
                (try simp only [Act.put, List.setIfInBounds_toArray, List.set_cons_zero, List.set_cons_succ])
                obtain ⟨x2, hx2⟩ : ∃ x2, x1.alloc (.cells #[] 49) = x2 := ⟨_, rfl⟩
                rw [hx2] at hHeld O20 S26 ⊢
                refine wpAnyH_ready (rs := [4]) (by kernel_rfl) (by simp) (AllReadyH.cons rfl (fun K hK => ?_) AllReadyH.nil)
                rw [if_pos (by kernel_rfl)]
                refine app_src_wp (.tmp 81) (.tmp 84) 38 rfl wB.heap.size 49 i0 _ 2 40 Tryz.underlying38 hi hz0 hz1 hz2 rfl (by decide) _ _ _ rfl O20.out _ _ _ rfl ((HSA _).out.stay hHeld.1) (fcells_one _) (by unfold maxLen; omega) (by omega) hHeld.2 ?_
                intro v24 x3 ho24 hg24
                change K (Act.put _ (some 85) _) _
                have O24 : Hid (x3.ownsRow wB.heap.size 49 2 v24 (0 + 0) ([] ++ fcells [])) := ho24
                have S26' := S26.out.grown hg24 (fun e => by have e' : some x1.heap.size = some x0.heap.size := e; injection e' with e'; omega)
                clear S26
                have S26 : Hid (Srcs _ _ _ _ _) := S26'
                clear S26'
                have hu24 : Up wB.heap.size wB x3 := hHeld.grown hg24 (own_base O20.out)
                clear ho24 hg24 O20
                refine hK.out _ _ (hu24 : Up wB.heap.size wB _) (fun hHeld => ?_)
                clear hK K
                (try dsimp only at hHeld)
                (try simp only [Act.put, List.setIfInBounds_toArray, List.set_cons_zero, List.set_cons_succ])
                clear hu24
                refine wpAnyH_ready (rs := [7]) (by kernel_rfl) (by simp) (AllReadyH.cons rfl (fun K hK => ?_) AllReadyH.nil)
                rw [if_pos (by kernel_rfl)]
                refine app_src_wp (.tmp 85) (.tmp 87) 38 rfl wB.heap.size 49 i0 _ 2 40 Tryz.underlying38 hi hz0 hz1 hz2 rfl (by decide) _ _ _ rfl O24.out _ _ _ rfl S26.out (two_one _ _ rfl rfl) (by unfold maxLen; omega) (by omega) hHeld.2 ?_
                intro v27 y1 ho27 hg27
                change K (Act.put _ (some 88) _) _
                have O27 : Hid (y1.ownsRow wB.heap.size 49 2 v27 (0 + 0 + 1) ([] ++ fcells [] ++ [.string F, (.slice va L.length vc')])) := ho27
                have hu27 : Up wB.heap.size wB y1 := hHeld.grown hg27 (own_base O24.out)
                clear ho27 hg27 O24 S26
                refine hK.out _ _ (hu27 : Up wB.heap.size wB _) (fun hHeld => ?_)
                clear hK K
                (try dsimp only at hHeld)
                (try simp only [Act.put, List.setIfInBounds_toArray, List.set_cons_zero, List.set_cons_succ])
                clear hu27
                refine wpAnyH_ready (rs := [11]) (by kernel_rfl) (by simp) (AllReadyH.cons rfl (fun K hK => ?_) AllReadyH.nil)
                rw [if_pos (by kernel_rfl)]
                refine app_src_wp (.tmp 88) (.tmp 91) 38 rfl wB.heap.size 49 i0 _ 2 40 Tryz.underlying38 hi hz0 hz1 hz2 rfl (by decide) _ _ _ rfl O27.out _ _ _ rfl ((HSA _).out.stay hHeld.1) (fcells_one _) (by unfold maxLen; omega) (by omega) hHeld.2 ?_
                intro v31 y2 ho31 hg31
                change K (Act.put _ (some 92) _) _
                have O31 : Hid (y2.ownsRow wB.heap.size 49 2 v31 (0 + 0 + 1 + (0 - 0)) ([] ++ fcells [] ++ [.string F, (.slice va L.length vc')] ++ fcells [])) := ho31
                have hu31 : Up wB.heap.size wB y2 := hHeld.grown hg31 (own_base O27.out)
                clear ho31 hg31 O27
                refine hK.out _ _ (hu31 : Up wB.heap.size wB _) (fun hHeld => ?_)
                clear hK K
                (try dsimp only at hHeld)
                (try simp only [Act.put, List.setIfInBounds_toArray, List.set_cons_zero, List.set_cons_succ])
                clear hu31
                refine Lns.takeH (i := 12) (v := ?_) (d := (some 7)) rfl (by kernel_rfl) (by kernel_rfl) (by kernel_rfl) rfl (fun _ _ _ h => h) (Or.inl ⟨by kernel_rfl, ?_⟩) (by assumption) ?_; rotate_left
                · (intro w hSw; (try dsimp only at hSw); first | (go_simp; done) | (go_simp; with_reducible rfl))
                (try simp only [Act.put, List.setIfInBounds_toArray, List.set_cons_zero, List.set_cons_succ])
                refine wpAnyH_done (by kernel_rfl) ?_ _
                have HU9 : Hid (Up wB.heap.size wB y2) := hHeld
                clear hHeld
                have HM9 : Hid (RM w1 [⟨F, L, va, vc'⟩] v31 y2) := by
                  have hu := HUB.out
                  have hu3 := HM3.out.u
                  refine ⟨own_mono2 (base := wB.heap.size) ?_ (Nat.le_trans hu3.2 hu.2), fun x hx => ?_, hu3.stay (hu.1.trans (HU9.out.1.mono hu.1.size))⟩
                  · simpa [fcells, Fx.v] using O31.out
                  · obtain rfl := List.mem_singleton.1 hx
                    exact own_stay (own_stay HOL3.out hu.1) HU9.out.1
                obtain ⟨oa, oc, hof⟩ := own_form O31.out
                subst hof
                clear O31
                go_wp2
                go_roundg (n - (k + 1))
                case measure => omega
                case rel => exact ⟨k + 1, (st.1 ++ [(F, L)], false), [⟨F, L, va, vc'⟩], hlt, rfl, by go_num, HW2, HM9, HR2⟩
          · obtain ⟨m, hm⟩ : ∃ m, xs.length = m := ⟨_, rfl⟩
            have HLM : Hid (xs.length = m) := hm
            have HQC : Hid (∀ j, (hj : j < xs.length) → w3.cell? ⟨q, j * 2, none⟩ = some (.string xs[j].f) ∧ w3.cell? ⟨q, j * 2 + 1, none⟩ = some xs[j].v) := fun j hj => by
              rw [hov] at hml
              exact fx_cells hml j hj
            have hm4 : m ≤ 4096 := by omega
            rw [hm] at hov hnc
            subst hov
            clear hml hcm hqh hqb
            have HRISE : Hid (RiseK Fx.f xs) := HW.out.r
            go_wp2_with fail
            go_loopg [11] (m) (fun gh iv wr => ∃ i : Nat, i ≤ m ∧ gh = m - i ∧ iv = .int .i64 i ∧ Hid (Up w3.heap.size w3 wr) ∧ Hid (∀ j, (hj : j < xs.length) → j < i → lw xs[j].f F = true))
            case atStart => exact ⟨0, Nat.zero_le _, rfl, rfl, Up.refl w3, fun j _ hj => absurd hj (Nat.not_lt_zero j)⟩
            case round =>
              obtain ⟨i, him, hgi, rfl, HU4, HJ⟩ := hrel
              obtain ⟨w4, hw4⟩ : ∃ w4, w4 = wr := ⟨_, rfl⟩
              rw [← hw4] at HU4 ⊢
              clear hw4
              have hlen := HLM.out
              have y0 : (0 : Int) ≤ (i : Int) := by omega
              by_cases hgo : ∃ hlt : i < xs.length, lw xs[i].f F = true
              · obtain ⟨hlx, hq⟩ := hgo
                have y1 : (i : Int) < (m : Int) := by omega
                have hd : decide ((i : Int) < (m : Int)) = true := by simpa using y1
                have hcx := cell_keep (HQC.out i hlx).1 HU4.out.1
                have HJ2 : Hid (∀ j, (hj : j < xs.length) → j < i + 1 → lw xs[j].f F = true) := fun j hj hl => by
                  rcases Nat.lt_succ_iff_lt_or_eq.1 hl with h | h
                  · exact HJ.out j hj h
                  · subst h; exact hq
                rw [← lw_less] at hq
                generalize xs[i].f = xf at hcx hq
                have him2 : i < m := by omega
                clear hlx
                have c40 := cell_keep BX0.out HU4.out.1
                have c41 := cell_keep BX1.out HU4.out.1
                go_wp2_with fail
                go_quiet (fail)
                go_wp2
                go_roundg (m - (i + 1))
                case measure => omega
                case rel => exact ⟨i + 1, by omega, rfl, by go_num, HU4.out.stay (Go.below_drewN (Below.refl _ _) _), HJ2⟩
              · have hno : ∀ hi : i < xs.length, lw xs[i].f F = false := fun hi => by
                  cases hc : lw xs[i].f F with
                  | false => rfl
                  | true => exact absurd ⟨hi, hc⟩ hgo
                have HPS := fx_split xs ⟨F, L, va, vc'⟩ i HJ.out (by omega) hno
                have y2 : (i : Int) ≤ (cap : Int) := by omega
                have y3 : (m : Int) ≤ (cap : Int) := by omega
                have y4 : (i : Int) ≤ (m : Int) := by omega
                have HNI := fx_find HRISE.out HJ.out hno
                clear hgo
                by_cases hlx : i < xs.length
                · have y1 : (i : Int) < (m : Int) := by omega
                  have hd : decide ((i : Int) < (m : Int)) = true := by simpa using y1
                  have hq := hno hlx
                  have hqe : xs[i].f = F ∨ xs[i].f ≠ F := Classical.em _
                  have HCX : Hid (w3.cell? ⟨q, i * 2, none⟩ = some (.string xs[i].f)) := (HQC.out i hlx).1
                  have HEQ : Hid (xs[i].f = F → F ∈ st.1.map Prod.fst) := fun e => (HW.out.mem F).2 (by rw [← e]; exact List.mem_map.2 ⟨xs[i], List.getElem_mem hlx, rfl⟩)
                  have HNE : Hid (xs[i].f ≠ F → F ∉ xs.map Fx.f) := fun h => HNI (fun _ => h)
                  rw [← lw_less] at hq
                  generalize xs[i].f = xf at HCX hq hqe HEQ HNE
                  clear HNI hno hlx
                  have hcx := cell_keep HCX.out HU4.out.1
                  have c40 := cell_keep BX0.out HU4.out.1
                  have c41 := cell_keep BX1.out HU4.out.1
                  go_wp2_with fail
                  go_quiet (fail)
                  obtain ⟨wA, hwA⟩ : ∃ wA, w4.drewN nq = wA := ⟨_, rfl⟩
                  rw [hwA]
                  have HUA : Hid (Up w3.heap.size w3 wA) := by rw [← hwA]; exact HU4.out.stay (Go.below_drewN (Below.refl _ _) _)
                  clear hwA nq
                  clear hcx c40 c41
                  have hcx := cell_keep HCX.out HUA.out.1
                  have cA0 := cell_keep BX0.out HUA.out.1
                  have cA1 := cell_keep BX1.out HUA.out.1
                  rcases hqe with hqe | hqe
                  · have hfs : fstep st r = (st, 6) := by unfold fstep; rw [hent, if_neg (by simp), if_pos (HEQ.out hqe)]
                    rw [hfs, if_neg (by show ¬ (6 : Int) = 0; decide)] at HR1
                    have HR2 : Hid ((st, (6 : Int), k + 1) = Z) := HR1
                    clear HR1 hfs HEQ HNE
                    subst hqe
                    go_wp2_with fail
                    go_quiet (fail)
                    obtain ⟨wB, hwB⟩ : ∃ wB, wA.drewN nq = wB := ⟨_, rfl⟩
                    rw [hwB]
                    have HUB : Hid (Up w3.heap.size w3 wB) := by rw [← hwB]; exact HUA.out.stay (Go.below_drewN (Below.refl _ _) _)
                    clear hwB nq
                    have HUE : Hid (Up w1.heap.size w1 wB) := HM3.out.u.stay HUB.out.1
                    go_wp2
                    go_ret3
                    exact ⟨st, 6, k + 1, HR2.out.symm, (HB.out.stay HUE.out.1).1, hst1, Or.inr ⟨by decide, by go_num⟩⟩
                  · have hqf : (xf.toList == F.toList) = false := by
                      cases h : xf.toList == F.toList
                      · rfl
                      · exact absurd (Lns.toList_inj (eq_of_beq h)) hqe
                    have HNI' := HNE.out hqe
                    go_wp2_with fail
                    go_quiet (fail)
                    obtain ⟨wB, hwB⟩ : ∃ wB, wA.drewN nq = wB := ⟨_, rfl⟩
                    rw [hwB]
                    have HUB : Hid (Up w3.heap.size w3 wB) := by rw [← hwB]; exact HUA.out.stay (Go.below_drewN (Below.refl _ _) _)
                    clear hwB nq
                    have hnin : F ∉ st.1.map Prod.fst := fun h => HNI' ((HW.out.mem F).1 h)
                    by_cases h40 : m = 4096
                    · have hfs : fstep st r = ((st.1, true), 4) := by unfold fstep; rw [hent, if_neg (by simp), if_neg hnin, if_pos (by omega)]
                      rw [hfs, if_neg (by show ¬ (4 : Int) = 0; decide)] at HR1
                      have HR2 : Hid (((st.1, true), (4 : Int), k + 1) = Z) := HR1
                      subst h40
                      have HUE : Hid (Up w1.heap.size w1 wB) := HM3.out.u.stay HUB.out.1
                      go_wp2
                      go_ret3
                      first
                        | exact ⟨(st.1, true), 4, k + 1, HR2.out.symm, (HB.out.stay HUE.out.1).1, hst1, Or.inr ⟨by decide, by go_num⟩⟩
                        | exact ⟨st.1, Or.inr ⟨4, k + 1, HR2.out.symm, (HB.out.stay HUE.out.1).1, hst1, Or.inr ⟨by decide, by go_num⟩⟩⟩
                    · have hfs : fstep st r = ((st.1 ++ [(F, L)], false), 0) := by unfold fstep; rw [hent, if_neg (by simp), if_neg hnin, if_neg (by omega)]
                      rw [hfs, if_pos rfl] at HR1
                      have HR2 : Hid (runR fstep ((linesL s).drop (k + 1)) (k + 1) (st.1 ++ [(F, L)], false) = Z) := HR1
                      have hpp := putK_perm Fx.f xs ⟨F, L, va, vc'⟩
                      have hpr := putK_rise Fx.f xs ⟨F, L, va, vc'⟩ HW.out.r HNI'
                      rw [HPS] at hpp hpr
                      have HW2 : Hid (RF (st.1 ++ [(F, L)], false) (xs.take i ++ ⟨F, L, va, vc'⟩ :: xs.drop i)) := by
                        refine ⟨?_, hpr, by simp; omega, rfl⟩
                        exact (hpp.map Fx.p).trans ((List.Perm.cons _ HW.out.p).trans (List.perm_append_singleton _ _).symm)
                      have HMX : Hid (∀ x ∈ xs.take i ++ ⟨F, L, va, vc'⟩ :: xs.drop i, x = ⟨F, L, va, vc'⟩ ∨ x ∈ xs) := fun x hx => List.mem_cons.1 (hpp.mem_iff.1 hx)
                      have h40' : ¬ (m : Int) = 4096 := by omega
                      have BB0 : Hid (wB.cell? ⟨X, 0, none⟩ = some (.string F)) := cell_keep BX0.out HUB.out.1
                      have BB1 : Hid (wB.cell? ⟨X, 1, none⟩ = some (.slice va L.length vc')) := cell_keep BX1.out HUB.out.1
                      have HQB : Hid (∀ j, (hj : j < xs.length) → wB.cell? ⟨q, j * 2, none⟩ = some (.string xs[j].f) ∧ wB.cell? ⟨q, j * 2 + 1, none⟩ = some xs[j].v) := fun j hj => ⟨cell_keep (HQC.out j hj).1 HUB.out.1, cell_keep (HQC.out j hj).2 HUB.out.1⟩
                      have HSA : ∀ c, Hid (Srcs wB (.slice (some ⟨q, 0, none⟩) i c) i 2 (fcells (xs.take i))) := fun c => by
                        have := fx_part (i := 0) (c := c) HQB.out (M := xs.take i) (m := i) (by simp; omega) (fun j x hx => by
                          rw [Nat.zero_add]
                          rw [List.getElem?_take] at hx
                          split at hx
                          · exact hx
                          · cases hx)
                        rw [Nat.zero_mul] at this
                        exact this
                      have HSB : ∀ c, Hid (Srcs wB (.slice (if cap = i then some ⟨q, 0, none⟩ else some ⟨q, i * 2, none⟩) (m - i) c) (m - i) 2 (fcells (xs.drop i))) := fun c => by
                        show Srcs _ _ _ _ _
                        split
                        · exact ⟨by rw [fcells_len2]; simp; omega, Or.inl ⟨_, c, by rw [show m - i = 0 by omega], by omega⟩⟩
                        · exact fx_part HQB.out (by simp; omega) (fun j x hx => by rw [List.getElem?_drop] at hx; exact hx)
                      clear hfs HR1 HR hnin HNI' hpp hpr h40 hent HW HQB
                      go_wp2_with fail
                      refine wp_region_held_drew (S := fun w' => Up wB.heap.size wB w') (by kernel_rfl) (Lns.Up.drew (Up.refl wB)) (fun hHeld => ?_)
                      (try dsimp only at hHeld)
                      obtain ⟨x0, hx0⟩ : ∃ x0, wB.drew = x0 := ⟨_, rfl⟩
                      rw [hx0] at hHeld ⊢
                      clear hx0
                      refine Lns.takeH (i := 1) (v := ?_) (d := (some 82)) rfl (by kernel_rfl) (by kernel_rfl) (by kernel_rfl) rfl (fun _ _ _ h => h) (Or.inl ⟨by kernel_rfl, ?_⟩) (by assumption) ?_; rotate_left
                      · (intro w hSw; (try dsimp only at hSw); first | (go_simp; done) | (go_simp; with_reducible rfl))
                      (try simp only [Act.put, List.setIfInBounds_toArray, List.set_cons_zero, List.set_cons_succ])
                      refine Lns.takeH (i := 2) (v := ?_) (d := (some 83)) rfl (by kernel_rfl) (by kernel_rfl) (by kernel_rfl) rfl (fun _ _ _ h => h) (Or.inl ⟨by kernel_rfl, ?_⟩) (by assumption) ?_; rotate_left
                      · (intro w hSw; (try dsimp only at hSw); first | (go_simp; done) | (go_simp; with_reducible rfl))
                      (try simp only [Act.put, List.setIfInBounds_toArray, List.set_cons_zero, List.set_cons_succ])
                      refine Lns.takeH (i := 3) (v := ?_) (d := (some 84)) rfl (by kernel_rfl) (by kernel_rfl) (by kernel_rfl) rfl (fun _ _ _ h => h) (Or.inl ⟨by kernel_rfl, ?_⟩) (by assumption) ?_; rotate_left
                      · (intro w hSw; (try dsimp only at hSw); first | (go_simp; done) | (go_simp; with_reducible rfl))
                      (try simp only [Act.put, List.setIfInBounds_toArray, List.set_cons_zero, List.set_cons_succ])
                      refine Lns.takeH (i := 5) (v := ?_) (d := (some 86)) rfl (by kernel_rfl) (by kernel_rfl) (by kernel_rfl) rfl (fun _ _ _ h => h) (Or.inl ⟨by kernel_rfl, ?_⟩) (by assumption) ?_; rotate_left
                      · (intro w hSw; (try dsimp only at hSw); have q0 := Lns.Up.cell hSw BB0.out; have q1 := Lns.Up.cell hSw BB1.out; first | (go_simp; done) | (go_simp; with_reducible rfl))
                      (try simp only [Act.put, List.setIfInBounds_toArray, List.set_cons_zero, List.set_cons_succ])
                      refine Lns.takeH (i := 8) (v := ?_) (d := (some 89)) rfl (by kernel_rfl) (by kernel_rfl) (by kernel_rfl) rfl (fun _ _ _ h => h) (Or.inl ⟨by kernel_rfl, ?_⟩) (by assumption) ?_; rotate_left
                      · (intro w hSw; (try dsimp only at hSw); first | (go_simp; done) | (go_simp; with_reducible rfl))
                      (try simp only [Act.put, List.setIfInBounds_toArray, List.set_cons_zero, List.set_cons_succ])
                      refine Lns.takeH (i := 9) (v := ?_) (d := (some 90)) rfl (by kernel_rfl) (by kernel_rfl) (by kernel_rfl) rfl (fun _ _ _ h => h) (Or.inl ⟨by kernel_rfl, ?_⟩) (by assumption) ?_; rotate_left
                      · (intro w hSw; (try dsimp only at hSw); first | (go_simp; done) | (go_simp; with_reducible rfl))
                      (try simp only [Act.put, List.setIfInBounds_toArray, List.set_cons_zero, List.set_cons_succ])
                      refine Lns.takeH (i := 10) (v := ?_) (d := (some 91)) rfl (by kernel_rfl) (by kernel_rfl) (by kernel_rfl) rfl (fun _ _ _ h => h) (Or.inl ⟨by kernel_rfl, ?_⟩) (by assumption) ?_; rotate_left
                      · (intro w hSw; (try dsimp only at hSw); first | (go_simp; done) | (go_simp; with_reducible rfl))
                      (try simp only [Act.put, List.setIfInBounds_toArray, List.set_cons_zero, List.set_cons_succ])
                      refine wpAnyH_ready (rs := [0, 6]) (by kernel_rfl) (by simp) (AllReadyH.cons rfl (fun K hK => ?_) (AllReadyH.cons rfl (fun K hK => ?_) AllReadyH.nil))
                      · rw [if_pos (by kernel_rfl)]
                        go_simp
                        have O20 : Hid ((x0.alloc (.cells #[] 49)).ownsRow wB.heap.size 49 2 (.slice (some ⟨x0.heap.size, 0, none⟩) 0 0) 0 []) := World.ownsRow_lit x0 #[] 0 hHeld.2 (Nat.zero_le _) rfl
                        refine hK.out _ _ (hHeld.alloc _ : Up wB.heap.size wB _) (fun hHeld => ?_)
                        clear hK K
                        (try dsimp only at hHeld)
                        (try simp only [Act.put, List.setIfInBounds_toArray, List.set_cons_zero, List.set_cons_succ])
                        obtain ⟨x1, hx1⟩ : ∃ x1, x0.alloc (.cells #[] 49) = x1 := ⟨_, rfl⟩
                        rw [hx1] at hHeld O20 ⊢
                        refine wpAnyH_ready (rs := [4, 6]) (by kernel_rfl) (by simp) (AllReadyH.cons rfl (fun K hK => ?_) (AllReadyH.cons rfl (fun K hK => ?_) AllReadyH.nil))
                        · rw [if_pos (by kernel_rfl)]
                          refine app_src_wp (.tmp 81) (.tmp 84) 38 rfl wB.heap.size 49 i0 _ 2 40 Tryz.underlying38 hi hz0 hz1 hz2 rfl (by decide) _ _ _ rfl O20.out _ _ _ rfl ((HSA _).out.stay hHeld.1) (fcells_one _) (by unfold maxLen; omega) (by omega) hHeld.2 ?_
                          intro v24 x2 ho24 hg24
                          change K (Act.put _ (some 85) _) _
                          have O24 : Hid (x2.ownsRow wB.heap.size 49 2 v24 (0 + i) ([] ++ fcells (xs.take i))) := ho24
                          have hu24 : Up wB.heap.size wB x2 := hHeld.grown hg24 (own_base O20.out)
                          clear ho24 hg24 O20
                          refine hK.out _ _ (hu24 : Up wB.heap.size wB _) (fun hHeld => ?_)
                          clear hK K
                          (try dsimp only at hHeld)
                          (try simp only [Act.put, List.setIfInBounds_toArray, List.set_cons_zero, List.set_cons_succ])
                          clear hu24
                          refine wpAnyH_ready (rs := [6]) (by kernel_rfl) (by simp) (AllReadyH.cons rfl (fun K hK => ?_) AllReadyH.nil)
                          rw [if_pos (by kernel_rfl)]
                          go_simp
                          have S26 : Hid (Srcs (x2.alloc (.cells #[.string F, (.slice va L.length vc')] 49)) (.slice (some ⟨x2.heap.size, 0, none⟩) 1 1) 1 2 [.string F, (.slice va L.length vc')]) := srcs_new x2 #[.string F, (.slice va L.length vc')] 49 1 2 1 rfl
                          have O24' := O24.out.alloc (.cells #[.string F, (.slice va L.length vc')] 49)
                          clear O24
                          have O24 : Hid (World.ownsRow _ _ _ _ _ _ _) := O24'
                          clear O24'
                          refine hK.out _ _ (hHeld.alloc _ : Up wB.heap.size wB _) (fun hHeld => ?_)
                          clear hK K
                          (try dsimp only at hHeld)
                          (try simp only [Act.put, List.setIfInBounds_toArray, List.set_cons_zero, List.set_cons_succ])
                          obtain ⟨x3, hx3⟩ : ∃ x3, x2.alloc (.cells #[.string F, (.slice va L.length vc')] 49) = x3 := ⟨_, rfl⟩
                          rw [hx3] at hHeld O24 S26 ⊢
                          refine wpAnyH_ready (rs := [7]) (by kernel_rfl) (by simp) (AllReadyH.cons rfl (fun K hK => ?_) AllReadyH.nil)
                          rw [if_pos (by kernel_rfl)]
                          refine app_src_wp (.tmp 85) (.tmp 87) 38 rfl wB.heap.size 49 i0 _ 2 40 Tryz.underlying38 hi hz0 hz1 hz2 rfl (by decide) _ _ _ rfl O24.out _ _ _ rfl S26.out (two_one _ _ rfl rfl) (by unfold maxLen; omega) (by omega) hHeld.2 ?_
                          intro v27 y1 ho27 hg27
                          change K (Act.put _ (some 88) _) _
                          have O27 : Hid (y1.ownsRow wB.heap.size 49 2 v27 (0 + i + 1) ([] ++ fcells (xs.take i) ++ [.string F, (.slice va L.length vc')])) := ho27
                          have hu27 : Up wB.heap.size wB y1 := hHeld.grown hg27 (own_base O24.out)
                          clear ho27 hg27 O24 S26
                          refine hK.out _ _ (hu27 : Up wB.heap.size wB _) (fun hHeld => ?_)
                          clear hK K
                          (try dsimp only at hHeld)
                          (try simp only [Act.put, List.setIfInBounds_toArray, List.set_cons_zero, List.set_cons_succ])
                          clear hu27
                          refine wpAnyH_ready (rs := [11]) (by kernel_rfl) (by simp) (AllReadyH.cons rfl (fun K hK => ?_) AllReadyH.nil)
                          rw [if_pos (by kernel_rfl)]
                          refine app_src_wp (.tmp 88) (.tmp 91) 38 rfl wB.heap.size 49 i0 _ 2 40 Tryz.underlying38 hi hz0 hz1 hz2 rfl (by decide) _ _ _ rfl O27.out _ _ _ rfl ((HSB _).out.stay hHeld.1) (fcells_one _) (by unfold maxLen; omega) (by omega) hHeld.2 ?_
                          intro v31 y2 ho31 hg31
                          change K (Act.put _ (some 92) _) _
                          have O31 : Hid (y2.ownsRow wB.heap.size 49 2 v31 (0 + i + 1 + (m - i)) ([] ++ fcells (xs.take i) ++ [.string F, (.slice va L.length vc')] ++ fcells (xs.drop i))) := ho31
                          have hu31 : Up wB.heap.size wB y2 := hHeld.grown hg31 (own_base O27.out)
                          clear ho31 hg31 O27
                          refine hK.out _ _ (hu31 : Up wB.heap.size wB _) (fun hHeld => ?_)
                          clear hK K
                          (try dsimp only at hHeld)
                          (try simp only [Act.put, List.setIfInBounds_toArray, List.set_cons_zero, List.set_cons_succ])
                          clear hu31
                          refine Lns.takeH (i := 12) (v := ?_) (d := (some 7)) rfl (by kernel_rfl) (by kernel_rfl) (by kernel_rfl) rfl (fun _ _ _ h => h) (Or.inl ⟨by kernel_rfl, ?_⟩) (by assumption) ?_; rotate_left
                          · (intro w hSw; (try dsimp only at hSw); first | (go_simp; done) | (go_simp; with_reducible rfl))
                          (try simp only [Act.put, List.setIfInBounds_toArray, List.set_cons_zero, List.set_cons_succ])
                          refine wpAnyH_done (by kernel_rfl) ?_ _
                          have HU9 : Hid (Up wB.heap.size wB y2) := hHeld
                          clear hHeld
                          have HM9 : Hid (RM w1 (xs.take i ++ ⟨F, L, va, vc'⟩ :: xs.drop i) v31 y2) := by
                            have hu := HUB.out
                            have hu3 := HM3.out.u
                            have hB := hu.1.trans (HU9.out.1.mono hu.1.size)
                            refine ⟨own_mono2 (base := wB.heap.size) ?_ (Nat.le_trans hu3.2 hu.2), fun x hx => ?_, hu3.stay hB⟩
                            · have ho := O31.out
                              have e : 0 + i + 1 + (m - i) = (xs.take i ++ (⟨F, L, va, vc'⟩ : Fx) :: xs.drop i).length := by simp; omega
                              rw [e] at ho
                              rw [fcells_app, show fcells ((⟨F, L, va, vc'⟩ : Fx) :: xs.drop i) = [.string F, .slice va L.length vc'] ++ fcells (xs.drop i) from rfl]
                              simpa using ho
                            · rcases HMX.out x hx with rfl | hx
                              · exact own_stay HOL3.out hB
                              · exact own_stay (HM3.out.t x hx) hB
                          obtain ⟨oa, oc, hof⟩ := own_form O31.out
                          rw [Nat.zero_add] at hof
                          subst hof
                          clear O31
                          go_wp2
                          all_goals
                            go_roundg (n - (k + 1))
                            case measure => omega
                            case rel => exact ⟨k + 1, (st.1 ++ [(F, L)], false), _, hlt, rfl, by go_num, HW2, HM9, HR2⟩
                        · rw [if_pos (by kernel_rfl)]
                          go_simp
                          have S26 : Hid (Srcs (x1.alloc (.cells #[.string F, (.slice va L.length vc')] 49)) (.slice (some ⟨x1.heap.size, 0, none⟩) 1 1) 1 2 [.string F, (.slice va L.length vc')]) := srcs_new x1 #[.string F, (.slice va L.length vc')] 49 1 2 1 rfl
                          have O20' := O20.out.alloc (.cells #[.string F, (.slice va L.length vc')] 49)
                          clear O20
                          have O20 : Hid (World.ownsRow _ _ _ _ _ _ _) := O20'
                          clear O20'
                          have hne : x0.heap.size < x1.heap.size := by rw [← hx1]; simp
                          refine hK.out _ _ (hHeld.alloc _ : Up wB.heap.size wB _) (fun hHeld => ?_)
                          clear hK K
                          (try dsimp only at hHeld)
                          (try simp only [Act.put, List.setIfInBounds_toArray, List.set_cons_zero, List.set_cons_succ])
                          obtain ⟨x2, hx2⟩ : ∃ x2, x1.alloc (.cells #[.string F, (.slice va L.length vc')] 49) = x2 := ⟨_, rfl⟩
                          rw [hx2] at hHeld O20 S26 ⊢
                          refine wpAnyH_ready (rs := [4]) (by kernel_rfl) (by simp) (AllReadyH.cons rfl (fun K hK => ?_) AllReadyH.nil)
                          rw [if_pos (by kernel_rfl)]
                          refine app_src_wp (.tmp 81) (.tmp 84) 38 rfl wB.heap.size 49 i0 _ 2 40 Tryz.underlying38 hi hz0 hz1 hz2 rfl (by decide) _ _ _ rfl O20.out _ _ _ rfl ((HSA _).out.stay hHeld.1) (fcells_one _) (by unfold maxLen; omega) (by omega) hHeld.2 ?_
                          intro v24 x3 ho24 hg24
                          change K (Act.put _ (some 85) _) _
                          have O24 : Hid (x3.ownsRow wB.heap.size 49 2 v24 (0 + i) ([] ++ fcells (xs.take i))) := ho24
                          have S26' := S26.out.grown hg24 (fun e => by have e' : some x0.heap.size = some x1.heap.size := e; injection e' with e'; omega)
                          clear S26
                          have S26 : Hid (Srcs _ _ _ _ _) := S26'
                          clear S26'
                          have hu24 : Up wB.heap.size wB x3 := hHeld.grown hg24 (own_base O20.out)
                          clear ho24 hg24 O20
                          refine hK.out _ _ (hu24 : Up wB.heap.size wB _) (fun hHeld => ?_)
                          clear hK K
                          (try dsimp only at hHeld)
                          (try simp only [Act.put, List.setIfInBounds_toArray, List.set_cons_zero, List.set_cons_succ])
                          clear hu24
                          refine wpAnyH_ready (rs := [7]) (by kernel_rfl) (by simp) (AllReadyH.cons rfl (fun K hK => ?_) AllReadyH.nil)
                          rw [if_pos (by kernel_rfl)]
                          refine app_src_wp (.tmp 85) (.tmp 87) 38 rfl wB.heap.size 49 i0 _ 2 40 Tryz.underlying38 hi hz0 hz1 hz2 rfl (by decide) _ _ _ rfl O24.out _ _ _ rfl S26.out (two_one _ _ rfl rfl) (by unfold maxLen; omega) (by omega) hHeld.2 ?_
                          intro v27 y1 ho27 hg27
                          change K (Act.put _ (some 88) _) _
                          have O27 : Hid (y1.ownsRow wB.heap.size 49 2 v27 (0 + i + 1) ([] ++ fcells (xs.take i) ++ [.string F, (.slice va L.length vc')])) := ho27
                          have hu27 : Up wB.heap.size wB y1 := hHeld.grown hg27 (own_base O24.out)
                          clear ho27 hg27 O24 S26
                          refine hK.out _ _ (hu27 : Up wB.heap.size wB _) (fun hHeld => ?_)
                          clear hK K
                          (try dsimp only at hHeld)
                          (try simp only [Act.put, List.setIfInBounds_toArray, List.set_cons_zero, List.set_cons_succ])
                          clear hu27
                          refine wpAnyH_ready (rs := [11]) (by kernel_rfl) (by simp) (AllReadyH.cons rfl (fun K hK => ?_) AllReadyH.nil)
                          rw [if_pos (by kernel_rfl)]
                          refine app_src_wp (.tmp 88) (.tmp 91) 38 rfl wB.heap.size 49 i0 _ 2 40 Tryz.underlying38 hi hz0 hz1 hz2 rfl (by decide) _ _ _ rfl O27.out _ _ _ rfl ((HSB _).out.stay hHeld.1) (fcells_one _) (by unfold maxLen; omega) (by omega) hHeld.2 ?_
                          intro v31 y2 ho31 hg31
                          change K (Act.put _ (some 92) _) _
                          have O31 : Hid (y2.ownsRow wB.heap.size 49 2 v31 (0 + i + 1 + (m - i)) ([] ++ fcells (xs.take i) ++ [.string F, (.slice va L.length vc')] ++ fcells (xs.drop i))) := ho31
                          have hu31 : Up wB.heap.size wB y2 := hHeld.grown hg31 (own_base O27.out)
                          clear ho31 hg31 O27
                          refine hK.out _ _ (hu31 : Up wB.heap.size wB _) (fun hHeld => ?_)
                          clear hK K
                          (try dsimp only at hHeld)
                          (try simp only [Act.put, List.setIfInBounds_toArray, List.set_cons_zero, List.set_cons_succ])
                          clear hu31
                          refine Lns.takeH (i := 12) (v := ?_) (d := (some 7)) rfl (by kernel_rfl) (by kernel_rfl) (by kernel_rfl) rfl (fun _ _ _ h => h) (Or.inl ⟨by kernel_rfl, ?_⟩) (by assumption) ?_; rotate_left
                          · (intro w hSw; (try dsimp only at hSw); first | (go_simp; done) | (go_simp; with_reducible rfl))
                          (try simp only [Act.put, List.setIfInBounds_toArray, List.set_cons_zero, List.set_cons_succ])
                          refine wpAnyH_done (by kernel_rfl) ?_ _
                          have HU9 : Hid (Up wB.heap.size wB y2) := hHeld
                          clear hHeld
                          have HM9 : Hid (RM w1 (xs.take i ++ ⟨F, L, va, vc'⟩ :: xs.drop i) v31 y2) := by
                            have hu := HUB.out
                            have hu3 := HM3.out.u
                            have hB := hu.1.trans (HU9.out.1.mono hu.1.size)
                            refine ⟨own_mono2 (base := wB.heap.size) ?_ (Nat.le_trans hu3.2 hu.2), fun x hx => ?_, hu3.stay hB⟩
                            · have ho := O31.out
                              have e : 0 + i + 1 + (m - i) = (xs.take i ++ (⟨F, L, va, vc'⟩ : Fx) :: xs.drop i).length := by simp; omega
                              rw [e] at ho
                              rw [fcells_app, show fcells ((⟨F, L, va, vc'⟩ : Fx) :: xs.drop i) = [.string F, .slice va L.length vc'] ++ fcells (xs.drop i) from rfl]
                              simpa using ho
                            · rcases HMX.out x hx with rfl | hx
                              · exact own_stay HOL3.out hB
                              · exact own_stay (HM3.out.t x hx) hB
                          obtain ⟨oa, oc, hof⟩ := own_form O31.out
                          rw [Nat.zero_add] at hof
                          subst hof
                          clear O31
                          go_wp2
                          all_goals
                            go_roundg (n - (k + 1))
                            case measure => omega
                            case rel => exact ⟨k + 1, (st.1 ++ [(F, L)], false), _, hlt, rfl, by go_num, HW2, HM9, HR2⟩
                      · rw [if_pos (by kernel_rfl)]
                        go_simp
                        have S26 : Hid (Srcs (x0.alloc (.cells #[.string F, (.slice va L.length vc')] 49)) (.slice (some ⟨x0.heap.size, 0, none⟩) 1 1) 1 2 [.string F, (.slice va L.length vc')]) := srcs_new x0 #[.string F, (.slice va L.length vc')] 49 1 2 1 rfl
                        refine hK.out _ _ (hHeld.alloc _ : Up wB.heap.size wB _) (fun hHeld => ?_)
                        clear hK K
                        (try dsimp only at hHeld)
                        (try simp only [Act.put, List.setIfInBounds_toArray, List.set_cons_zero, List.set_cons_succ])
                        obtain ⟨x1, hx1⟩ : ∃ x1, x0.alloc (.cells #[.string F, (.slice va L.length vc')] 49) = x1 := ⟨_, rfl⟩
                        rw [hx1] at hHeld S26 ⊢
                        refine wpAnyH_ready (rs := [0]) (by kernel_rfl) (by simp) (AllReadyH.cons rfl (fun K hK => ?_) AllReadyH.nil)
                        rw [if_pos (by kernel_rfl)]
                        go_simp
                        have O20 : Hid ((x1.alloc (.cells #[] 49)).ownsRow wB.heap.size 49 2 (.slice (some ⟨x1.heap.size, 0, none⟩) 0 0) 0 []) := World.ownsRow_lit x1 #[] 0 hHeld.2 (Nat.zero_le _) rfl
                        have S26' := S26.out.stay ((Below.refl _ _).alloc (Nat.le_refl _) (.cells #[] 49))
                        clear S26
                        have S26 : Hid (Srcs _ _ _ _ _) := S26'
                        clear S26'
                        have hne : x0.heap.size < x1.heap.size := by rw [← hx1]; simp
                        refine hK.out _ _ (hHeld.alloc _ : Up wB.heap.size wB _) (fun hHeld => ?_)
                        clear hK K
                        (try dsimp only at hHeld)
                        (try simp only [Act.put, List.setIfInBounds_toArray, List.set_cons_zero, List.set_cons_succ])
                        obtain ⟨x2, hx2⟩ : ∃ x2, x1.alloc (.cells #[] 49) = x2 := ⟨_, rfl⟩
                        rw [hx2] at hHeld O20 S26 ⊢
                        refine wpAnyH_ready (rs := [4]) (by kernel_rfl) (by simp) (AllReadyH.cons rfl (fun K hK => ?_) AllReadyH.nil)
                        rw [if_pos (by kernel_rfl)]
                        refine app_src_wp (.tmp 81) (.tmp 84) 38 rfl wB.heap.size 49 i0 _ 2 40 Tryz.underlying38 hi hz0 hz1 hz2 rfl (by decide) _ _ _ rfl O20.out _ _ _ rfl ((HSA _).out.stay hHeld.1) (fcells_one _) (by unfold maxLen; omega) (by omega) hHeld.2 ?_
                        intro v24 x3 ho24 hg24
                        change K (Act.put _ (some 85) _) _
                        have O24 : Hid (x3.ownsRow wB.heap.size 49 2 v24 (0 + i) ([] ++ fcells (xs.take i))) := ho24
                        have S26' := S26.out.grown hg24 (fun e => by have e' : some x1.heap.size = some x0.heap.size := e; injection e' with e'; omega)
                        clear S26
                        have S26 : Hid (Srcs _ _ _ _ _) := S26'
                        clear S26'
                        have hu24 : Up wB.heap.size wB x3 := hHeld.grown hg24 (own_base O20.out)
                        clear ho24 hg24 O20
                        refine hK.out _ _ (hu24 : Up wB.heap.size wB _) (fun hHeld => ?_)
                        clear hK K
                        (try dsimp only at hHeld)
                        (try simp only [Act.put, List.setIfInBounds_toArray, List.set_cons_zero, List.set_cons_succ])
                        clear hu24
                        refine wpAnyH_ready (rs := [7]) (by kernel_rfl) (by simp) (AllReadyH.cons rfl (fun K hK => ?_) AllReadyH.nil)
                        rw [if_pos (by kernel_rfl)]
                        refine app_src_wp (.tmp 85) (.tmp 87) 38 rfl wB.heap.size 49 i0 _ 2 40 Tryz.underlying38 hi hz0 hz1 hz2 rfl (by decide) _ _ _ rfl O24.out _ _ _ rfl S26.out (two_one _ _ rfl rfl) (by unfold maxLen; omega) (by omega) hHeld.2 ?_
                        intro v27 y1 ho27 hg27
                        change K (Act.put _ (some 88) _) _
                        have O27 : Hid (y1.ownsRow wB.heap.size 49 2 v27 (0 + i + 1) ([] ++ fcells (xs.take i) ++ [.string F, (.slice va L.length vc')])) := ho27
                        have hu27 : Up wB.heap.size wB y1 := hHeld.grown hg27 (own_base O24.out)
                        clear ho27 hg27 O24 S26
                        refine hK.out _ _ (hu27 : Up wB.heap.size wB _) (fun hHeld => ?_)
                        clear hK K
                        (try dsimp only at hHeld)
                        (try simp only [Act.put, List.setIfInBounds_toArray, List.set_cons_zero, List.set_cons_succ])
                        clear hu27
                        refine wpAnyH_ready (rs := [11]) (by kernel_rfl) (by simp) (AllReadyH.cons rfl (fun K hK => ?_) AllReadyH.nil)
                        rw [if_pos (by kernel_rfl)]
                        refine app_src_wp (.tmp 88) (.tmp 91) 38 rfl wB.heap.size 49 i0 _ 2 40 Tryz.underlying38 hi hz0 hz1 hz2 rfl (by decide) _ _ _ rfl O27.out _ _ _ rfl ((HSB _).out.stay hHeld.1) (fcells_one _) (by unfold maxLen; omega) (by omega) hHeld.2 ?_
                        intro v31 y2 ho31 hg31
                        change K (Act.put _ (some 92) _) _
                        have O31 : Hid (y2.ownsRow wB.heap.size 49 2 v31 (0 + i + 1 + (m - i)) ([] ++ fcells (xs.take i) ++ [.string F, (.slice va L.length vc')] ++ fcells (xs.drop i))) := ho31
                        have hu31 : Up wB.heap.size wB y2 := hHeld.grown hg31 (own_base O27.out)
                        clear ho31 hg31 O27
                        refine hK.out _ _ (hu31 : Up wB.heap.size wB _) (fun hHeld => ?_)
                        clear hK K
                        (try dsimp only at hHeld)
                        (try simp only [Act.put, List.setIfInBounds_toArray, List.set_cons_zero, List.set_cons_succ])
                        clear hu31
                        refine Lns.takeH (i := 12) (v := ?_) (d := (some 7)) rfl (by kernel_rfl) (by kernel_rfl) (by kernel_rfl) rfl (fun _ _ _ h => h) (Or.inl ⟨by kernel_rfl, ?_⟩) (by assumption) ?_; rotate_left
                        · (intro w hSw; (try dsimp only at hSw); first | (go_simp; done) | (go_simp; with_reducible rfl))
                        (try simp only [Act.put, List.setIfInBounds_toArray, List.set_cons_zero, List.set_cons_succ])
                        refine wpAnyH_done (by kernel_rfl) ?_ _
                        have HU9 : Hid (Up wB.heap.size wB y2) := hHeld
                        clear hHeld
                        have HM9 : Hid (RM w1 (xs.take i ++ ⟨F, L, va, vc'⟩ :: xs.drop i) v31 y2) := by
                          have hu := HUB.out
                          have hu3 := HM3.out.u
                          have hB := hu.1.trans (HU9.out.1.mono hu.1.size)
                          refine ⟨own_mono2 (base := wB.heap.size) ?_ (Nat.le_trans hu3.2 hu.2), fun x hx => ?_, hu3.stay hB⟩
                          · have ho := O31.out
                            have e : 0 + i + 1 + (m - i) = (xs.take i ++ (⟨F, L, va, vc'⟩ : Fx) :: xs.drop i).length := by simp; omega
                            rw [e] at ho
                            rw [fcells_app, show fcells ((⟨F, L, va, vc'⟩ : Fx) :: xs.drop i) = [.string F, .slice va L.length vc'] ++ fcells (xs.drop i) from rfl]
                            simpa using ho
                          · rcases HMX.out x hx with rfl | hx
                            · exact own_stay HOL3.out hB
                            · exact own_stay (HM3.out.t x hx) hB
                        obtain ⟨oa, oc, hof⟩ := own_form O31.out
                        rw [Nat.zero_add] at hof
                        subst hof
                        clear O31
                        go_wp2
                        all_goals
                          go_roundg (n - (k + 1))
                          case measure => omega
                          case rel => exact ⟨k + 1, (st.1 ++ [(F, L)], false), _, hlt, rfl, by go_num, HW2, HM9, HR2⟩
                · obtain rfl : i = m := by omega
                  have HNI' := HNI (fun h => absurd h hlx)
                  clear HNI hno hlx
                  have c40 := cell_keep BX0.out HU4.out.1
                  have c41 := cell_keep BX1.out HU4.out.1
                  go_wp2_with fail
                  go_quiet (fail)
                  obtain ⟨wA, hwA⟩ : ∃ wA, w4.drewN nq = wA := ⟨_, rfl⟩
                  rw [hwA]
                  have HUA : Hid (Up w3.heap.size w3 wA) := by rw [← hwA]; exact HU4.out.stay (Go.below_drewN (Below.refl _ _) _)
                  clear hwA nq
                  go_wp2_with fail
                  go_quiet (fail)
                  obtain ⟨wB, hwB⟩ : ∃ wB, wA.drewN nq = wB := ⟨_, rfl⟩
                  rw [hwB]
                  have HUB : Hid (Up w3.heap.size w3 wB) := by rw [← hwB]; exact HUA.out.stay (Go.below_drewN (Below.refl _ _) _)
                  clear hwB nq
                  have hnin : F ∉ st.1.map Prod.fst := fun h => HNI' ((HW.out.mem F).1 h)
                  by_cases h40 : i = 4096
                  · have hfs : fstep st r = ((st.1, true), 4) := by unfold fstep; rw [hent, if_neg (by simp), if_neg hnin, if_pos (by omega)]
                    rw [hfs, if_neg (by show ¬ (4 : Int) = 0; decide)] at HR1
                    have HR2 : Hid (((st.1, true), (4 : Int), k + 1) = Z) := HR1
                    subst h40
                    have HUE : Hid (Up w1.heap.size w1 wB) := HM3.out.u.stay HUB.out.1
                    go_wp2
                    go_ret3
                    first
                      | exact ⟨(st.1, true), 4, k + 1, HR2.out.symm, (HB.out.stay HUE.out.1).1, hst1, Or.inr ⟨by decide, by go_num⟩⟩
                      | exact ⟨st.1, Or.inr ⟨4, k + 1, HR2.out.symm, (HB.out.stay HUE.out.1).1, hst1, Or.inr ⟨by decide, by go_num⟩⟩⟩
                  · have hfs : fstep st r = ((st.1 ++ [(F, L)], false), 0) := by unfold fstep; rw [hent, if_neg (by simp), if_neg hnin, if_neg (by omega)]
                    rw [hfs, if_pos rfl] at HR1
                    have HR2 : Hid (runR fstep ((linesL s).drop (k + 1)) (k + 1) (st.1 ++ [(F, L)], false) = Z) := HR1
                    have hpp := putK_perm Fx.f xs ⟨F, L, va, vc'⟩
                    have hpr := putK_rise Fx.f xs ⟨F, L, va, vc'⟩ HW.out.r HNI'
                    rw [HPS] at hpp hpr
                    have HW2 : Hid (RF (st.1 ++ [(F, L)], false) (xs.take i ++ ⟨F, L, va, vc'⟩ :: xs.drop i)) := by
                      refine ⟨?_, hpr, by simp; omega, rfl⟩
                      exact (hpp.map Fx.p).trans ((List.Perm.cons _ HW.out.p).trans (List.perm_append_singleton _ _).symm)
                    have HMX : Hid (∀ x ∈ xs.take i ++ ⟨F, L, va, vc'⟩ :: xs.drop i, x = ⟨F, L, va, vc'⟩ ∨ x ∈ xs) := fun x hx => List.mem_cons.1 (hpp.mem_iff.1 hx)
                    have h40' : ¬ (i : Int) = 4096 := by omega
                    have BB0 : Hid (wB.cell? ⟨X, 0, none⟩ = some (.string F)) := cell_keep BX0.out HUB.out.1
                    have BB1 : Hid (wB.cell? ⟨X, 1, none⟩ = some (.slice va L.length vc')) := cell_keep BX1.out HUB.out.1
                    have HQB : Hid (∀ j, (hj : j < xs.length) → wB.cell? ⟨q, j * 2, none⟩ = some (.string xs[j].f) ∧ wB.cell? ⟨q, j * 2 + 1, none⟩ = some xs[j].v) := fun j hj => ⟨cell_keep (HQC.out j hj).1 HUB.out.1, cell_keep (HQC.out j hj).2 HUB.out.1⟩
                    have HSA : ∀ c, Hid (Srcs wB (.slice (some ⟨q, 0, none⟩) i c) i 2 (fcells (xs.take i))) := fun c => by
                      have := fx_part (i := 0) (c := c) HQB.out (M := xs.take i) (m := i) (by simp; omega) (fun j x hx => by
                        rw [Nat.zero_add]
                        rw [List.getElem?_take] at hx
                        split at hx
                        · exact hx
                        · cases hx)
                      rw [Nat.zero_mul] at this
                      exact this
                    have HSB : ∀ c, Hid (Srcs wB (.slice (if cap = i then some ⟨q, 0, none⟩ else some ⟨q, i * 2, none⟩) 0 c) 0 2 (fcells (xs.drop i))) := fun c => by
                      show Srcs _ _ _ _ _
                      split
                      · exact ⟨by rw [fcells_len2]; simp; omega, Or.inl ⟨_, c, by rw [show (0 : Nat) = 0 by omega], by omega⟩⟩
                      · exact fx_part HQB.out (by simp; omega) (fun j x hx => by rw [List.getElem?_drop] at hx; exact hx)
                    clear hfs HR1 HR hnin HNI' hpp hpr h40 hent HW HQB
                    go_wp2_with fail
                    refine wp_region_held_drew (S := fun w' => Up wB.heap.size wB w') (by kernel_rfl) (Lns.Up.drew (Up.refl wB)) (fun hHeld => ?_)
                    (try dsimp only at hHeld)
                    obtain ⟨x0, hx0⟩ : ∃ x0, wB.drew = x0 := ⟨_, rfl⟩
                    rw [hx0] at hHeld ⊢
                    clear hx0
                    refine Lns.takeH (i := 1) (v := ?_) (d := (some 82)) rfl (by kernel_rfl) (by kernel_rfl) (by kernel_rfl) rfl (fun _ _ _ h => h) (Or.inl ⟨by kernel_rfl, ?_⟩) (by assumption) ?_; rotate_left
                    · (intro w hSw; (try dsimp only at hSw); first | (go_simp; done) | (go_simp; with_reducible rfl))
                    (try simp only [Act.put, List.setIfInBounds_toArray, List.set_cons_zero, List.set_cons_succ])
                    refine Lns.takeH (i := 2) (v := ?_) (d := (some 83)) rfl (by kernel_rfl) (by kernel_rfl) (by kernel_rfl) rfl (fun _ _ _ h => h) (Or.inl ⟨by kernel_rfl, ?_⟩) (by assumption) ?_; rotate_left
                    · (intro w hSw; (try dsimp only at hSw); first | (go_simp; done) | (go_simp; with_reducible rfl))
                    (try simp only [Act.put, List.setIfInBounds_toArray, List.set_cons_zero, List.set_cons_succ])
                    refine Lns.takeH (i := 3) (v := ?_) (d := (some 84)) rfl (by kernel_rfl) (by kernel_rfl) (by kernel_rfl) rfl (fun _ _ _ h => h) (Or.inl ⟨by kernel_rfl, ?_⟩) (by assumption) ?_; rotate_left
                    · (intro w hSw; (try dsimp only at hSw); first | (go_simp; done) | (go_simp; with_reducible rfl))
                    (try simp only [Act.put, List.setIfInBounds_toArray, List.set_cons_zero, List.set_cons_succ])
                    refine Lns.takeH (i := 5) (v := ?_) (d := (some 86)) rfl (by kernel_rfl) (by kernel_rfl) (by kernel_rfl) rfl (fun _ _ _ h => h) (Or.inl ⟨by kernel_rfl, ?_⟩) (by assumption) ?_; rotate_left
                    · (intro w hSw; (try dsimp only at hSw); have q0 := Lns.Up.cell hSw BB0.out; have q1 := Lns.Up.cell hSw BB1.out; first | (go_simp; done) | (go_simp; with_reducible rfl))
                    (try simp only [Act.put, List.setIfInBounds_toArray, List.set_cons_zero, List.set_cons_succ])
                    refine Lns.takeH (i := 8) (v := ?_) (d := (some 89)) rfl (by kernel_rfl) (by kernel_rfl) (by kernel_rfl) rfl (fun _ _ _ h => h) (Or.inl ⟨by kernel_rfl, ?_⟩) (by assumption) ?_; rotate_left
                    · (intro w hSw; (try dsimp only at hSw); first | (go_simp; done) | (go_simp; with_reducible rfl))
                    (try simp only [Act.put, List.setIfInBounds_toArray, List.set_cons_zero, List.set_cons_succ])
                    refine Lns.takeH (i := 9) (v := ?_) (d := (some 90)) rfl (by kernel_rfl) (by kernel_rfl) (by kernel_rfl) rfl (fun _ _ _ h => h) (Or.inl ⟨by kernel_rfl, ?_⟩) (by assumption) ?_; rotate_left
                    · (intro w hSw; (try dsimp only at hSw); first | (go_simp; done) | (go_simp; with_reducible rfl))
                    (try simp only [Act.put, List.setIfInBounds_toArray, List.set_cons_zero, List.set_cons_succ])
                    refine Lns.takeH (i := 10) (v := ?_) (d := (some 91)) rfl (by kernel_rfl) (by kernel_rfl) (by kernel_rfl) rfl (fun _ _ _ h => h) (Or.inl ⟨by kernel_rfl, ?_⟩) (by assumption) ?_; rotate_left
                    · (intro w hSw; (try dsimp only at hSw); first | (go_simp; done) | (go_simp; with_reducible rfl))
                    (try simp only [Act.put, List.setIfInBounds_toArray, List.set_cons_zero, List.set_cons_succ])
                    refine wpAnyH_ready (rs := [0, 6]) (by kernel_rfl) (by simp) (AllReadyH.cons rfl (fun K hK => ?_) (AllReadyH.cons rfl (fun K hK => ?_) AllReadyH.nil))
                    · rw [if_pos (by kernel_rfl)]
                      go_simp
                      have O20 : Hid ((x0.alloc (.cells #[] 49)).ownsRow wB.heap.size 49 2 (.slice (some ⟨x0.heap.size, 0, none⟩) 0 0) 0 []) := World.ownsRow_lit x0 #[] 0 hHeld.2 (Nat.zero_le _) rfl
                      refine hK.out _ _ (hHeld.alloc _ : Up wB.heap.size wB _) (fun hHeld => ?_)
                      clear hK K
                      (try dsimp only at hHeld)
                      (try simp only [Act.put, List.setIfInBounds_toArray, List.set_cons_zero, List.set_cons_succ])
                      obtain ⟨x1, hx1⟩ : ∃ x1, x0.alloc (.cells #[] 49) = x1 := ⟨_, rfl⟩
                      rw [hx1] at hHeld O20 ⊢
                      refine wpAnyH_ready (rs := [4, 6]) (by kernel_rfl) (by simp) (AllReadyH.cons rfl (fun K hK => ?_) (AllReadyH.cons rfl (fun K hK => ?_) AllReadyH.nil))
                      · rw [if_pos (by kernel_rfl)]
                        refine app_src_wp (.tmp 81) (.tmp 84) 38 rfl wB.heap.size 49 i0 _ 2 40 Tryz.underlying38 hi hz0 hz1 hz2 rfl (by decide) _ _ _ rfl O20.out _ _ _ rfl ((HSA _).out.stay hHeld.1) (fcells_one _) (by unfold maxLen; omega) (by omega) hHeld.2 ?_
                        intro v24 x2 ho24 hg24
                        change K (Act.put _ (some 85) _) _
                        have O24 : Hid (x2.ownsRow wB.heap.size 49 2 v24 (0 + i) ([] ++ fcells (xs.take i))) := ho24
                        have hu24 : Up wB.heap.size wB x2 := hHeld.grown hg24 (own_base O20.out)
                        clear ho24 hg24 O20
                        refine hK.out _ _ (hu24 : Up wB.heap.size wB _) (fun hHeld => ?_)
                        clear hK K
                        (try dsimp only at hHeld)
                        (try simp only [Act.put, List.setIfInBounds_toArray, List.set_cons_zero, List.set_cons_succ])
                        clear hu24
                        refine wpAnyH_ready (rs := [6]) (by kernel_rfl) (by simp) (AllReadyH.cons rfl (fun K hK => ?_) AllReadyH.nil)
                        rw [if_pos (by kernel_rfl)]
                        go_simp
                        have S26 : Hid (Srcs (x2.alloc (.cells #[.string F, (.slice va L.length vc')] 49)) (.slice (some ⟨x2.heap.size, 0, none⟩) 1 1) 1 2 [.string F, (.slice va L.length vc')]) := srcs_new x2 #[.string F, (.slice va L.length vc')] 49 1 2 1 rfl
                        have O24' := O24.out.alloc (.cells #[.string F, (.slice va L.length vc')] 49)
                        clear O24
                        have O24 : Hid (World.ownsRow _ _ _ _ _ _ _) := O24'
                        clear O24'
                        refine hK.out _ _ (hHeld.alloc _ : Up wB.heap.size wB _) (fun hHeld => ?_)
                        clear hK K
                        (try dsimp only at hHeld)
                        (try simp only [Act.put, List.setIfInBounds_toArray, List.set_cons_zero, List.set_cons_succ])
                        obtain ⟨x3, hx3⟩ : ∃ x3, x2.alloc (.cells #[.string F, (.slice va L.length vc')] 49) = x3 := ⟨_, rfl⟩
                        rw [hx3] at hHeld O24 S26 ⊢
                        refine wpAnyH_ready (rs := [7]) (by kernel_rfl) (by simp) (AllReadyH.cons rfl (fun K hK => ?_) AllReadyH.nil)
                        rw [if_pos (by kernel_rfl)]
                        refine app_src_wp (.tmp 85) (.tmp 87) 38 rfl wB.heap.size 49 i0 _ 2 40 Tryz.underlying38 hi hz0 hz1 hz2 rfl (by decide) _ _ _ rfl O24.out _ _ _ rfl S26.out (two_one _ _ rfl rfl) (by unfold maxLen; omega) (by omega) hHeld.2 ?_
                        intro v27 y1 ho27 hg27
                        change K (Act.put _ (some 88) _) _
                        have O27 : Hid (y1.ownsRow wB.heap.size 49 2 v27 (0 + i + 1) ([] ++ fcells (xs.take i) ++ [.string F, (.slice va L.length vc')])) := ho27
                        have hu27 : Up wB.heap.size wB y1 := hHeld.grown hg27 (own_base O24.out)
                        clear ho27 hg27 O24 S26
                        refine hK.out _ _ (hu27 : Up wB.heap.size wB _) (fun hHeld => ?_)
                        clear hK K
                        (try dsimp only at hHeld)
                        (try simp only [Act.put, List.setIfInBounds_toArray, List.set_cons_zero, List.set_cons_succ])
                        clear hu27
                        refine wpAnyH_ready (rs := [11]) (by kernel_rfl) (by simp) (AllReadyH.cons rfl (fun K hK => ?_) AllReadyH.nil)
                        rw [if_pos (by kernel_rfl)]
                        refine app_src_wp (.tmp 88) (.tmp 91) 38 rfl wB.heap.size 49 i0 _ 2 40 Tryz.underlying38 hi hz0 hz1 hz2 rfl (by decide) _ _ _ rfl O27.out _ _ _ rfl ((HSB _).out.stay hHeld.1) (fcells_one _) (by unfold maxLen; omega) (by omega) hHeld.2 ?_
                        intro v31 y2 ho31 hg31
                        change K (Act.put _ (some 92) _) _
                        have O31 : Hid (y2.ownsRow wB.heap.size 49 2 v31 (0 + i + 1 + 0) ([] ++ fcells (xs.take i) ++ [.string F, (.slice va L.length vc')] ++ fcells (xs.drop i))) := ho31
                        have hu31 : Up wB.heap.size wB y2 := hHeld.grown hg31 (own_base O27.out)
                        clear ho31 hg31 O27
                        refine hK.out _ _ (hu31 : Up wB.heap.size wB _) (fun hHeld => ?_)
                        clear hK K
                        (try dsimp only at hHeld)
                        (try simp only [Act.put, List.setIfInBounds_toArray, List.set_cons_zero, List.set_cons_succ])
                        clear hu31
                        refine Lns.takeH (i := 12) (v := ?_) (d := (some 7)) rfl (by kernel_rfl) (by kernel_rfl) (by kernel_rfl) rfl (fun _ _ _ h => h) (Or.inl ⟨by kernel_rfl, ?_⟩) (by assumption) ?_; rotate_left
                        · (intro w hSw; (try dsimp only at hSw); first | (go_simp; done) | (go_simp; with_reducible rfl))
                        (try simp only [Act.put, List.setIfInBounds_toArray, List.set_cons_zero, List.set_cons_succ])
                        refine wpAnyH_done (by kernel_rfl) ?_ _
                        have HU9 : Hid (Up wB.heap.size wB y2) := hHeld
                        clear hHeld
                        have HM9 : Hid (RM w1 (xs.take i ++ ⟨F, L, va, vc'⟩ :: xs.drop i) v31 y2) := by
                          have hu := HUB.out
                          have hu3 := HM3.out.u
                          have hB := hu.1.trans (HU9.out.1.mono hu.1.size)
                          refine ⟨own_mono2 (base := wB.heap.size) ?_ (Nat.le_trans hu3.2 hu.2), fun x hx => ?_, hu3.stay hB⟩
                          · have ho := O31.out
                            have e : 0 + i + 1 + 0 = (xs.take i ++ (⟨F, L, va, vc'⟩ : Fx) :: xs.drop i).length := by simp; omega
                            rw [e] at ho
                            rw [fcells_app, show fcells ((⟨F, L, va, vc'⟩ : Fx) :: xs.drop i) = [.string F, .slice va L.length vc'] ++ fcells (xs.drop i) from rfl]
                            simpa using ho
                          · rcases HMX.out x hx with rfl | hx
                            · exact own_stay HOL3.out hB
                            · exact own_stay (HM3.out.t x hx) hB
                        obtain ⟨oa, oc, hof⟩ := own_form O31.out
                        rw [Nat.zero_add, Nat.add_zero] at hof
                        subst hof
                        clear O31
                        go_wp2
                        all_goals
                          go_roundg (n - (k + 1))
                          case measure => omega
                          case rel => exact ⟨k + 1, (st.1 ++ [(F, L)], false), _, hlt, rfl, by go_num, HW2, HM9, HR2⟩
                      · rw [if_pos (by kernel_rfl)]
                        go_simp
                        have S26 : Hid (Srcs (x1.alloc (.cells #[.string F, (.slice va L.length vc')] 49)) (.slice (some ⟨x1.heap.size, 0, none⟩) 1 1) 1 2 [.string F, (.slice va L.length vc')]) := srcs_new x1 #[.string F, (.slice va L.length vc')] 49 1 2 1 rfl
                        have O20' := O20.out.alloc (.cells #[.string F, (.slice va L.length vc')] 49)
                        clear O20
                        have O20 : Hid (World.ownsRow _ _ _ _ _ _ _) := O20'
                        clear O20'
                        have hne : x0.heap.size < x1.heap.size := by rw [← hx1]; simp
                        refine hK.out _ _ (hHeld.alloc _ : Up wB.heap.size wB _) (fun hHeld => ?_)
                        clear hK K
                        (try dsimp only at hHeld)
                        (try simp only [Act.put, List.setIfInBounds_toArray, List.set_cons_zero, List.set_cons_succ])
                        obtain ⟨x2, hx2⟩ : ∃ x2, x1.alloc (.cells #[.string F, (.slice va L.length vc')] 49) = x2 := ⟨_, rfl⟩
                        rw [hx2] at hHeld O20 S26 ⊢
                        refine wpAnyH_ready (rs := [4]) (by kernel_rfl) (by simp) (AllReadyH.cons rfl (fun K hK => ?_) AllReadyH.nil)
                        rw [if_pos (by kernel_rfl)]
                        refine app_src_wp (.tmp 81) (.tmp 84) 38 rfl wB.heap.size 49 i0 _ 2 40 Tryz.underlying38 hi hz0 hz1 hz2 rfl (by decide) _ _ _ rfl O20.out _ _ _ rfl ((HSA _).out.stay hHeld.1) (fcells_one _) (by unfold maxLen; omega) (by omega) hHeld.2 ?_
                        intro v24 x3 ho24 hg24
                        change K (Act.put _ (some 85) _) _
                        have O24 : Hid (x3.ownsRow wB.heap.size 49 2 v24 (0 + i) ([] ++ fcells (xs.take i))) := ho24
                        have S26' := S26.out.grown hg24 (fun e => by have e' : some x0.heap.size = some x1.heap.size := e; injection e' with e'; omega)
                        clear S26
                        have S26 : Hid (Srcs _ _ _ _ _) := S26'
                        clear S26'
                        have hu24 : Up wB.heap.size wB x3 := hHeld.grown hg24 (own_base O20.out)
                        clear ho24 hg24 O20
                        refine hK.out _ _ (hu24 : Up wB.heap.size wB _) (fun hHeld => ?_)
                        clear hK K
                        (try dsimp only at hHeld)
                        (try simp only [Act.put, List.setIfInBounds_toArray, List.set_cons_zero, List.set_cons_succ])
                        clear hu24
                        refine wpAnyH_ready (rs := [7]) (by kernel_rfl) (by simp) (AllReadyH.cons rfl (fun K hK => ?_) AllReadyH.nil)
                        rw [if_pos (by kernel_rfl)]
                        refine app_src_wp (.tmp 85) (.tmp 87) 38 rfl wB.heap.size 49 i0 _ 2 40 Tryz.underlying38 hi hz0 hz1 hz2 rfl (by decide) _ _ _ rfl O24.out _ _ _ rfl S26.out (two_one _ _ rfl rfl) (by unfold maxLen; omega) (by omega) hHeld.2 ?_
                        intro v27 y1 ho27 hg27
                        change K (Act.put _ (some 88) _) _
                        have O27 : Hid (y1.ownsRow wB.heap.size 49 2 v27 (0 + i + 1) ([] ++ fcells (xs.take i) ++ [.string F, (.slice va L.length vc')])) := ho27
                        have hu27 : Up wB.heap.size wB y1 := hHeld.grown hg27 (own_base O24.out)
                        clear ho27 hg27 O24 S26
                        refine hK.out _ _ (hu27 : Up wB.heap.size wB _) (fun hHeld => ?_)
                        clear hK K
                        (try dsimp only at hHeld)
                        (try simp only [Act.put, List.setIfInBounds_toArray, List.set_cons_zero, List.set_cons_succ])
                        clear hu27
                        refine wpAnyH_ready (rs := [11]) (by kernel_rfl) (by simp) (AllReadyH.cons rfl (fun K hK => ?_) AllReadyH.nil)
                        rw [if_pos (by kernel_rfl)]
                        refine app_src_wp (.tmp 88) (.tmp 91) 38 rfl wB.heap.size 49 i0 _ 2 40 Tryz.underlying38 hi hz0 hz1 hz2 rfl (by decide) _ _ _ rfl O27.out _ _ _ rfl ((HSB _).out.stay hHeld.1) (fcells_one _) (by unfold maxLen; omega) (by omega) hHeld.2 ?_
                        intro v31 y2 ho31 hg31
                        change K (Act.put _ (some 92) _) _
                        have O31 : Hid (y2.ownsRow wB.heap.size 49 2 v31 (0 + i + 1 + 0) ([] ++ fcells (xs.take i) ++ [.string F, (.slice va L.length vc')] ++ fcells (xs.drop i))) := ho31
                        have hu31 : Up wB.heap.size wB y2 := hHeld.grown hg31 (own_base O27.out)
                        clear ho31 hg31 O27
                        refine hK.out _ _ (hu31 : Up wB.heap.size wB _) (fun hHeld => ?_)
                        clear hK K
                        (try dsimp only at hHeld)
                        (try simp only [Act.put, List.setIfInBounds_toArray, List.set_cons_zero, List.set_cons_succ])
                        clear hu31
                        refine Lns.takeH (i := 12) (v := ?_) (d := (some 7)) rfl (by kernel_rfl) (by kernel_rfl) (by kernel_rfl) rfl (fun _ _ _ h => h) (Or.inl ⟨by kernel_rfl, ?_⟩) (by assumption) ?_; rotate_left
                        · (intro w hSw; (try dsimp only at hSw); first | (go_simp; done) | (go_simp; with_reducible rfl))
                        (try simp only [Act.put, List.setIfInBounds_toArray, List.set_cons_zero, List.set_cons_succ])
                        refine wpAnyH_done (by kernel_rfl) ?_ _
                        have HU9 : Hid (Up wB.heap.size wB y2) := hHeld
                        clear hHeld
                        have HM9 : Hid (RM w1 (xs.take i ++ ⟨F, L, va, vc'⟩ :: xs.drop i) v31 y2) := by
                          have hu := HUB.out
                          have hu3 := HM3.out.u
                          have hB := hu.1.trans (HU9.out.1.mono hu.1.size)
                          refine ⟨own_mono2 (base := wB.heap.size) ?_ (Nat.le_trans hu3.2 hu.2), fun x hx => ?_, hu3.stay hB⟩
                          · have ho := O31.out
                            have e : 0 + i + 1 + 0 = (xs.take i ++ (⟨F, L, va, vc'⟩ : Fx) :: xs.drop i).length := by simp; omega
                            rw [e] at ho
                            rw [fcells_app, show fcells ((⟨F, L, va, vc'⟩ : Fx) :: xs.drop i) = [.string F, .slice va L.length vc'] ++ fcells (xs.drop i) from rfl]
                            simpa using ho
                          · rcases HMX.out x hx with rfl | hx
                            · exact own_stay HOL3.out hB
                            · exact own_stay (HM3.out.t x hx) hB
                        obtain ⟨oa, oc, hof⟩ := own_form O31.out
                        rw [Nat.zero_add, Nat.add_zero] at hof
                        subst hof
                        clear O31
                        go_wp2
                        all_goals
                          go_roundg (n - (k + 1))
                          case measure => omega
                          case rel => exact ⟨k + 1, (st.1 ++ [(F, L)], false), _, hlt, rfl, by go_num, HW2, HM9, HR2⟩
                    · rw [if_pos (by kernel_rfl)]
                      go_simp
                      have S26 : Hid (Srcs (x0.alloc (.cells #[.string F, (.slice va L.length vc')] 49)) (.slice (some ⟨x0.heap.size, 0, none⟩) 1 1) 1 2 [.string F, (.slice va L.length vc')]) := srcs_new x0 #[.string F, (.slice va L.length vc')] 49 1 2 1 rfl
                      refine hK.out _ _ (hHeld.alloc _ : Up wB.heap.size wB _) (fun hHeld => ?_)
                      clear hK K
                      (try dsimp only at hHeld)
                      (try simp only [Act.put, List.setIfInBounds_toArray, List.set_cons_zero, List.set_cons_succ])
                      obtain ⟨x1, hx1⟩ : ∃ x1, x0.alloc (.cells #[.string F, (.slice va L.length vc')] 49) = x1 := ⟨_, rfl⟩
                      rw [hx1] at hHeld S26 ⊢
                      refine wpAnyH_ready (rs := [0]) (by kernel_rfl) (by simp) (AllReadyH.cons rfl (fun K hK => ?_) AllReadyH.nil)
                      rw [if_pos (by kernel_rfl)]
                      go_simp
                      have O20 : Hid ((x1.alloc (.cells #[] 49)).ownsRow wB.heap.size 49 2 (.slice (some ⟨x1.heap.size, 0, none⟩) 0 0) 0 []) := World.ownsRow_lit x1 #[] 0 hHeld.2 (Nat.zero_le _) rfl
                      have S26' := S26.out.stay ((Below.refl _ _).alloc (Nat.le_refl _) (.cells #[] 49))
                      clear S26
                      have S26 : Hid (Srcs _ _ _ _ _) := S26'
                      clear S26'
                      have hne : x0.heap.size < x1.heap.size := by rw [← hx1]; simp
                      refine hK.out _ _ (hHeld.alloc _ : Up wB.heap.size wB _) (fun hHeld => ?_)
                      clear hK K
                      (try dsimp only at hHeld)
                      (try simp only [Act.put, List.setIfInBounds_toArray, List.set_cons_zero, List.set_cons_succ])
                      obtain ⟨x2, hx2⟩ : ∃ x2, x1.alloc (.cells #[] 49) = x2 := ⟨_, rfl⟩
                      rw [hx2] at hHeld O20 S26 ⊢
                      refine wpAnyH_ready (rs := [4]) (by kernel_rfl) (by simp) (AllReadyH.cons rfl (fun K hK => ?_) AllReadyH.nil)
                      rw [if_pos (by kernel_rfl)]
                      refine app_src_wp (.tmp 81) (.tmp 84) 38 rfl wB.heap.size 49 i0 _ 2 40 Tryz.underlying38 hi hz0 hz1 hz2 rfl (by decide) _ _ _ rfl O20.out _ _ _ rfl ((HSA _).out.stay hHeld.1) (fcells_one _) (by unfold maxLen; omega) (by omega) hHeld.2 ?_
                      intro v24 x3 ho24 hg24
                      change K (Act.put _ (some 85) _) _
                      have O24 : Hid (x3.ownsRow wB.heap.size 49 2 v24 (0 + i) ([] ++ fcells (xs.take i))) := ho24
                      have S26' := S26.out.grown hg24 (fun e => by have e' : some x1.heap.size = some x0.heap.size := e; injection e' with e'; omega)
                      clear S26
                      have S26 : Hid (Srcs _ _ _ _ _) := S26'
                      clear S26'
                      have hu24 : Up wB.heap.size wB x3 := hHeld.grown hg24 (own_base O20.out)
                      clear ho24 hg24 O20
                      refine hK.out _ _ (hu24 : Up wB.heap.size wB _) (fun hHeld => ?_)
                      clear hK K
                      (try dsimp only at hHeld)
                      (try simp only [Act.put, List.setIfInBounds_toArray, List.set_cons_zero, List.set_cons_succ])
                      clear hu24
                      refine wpAnyH_ready (rs := [7]) (by kernel_rfl) (by simp) (AllReadyH.cons rfl (fun K hK => ?_) AllReadyH.nil)
                      rw [if_pos (by kernel_rfl)]
                      refine app_src_wp (.tmp 85) (.tmp 87) 38 rfl wB.heap.size 49 i0 _ 2 40 Tryz.underlying38 hi hz0 hz1 hz2 rfl (by decide) _ _ _ rfl O24.out _ _ _ rfl S26.out (two_one _ _ rfl rfl) (by unfold maxLen; omega) (by omega) hHeld.2 ?_
                      intro v27 y1 ho27 hg27
                      change K (Act.put _ (some 88) _) _
                      have O27 : Hid (y1.ownsRow wB.heap.size 49 2 v27 (0 + i + 1) ([] ++ fcells (xs.take i) ++ [.string F, (.slice va L.length vc')])) := ho27
                      have hu27 : Up wB.heap.size wB y1 := hHeld.grown hg27 (own_base O24.out)
                      clear ho27 hg27 O24 S26
                      refine hK.out _ _ (hu27 : Up wB.heap.size wB _) (fun hHeld => ?_)
                      clear hK K
                      (try dsimp only at hHeld)
                      (try simp only [Act.put, List.setIfInBounds_toArray, List.set_cons_zero, List.set_cons_succ])
                      clear hu27
                      refine wpAnyH_ready (rs := [11]) (by kernel_rfl) (by simp) (AllReadyH.cons rfl (fun K hK => ?_) AllReadyH.nil)
                      rw [if_pos (by kernel_rfl)]
                      refine app_src_wp (.tmp 88) (.tmp 91) 38 rfl wB.heap.size 49 i0 _ 2 40 Tryz.underlying38 hi hz0 hz1 hz2 rfl (by decide) _ _ _ rfl O27.out _ _ _ rfl ((HSB _).out.stay hHeld.1) (fcells_one _) (by unfold maxLen; omega) (by omega) hHeld.2 ?_
                      intro v31 y2 ho31 hg31
                      change K (Act.put _ (some 92) _) _
                      have O31 : Hid (y2.ownsRow wB.heap.size 49 2 v31 (0 + i + 1 + 0) ([] ++ fcells (xs.take i) ++ [.string F, (.slice va L.length vc')] ++ fcells (xs.drop i))) := ho31
                      have hu31 : Up wB.heap.size wB y2 := hHeld.grown hg31 (own_base O27.out)
                      clear ho31 hg31 O27
                      refine hK.out _ _ (hu31 : Up wB.heap.size wB _) (fun hHeld => ?_)
                      clear hK K
                      (try dsimp only at hHeld)
                      (try simp only [Act.put, List.setIfInBounds_toArray, List.set_cons_zero, List.set_cons_succ])
                      clear hu31
                      refine Lns.takeH (i := 12) (v := ?_) (d := (some 7)) rfl (by kernel_rfl) (by kernel_rfl) (by kernel_rfl) rfl (fun _ _ _ h => h) (Or.inl ⟨by kernel_rfl, ?_⟩) (by assumption) ?_; rotate_left
                      · (intro w hSw; (try dsimp only at hSw); first | (go_simp; done) | (go_simp; with_reducible rfl))
                      (try simp only [Act.put, List.setIfInBounds_toArray, List.set_cons_zero, List.set_cons_succ])
                      refine wpAnyH_done (by kernel_rfl) ?_ _
                      have HU9 : Hid (Up wB.heap.size wB y2) := hHeld
                      clear hHeld
                      have HM9 : Hid (RM w1 (xs.take i ++ ⟨F, L, va, vc'⟩ :: xs.drop i) v31 y2) := by
                        have hu := HUB.out
                        have hu3 := HM3.out.u
                        have hB := hu.1.trans (HU9.out.1.mono hu.1.size)
                        refine ⟨own_mono2 (base := wB.heap.size) ?_ (Nat.le_trans hu3.2 hu.2), fun x hx => ?_, hu3.stay hB⟩
                        · have ho := O31.out
                          have e : 0 + i + 1 + 0 = (xs.take i ++ (⟨F, L, va, vc'⟩ : Fx) :: xs.drop i).length := by simp; omega
                          rw [e] at ho
                          rw [fcells_app, show fcells ((⟨F, L, va, vc'⟩ : Fx) :: xs.drop i) = [.string F, .slice va L.length vc'] ++ fcells (xs.drop i) from rfl]
                          simpa using ho
                        · rcases HMX.out x hx with rfl | hx
                          · exact own_stay HOL3.out hB
                          · exact own_stay (HM3.out.t x hx) hB
                      obtain ⟨oa, oc, hof⟩ := own_form O31.out
                      rw [Nat.zero_add, Nat.add_zero] at hof
                      subst hof
                      clear O31
                      go_wp2
                      all_goals
                        go_roundg (n - (k + 1))
                        case measure => omega
                        case rel => exact ⟨k + 1, (st.1 ++ [(F, L)], false), _, hlt, rfl, by go_num, HW2, HM9, HR2⟩
        · have hfs : fstep st r = (st, cd) := by unfold fstep; rw [hent]; rw [if_pos hcd]
          rw [hfs, if_neg hcd] at HR1
          have HR2 : Hid ((st, cd, k + 1) = Z) := HR1
          have HUE : Hid (Up w1.heap.size w1 w2) := HM2.out.u
          clear HR1 HR hfs hent HM2 HOL
          go_wp2
          go_ret3
          exact ⟨st, cd, k + 1, HR2.out.symm, (HB.out.stay ((HUE.out.1).trans ((((Below.refl w2.heap.size w2).alloc (Nat.le_refl _) _)).mono HUE.out.1.size))).1, by omega, Or.inr ⟨hcd, by go_num⟩⟩
    · obtain rfl : k = n := by omega
      have HR1 := HR.out
      rw [← HN.out, linesL_end] at HR1
      have HR2 : Hid ((st, 0, 0) = Z) := HR1
      have hst1 := HW.out.n
      clear HR1 HR
      obtain ⟨oa, oc, hof⟩ := own_form HM.out.o
      subst hof
      go_wp2
      go_ret3
      exact ⟨st, 0, 0, HR2.out.symm, (HB.out.stay HM.out.u.1).1, by omega, Or.inl ⟨rfl, _, xs, rfl, own_mono2 HM.out.o HB.out.2, HW.out.p, HW.out.r, fun x hx => own_mono2 (HM.out.t x hx) HB.out.2⟩⟩
end Go.Proofs.YtgijihfijoiafaaGreatDoor
