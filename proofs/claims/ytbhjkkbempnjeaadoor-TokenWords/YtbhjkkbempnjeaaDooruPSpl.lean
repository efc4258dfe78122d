/- token: parts. -/
import Derived.Test.YtbhjkkbempnjeaaDooruPRb
import Derived.Test.YtbhjkkbempnjeaaDooruWdP
import Derived.BigQuiet
namespace Go.Proofs.YtbhjkkbempnjeaaDoor
set_option linter.unusedVariables false
open Go.RowKit Go.ChangeShapes
/-- Does a part begin? -/
def begB (R : Nat → Int) (k : Nat) (r : Int) : Bool := gB (R 0) && (sB r || (gB r && decide (1 < k) && sB (R 1)))
set_option maxHeartbeats 2000000 in
set_option maxRecDepth 100000 in
theorem tbeg_any {w : World} {v : Value} {s : List U3} (h : US w v s) (hF : FitU s) (hk : s.length ≤ 1000000) (h0 : 0 < s.length) (r : Int) (hr : Fit r) :
    Calls Tryd.prog 28 #[.int .i32 r, v] w fun e w' => e = .returned (.bool (begB (RU s) s.length r)) ∧ w' = w := by
  obtain ⟨A, C, rfl, hC, hh⟩ := h
  obtain ⟨x, hx⟩ : ∃ x, s[0]? = some x := ⟨_, List.getElem?_eq_getElem h0⟩
  obtain ⟨b, off, rfl, hbl, a1, -, -⟩ := hh 0 x hx
  have fx := hF _ (List.mem_of_getElem? hx)
  have e0 : RU s 0 = x.r := RU_at hx
  obtain ⟨rx, hrx⟩ : ∃ q, x.r = q := ⟨_, rfl⟩
  rw [hrx] at a1 fx e0
  rw [Nat.zero_mul, Nat.add_zero] at a1
  have c1 := great_any rx w
  have c2 := small_any r hr w
  have c3 := great_any r w
  obtain ⟨b1, hb1⟩ : ∃ q, gB rx = q := ⟨_, rfl⟩
  obtain ⟨b2, hb2⟩ : ∃ q, sB r = q := ⟨_, rfl⟩
  obtain ⟨b3, hb3⟩ : ∃ q, gB r = q := ⟨_, rfl⟩
  rw [hb1] at c1
  rw [hb2] at c2
  rw [hb3] at c3
  have eB : begB (RU s) s.length r = (b1 && (b2 || (b3 && decide (1 < s.length) && sB (RU s 1)))) := by
    unfold begB
    rw [e0, hb1, hb2, hb3]
  rw [eB]
  by_cases h1 : 1 < s.length
  · obtain ⟨y, hy⟩ : ∃ y, s[1]? = some y := ⟨_, List.getElem?_eq_getElem h1⟩
    obtain ⟨b', off', eA, -, a2, -, -⟩ := hh 1 y hy
    injection eA with eA
    injection eA with eA1 eA2 _
    subst eA1 eA2
    have fy := hF _ (List.mem_of_getElem? hy)
    rw [RU_at hy, show decide (1 < s.length) = true by simpa using h1]
    obtain ⟨ry, hry⟩ : ∃ q, y.r = q := ⟨_, rfl⟩
    rw [hry] at a2 fy ⊢
    have c4 := small_any ry fy w
    obtain ⟨b4, hb4⟩ : ∃ q, sB ry = q := ⟨_, rfl⟩
    rw [hb4] at c4 ⊢
    obtain ⟨n, hn⟩ : ∃ n, s.length = n := ⟨_, rfl⟩
    rw [hn] at h1 hC h0 hk ⊢
    have z1 : (1 : Int) < (n : Int) := by omega
    have z2 : (0 : Int) < (n : Int) := by omega
    clear hn hh hx hy hrx hry eB e0 hF hb1 hb2 hb3 hb4 fx fy hr hbl
    cases b1
    · go_enter Tryd.func28, Tryd.ntmps28
      go_wp2_with fail
      refine c1.mono ?_
      rintro e w1 ⟨rfl, hw1⟩
      subst w1
      go_wp2
      go_ret
      exact ⟨rfl, rfl⟩
    · cases b2
      · cases b3
        · go_enter Tryd.func28, Tryd.ntmps28
          go_wp2_with fail
          refine c1.mono ?_
          rintro e w1 ⟨rfl, hw1⟩
          subst w1
          go_wp2_with fail
          refine c2.mono ?_
          rintro e w1 ⟨rfl, hw1⟩
          subst w1
          go_wp2_with fail
          refine c3.mono ?_
          rintro e w1 ⟨rfl, hw1⟩
          subst w1
          go_wp2
          go_ret
          exact ⟨rfl, rfl⟩
        · go_enter Tryd.func28, Tryd.ntmps28
          go_wp2_with fail
          refine c1.mono ?_
          rintro e w1 ⟨rfl, hw1⟩
          subst w1
          go_wp2_with fail
          refine c2.mono ?_
          rintro e w1 ⟨rfl, hw1⟩
          subst w1
          go_wp2_with fail
          refine c3.mono ?_
          rintro e w1 ⟨rfl, hw1⟩
          subst w1
          go_wp2_with fail
          refine c4.mono ?_
          rintro e w1 ⟨rfl, hw1⟩
          subst w1
          go_wp2
          go_ret
          exact ⟨rfl, rfl⟩
      · go_enter Tryd.func28, Tryd.ntmps28
        go_wp2_with fail
        refine c1.mono ?_
        rintro e w1 ⟨rfl, hw1⟩
        subst w1
        go_wp2_with fail
        refine c2.mono ?_
        rintro e w1 ⟨rfl, hw1⟩
        subst w1
        go_wp2
        go_ret
        exact ⟨rfl, rfl⟩
  · rw [show decide (1 < s.length) = false by simpa using h1]
    obtain ⟨n, hn⟩ : ∃ n, s.length = n := ⟨_, rfl⟩
    rw [hn] at h1 hC h0 hk ⊢
    have z1 : ¬ (1 : Int) < (n : Int) := by omega
    have z2 : (0 : Int) < (n : Int) := by omega
    clear hn hh hx hrx eB e0 hF hb1 hb2 hb3 fx hr hbl
    cases b1
    · go_enter Tryd.func28, Tryd.ntmps28
      go_wp2_with fail
      refine c1.mono ?_
      rintro e w1 ⟨rfl, hw1⟩
      subst w1
      go_wp2
      go_ret
      exact ⟨rfl, rfl⟩
    · cases b2
      · cases b3
        · go_enter Tryd.func28, Tryd.ntmps28
          go_wp2_with fail
          refine c1.mono ?_
          rintro e w1 ⟨rfl, hw1⟩
          subst w1
          go_wp2_with fail
          refine c2.mono ?_
          rintro e w1 ⟨rfl, hw1⟩
          subst w1
          go_wp2_with fail
          refine c3.mono ?_
          rintro e w1 ⟨rfl, hw1⟩
          subst w1
          go_wp2
          go_ret
          exact ⟨rfl, rfl⟩
        · go_enter Tryd.func28, Tryd.ntmps28
          go_wp2_with fail
          refine c1.mono ?_
          rintro e w1 ⟨rfl, hw1⟩
          subst w1
          go_wp2_with fail
          refine c2.mono ?_
          rintro e w1 ⟨rfl, hw1⟩
          subst w1
          go_wp2_with fail
          refine c3.mono ?_
          rintro e w1 ⟨rfl, hw1⟩
          subst w1
          go_wp2
          go_ret
          exact ⟨rfl, rfl⟩
      · go_enter Tryd.func28, Tryd.ntmps28
        go_wp2_with fail
        refine c1.mono ?_
        rintro e w1 ⟨rfl, hw1⟩
        subst w1
        go_wp2_with fail
        refine c2.mono ?_
        rintro e w1 ⟨rfl, hw1⟩
        subst w1
        go_wp2
        go_ret
        exact ⟨rfl, rfl⟩
theorem begB_cut {l : List U3} {n e m : Nat} (hn : l.length = n) (he : e ≤ n) (hm : m + 1 < e) {x : U3} (hx : l[m]? = some x) : begB (RU (sub l (m + 1) e)) (sub l (m + 1) e).length x.r = cutB (RU l) e (m + 1) := by
  have hl : (sub l (m + 1) e).length = e - (m + 1) := sub_len (by omega) (by omega)
  have hs : ∀ j, j < e - (m + 1) → RU (sub l (m + 1) e) j = RU l (m + 1 + j) := fun j hj => by
    unfold RU
    rw [List.getD_eq_getElem?_getD, List.getD_eq_getElem?_getD, sub_at hj]
  unfold begB cutB
  rw [hl, hs 0 (by omega), show m + 1 - 1 = m by omega, RU_at hx]
  by_cases h1 : 1 < e - (m + 1)
  · rw [hs 1 h1, show decide (1 < e - (m + 1)) = true by simpa using h1, show decide (m + 1 + 1 < e) = true by simp; omega]
  · rw [show decide (1 < e - (m + 1)) = false by simpa using h1, show decide (m + 1 + 1 < e) = false by simp; omega]
    simp
set_option maxRecDepth 100000 in
set_option maxHeartbeats 8000000 in
theorem tsplit_any {w : World} {v : Value} {l : List U3} (h : US w v l) (hF : FitU l) (hk : l.length ≤ 100000) {f t : Int} (hf : -9223372036854775808 ≤ f ∧ f ≤ 9223372036854775807) (ht : -9223372036854775808 ≤ t ∧ t ≤ 9223372036854775807) :
    Calls Tryd.prog 15 #[v, .agg #[.int .i64 f, .int .i64 t]] w fun e w' => ∃ v', e = .returned v' ∧ PR w' w.heap.size v' (partsL (RU l) (min t (l.length : Int)).toNat (max f 0).toNat) ∧ Below w.heap.size w w' := by
  have HFU : Hid (FitU l) := hF
  have HUS : Hid (US w v l) := h
  obtain ⟨A, C, rfl, hC, hh⟩ := h
  obtain ⟨n, hn⟩ : ∃ n, l.length = n := ⟨_, rfl⟩
  have HN : Hid (l.length = n) := hn
  rw [hn] at hk hC HUS ⊢
  obtain ⟨R, hR⟩ : ∃ R, RU l = R := ⟨_, rfl⟩
  have HR : Hid (RU l = R) := hR
  rw [hR]
  obtain ⟨e, he⟩ : ∃ e, (min t (n : Int)).toNat = e := ⟨_, rfl⟩
  obtain ⟨F, hFf⟩ : ∃ F, (max f 0).toNat = F := ⟨_, rfl⟩
  rw [he, hFf]
  obtain ⟨L, hL⟩ : ∃ L, partsL R e F = L := ⟨_, rfl⟩
  rw [hL]
  have HL : Hid (partsL R e F = L) := hL
  obtain ⟨i0, hi, hz0, hz1, hz2⟩ := info_parts infoP
  have hen : e ≤ n := by omega
  have hM : max f 0 = (F : Int) := by omega
  clear hn hR hL hF hh
  by_cases hFe : F < e
  · have hT : min t (n : Int) = (e : Int) := by omega
    have HM : Hid (max f 0 = (F : Int) ∧ min t (n : Int) = (e : Int)) := ⟨hM, hT⟩
    clear hM hT hFf he hf ht
    have z0 : ¬ (e : Int) ≤ (F : Int) := by omega
    have z1 : IntKind.i64.wrap ((F : Int) + 1) = ((F + 1 : Nat) : Int) := by rw [IntWalk.i64_in _ (by omega)]; omega
    go_enter Tryd.func15, Tryd.ntmps15
    go_upto_region 1 with fail
    go_region
    rw [HM.out.1, HM.out.2]
    have HU0 : Hid (Up w.heap.size w (w.alloc (Obj.cells #[Value.int IntKind.i64 f, Value.int IntKind.i64 t] 23)).drew) := ((Up.refl w).alloc _).drew
    obtain ⟨W, hW⟩ : ∃ W, (w.alloc (Obj.cells #[Value.int IntKind.i64 f, Value.int IntKind.i64 t] 23)).drew = W := ⟨_, rfl⟩
    rw [hW] at HU0 ⊢
    clear hW HM
    go_wp2
    clear z0 z1
    go_loopg [5, 7, 8] (e - (F + 1)) (fun q iv ov jv wr => ∃ (i m k : Nat), i ≤ m ∧ m < e ∧ q = e - (m + 1) ∧ iv = .int .i64 (i : Int) ∧ jv = .int .i64 ((m + 1 : Nat) : Int) ∧ k ≤ i ∧ Hid (m + 1 ≤ pGo R e (i + 1)) ∧ Hid (∃ dn : List (Nat × Nat), dn.length = k ∧ wr.ownsRow w.heap.size 23 2 ov k (pC dn) ∧ dn ++ partsL R e i = L) ∧ Hid (Up w.heap.size w wr))
    case atStart => exact ⟨F, F, 0, Nat.le_refl _, hFe, rfl, rfl, by go_num, Nat.zero_le _, (pGo_ge (e - (F + 1)) (F + 1) (by omega)).1, ⟨[], rfl, World.ownsRow_nil _ _ _ _, HL.out⟩, HU0⟩
    case round =>
      clear HU0
      obtain ⟨i, m, k, him, hme, hq, rfl, rfl, hki, HP, HO, HU⟩ := hrel
      obtain ⟨E, hE⟩ : ∃ E, pGo R e (i + 1) = E := ⟨_, rfl⟩
      have HE : Hid (pGo R e (i + 1) = E) := hE
      have hE12 : i + 1 ≤ E ∧ E ≤ e := by rw [← hE]; exact pGo_ge (e - (i + 1)) (i + 1) (by omega)
      have HO2 : Hid (∃ dn : List (Nat × Nat), dn.length = k ∧ wr.ownsRow w.heap.size 23 2 u7 k (pC dn) ∧ dn ++ (i, E) :: partsL R e E = L) := by
        obtain ⟨dn, d1, d2, d3⟩ := HO.out
        exact ⟨dn, d1, d2, by rw [← d3, partsL_step (show i < e by omega), hE]⟩
      have hmE : m + 1 ≤ E := by rw [← hE]; exact HP.out
      clear HO hE HP
      by_cases hlt : m + 1 < e
      · have hc1 : cutB R e (m + 1) = true → E = m + 1 := fun hc => by
          rcases Nat.lt_or_ge (m + 1) E with hlt2 | hge
          · rw [pGo_no (R := R) (e := e) (e - (i + 1)) (i + 1) (by omega) (m + 1) (by omega) (by rw [HE.out]; exact hlt2)] at hc
            cases hc
          · omega
        have hc2 : cutB R e (m + 1) = false → m + 1 + 1 ≤ E := fun hc => by
          rcases Nat.lt_or_ge (m + 1) E with hlt2 | hge
          · omega
          · obtain rfl : E = m + 1 := by omega
            rcases pGo_is (R := R) (e := e) (e - (i + 1)) (i + 1) (by omega) with h1 | h1
            · rw [HE.out] at h1; omega
            · rw [HE.out, hc] at h1; cases h1
        obtain ⟨x, hx⟩ : ∃ x, l[m]? = some x := ⟨_, List.getElem?_eq_getElem (by rw [HN.out]; omega)⟩
        have fx := HFU.out x (List.mem_of_getElem? hx)
        have hbc := begB_cut HN.out hen hlt hx
        rw [HR.out] at hbc
        obtain ⟨A2, C2, eA, -, hh⟩ := HUS.out
        injection eA with eA1 eA2 eA3
        subst eA1 eA3
        clear eA2
        obtain ⟨b, off, rfl, hbl, a1, -, -⟩ := hh m x hx
        have a1 := cell_stay a1 HU.out.1
        have hsub : US wr (.slice (some ⟨b, off + (m + 1) * 3, none⟩) (e - (m + 1)) (C - (m + 1))) (sub l (m + 1) e) := by
          have h1 := HUS.out.stay HU.out.1
          rw [← HN.out] at h1
          exact h1.sub (by omega) (by rw [HN.out]; exact hen)
        have HCB : Hid (∀ w', Up wr.heap.size wr w' → Calls Tryd.prog 28 #[.int .i32 x.r, .slice (some ⟨b, off + (m + 1) * 3, none⟩) (e - (m + 1)) (C - (m + 1))] w' fun e' w'' => e' = .returned (.bool (cutB R e (m + 1))) ∧ w'' = w') := fun w' hu => by
          rw [← hbc]
          exact tbeg_any (hsub.stay hu.1) (fun u hu => HFU.out u (sub_mem hu)) (by rw [sub_len (by omega) (by rw [HN.out]; exact hen)]; omega) (by rw [sub_len (by omega) (by rw [HN.out]; exact hen)]; omega) x.r fx
        obtain ⟨rA, hrA⟩ : ∃ r, x.r = r := ⟨_, rfl⟩
        rw [hrA] at a1 HCB
        obtain ⟨bb, hbb⟩ : ∃ q, cutB R e (m + 1) = q := ⟨_, rfl⟩
        rw [hbb] at HCB hc1 hc2
        have HC1 : Hid (bb = true → E = m + 1) := hc1
        have HC2 : Hid (bb = false → m + 1 + 1 ≤ E) := hc2
        clear hc1 hc2 hbb hbc hh hx hrA hsub hbl fx
        have y2 : ((m + 1 : Nat) : Int) < (e : Int) := by omega
        have y3 : ((m + 1 : Nat) : Int) - 1 = (m : Int) := by omega
        have y4 : (0 : Int) ≤ (m : Int) := by omega
        have y6 : IntKind.i64.wrap (m : Int) = (m : Int) := IntWalk.i64_in _ (by omega)
        have y5 : (m : Int) < (n : Int) := by omega
        have v0 : (0 : Int) ≤ (m : Int) + 1 := by omega
        have v1 : (m : Int) + 1 ≤ (e : Int) := by omega
        have v2 : (e : Int) ≤ (C : Int) := by omega
        have v3 : ¬ C = m + 1 := by omega
        have y9 : IntKind.i64.wrap (((m + 1 : Nat) : Int) + 1) = ((m + 2 : Nat) : Int) := by rw [IntWalk.i64_in _ (by omega)]; omega
        go_upto_region 8 with fail
        refine wp_region_held_drew (S := fun w' => Up wr.heap.size wr w') (by kernel_rfl) (Up.drew (Up.refl wr)) (fun hHeld => ?_)
        (try dsimp only at hHeld)
        obtain ⟨x0, hx0⟩ : ∃ x0, wr.drew = x0 := ⟨_, rfl⟩
        rw [hx0] at hHeld ⊢
        clear hx0
        refine takeH (i := 0) (v := ?_) (d := (some 27)) rfl (by kernel_rfl) (by kernel_rfl) (by kernel_rfl) rfl (fun _ _ _ h => h) (Or.inl ⟨by kernel_rfl, ?_⟩) (by assumption) ?_; rotate_left
        · (intro w hSw; (try dsimp only at hSw); first | (go_simp; done) | (go_simp; with_reducible rfl))
        (try simp only [Act.put, List.setIfInBounds_toArray, List.set_cons_zero, List.set_cons_succ])
        refine takeH (i := 1) (v := ?_) (d := (some 28)) rfl (by kernel_rfl) (by kernel_rfl) (by kernel_rfl) rfl (fun _ _ _ h => h) (Or.inl ⟨by kernel_rfl, ?_⟩) (by assumption) ?_; rotate_left
        · (intro w hSw; (try dsimp only at hSw); first | (go_simp; done) | (go_simp; with_reducible rfl))
        (try simp only [Act.put, List.setIfInBounds_toArray, List.set_cons_zero, List.set_cons_succ])
        refine takeH (i := 2) (v := ?_) (d := (some 29)) rfl (by kernel_rfl) (by kernel_rfl) (by kernel_rfl) rfl (fun _ _ _ h => h) (Or.inl ⟨by kernel_rfl, ?_⟩) (by assumption) ?_; rotate_left
        · (intro w hSw; (try dsimp only at hSw); first | (go_simp; done) | (go_simp; with_reducible rfl))
        (try simp only [Act.put, List.setIfInBounds_toArray, List.set_cons_zero, List.set_cons_succ])
        refine takeH (i := 3) (v := ?_) (d := (some 30)) rfl (by kernel_rfl) (by kernel_rfl) (by kernel_rfl) rfl (fun _ _ _ h => h) (Or.inl ⟨by kernel_rfl, ?_⟩) (by assumption) ?_; rotate_left
        · (intro w hSw; (try dsimp only at hSw); first | (go_simp; done) | (go_simp; with_reducible rfl))
        (try simp only [Act.put, List.setIfInBounds_toArray, List.set_cons_zero, List.set_cons_succ])
        refine takeH (i := 4) (v := ?_) (d := (some 31)) rfl (by kernel_rfl) (by kernel_rfl) (by kernel_rfl) rfl (fun _ _ _ h => h) (Or.inl ⟨by kernel_rfl, ?_⟩) (by assumption) ?_; rotate_left
        · (intro w hSw; (try dsimp only at hSw); first | (go_simp; done) | (go_simp; with_reducible rfl))
        (try simp only [Act.put, List.setIfInBounds_toArray, List.set_cons_zero, List.set_cons_succ])
        refine takeH (i := 5) (v := ?_) (d := (some 32)) rfl (by kernel_rfl) (by kernel_rfl) (by kernel_rfl) rfl (fun _ _ _ h => h) (Or.inl ⟨by kernel_rfl, ?_⟩) (by assumption) ?_; rotate_left
        · (intro w hSw; (try dsimp only at hSw); have q0 := cell_stay a1 hSw.1; first | (go_simp; done) | (go_simp; with_reducible rfl))
        (try simp only [Act.put, List.setIfInBounds_toArray, List.set_cons_zero, List.set_cons_succ])
        refine takeH (i := 6) (v := ?_) (d := (some 33)) rfl (by kernel_rfl) (by kernel_rfl) (by kernel_rfl) rfl (fun _ _ _ h => h) (Or.inl ⟨by kernel_rfl, ?_⟩) (by assumption) ?_; rotate_left
        · (intro w hSw; (try dsimp only at hSw); first | (go_simp; done) | (go_simp; with_reducible rfl))
        (try simp only [Act.put, List.setIfInBounds_toArray, List.set_cons_zero, List.set_cons_succ])
        refine takeH (i := 7) (v := ?_) (d := (some 34)) rfl (by kernel_rfl) (by kernel_rfl) (by kernel_rfl) rfl (fun _ _ _ h => h) (Or.inl ⟨by kernel_rfl, ?_⟩) (by assumption) ?_; rotate_left
        · (intro w hSw; (try dsimp only at hSw); first | (go_simp; done) | (go_simp; with_reducible rfl))
        (try simp only [Act.put, List.setIfInBounds_toArray, List.set_cons_zero, List.set_cons_succ])
        refine takeH (i := 8) (v := ?_) (d := (some 35)) rfl (by kernel_rfl) (by kernel_rfl) (by kernel_rfl) rfl (fun _ _ _ h => h) (Or.inl ⟨by kernel_rfl, ?_⟩) (by assumption) ?_; rotate_left
        · (intro w hSw; (try dsimp only at hSw); first | (go_simp; done) | (go_simp; with_reducible rfl))
        (try simp only [Act.put, List.setIfInBounds_toArray, List.set_cons_zero, List.set_cons_succ])
        refine takeH (i := 9) (v := ?_) (d := (some 36)) rfl (by kernel_rfl) (by kernel_rfl) (by kernel_rfl) rfl (fun _ _ _ h => h) (Or.inl ⟨by kernel_rfl, ?_⟩) (by assumption) ?_; rotate_left
        · (intro w hSw; (try dsimp only at hSw); first | (go_simp; done) | (go_simp; with_reducible rfl))
        (try simp only [Act.put, List.setIfInBounds_toArray, List.set_cons_zero, List.set_cons_succ])
        have cS := HCB.out x0 hHeld
        refine wpAnyH_ready (rs := [10]) (by kernel_rfl) (by simp) (AllReadyH.cons rfl (fun K hK => ?_) AllReadyH.nil)
        (try rw [if_pos (by kernel_rfl)])
        go_simp
        refine cS.mono ?_
        rintro ev w2 ⟨rfl, hw2⟩
        subst w2
        clear cS
        go_wp2_with fail
        refine hK.out _ _ hHeld (fun hHeld => ?_)
        clear hK K
        (try dsimp only at hHeld)
        (try simp only [Act.put, List.setIfInBounds_toArray, List.set_cons_zero, List.set_cons_succ])
        refine wpAnyH_done (by kernel_rfl) ?_ _
        have HU2 : Hid (Up w.heap.size w x0) := HU.out.stay hHeld.1
        have HO3 : Hid (∃ dn : List (Nat × Nat), dn.length = k ∧ x0.ownsRow w.heap.size 23 2 u7 k (pC dn) ∧ dn ++ (i, E) :: partsL R e E = L) := by
          obtain ⟨dn, d1, d2, d3⟩ := HO2.out
          exact ⟨dn, d1, own_stay d2 hHeld.1, d3⟩
        clear HO2 HU HCB a1 v0 v1 v2 v3 y3 y4 y5 y6
        cases bb
        · have HCO : Hid (m + 1 + 1 ≤ E) := HC2.out rfl
          have HO4 : Hid (∃ dn : List (Nat × Nat), dn.length = k ∧ x0.ownsRow w.heap.size 23 2 u7 k (pC dn) ∧ dn ++ partsL R e i = L) := by
            obtain ⟨dn, d1, d2, d3⟩ := HO3.out
            exact ⟨dn, d1, d2, by rw [← d3, partsL_step (show i < e by omega), HE.out]⟩
          clear HC1 HC2 HO3 hHeld
          go_wp2
          go_roundg (e - (m + 2))
          case measure => omega
          case rel => exact ⟨i, m + 1, k, by omega, by omega, rfl, rfl, by go_num, hki, by show _ ≤ _; rw [HE.out]; exact HCO.out, HO4, HU2⟩
        · obtain rfl : E = m + 1 := HC1.out rfl
          clear HC1 HC2 hHeld
          obtain ⟨dn, hdl, hdo, hdr⟩ := HO3.out
          go_wp2_with (at_builtin; refine wpList_append_own _ rfl _ _ 30 rfl w.heap.size 23 i0 _ 2 16 Tryd.underlying30 hi hz0 hz1 hz2 rfl (by decide) _ _ _ rfl (World.ownsRow.alloc hdo _) ⟨x0.heap.size, 0, none⟩ 1 1 [.int .i64 (i : Int), .int .i64 ((m + 1 : Nat) : Int)] rfl rfl ?c1 ?c2 ?c3 ?c4 ?c5 ?_)
          case c1 =>
            intro j u hj
            match j, hj with
            | 0, hj => simp at hj; subst hj; simp [Addr.add]
            | 1, hj => simp at hj; subst hj; simp [Addr.add]
            | (j + 2), hj => simp at hj
          case c2 => intro u hu; simp at hu; rcases hu with rfl | rfl <;> rfl
          case c3 => unfold maxLen; omega
          case c4 => omega
          case c5 => have := HU2.out.2; simp only [World.size_alloc]; omega
          intro v' w3 hown2 hgr hnil
          have HO4 : Hid (∃ dn : List (Nat × Nat), dn.length = k + 1 ∧ w3.ownsRow w.heap.size 23 2 v' (k + 1) (pC dn) ∧ dn ++ partsL R e (m + 1) = L) := by
            refine ⟨dn ++ [(i, m + 1)], by rw [List.length_append, hdl]; rfl, ?_, ?_⟩
            · rw [pC_app]; exact hown2
            · rw [← hdr]; simp
          have HU4 : Hid (Up w.heap.size w w3) := (HU2.out.alloc _).grown hgr (own_base hdo)
          clear hown2 hgr hnil HO3 hdo hdl hdr HU2
          go_wp2
          go_roundg (e - (m + 2))
          case measure => omega
          case rel => exact ⟨m + 1, m + 1, k + 1, Nat.le_refl _, by omega, rfl, rfl, by go_num, by omega, (pGo_ge (e - (m + 1 + 1)) (m + 1 + 1) (by omega)).1, HO4, HU4⟩
      · obtain rfl : E = m + 1 := by omega
        obtain rfl : e = m + 1 := by omega
        have y2 : ¬ ((m + 1 : Nat) : Int) < ((m + 1 : Nat) : Int) := by omega
        obtain ⟨dn, hdl, hdo, hdr⟩ := HO2.out
        go_wp2_with (at_builtin; refine wpList_append_own _ rfl _ _ 30 rfl w.heap.size 23 i0 _ 2 16 Tryd.underlying30 hi hz0 hz1 hz2 rfl (by decide) _ _ _ rfl (World.ownsRow.alloc hdo _) ⟨wr.heap.size, 0, none⟩ 1 1 [.int .i64 (i : Int), .int .i64 ((m + 1 : Nat) : Int)] rfl rfl ?c1 ?c2 ?c3 ?c4 ?c5 ?_)
        case c2 => exact ⟨rfl, rfl⟩
        case c3 => unfold maxLen; omega
        case c4 => omega
        case c5 => have := HU.out.2; omega
        intro v' w3 hown2 hgr hnil
        have HFn : Hid (PR w3 w.heap.size v' L ∧ Below w.heap.size w w3) := by
          refine ⟨?_, ((HU.out.alloc _).grown hgr (own_base hdo)).1⟩
          have e1 : L = dn ++ [(i, m + 1)] := by rw [← hdr, partsL_end (Nat.le_refl _)]
          unfold PR
          rw [e1, List.length_append, hdl, pC_app]
          exact hown2
        clear hown2 hgr hnil HO2 hdo hdl hdr HU
        go_wp2
        go_ret
        exact ⟨_, rfl, HFn.out.1, HFn.out.2⟩
  · obtain ⟨T, hT⟩ : ∃ T, min t (n : Int) = T := ⟨_, rfl⟩
    have HM : Hid (max f 0 = (F : Int) ∧ min t (n : Int) = T) := ⟨hM, hT⟩
    have z0 : T ≤ (F : Int) := by omega
    have HFn : Hid (PR w w.heap.size (.slice none 0 0) L) := by
      have e1 : L = [] := by rw [← HL.out, partsL_end (by omega)]
      show PR _ _ _ _
      rw [e1]
      exact World.ownsRow_nil _ _ _ _
    clear hM hT hFf he hf ht
    go_enter Tryd.func15, Tryd.ntmps15
    go_upto_region 1 with fail
    go_region
    rw [HM.out.1, HM.out.2]
    have HU0 : Hid (Up w.heap.size w (w.alloc (Obj.cells #[Value.int IntKind.i64 f, Value.int IntKind.i64 t] 23)).drew) := ((Up.refl w).alloc _).drew
    obtain ⟨W, hW⟩ : ∃ W, (w.alloc (Obj.cells #[Value.int IntKind.i64 f, Value.int IntKind.i64 t] 23)).drew = W := ⟨_, rfl⟩
    rw [hW] at HU0 ⊢
    clear hW HM
    go_wp2
    go_ret
    exact ⟨_, rfl, HFn.out.stay HU0.out.1, HU0.out.1⟩
end Go.Proofs.YtbhjkkbempnjeaaDoor
