/- tex: math. -/
import Derived.Test.YtlgfmhhhecaddaaDoorxGrp
import Derived.Lib.SlBytesConst
namespace Go.Proofs.YtlgfmhhhecaddaaDoor
set_option linter.unusedVariables false
open Go.RowKit Go.ChangeShapes
section
variable {w0 w : World} {S b off n cap B T gs i : Nat} {c L : Nat → Int}
theorem En.preM {V : World} (hs : Sta S b n cap B T gs c) (h : En w0 S V b off n cap B T gs c L i) (k : Nat) (hk : k ≤ n) {ad : Option Addr} (ha : (if cap = k then some (⟨b, off, none⟩ : Addr) else some ⟨b, off + k, none⟩) = ad) (t : List Int) (ht : Byt t) {p2 : Option Addr} {m d : Nat} (hm : t.length = m) (h2 : BC V p2 m (fun j => t.getD j 0)) :
    Calls Tryd.prog 37 #[.slice ad (n - k) (cap - k), .slice p2 m d] V fun e w' => e = .returned (.bool (oc t c k)) ∧ w' = V := by
  have hfr := BC.from h.bc k hk hs.nc
  rw [ha] at hfr
  have := hasP_any (cap := cap - k) (d := d) (hs.ch.from k hk) hfr (by have := hs.nc; omega) h2 hm ht
  rw [oc_shift, Nat.add_zero] at this
  exact this
set_option maxRecDepth 100000 in
set_option maxHeartbeats 16000000 in
theorem math_any (hs : Sta S b n cap B T gs c) (h : En w0 S w b off n cap B T gs c L i) (hi : i < n) :
    Calls Tryd.prog 25 #[.pointer (some ⟨B, 0, none⟩)] w (SP w0 S b off n cap B T gs c (stp 19 B) (setL L 4 (i : Int) ((mtE c n i : Nat) : Int)) (mtE c n i)) := by
  have hcA := fun (w' : World) => Go.Lib.run_convert_bytes_const (P := Tryd.prog) w' 22 5 #[.int .u8 36] 1 1 Tryd.underlying22 Tryd.underlying5
  have hcB := fun (w' : World) => Go.Lib.run_convert_bytes_const (P := Tryd.prog) w' 22 5 #[.int .u8 36, .int .u8 36] 2 2 Tryd.underlying22 Tryd.underlying5
  have hn := hs.n6
  have hnc := hs.nc
  have hbig := hs.big
  obtain ⟨ad, ha⟩ : ∃ ad, (if cap = i then some (⟨b, off, none⟩ : Addr) else some ⟨b, off + i, none⟩) = ad := ⟨_, rfl⟩
  obtain ⟨V0, hV0⟩ : ∃ V0, w.alloc (.cells #[.int .u8 36] 5 (1, 2)) = V0 := ⟨_, rfl⟩
  have hL0 : BC V0 (some ⟨w.heap.size, 0, none⟩) 1 (fun j => [36].getD j 0) := by rw [← hV0]; exact lit_bc w [36] (1, 2)
  have hB0 : Below w.heap.size w V0 := by rw [← hV0]; exact below_alloc w _
  have hE0 := h.stay hB0
  have cr := rest_any hs hE0 (by omega) ha
  obtain ⟨g0, hg0⟩ : ∃ g0, w.heap.size = g0 := ⟨_, rfl⟩
  have HG0 : Hid (w.heap.size = g0) := hg0
  have HL0 : Hid (BC V0 (some ⟨g0, 0, none⟩) 1 (fun j => [36].getD j 0)) := by rw [← hg0]; exact hL0
  have HE0 : Hid (En w0 S V0 b off n cap B T gs c L i) := hE0
  have HH : Hid (Sta S b n cap B T gs c ∧ En w0 S w b off n cap B T gs c L i) := ⟨hs, h⟩
  have HA : Hid ((if cap = i then some (⟨b, off, none⟩ : Addr) else some ⟨b, off + i, none⟩) = ad) := ha
  obtain ⟨Q, hQ⟩ : ∃ Q, SP w0 S b off n cap B T gs c (stp 19 B) (setL L 4 (i : Int) ((mtE c n i : Nat) : Int)) (mtE c n i) = Q := ⟨_, rfl⟩
  rw [hQ]
  have HQ : Hid (SP w0 S b off n cap B T gs c (stp 19 B) (setL L 4 (i : Int) ((mtE c n i : Nat) : Int)) (mtE c n i) = Q) := hQ
  clear hs h hQ ha hg0 hL0 hB0 hE0
  go_enter Tryd.func25, Tryd.ntmps25
  go_wp2_with fail
  rw [HG0.out]
  refine cr.mono ?_
  rintro ev w1 ⟨rfl, hb1⟩
  have hE1 := HE0.out.stay hb1
  have hl1 := HL0.out.stay hb1
  obtain ⟨W, hW⟩ : ∃ W, w1.alloc (.cells #[.int .u8 36, .int .u8 36] 5 (2, 3)) = W := ⟨_, rfl⟩
  have hL2 : BC W (some ⟨w1.heap.size, 0, none⟩) 2 (fun j => [36, 36].getD j 0) := by rw [← hW]; exact lit_bc w1 [36, 36] (2, 3)
  have hBW : Below w1.heap.size w1 W := by rw [← hW]; exact below_alloc w1 _
  have hE2 := hE1.stay hBW
  have cH := hE2.preM (m := 2) (d := 2) HH.out.1 i (by omega) HA.out [36, 36] (byt_lit _ rfl) rfl hL2
  have HE2 : Hid (En w0 S W b off n cap B T gs c L i) := hE2
  have HL2 : Hid (BC W (some ⟨g0, 0, none⟩) 1 (fun j => [36].getD j 0)) := hl1.stay hBW
  clear hE1 hE2 hBW hL2 cr hb1 hl1 HL0 HE0 hV0
  cases hoc : oc [36, 36] c i with
  | true =>
    rw [hoc] at cH
    have hmq : Hid (mqS c i = [36, 36]) := by show _ = _; unfold mqS; rw [hoc]; rfl
    have hmn : Hid (i + 2 ≤ n) := oc_len HH.out.1.ch.2 [36, 36] (byt_lit _ rfl) i (by simp) hoc
    clear hoc
    go_wp2_with fail
    refine cH.mono ?_
    rintro ev w2 ⟨rfl, hw⟩
    subst w2
    obtain ⟨V, hV⟩ : ∃ V, W.alloc (.cells #[.int .u8 36, .int .u8 36] 5 (2, 3)) = V := ⟨_, rfl⟩
    have hL3 : BC V (some ⟨W.heap.size, 0, none⟩) 2 (fun j => [36, 36].getD j 0) := by rw [← hV]; exact lit_bc W [36, 36] (2, 3)
    have hBV : Below W.heap.size W V := by rw [← hV]; exact below_alloc W _
    obtain ⟨g2, hg2⟩ : ∃ g2, W.heap.size = g2 := ⟨_, rfl⟩
    have HG2 : Hid (W.heap.size = g2) := hg2
    have HL : Hid (BC V (some ⟨g2, 0, none⟩) 2 (fun j => [36, 36].getD j 0)) := by rw [← hg2]; exact hL3
    have HV : Hid (En w0 S V b off n cap B T gs c L i) := HE2.out.stay hBV
    clear cH hW hL3 hBV HE2 HL2 hg2
    obtain ⟨x0, x1, x2⟩ := HV.out.cells
    have hKK : Hid (mtK c n i = sk (oc [36, 36] c) c n (i + 2) ∧ mtE c n i = min (sk (oc [36, 36] c) c n (i + 2) + 2) n) := by unfold mtE mtK; rw [hmq.out]; exact ⟨rfl, rfl⟩
    go_wp2_with fail
    (try rw [HG2.out])
    (try clear hcA hcB hV)
    go_loopg [4] (n + 2 - (i + 2)) (fun q tv wr => ∃ k : Nat, q = n + 2 - k ∧ i + 2 ≤ k ∧ k ≤ n + 1 ∧ tv = .int .i64 k ∧ wr = V ∧ Hid (sk (oc [36, 36] c) c n k = sk (oc [36, 36] c) c n (i + 2)))
    case atStart => exact ⟨i + 2, by omega, Nat.le_refl _, by have := hmn.out; omega, by go_num, rfl, rfl⟩
    case round =>
      obtain ⟨k, hq, hk1, hk2, rfl, rfl, HK⟩ := hrel
      by_cases hkn : k < n
      · have z1 : (k : Int) < (n : Int) := by omega
        have z2 : (0 : Int) ≤ (k : Int) := by omega
        have z3 : (k : Int) ≤ (n : Int) := by omega
        have z4 : ¬ (k : Int) < 0 := by omega
        have z5 : ¬ cap = k := by omega
        have cP := HV.out.preM (m := 2) (d := 2) HH.out.1 k (by omega) (if_neg z5) [36, 36] (byt_lit _ rfl) rfl HL.out
        obtain ⟨b', off', e, hc⟩ := HV.out.bc k hkn
        injection e with e
        injection e with e1 e2 _
        subst e1 e2
        cases hoc : oc [36, 36] c k with
        | true =>
          rw [hoc] at cP
          have hk := HK.out
          rw [sk_yes hkn hoc] at hk
          have HF : Hid (mtE c n i = min (k + 2) n) := by show _ = _; rw [hKK.out.2, ← hk]
          clear hk hoc hc
          go_wp2_with fail
          refine cP.mono ?_
          rintro ev w2 ⟨rfl, hw⟩
          subst w2
          clear cP
          go_wp2_with fail
          rw [show ((k : Int) + 2) = ((k + 2 : Nat) : Int) by omega]
          refine (flay_any HH.out.1 HV.out (by omega) 4 (k + 2) (min (k + 2) n) (by omega) rfl).mono ?_
          rintro ev w3 ⟨rfl, hE3⟩
          go_wp2
          rw [← HQ.out, HF.out]
          exact ⟨rfl, hE3⟩
        | false =>
          rw [hoc] at cP
          have hk := HK.out
          rw [sk_no hkn hoc] at hk
          have htk := tkn_pos (c k)
          have cT := taken_any (c k) wr
          obtain ⟨t2, ht2⟩ : ∃ t2, tkn (c k) = t2 := ⟨_, rfl⟩
          rw [ht2] at hk htk cT
          have HK2 : Hid (sk (oc [36, 36] c) c n (k + t2) = sk (oc [36, 36] c) c n (i + 2)) := hk
          have y2 : (t2 : Int) ≤ 2 := by omega
          obtain ⟨ck, hck⟩ : ∃ ck, c k = ck := ⟨_, rfl⟩
          rw [hck] at hc cT
          clear hk hoc ht2 hck
          go_wp2_with fail
          refine cP.mono ?_
          rintro ev w2 ⟨rfl, hw⟩
          subst w2
          clear cP
          go_wp2_with fail
          refine cT.mono ?_
          rintro ev w2 ⟨rfl, hw⟩
          subst w2
          go_wp2
          go_roundg (n + 2 - (k + t2))
          case measure => omega
          case rel => exact ⟨k + t2, rfl, by omega, by omega, by go_num, rfl, HK2.out⟩
      · have z1 : ¬ (k : Int) < (n : Int) := by omega
        have hk := HK.out
        rw [sk_end _ _ (by omega)] at hk
        have HF : Hid (mtE c n i = min (k + 2) n) := by show _ = _; rw [hKK.out.2, ← hk]
        clear hk
        go_wp2_with fail
        rw [show ((k : Int) + 2) = ((k + 2 : Nat) : Int) by omega]
        refine (flay_any HH.out.1 HV.out (by omega) 4 (k + 2) (min (k + 2) n) (by omega) rfl).mono ?_
        rintro ev w3 ⟨rfl, hE3⟩
        go_wp2
        rw [← HQ.out, HF.out]
        exact ⟨rfl, hE3⟩
  | false =>
    rw [hoc] at cH
    have hmq : Hid (mqS c i = [36]) := by show _ = _; unfold mqS; rw [hoc]; rfl
    have hmn : Hid (i + 1 ≤ n) := hi
    clear hoc
    go_wp2_with fail
    refine cH.mono ?_
    rintro ev w2 ⟨rfl, hw⟩
    subst w2
    clear cH
    have HV := HE2
    have HL := HL2
    clear HE2 HL2 hcA hcB hW
    generalize W = V at *
    obtain ⟨x0, x1, x2⟩ := HV.out.cells
    have hKK : Hid (mtK c n i = sk (oc [36] c) c n (i + 1) ∧ mtE c n i = min (sk (oc [36] c) c n (i + 1) + 1) n) := by unfold mtE mtK; rw [hmq.out]; exact ⟨rfl, rfl⟩
    go_wp2_with fail
    (try rw [HG2.out])
    (try clear hcA hcB hV)
    go_loopg [4] (n + 2 - (i + 1)) (fun q tv wr => ∃ k : Nat, q = n + 2 - k ∧ i + 1 ≤ k ∧ k ≤ n + 1 ∧ tv = .int .i64 k ∧ wr = V ∧ Hid (sk (oc [36] c) c n k = sk (oc [36] c) c n (i + 1)))
    case atStart => exact ⟨i + 1, by omega, Nat.le_refl _, by have := hmn.out; omega, by go_num, rfl, rfl⟩
    case round =>
      obtain ⟨k, hq, hk1, hk2, rfl, rfl, HK⟩ := hrel
      by_cases hkn : k < n
      · have z1 : (k : Int) < (n : Int) := by omega
        have z2 : (0 : Int) ≤ (k : Int) := by omega
        have z3 : (k : Int) ≤ (n : Int) := by omega
        have z4 : ¬ (k : Int) < 0 := by omega
        have z5 : ¬ cap = k := by omega
        have cP := HV.out.preM (m := 1) (d := 1) HH.out.1 k (by omega) (if_neg z5) [36] (byt_lit _ rfl) rfl HL.out
        obtain ⟨b', off', e, hc⟩ := HV.out.bc k hkn
        injection e with e
        injection e with e1 e2 _
        subst e1 e2
        cases hoc : oc [36] c k with
        | true =>
          rw [hoc] at cP
          have hk := HK.out
          rw [sk_yes hkn hoc] at hk
          have HF : Hid (mtE c n i = min (k + 1) n) := by show _ = _; rw [hKK.out.2, ← hk]
          clear hk hoc hc
          go_wp2_with fail
          refine cP.mono ?_
          rintro ev w2 ⟨rfl, hw⟩
          subst w2
          clear cP
          go_wp2_with fail
          rw [show ((k : Int) + 1) = ((k + 1 : Nat) : Int) by omega]
          refine (flay_any HH.out.1 HV.out (by omega) 4 (k + 1) (min (k + 1) n) (by omega) rfl).mono ?_
          rintro ev w3 ⟨rfl, hE3⟩
          go_wp2
          rw [← HQ.out, HF.out]
          exact ⟨rfl, hE3⟩
        | false =>
          rw [hoc] at cP
          have hk := HK.out
          rw [sk_no hkn hoc] at hk
          have htk := tkn_pos (c k)
          have cT := taken_any (c k) wr
          obtain ⟨t2, ht2⟩ : ∃ t2, tkn (c k) = t2 := ⟨_, rfl⟩
          rw [ht2] at hk htk cT
          have HK2 : Hid (sk (oc [36] c) c n (k + t2) = sk (oc [36] c) c n (i + 1)) := hk
          have y2 : (t2 : Int) ≤ 2 := by omega
          obtain ⟨ck, hck⟩ : ∃ ck, c k = ck := ⟨_, rfl⟩
          rw [hck] at hc cT
          clear hk hoc ht2 hck
          go_wp2_with fail
          refine cP.mono ?_
          rintro ev w2 ⟨rfl, hw⟩
          subst w2
          clear cP
          go_wp2_with fail
          refine cT.mono ?_
          rintro ev w2 ⟨rfl, hw⟩
          subst w2
          go_wp2
          go_roundg (n + 2 - (k + t2))
          case measure => omega
          case rel => exact ⟨k + t2, rfl, by omega, by omega, by go_num, rfl, HK2.out⟩
      · have z1 : ¬ (k : Int) < (n : Int) := by omega
        have hk := HK.out
        rw [sk_end _ _ (by omega)] at hk
        have HF : Hid (mtE c n i = min (k + 1) n) := by show _ = _; rw [hKK.out.2, ← hk]
        clear hk
        go_wp2_with fail
        rw [show ((k : Int) + 1) = ((k + 1 : Nat) : Int) by omega]
        refine (flay_any HH.out.1 HV.out (by omega) 4 (k + 1) (min (k + 1) n) (by omega) rfl).mono ?_
        rintro ev w3 ⟨rfl, hE3⟩
        go_wp2
        rw [← HQ.out, HF.out]
        exact ⟨rfl, hE3⟩
end
end Go.Proofs.YtlgfmhhhecaddaaDoor
