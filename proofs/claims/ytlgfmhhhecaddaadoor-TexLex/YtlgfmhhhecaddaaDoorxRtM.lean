/- The reference: tex: a remark, single signs, math, formulas. -/
import Derived.Test.YtlgfmhhhecaddaaDoorxRb
import Derived.Test.YtlgfmhhhecaddaaDoorxBsl
namespace Go.Proofs.YtlgfmhhhecaddaaDoor
set_option linter.unusedVariables false
open Go.RowKit Go.ChangeShapes
/-- What is told of what stands at a place. -/
def RtP (w : World) (g n E : Nat) (L : Nat → Int) (ev : Ending) (w' : World) : Prop := ev = .returned (.int .i64 (E : Nat)) ∧ LR w' g n L ∧ w.grownBy w' (some g)
section
variable {s : ByteArray} {c L : Nat → Int} {n g i : Nat} {w : World}
set_option maxRecDepth 100000 in
set_option maxHeartbeats 16000000 in
theorem rtex_rem (h : SC s c n) (hn : n ≤ 65536) (hR : LR w g n L) (hi : i < n) (h37 : c i = 37) :
    Calls Tryd.prog 22 #[.slice (some ⟨g, 0, none⟩) n n, .string s, .int .i64 i] w (RtP w g n (bh [10] c n i) (setL L 3 (i : Int) ((bh [10] c n i : Nat) : Int))) := by
  have hsz := h.1
  have z1 : (0 : Int) ≤ (i : Int) := by omega
  have z2 : (i : Int) < (n : Int) := by omega
  have z3 : i < s.size := by omega
  have hx := h.2.2.1 i z3
  rw [h37] at hx
  have hle := bh_gt h.2.1 hi
  have cb := rbehind_any h (by omega) i (by omega) ⟨#[10]⟩ [10] b10 (by kernel_rfl) (by decide) (by simp) w
  obtain ⟨R, hRR⟩ : ∃ R, bh [10] c n i = R := ⟨_, rfl⟩
  rw [hRR] at hle cb ⊢
  clear h37 hRR
  have HH : Hid (SC s c n ∧ LR w g n L) := ⟨h, hR⟩
  obtain ⟨Q, hQ⟩ : ∃ Q, RtP w g n R (setL L 3 (i : Int) (R : Int)) = Q := ⟨_, rfl⟩
  rw [hQ]
  have HQ : Hid (RtP w g n R (setL L 3 (i : Int) (R : Int)) = Q) := hQ
  clear h hR hQ
  go_enter Tryd.func22, Tryd.ntmps22
  go_wp2_with fail
  refine cb.mono ?_
  rintro ev w1 ⟨rfl, hw⟩
  subst w1
  go_wp2_with fail
  refine (rput_any HH.out.2 hn 3 i R (by omega)).mono ?_
  rintro ev w2 ⟨rfl, hr_w2, hg_w2, -⟩
  go_wp2
  rw [← HQ.out]
  exact ⟨rfl, hr_w2, hg_w2⟩
set_option maxRecDepth 100000 in
set_option maxHeartbeats 16000000 in
theorem rtex_mk (h : SC s c n) (hn : n ≤ 65536) (hR : LR w g n L) (hi : i < n) (hm : mkB (c i) = true) :
    Calls Tryd.prog 22 #[.slice (some ⟨g, 0, none⟩) n n, .string s, .int .i64 i] w (RtP w g n (i + 1) (setL L 2 (i : Int) ((i + 1 : Nat) : Int))) := by
  have hsz := h.1
  have z1 : (0 : Int) ≤ (i : Int) := by omega
  have z2 : (i : Int) < (n : Int) := by omega
  have z3 : i < s.size := by omega
  have hx := h.2.2.1 i z3
  have hcs : c i = 123 ∨ c i = 125 ∨ c i = 126 ∨ c i = 38 ∨ c i = 35 ∨ c i = 94 ∨ c i = 95 := by unfold mkB at hm; simpa [or_assoc] using hm
  clear hm
  have HH : Hid (SC s c n ∧ LR w g n L) := ⟨h, hR⟩
  obtain ⟨Q, hQ⟩ : ∃ Q, RtP w g n (i + 1) (setL L 2 (i : Int) ((i + 1 : Nat) : Int)) = Q := ⟨_, rfl⟩
  rw [hQ]
  have HQ : Hid (RtP w g n (i + 1) (setL L 2 (i : Int) ((i + 1 : Nat) : Int)) = Q) := hQ
  clear h hR hQ
  rcases hcs with h1 | h1 | h1 | h1 | h1 | h1 | h1
  all_goals
    rw [h1] at hx
    clear h1
    go_enter Tryd.func22, Tryd.ntmps22
    go_wp2_with fail
    rw [show ((i : Int) + 1) = ((i + 1 : Nat) : Int) by omega]
    refine (rput_any HH.out.2 hn 2 i (i + 1) (by omega)).mono ?_
    rintro ev w2 ⟨rfl, hr2, hg2, -⟩
    go_wp2
    rw [← HQ.out]
    exact ⟨by go_num, hr2, hg2⟩
set_option maxRecDepth 100000 in
set_option maxHeartbeats 16000000 in
theorem rtex_pr (h : SC s c n) (hn : n ≤ 65536) (hR : LR w g n L) (hi : i < n) (h1 : mkB (c i) = false) (h2 : c i ≠ 37) (h3 : c i ≠ 36) (h4 : c i ≠ 92) :
    Calls Tryd.prog 22 #[.slice (some ⟨g, 0, none⟩) n n, .string s, .int .i64 i] w (RtP w g n (i + 1) L) := by
  have hsz := h.1
  have z1 : (0 : Int) ≤ (i : Int) := by omega
  have z2 : (i : Int) < (n : Int) := by omega
  have z3 : i < s.size := by omega
  have hx := h.2.2.1 i z3
  obtain ⟨⟨⟨⟨⟨⟨k1, k2⟩, k3⟩, k4⟩, k5⟩, k6⟩, k7⟩ : ((((((c i == 123) = false ∧ (c i == 125) = false) ∧ (c i == 126) = false) ∧ (c i == 38) = false) ∧ (c i == 35) = false) ∧ (c i == 94) = false) ∧ (c i == 95) = false := by
    unfold mkB at h1
    rw [Bool.or_eq_false_iff, Bool.or_eq_false_iff, Bool.or_eq_false_iff, Bool.or_eq_false_iff, Bool.or_eq_false_iff, Bool.or_eq_false_iff] at h1
    exact h1
  have k8 : (c i == 37) = false := by simpa using h2
  have k9 : (c i == 36) = false := by simpa using h3
  have k10 : (c i == 92) = false := by simpa using h4
  generalize c i = x at hx k1 k2 k3 k4 k5 k6 k7 k8 k9 k10
  clear h1 h2 h3 h4
  have HH : Hid (SC s c n ∧ LR w g n L) := ⟨h, hR⟩
  obtain ⟨Q, hQ⟩ : ∃ Q, RtP w g n (i + 1) L = Q := ⟨_, rfl⟩
  rw [hQ]
  have HQ : Hid (RtP w g n (i + 1) L = Q) := hQ
  clear h hR hQ
  go_enter Tryd.func22, Tryd.ntmps22
  go_wp2
  rw [← HQ.out]
  exact ⟨by go_num, HH.out.2, World.grownBy.refl _ _⟩
set_option maxRecDepth 100000 in
set_option maxHeartbeats 16000000 in
theorem rtex_mat (h : SC s c n) (hn : n ≤ 65536) (hR : LR w g n L) (hi : i < n) (h36 : c i = 36) :
    Calls Tryd.prog 22 #[.slice (some ⟨g, 0, none⟩) n n, .string s, .int .i64 i] w (RtP w g n (mtE c n i) (setL L 4 (i : Int) ((mtE c n i : Nat) : Int))) := by
  have hsz := h.1
  have z1 : (0 : Int) ≤ (i : Int) := by omega
  have z2 : (i : Int) < (n : Int) := by omega
  have z3 : i < s.size := by omega
  have hx := h.2.2.1 i z3
  rw [h36] at hx
  have ca := rat_any h (by omega) i (by omega) ⟨#[36, 36]⟩ [36, 36] (byt_lit _ rfl) (by kernel_rfl) (by decide) (by simp) w
  clear h36
  have HH : Hid (SC s c n ∧ LR w g n L) := ⟨h, hR⟩
  obtain ⟨Q, hQ⟩ : ∃ Q, RtP w g n (mtE c n i) (setL L 4 (i : Int) ((mtE c n i : Nat) : Int)) = Q := ⟨_, rfl⟩
  rw [hQ]
  have HQ : Hid (RtP w g n (mtE c n i) (setL L 4 (i : Int) ((mtE c n i : Nat) : Int)) = Q) := hQ
  clear h hR hQ
  go_enter Tryd.func22, Tryd.ntmps22
  cases hoc : oc [36, 36] c i with
  | true =>
    rw [hoc] at ca
    have hmq : mqS c i = [36, 36] := by unfold mqS; rw [hoc]; rfl
    have hKK : Hid (mtE c n i = min (sk (oc [36, 36] c) c n (i + 2) + 2) n) := by show _ = _; unfold mtE mtK; rw [hmq]; rfl
    have himn : i + 2 ≤ n := oc_len HH.out.1.2.1.2 [36, 36] (byt_lit _ rfl) i (by simp) hoc
    clear hoc hmq
    go_wp2_with fail
    refine ca.mono ?_
    rintro ev w1 ⟨rfl, hw⟩
    subst w1
    clear ca
    go_wp2_with fail
    go_loopg [9, 10] (n + 2 - (i + 2)) (fun q e9 tv wr => ∃ k : Nat, q = n + 2 - k ∧ i + 2 ≤ k ∧ k ≤ n + 1 ∧ e9 = .int .i64 n ∧ tv = .int .i64 k ∧ wr = w ∧ Hid (sk (oc [36, 36] c) c n k = sk (oc [36, 36] c) c n (i + 2)))
    case atStart => exact ⟨i + 2, rfl, Nat.le_refl _, by omega, rfl, by go_num, rfl, rfl⟩
    case round =>
      obtain ⟨k, hq, hk1, hk2, rfl, rfl, hw, HK⟩ := hrel
      subst wr
      clear hx
      by_cases hkn : k < n
      · have y1 : (k : Int) < (n : Int) := by omega
        have y2 : (0 : Int) ≤ (k : Int) := by omega
        have y3 : k < s.size := by omega
        have hx := HH.out.1.2.2.1 k y3
        by_cases h92 : c k = 92
        · have hk := HK.out
          rw [sk_no hkn (by show ((c k == 36) && _) = false; rw [h92]; rfl), show tkn (c k) = 2 by unfold tkn; rw [if_pos h92]] at hk
          have HK2 : Hid (sk (oc [36, 36] c) c n (k + 2) = sk (oc [36, 36] c) c n (i + 2)) := hk
          rw [h92] at hx
          clear hk h92
          go_wp2
          go_roundg (n + 2 - (k + 2))
          case measure => omega
          case rel => exact ⟨k + 2, rfl, by omega, by omega, rfl, by go_num, rfl, HK2⟩
        · have k92 : (c k == 92) = false := by simpa using h92
          have cc := rat_any HH.out.1 (by omega) k (by omega) ⟨#[36, 36]⟩ [36, 36] (byt_lit _ rfl) (by kernel_rfl) (by decide) (by simp) w
          cases hok : oc [36, 36] c k with
          | true =>
            rw [hok] at cc
            have hle := oc_len HH.out.1.2.1.2 [36, 36] (byt_lit _ rfl) k (by simp) hok
            have hle' : k + 2 ≤ n := hle
            have HF : Hid (mtE c n i = k + 2) := by
              show _ = _
              rw [hKK.out, ← HK.out, sk_yes hkn hok]
              omega
            generalize c k = x at hx k92
            clear hok h92 hle
            go_wp2_with fail
            refine cc.mono ?_
            rintro ev w1 ⟨rfl, hw⟩
            subst w1
            clear cc
            go_wp2_with fail
            rw [show ((k : Int) + 2) = ((k + 2 : Nat) : Int) by omega]
            refine (rput_any HH.out.2 hn 4 i (k + 2) hle').mono ?_
            rintro ev w2 ⟨rfl, hr2, hg2, -⟩
            go_wp2
            rw [← HQ.out, HF.out]
            exact ⟨by go_num, hr2, hg2⟩
          | false =>
            rw [hok] at cc
            have hk := HK.out
            rw [sk_no hkn hok, show tkn (c k) = 1 by unfold tkn; rw [if_neg h92]] at hk
            have HK2 : Hid (sk (oc [36, 36] c) c n (k + 1) = sk (oc [36, 36] c) c n (i + 2)) := hk
            generalize c k = x at hx k92
            clear hok h92 hk
            go_wp2_with fail
            refine cc.mono ?_
            rintro ev w1 ⟨rfl, hw⟩
            subst w1
            clear cc
            go_wp2
            go_roundg (n + 2 - (k + 1))
            case measure => omega
            case rel => exact ⟨k + 1, rfl, by omega, by omega, rfl, by go_num, rfl, HK2⟩
      · have y1 : ¬ (k : Int) < (n : Int) := by omega
        have HF : Hid (mtE c n i = n) := by
          show _ = _
          rw [hKK.out, ← HK.out, sk_end _ _ (by omega)]
          omega
        go_wp2_with fail
        refine (rput_any HH.out.2 hn 4 i n (Nat.le_refl _)).mono ?_
        rintro ev w2 ⟨rfl, hr2, hg2, -⟩
        go_wp2
        rw [← HQ.out, HF.out]
        exact ⟨rfl, hr2, hg2⟩
  | false =>
    rw [hoc] at ca
    have hmq : mqS c i = [36] := by unfold mqS; rw [hoc]; rfl
    have hKK : Hid (mtE c n i = min (sk (oc [36] c) c n (i + 1) + 1) n) := by show _ = _; unfold mtE mtK; rw [hmq]; rfl
    have himn : i + 1 ≤ n := hi
    clear hoc hmq
    go_wp2_with fail
    refine ca.mono ?_
    rintro ev w1 ⟨rfl, hw⟩
    subst w1
    clear ca
    go_wp2_with fail
    go_loopg [9, 10] (n + 2 - (i + 1)) (fun q e9 tv wr => ∃ k : Nat, q = n + 2 - k ∧ i + 1 ≤ k ∧ k ≤ n + 1 ∧ e9 = .int .i64 n ∧ tv = .int .i64 k ∧ wr = w ∧ Hid (sk (oc [36] c) c n k = sk (oc [36] c) c n (i + 1)))
    case atStart => exact ⟨i + 1, rfl, Nat.le_refl _, by omega, rfl, by go_num, rfl, rfl⟩
    case round =>
      obtain ⟨k, hq, hk1, hk2, rfl, rfl, hw, HK⟩ := hrel
      subst wr
      clear hx
      by_cases hkn : k < n
      · have y1 : (k : Int) < (n : Int) := by omega
        have y2 : (0 : Int) ≤ (k : Int) := by omega
        have y3 : k < s.size := by omega
        have hx := HH.out.1.2.2.1 k y3
        by_cases h92 : c k = 92
        · have hk := HK.out
          rw [sk_no hkn (by show ((c k == 36) && _) = false; rw [h92]; rfl), show tkn (c k) = 2 by unfold tkn; rw [if_pos h92]] at hk
          have HK2 : Hid (sk (oc [36] c) c n (k + 2) = sk (oc [36] c) c n (i + 1)) := hk
          rw [h92] at hx
          clear hk h92
          go_wp2
          go_roundg (n + 2 - (k + 2))
          case measure => omega
          case rel => exact ⟨k + 2, rfl, by omega, by omega, rfl, by go_num, rfl, HK2⟩
        · have k92 : (c k == 92) = false := by simpa using h92
          have cc := rat_any HH.out.1 (by omega) k (by omega) ⟨#[36]⟩ [36] (byt_lit _ rfl) (by kernel_rfl) (by decide) (by simp) w
          cases hok : oc [36] c k with
          | true =>
            rw [hok] at cc
            have hle := oc_len HH.out.1.2.1.2 [36] (byt_lit _ rfl) k (by simp) hok
            have hle' : k + 1 ≤ n := hle
            have HF : Hid (mtE c n i = k + 1) := by
              show _ = _
              rw [hKK.out, ← HK.out, sk_yes hkn hok]
              omega
            generalize c k = x at hx k92
            clear hok h92 hle
            go_wp2_with fail
            refine cc.mono ?_
            rintro ev w1 ⟨rfl, hw⟩
            subst w1
            clear cc
            go_wp2_with fail
            rw [show ((k : Int) + 1) = ((k + 1 : Nat) : Int) by omega]
            refine (rput_any HH.out.2 hn 4 i (k + 1) hle').mono ?_
            rintro ev w2 ⟨rfl, hr2, hg2, -⟩
            go_wp2
            rw [← HQ.out, HF.out]
            exact ⟨by go_num, hr2, hg2⟩
          | false =>
            rw [hok] at cc
            have hk := HK.out
            rw [sk_no hkn hok, show tkn (c k) = 1 by unfold tkn; rw [if_neg h92]] at hk
            have HK2 : Hid (sk (oc [36] c) c n (k + 1) = sk (oc [36] c) c n (i + 1)) := hk
            generalize c k = x at hx k92
            clear hok h92 hk
            go_wp2_with fail
            refine cc.mono ?_
            rintro ev w1 ⟨rfl, hw⟩
            subst w1
            clear cc
            go_wp2
            go_roundg (n + 2 - (k + 1))
            case measure => omega
            case rel => exact ⟨k + 1, rfl, by omega, by omega, rfl, by go_num, rfl, HK2⟩
      · have y1 : ¬ (k : Int) < (n : Int) := by omega
        have HF : Hid (mtE c n i = n) := by
          show _ = _
          rw [hKK.out, ← HK.out, sk_end _ _ (by omega)]
          omega
        go_wp2_with fail
        refine (rput_any HH.out.2 hn 4 i n (Nat.le_refl _)).mono ?_
        rintro ev w2 ⟨rfl, hr2, hg2, -⟩
        go_wp2
        rw [← HQ.out, HF.out]
        exact ⟨rfl, hr2, hg2⟩
set_option maxRecDepth 100000 in
set_option maxHeartbeats 16000000 in
theorem rtex_par (h : SC s c n) (hn : n ≤ 65536) (hR : LR w g n L) (hi : i < n) (h92 : c i = 92) (h1 : c (i + 1) = 40) :
    Calls Tryd.prog 22 #[.slice (some ⟨g, 0, none⟩) n n, .string s, .int .i64 i] w (RtP w g n (bh [92, 41] c n (i + 2)) (setL L 4 (i : Int) ((bh [92, 41] c n (i + 2) : Nat) : Int))) := by
  have hsz := h.1
  have z1 : (0 : Int) ≤ (i : Int) := by omega
  have z2 : (i : Int) < (n : Int) := by omega
  have z3 : i < s.size := by omega
  have hx := h.2.2.1 i z3
  rw [h92] at hx
  have hlf : ltB (c (i + 1)) = false := by rw [h1]; rfl
  obtain ⟨K, hKK⟩ : ∃ K, i + 1 = K := ⟨_, rfl⟩
  have HKd : Hid (fs (fun j => !ltB (c j)) n (i + 1) = K) := by
    show _ = _
    rw [fs_yes (by rw [hlf]; rfl), hKK]
  have HKi : Hid (i + 1 = K) := hKK
  have hKn : K ≤ n := by omega
  have hi2 := in_of h.2.1 (i := i + 1) (by omega)
  have hle := bh_le h.2.1.2 [92, 41] (byt_lit _ rfl) (by simp) (i + 2) (by omega)
  have cb := rbehind_any h (by omega) (i + 2) (by omega) ⟨#[92, 41]⟩ [92, 41] (byt_lit _ rfl) (by kernel_rfl) (by decide) (by simp) w
  have c40 := rat_any h (by omega) K (by omega) ⟨#[40]⟩ [40] (byt_lit _ rfl) (by kernel_rfl) (by decide) (by simp) w
  have c91 := rat_any h (by omega) K (by omega) ⟨#[91]⟩ [91] (byt_lit _ rfl) (by kernel_rfl) (by decide) (by simp) w
  rw [oc1, ← hKK, h1] at c40 c91
  rw [hKK] at c40 c91
  obtain ⟨R, hRR⟩ : ∃ R, bh [92, 41] c n (i + 2) = R := ⟨_, rfl⟩
  have HR : Hid (bh [92, 41] c n (i + 2) = R) := hRR
  rw [hRR] at cb hle
  clear hRR h1
  clear h92 hlf hKK
  have HH : Hid (SC s c n ∧ LR w g n L) := ⟨h, hR⟩
  obtain ⟨Q, hQ⟩ : ∃ Q, RtP w g n (bh [92, 41] c n (i + 2)) (setL L 4 (i : Int) ((bh [92, 41] c n (i + 2) : Nat) : Int)) = Q := ⟨_, rfl⟩
  rw [hQ]
  have HQ : Hid (RtP w g n (bh [92, 41] c n (i + 2)) (setL L 4 (i : Int) ((bh [92, 41] c n (i + 2) : Nat) : Int)) = Q) := hQ
  clear h hR hQ
  go_enter Tryd.func22, Tryd.ntmps22
  go_wp2_with fail
  go_loopg [11] (n + 1 - (i + 1)) (fun q tv wr => ∃ k : Nat, q = n + 1 - k ∧ i + 1 ≤ k ∧ k ≤ n ∧ tv = .int .i64 k ∧ wr = w ∧ Hid (fs (fun j => !ltB (c j)) n k = K))
  case atStart => exact ⟨i + 1, rfl, Nat.le_refl _, by omega, by go_num, rfl, HKd.out⟩
  case round =>
    obtain ⟨k, hq, hk1, hk2, rfl, hw, HK⟩ := hrel
    subst wr
    have cT := rletter_any HH.out.1 (by omega) k w
    cases hlt : ltB (c k) with
    | true =>
      have hkn : k < n := by
        rcases Nat.lt_or_ge k n with h2 | h2
        · exact h2
        · rw [HH.out.1.2.1.2 k h2] at hlt; exact absurd hlt (by decide)
      rw [hlt] at cT
      have hk := HK.out
      rw [fs_no hkn (by rw [hlt]; rfl)] at hk
      have HK2 : Hid (fs (fun j => !ltB (c j)) n (k + 1) = K) := hk
      clear hk hlt
      go_wp2_with fail
      refine cT.mono ?_
      rintro ev w2 ⟨rfl, hw⟩
      subst w2
      go_wp2
      go_roundg (n + 1 - (k + 1))
      case measure => omega
      case rel => exact ⟨k + 1, rfl, by omega, by omega, by go_num, rfl, HK2⟩
    | false =>
      rw [hlt] at cT
      have hkk : k = K := by
        rw [← HK.out]
        exact (fs_yes (by rw [hlt]; rfl)).symm
      subst hkk
      clear hlt HK hq hk1 hk2
      go_wp2_with fail
      refine cT.mono ?_
      rintro ev w2 ⟨rfl, hw⟩
      subst w2
      clear cT
      have v0 : ((k : Int) == (i : Int) + 1) = true := by have := HKi.out; simp; omega
      go_wp2_with fail
      refine c40.mono ?_
      rintro ev w2 ⟨rfl, hw⟩
      subst w2
      clear c40 c91
      go_wp2_with fail
      rw [show ((k : Int) + 1) = ((i + 2 : Nat) : Int) by have := HKi.out; omega]
      refine cb.mono ?_
      rintro ev w2 ⟨rfl, hw⟩
      subst w2
      go_wp2_with fail
      refine (rput_any HH.out.2 hn 4 i R hle.2).mono ?_
      rintro ev w3 ⟨rfl, hr3, hg3, -⟩
      go_wp2
      rw [← HQ.out, HR.out]
      exact ⟨rfl, hr3, hg3⟩
set_option maxRecDepth 100000 in
set_option maxHeartbeats 16000000 in
theorem rtex_brk (h : SC s c n) (hn : n ≤ 65536) (hR : LR w g n L) (hi : i < n) (h92 : c i = 92) (h1 : c (i + 1) = 91) :
    Calls Tryd.prog 22 #[.slice (some ⟨g, 0, none⟩) n n, .string s, .int .i64 i] w (RtP w g n (bh [92, 93] c n (i + 2)) (setL L 4 (i : Int) ((bh [92, 93] c n (i + 2) : Nat) : Int))) := by
  have hsz := h.1
  have z1 : (0 : Int) ≤ (i : Int) := by omega
  have z2 : (i : Int) < (n : Int) := by omega
  have z3 : i < s.size := by omega
  have hx := h.2.2.1 i z3
  rw [h92] at hx
  have hlf : ltB (c (i + 1)) = false := by rw [h1]; rfl
  obtain ⟨K, hKK⟩ : ∃ K, i + 1 = K := ⟨_, rfl⟩
  have HKd : Hid (fs (fun j => !ltB (c j)) n (i + 1) = K) := by
    show _ = _
    rw [fs_yes (by rw [hlf]; rfl), hKK]
  have HKi : Hid (i + 1 = K) := hKK
  have hKn : K ≤ n := by omega
  have hi2 := in_of h.2.1 (i := i + 1) (by omega)
  have hle := bh_le h.2.1.2 [92, 93] (byt_lit _ rfl) (by simp) (i + 2) (by omega)
  have cb := rbehind_any h (by omega) (i + 2) (by omega) ⟨#[92, 93]⟩ [92, 93] (byt_lit _ rfl) (by kernel_rfl) (by decide) (by simp) w
  have c40 := rat_any h (by omega) K (by omega) ⟨#[40]⟩ [40] (byt_lit _ rfl) (by kernel_rfl) (by decide) (by simp) w
  have c91 := rat_any h (by omega) K (by omega) ⟨#[91]⟩ [91] (byt_lit _ rfl) (by kernel_rfl) (by decide) (by simp) w
  rw [oc1, ← hKK, h1] at c40 c91
  rw [hKK] at c40 c91
  obtain ⟨R, hRR⟩ : ∃ R, bh [92, 93] c n (i + 2) = R := ⟨_, rfl⟩
  have HR : Hid (bh [92, 93] c n (i + 2) = R) := hRR
  rw [hRR] at cb hle
  clear hRR h1
  clear h92 hlf hKK
  have HH : Hid (SC s c n ∧ LR w g n L) := ⟨h, hR⟩
  obtain ⟨Q, hQ⟩ : ∃ Q, RtP w g n (bh [92, 93] c n (i + 2)) (setL L 4 (i : Int) ((bh [92, 93] c n (i + 2) : Nat) : Int)) = Q := ⟨_, rfl⟩
  rw [hQ]
  have HQ : Hid (RtP w g n (bh [92, 93] c n (i + 2)) (setL L 4 (i : Int) ((bh [92, 93] c n (i + 2) : Nat) : Int)) = Q) := hQ
  clear h hR hQ
  go_enter Tryd.func22, Tryd.ntmps22
  go_wp2_with fail
  go_loopg [11] (n + 1 - (i + 1)) (fun q tv wr => ∃ k : Nat, q = n + 1 - k ∧ i + 1 ≤ k ∧ k ≤ n ∧ tv = .int .i64 k ∧ wr = w ∧ Hid (fs (fun j => !ltB (c j)) n k = K))
  case atStart => exact ⟨i + 1, rfl, Nat.le_refl _, by omega, by go_num, rfl, HKd.out⟩
  case round =>
    obtain ⟨k, hq, hk1, hk2, rfl, hw, HK⟩ := hrel
    subst wr
    have cT := rletter_any HH.out.1 (by omega) k w
    cases hlt : ltB (c k) with
    | true =>
      have hkn : k < n := by
        rcases Nat.lt_or_ge k n with h2 | h2
        · exact h2
        · rw [HH.out.1.2.1.2 k h2] at hlt; exact absurd hlt (by decide)
      rw [hlt] at cT
      have hk := HK.out
      rw [fs_no hkn (by rw [hlt]; rfl)] at hk
      have HK2 : Hid (fs (fun j => !ltB (c j)) n (k + 1) = K) := hk
      clear hk hlt
      go_wp2_with fail
      refine cT.mono ?_
      rintro ev w2 ⟨rfl, hw⟩
      subst w2
      go_wp2
      go_roundg (n + 1 - (k + 1))
      case measure => omega
      case rel => exact ⟨k + 1, rfl, by omega, by omega, by go_num, rfl, HK2⟩
    | false =>
      rw [hlt] at cT
      have hkk : k = K := by
        rw [← HK.out]
        exact (fs_yes (by rw [hlt]; rfl)).symm
      subst hkk
      clear hlt HK hq hk1 hk2
      go_wp2_with fail
      refine cT.mono ?_
      rintro ev w2 ⟨rfl, hw⟩
      subst w2
      clear cT
      have v0 : ((k : Int) == (i : Int) + 1) = true := by have := HKi.out; simp; omega
      go_wp2_with fail
      refine c40.mono ?_
      rintro ev w2 ⟨rfl, hw⟩
      subst w2
      go_wp2_with fail
      refine c91.mono ?_
      rintro ev w2 ⟨rfl, hw⟩
      subst w2
      clear c40 c91
      go_wp2_with fail
      rw [show ((k : Int) + 1) = ((i + 2 : Nat) : Int) by have := HKi.out; omega]
      refine cb.mono ?_
      rintro ev w2 ⟨rfl, hw⟩
      subst w2
      go_wp2_with fail
      refine (rput_any HH.out.2 hn 4 i R hle.2).mono ?_
      rintro ev w3 ⟨rfl, hr3, hg3, -⟩
      go_wp2
      rw [← HQ.out, HR.out]
      exact ⟨rfl, hr3, hg3⟩
end
end Go.Proofs.YtlgfmhhhecaddaaDoor
