/- html: behind, isClosing, closing, end. -/
import Derived.Test.YtodjfeheagnnpaaDoorhIdx
namespace Go.Proofs.YtodjfeheagnnpaaDoor
set_option linter.unusedVariables false
open Go.RowKit Go.ChangeShapes
set_option maxRecDepth 100000 in
theorem behind_any {w : World} {b off n cap : Nat} {c : Nat → Int} {x : Int} (hC : Ch c n) (h : BC w (some ⟨b, off, none⟩) n c) (hn : n ≤ 1000000) (hcap : n ≤ cap) (i : Nat) (hi : i ≤ n) (t : List Int) (ht : Byt t) (h0 : t ≠ []) (h9 : t.length ≤ 100) (hx : w.cell? ⟨1, 0, none⟩ = some (.int .i64 x)) :
    Calls Tryd.prog 51 #[.slice (some ⟨b, off, none⟩) n cap, .int .i64 i, .string (strOfNums t)] w fun ev w' => ev = .returned (.int .i64 (bh t c n i : Nat)) ∧ Below w.heap.size w w' := by
  have hcv := Lib.run_convert_string_bytes (P := Tryd.prog) w 9 22 5 (strOfNums t) Tryd.underlying9 Tryd.underlying22 Tryd.underlying5
  rw [strOfNums_size] at hcv
  have hb2 := conv_bc w t ht
  have hbw := conv_below w (strOfNums t)
  generalize Lib.bytesWorld w 5 (strOfNums t) = W at hcv hb2 hbw
  generalize grownCap w t.length 0 5 = gc at hcv
  obtain ⟨adk, hk⟩ : ∃ adk, (if cap = i then some (⟨b, off, none⟩ : Addr) else some ⟨b, off + i, none⟩) = adk := ⟨_, rfl⟩
  have hfr := BC.from (h.stay hbw) i hi hcap
  rw [hk] at hfr
  have hk0 : adk ≠ none := by rw [← hk]; split <;> simp
  have ct := idx_any (cap := cap - i) (d := gc) (hC.from i hi) hfr hk0 (by omega) (by omega) hb2 rfl ht h0 (by omega) (cell_stay hx hbw)
  rw [ix_bh hi] at ct
  have HBW : Hid (Below w.heap.size w W) := hbw
  have hle := fs_le (oc t c) hi
  have hge := fs_ge (oc t c) n i
  obtain ⟨R, hR⟩ : ∃ R, bh t c n i = R := ⟨_, rfl⟩
  rw [hR]
  unfold bh at hR
  have hsz : (strOfNums t).size = t.length := strOfNums_size t
  generalize fs (oc t c) n i = A at ct hle hge hR
  generalize strOfNums t = s at hcv hsz ⊢
  obtain ⟨m, hm⟩ : ∃ m, t.length = m := ⟨_, rfl⟩
  rw [hm] at hcv ct hR h9 hsz
  have z1 : (0 : Int) ≤ (i : Int) := by omega
  have z2 : (i : Int) ≤ (n : Int) := by omega
  clear hfr hb2 hk0 h hbw hm hC ht h0
  by_cases hA : A < n
  · rw [if_pos hA] at ct hR
    obtain ⟨D, hD⟩ : ∃ D : Nat, (A : Int) - i = (D : Int) := ⟨A - i, by omega⟩
    rw [hD] at ct
    have HR : Hid (R = i + D + m) := by show R = _; omega
    have q1 : ¬ (D : Int) < 0 := by omega
    have q2 : (D : Int) ≤ 1000000 := by omega
    have q3 : (m : Int) ≤ 100 := by omega
    clear hR hD hA
    go_enter Tryd.func51, Tryd.ntmps51
    go_wp2_with fail
    refine ct.mono ?_
    rintro e w1 ⟨rfl, hb1⟩
    have HB1 : Hid (Below w.heap.size w w1) := HBW.out.trans (hb1.mono HBW.out.size)
    clear ct hcv hk hb1
    go_wp2
    go_ret
    refine ⟨?_, HB1.out⟩
    rw [HR.out]
    go_num
  · rw [if_neg hA] at ct hR
    have HR : Hid (n = R) := hR
    clear hA hR
    go_enter Tryd.func51, Tryd.ntmps51
    go_wp2_with fail
    refine ct.mono ?_
    rintro e w1 ⟨rfl, hb1⟩
    have HB1 : Hid (Below w.heap.size w w1) := HBW.out.trans (hb1.mono HBW.out.size)
    clear ct hcv hk hb1
    go_wp2
    go_ret
    exact ⟨by rw [HR.out]; rfl, HB1.out⟩
/-- A name's closing tag begins there. -/
def shK (c : Nat → Int) (n k : Nat) : Bool := decide (n ≤ k) || c k == 47 || c k == 62 || bkB (c k)
def shB (l : List Int) (c : Nat → Int) (n j : Nat) : Bool := oc [60, 47] c j && decide (j + 2 + l.length ≤ n) && (nm c (j + 2) (j + 2 + l.length) == l) && shK c n (j + 2 + l.length)
theorem shB_shift (l : List Int) (c : Nat → Int) (n a : Nat) (ha : a ≤ n) : shB l (fun j => c (a + j)) (n - a) 0 = shB l c n a := by
  unfold shB shK
  rw [oc_shift]
  have h1 : nm (fun j => c (a + j)) (0 + 2) (0 + 2 + l.length) = nm c (a + 2) (a + 2 + l.length) := by
    unfold nm
    rw [show 0 + 2 + l.length - (0 + 2) = a + 2 + l.length - (a + 2) by omega]
    refine List.map_congr_left fun j _ => ?_
    show lw (c (a + (0 + 2 + j))) = _
    rw [show a + (0 + 2 + j) = a + 2 + j by omega]
  have h2 : decide (0 + 2 + l.length ≤ n - a) = decide (a + 2 + l.length ≤ n) := by
    rw [decide_eq_decide]; omega
  have h3 : decide (n - a ≤ 0 + 2 + l.length) = decide (n ≤ a + 2 + l.length) := by
    rw [decide_eq_decide]; omega
  rw [h1, h2, h3, Nat.add_zero]
  dsimp only
  rw [show a + (0 + 2 + l.length) = a + 2 + l.length by omega]
set_option maxRecDepth 100000 in
set_option maxHeartbeats 1000000 in
theorem isClosing_any {w : World} {ad : Option Addr} {n cap : Nat} {c : Nat → Int} (hC : Ch c n) (h : BC w ad n c) (hn : n ≤ 1000000) (hcap : n ≤ cap) (l : List Int) (hl : Byt l) (hl0 : l ≠ []) (hl9 : l.length ≤ 1000000) :
    Calls Tryd.prog 77 #[.slice ad n cap, .string (strOfNums l)] w fun ev w' => ev = .returned (.bool (shB l c n 0)) ∧ Below w.heap.size w w' := by
  have hcA := fun (w' : World) => Go.Lib.run_convert_bytes_const (P := Tryd.prog) w' 22 5 #[.int .u8 60, .int .u8 47] 2 2 Tryd.underlying22 Tryd.underlying5
  obtain ⟨W, hW⟩ : ∃ W, w.alloc (.cells #[.int .u8 60, .int .u8 47] 5 (2, 3)) = W := ⟨_, rfl⟩
  have hL1 : BC W (some ⟨w.heap.size, 0, none⟩) 2 (fun j => [60, 47].getD j 0) := by rw [← hW]; exact lit_bc w [60, 47] (2, 3)
  have hB1 : Below w.heap.size w W := by rw [← hW]; exact below_alloc w _
  have HBW : Hid (Below w.heap.size w W) := hB1
  have hb1 := h.stay hB1
  obtain ⟨g, hg⟩ : ∃ g, shB l c n 0 = g := ⟨_, rfl⟩
  rw [hg]
  unfold shB at hg
  obtain ⟨m, hm⟩ : ∃ m, l.length = m := ⟨_, rfl⟩
  have hsz : (strOfNums l).size = m := by rw [strOfNums_size, hm]
  have hm0 : 0 < m := by rw [← hm]; exact List.length_pos_iff.2 hl0
  rw [hm] at hg hl9
  have HM : Hid (l.length = m ∧ Byt l) := ⟨hm, hl⟩
  cases h60 : oc [60, 47] c 0 with
  | false =>
    have ct := cutP_no (p2 := some ⟨w.heap.size, 0, none⟩) (m := 2) (d := 2) (t := [60, 47]) hC hb1 hcap hL1 rfl (byt_lit _ rfl) h60
    rw [h60] at hg
    have HG : Hid (g = false) := by show g = false; rw [← hg]; simp
    clear hg hm hL1 hb1 h hC h60
    go_enter Tryd.func77, Tryd.ntmps77
    go_wp2_with fail
    refine ct.mono ?_
    rintro e w1 ⟨rfl, hw⟩
    subst w1
    go_wp2
    go_ret
    exact ⟨by rw [HG.out]; rfl, HBW.out⟩
  | true =>
    have ct := cutP_yes (p2 := some ⟨w.heap.size, 0, none⟩) (m := 2) (d := 2) (t := [60, 47]) hC hb1 hcap hL1 rfl (byt_lit _ rfl) (by simp) h60
    rw [h60] at hg
    obtain ⟨n1, hn1⟩ : ∃ n1, n - 2 = n1 := ⟨_, rfl⟩
    obtain ⟨p1, hp1⟩ : ∃ p1, cap - 2 = p1 := ⟨_, rfl⟩
    have HN : Hid (n1 = n - 2 ∧ p1 = cap - 2 ∧ n ≤ cap ∧ Ch c n) := ⟨hn1.symm, hp1.symm, hcap, hC⟩
    rw [hn1, hp1] at ct
    have hn1b : n1 ≤ 1000000 := by omega
    clear hm hL1 hb1 h hC h60 hn1 hp1 hcap
    obtain ⟨s, hs⟩ : ∃ s, strOfNums l = s := ⟨_, rfl⟩
    rw [hs] at hsz ⊢
    have HSS : Hid (strOfNums l = s) := hs
    clear hs
    go_enter Tryd.func77, Tryd.ntmps77
    go_wp2_with fail
    refine ct.mono ?_
    rintro e w1 ⟨ad1, rfl, hw, hbc1, hle⟩
    subst w1
    clear ct
    by_cases hlen : n1 < m
    · have q1 : (n1 : Int) < (m : Int) := by omega
      have HG : Hid (g = false) := by
        show g = false
        rw [← hg]
        have : decide (0 + 2 + m ≤ n) = false := by
          rw [decide_eq_false_iff_not]; have := HN.out.1; omega
        rw [this]
        simp
      clear hg hbc1
      go_wp2
      go_ret
      exact ⟨by rw [HG.out]; rfl, HBW.out⟩
    · have q1 : ¬ (n1 : Int) < (m : Int) := by omega
      obtain ⟨b1, o1, rfl, -⟩ := hbc1.at (by omega)
      have ct2 := small_any (cap := p1) (hbc1.upto (m := m) (by omega)) (by omega)
      have e1 : nm (fun j => c (2 + j)) 0 m = nm c (0 + 2) (0 + 2 + m) := by
        have := nm_shift c 2 (2 + m)
        rw [show 2 + m - 2 = m by omega] at this
        rw [this]
      rw [e1] at ct2
      have hbyt : Byt (nm c (0 + 2) (0 + 2 + m)) := nm_byt HN.out.2.2.2 _ _ (by have := HN.out.1; omega)
      have hcmp := nums_beq hbyt HM.out.2
      rw [HSS.out] at hcmp
      obtain ⟨Y, hY⟩ : ∃ Y, strOfNums (nm c (0 + 2) (0 + 2 + m)) = Y := ⟨_, rfl⟩
      rw [hY] at ct2 hcmp
      have q2 : (0 : Int) ≤ (m : Int) := by omega
      have q3 : (m : Int) ≤ (p1 : Int) := by have := HN.out; omega
      have q4 : (m : Int) ≤ (n1 : Int) := by omega
      have dd : decide (0 + 2 + m ≤ n) = true := by rw [decide_eq_true_iff]; have := HN.out.1; omega
      rw [dd] at hg
      obtain ⟨adk, hk⟩ : ∃ adk, (if p1 = m then some (⟨b1, o1, none⟩ : Addr) else some ⟨b1, o1 + m, none⟩) = adk := ⟨_, rfl⟩
      have hfr := BC.from hbc1 m (by omega) (show n1 ≤ p1 by have := HN.out; omega)
      rw [hk] at hfr
      obtain ⟨n2, hn2⟩ : ∃ n2, n1 - m = n2 := ⟨_, rfl⟩
      rw [hn2] at hfr
      have HN2 : Hid (n1 - m = n2) := hn2
      clear hbc1 e1 hbyt hY dd
      cases hb : (nm c (0 + 2) (0 + 2 + m) == l) with
      | false =>
        rw [hb] at hcmp hg
        have hne : ¬ Y.toList = s.toList := by simpa using hcmp
        have HG : Hid (g = false) := by show g = false; rw [← hg]; simp
        clear hg hb hfr hk hn2
        go_wp2_with fail
        refine ct2.mono ?_
        rintro e w2 ⟨rfl, hb2⟩
        have HB2 : Hid (Below w.heap.size w w2) := HBW.out.trans (hb2.mono HBW.out.size)
        clear ct2 hb2
        go_wp2
        go_ret
        exact ⟨by rw [HG.out]; rfl, HB2.out⟩
      | true =>
        rw [hb] at hcmp hg
        have heq : Y.toList = s.toList := by simpa using hcmp
        have HG : Hid (g = shK c n (0 + 2 + m)) := by show g = _; rw [← hg]; simp
        clear hg hb
        go_wp2_with fail
        refine ct2.mono ?_
        rintro e w2 ⟨rfl, hb2⟩
        have HB2 : Hid (Below w.heap.size w w2) := HBW.out.trans (hb2.mono HBW.out.size)
        have hfr2 := hfr.stay hb2
        clear ct2 hb2 hfr
        by_cases hz : n2 = 0
        · have q5 : ((n2 : Int) == 0) = true := by rw [hz]; rfl
          have q6 : (n2 : Int) = 0 := by omega
          have HE : Hid (g = true) := by
            show g = true
            rw [HG.out]
            unfold shK
            have : decide (n ≤ 0 + 2 + m) = true := by rw [decide_eq_true_iff]; have := HN.out; have := HN2.out; omega
            rw [this]
            simp
          clear hz hfr2
          go_wp2
          go_ret
          exact ⟨by rw [HE.out]; rfl, HB2.out⟩
        · obtain ⟨b3, o3, rfl, hc3⟩ := hfr2.at (by omega)
          have hc30 := hc3 0 (by omega)
          have e3 : c (2 + (m + 0)) = c (0 + 2 + m) := by rw [show 2 + (m + 0) = 0 + 2 + m by omega]
          rw [e3, Nat.add_zero] at hc30
          have q5 : ((n2 : Int) == 0) = false := by simp only [beq_eq_false_iff_ne]; omega
          have q6 : ¬ (n2 : Int) = 0 := by omega
          have q7 : (0 : Int) < (n2 : Int) := by omega
          have hKK : shK c n (0 + 2 + m) = (c (0 + 2 + m) == 47 || c (0 + 2 + m) == 62 || bkB (c (0 + 2 + m))) := by
            unfold shK
            have : decide (n ≤ 0 + 2 + m) = false := by rw [decide_eq_false_iff_not]; have := HN.out; have := HN2.out; omega
            rw [this]
            simp
          obtain ⟨x, hx⟩ : ∃ x, c (0 + 2 + m) = x := ⟨_, rfl⟩
          rw [hx] at hc30 hKK
          have HE : Hid (g = (x == 47 || x == 62 || bkB x)) := by show g = _; rw [HG.out, hKK]
          have cb := blank_any x w2
          clear hfr2 hc3 e3 hKK hx
          by_cases h47 : x = 47
          · subst h47
            go_wp2
            go_ret
            exact ⟨by rw [HE.out]; rfl, HB2.out⟩
          · by_cases h62 : x = 62
            · subst h62
              go_wp2
              go_ret
              exact ⟨by rw [HE.out]; rfl, HB2.out⟩
            · have k1 : (x == 47) = false := by simpa using h47
              have k2 : (x == 62) = false := by simpa using h62
              have HE2 : Hid (g = bkB x) := by show g = _; rw [HE.out, k1, k2]; rfl
              go_wp2_with fail
              refine cb.mono ?_
              rintro e w3 ⟨rfl, hw⟩
              subst w3
              go_wp2
              go_ret
              exact ⟨by rw [HE2.out]; rfl, HB2.out⟩
set_option maxRecDepth 100000 in
theorem closing_any {w : World} {b off n cap : Nat} {c : Nat → Int} (hC : Ch c n) (h : BC w (some ⟨b, off, none⟩) n c) (hn : n ≤ 1000000) (hcap : n ≤ cap) (i : Nat) (hi : i ≤ n) (l : List Int) (hl : Byt l) (hl0 : l ≠ []) (hl9 : l.length ≤ 1000000) :
    Calls Tryd.prog 63 #[.slice (some ⟨b, off, none⟩) n cap, .int .i64 i, .string (strOfNums l)] w fun ev w' => ev = .returned (.int .i64 (fs (shB l c n) n i : Nat)) ∧ Below w.heap.size w w' := by
  have HB : Hid (BC w (some ⟨b, off, none⟩) n c ∧ Ch c n) := ⟨h, hC⟩
  obtain ⟨R, hR⟩ : ∃ R, fs (shB l c n) n i = R := ⟨_, rfl⟩
  have HR : Hid (fs (shB l c n) n i = R) := hR
  rw [hR]
  obtain ⟨s, hs⟩ : ∃ s, strOfNums l = s := ⟨_, rfl⟩
  have HSS : Hid (strOfNums l = s) := hs
  rw [hs]
  clear hs hR h hC
  go_enter Tryd.func63, Tryd.ntmps63
  go_wp2
  go_loopg [7] (n - i) (fun q iv wr => ∃ k : Nat, k ≤ n ∧ q = n - k ∧ iv = .int .i64 k ∧ Hid (fs (shB l c n) n k = R) ∧ Hid (Below w.heap.size w wr))
  case atStart => exact ⟨i, hi, rfl, rfl, HR, Below.refl _ _⟩
  case round =>
    obtain ⟨k, hk, hq, rfl, HK, HW⟩ := hrel
    by_cases hlt : k < n
    · have z1 : (k : Int) < (n : Int) := by omega
      have z2 : (0 : Int) ≤ (k : Int) := by omega
      have z3 : (k : Int) ≤ (n : Int) := by omega
      have z4 : ¬ cap = k := by omega
      have hfr := BC.from (HB.out.1.stay HW.out) k (by omega) hcap
      rw [if_neg z4] at hfr
      have ct := isClosing_any (cap := cap - k) (HB.out.2.from k (by omega)) hfr (by omega) (by omega) l hl hl0 hl9
      rw [shB_shift l c n k (by omega), HSS.out] at ct
      have HS0 : Hid (k < n) := hlt
      cases hb : shB l c n k with
      | true =>
        rw [hb] at ct
        have HE : Hid (R = k) := by show R = k; rw [← HK.out]; exact fs_yes hb
        clear hb hfr
        go_wp2_with fail
        refine ct.mono ?_
        rintro e w1 ⟨rfl, hb1⟩
        have HB1 : Hid (Below w.heap.size w w1) := HW.out.trans (hb1.mono HW.out.size)
        clear ct hb1
        go_wp2
        go_ret
        exact ⟨by rw [HE.out]; rfl, HB1.out⟩
      | false =>
        rw [hb] at ct
        have HE : Hid (fs (shB l c n) n (k + 1) = R) := by show _ = R; rw [← HK.out]; exact (fs_no hlt hb).symm
        clear hb hfr
        go_wp2_with fail
        refine ct.mono ?_
        rintro e w1 ⟨rfl, hb1⟩
        have HB1 : Hid (Below w.heap.size w w1) := HW.out.trans (hb1.mono HW.out.size)
        clear ct hb1
        go_wp2
        go_roundg (n - (k + 1))
        case measure => have := HS0.out; omega
        case rel => exact ⟨k + 1, HS0.out, rfl, by go_num, HE, HB1⟩
    · have z1 : ¬ (k : Int) < (n : Int) := by omega
      have HE : Hid (R = n) := by show R = n; rw [← HK.out, fs_end _ (by omega)]; omega
      go_wp2
      go_ret
      exact ⟨by rw [HE.out]; rfl, HW.out⟩
end Go.Proofs.YtodjfeheagnnpaaDoor
