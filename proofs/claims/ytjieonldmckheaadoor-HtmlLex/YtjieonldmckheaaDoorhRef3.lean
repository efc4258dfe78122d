/- The reference's shut, SameTag. -/
import Derived.Test.YtjieonldmckheaaDoorhRef2
namespace Go.Proofs.YtjieonldmckheaaDoor
set_option linter.unusedVariables false
open Go.RowKit Go.ChangeShapes
set_option maxRecDepth 100000 in
set_option maxHeartbeats 2000000 in
theorem rshut_any {s : ByteArray} {c : Nat → Int} {n : Nat} (h : SC s c n) (hn : n ≤ 100000) (i : Nat) (hi : i ≤ n) (l : List Int) (hl : Byt l) (hl0 : l ≠ []) (hl9 : l.length ≤ 100000) (u : ByteArray) (hu : strOfNums l = u) (w : World) :
    Calls Tryd.prog 35 #[.string s, .int .i64 i, .string u] w fun e w' => e = .returned (.int .i64 (fs (shB l c n) n i : Nat)) ∧ Below w.heap.size w w' := by
  have HH : Hid (SC s c n ∧ Byt l ∧ strOfNums l = u) := ⟨h, hl, hu⟩
  have hsn := h.1
  obtain ⟨m, hm⟩ : ∃ m, l.length = m := ⟨_, rfl⟩
  have hsz : u.size = m := by rw [← hu, strOfNums_size, hm]
  have HM : Hid (l.length = m) := hm
  rw [hm] at hl9
  obtain ⟨F, hF⟩ : ∃ F, fs (shB l c n) n i = F := ⟨_, rfl⟩
  have HF : Hid (fs (shB l c n) n i = F) := hF
  rw [hF]
  clear h hl hu hl0 hm hF
  go_enter Tryd.func35, Tryd.ntmps35
  go_wp2
  go_loopg [1] (n - i) (fun q iv wr => ∃ k : Nat, k ≤ n ∧ q = n - k ∧ iv = .int .i64 k ∧ Hid (fs (shB l c n) n k = F) ∧ Hid (Below w.heap.size w wr))
  case atStart => exact ⟨i, hi, rfl, rfl, HF, Below.refl _ _⟩
  case round =>
    obtain ⟨k, hk, hq, rfl, HK, HW⟩ := hrel
    by_cases hlt : k < n
    · have z1 : (k : Int) < (s.size : Int) := by omega
      have ct := rat_any HH.out.1 (by omega) k (by omega) ⟨#[60, 47]⟩ [60, 47] (byt_lit _ rfl) rfl (by decide) (by simp) wr
      obtain ⟨g, hg⟩ : ∃ g, shB l c n k = g := ⟨_, rfl⟩
      have HG : Hid (shB l c n k = g) := hg
      have HKN : Hid (g = false → fs (shB l c n) n (k + 1) = F) := fun e => by rw [← HK.out]; exact (fs_no hlt (hg.trans e)).symm
      have HKY : Hid (g = true → F = k) := fun e => by rw [← HK.out]; exact fs_yes (hg.trans e)
      unfold shB at hg
      rw [HM.out] at hg
      clear hsn
      go_upto_region 4 with fail
      go_cut [60] (fun v wx => v = .bool g ∧ Hid (Below w.heap.size w wx))
      case first =>
        cases h60 : oc [60, 47] c k with
        | false =>
          rw [h60] at ct hg
          have HE : Hid (g = false) := by show g = false; rw [← hg]; simp
          clear hg h60
          go_wp2_with fail
          refine ct.mono ?_
          rintro e w1 ⟨rfl, hw⟩
          subst w1
          go_wp2
          go_meet
          case rel => exact ⟨by rw [HE.out], HW⟩
        | true =>
          rw [h60] at ct hg
          by_cases hr : k + 2 + m ≤ n
          · have z2 : (k : Int) + 2 + (m : Int) ≤ (s.size : Int) := by have := HH.out.1.1; omega
            have z3 : (0 : Int) ≤ (k : Int) + 2 := by omega
            have z4 : (k : Int) + 2 ≤ (k : Int) + 2 + (m : Int) := by omega
            have hex := sc_sub HH.out.1 (k + 2) (k + 2 + m) (by omega) hr
            rw [show k + 2 + m - (k + 2) = m by omega] at hex
            have cl := rlow_any (c := fun j => c (k + 2 + j)) (n := m) (fun j hj => HH.out.1.2.1.1 _ (by omega)) (by omega) _ hex.symm wr
            have e1 : nm (fun j => c (k + 2 + j)) 0 m = nm c (k + 2) (k + 2 + m) := by
              have := nm_shift c (k + 2) (k + 2 + m)
              rw [show k + 2 + m - (k + 2) = m by omega] at this
              exact this
            rw [e1] at cl
            have hcmp := nums_beq (nm_byt HH.out.1.2.1 (k + 2) (k + 2 + m) hr) HH.out.2.1
            rw [HH.out.2.2] at hcmp
            obtain ⟨Y, hY⟩ : ∃ Y, strOfNums (nm c (k + 2) (k + 2 + m)) = Y := ⟨_, rfl⟩
            rw [hY] at cl hcmp
            have dd : decide (k + 2 + m ≤ n) = true := by simpa using hr
            rw [dd] at hg
            have q9 : (k : Int) + 2 + (m : Int) ≤ 300000 := by omega
            clear hex e1 hY dd h60
            cases hb : (nm c (k + 2) (k + 2 + m) == l) with
            | false =>
              rw [hb] at hcmp hg
              have hne : ¬ Y.toList = u.toList := by simpa using hcmp
              have HE : Hid (g = false) := by show g = false; rw [← hg]; simp
              clear hg hb hcmp
              go_wp2_with fail
              refine ct.mono ?_
              rintro e w1 ⟨rfl, hw⟩
              subst w1
              go_wp2_with fail
              refine cl.mono ?_
              rintro e w2 ⟨rfl, hb2⟩
              have HB2 : Hid (Below w.heap.size w w2) := HW.out.trans (hb2.mono HW.out.size)
              clear hb2 cl ct
              have hne2 : (Y.toList == u.toList) = false := by simpa using hne
              go_wp2
              go_meet
              case rel => exact ⟨by rw [HE.out], HB2⟩
            | true =>
              rw [hb] at hcmp hg
              have heq : Y.toList = u.toList := by simpa using hcmp
              have HE0 : Hid (g = shK c n (k + 2 + m)) := by show g = _; rw [← hg]; simp
              clear hg hb hcmp
              go_wp2_with fail
              refine ct.mono ?_
              rintro e w1 ⟨rfl, hw⟩
              subst w1
              go_wp2_with fail
              refine cl.mono ?_
              rintro e w2 ⟨rfl, hb2⟩
              have HB2 : Hid (Below w.heap.size w w2) := HW.out.trans (hb2.mono HW.out.size)
              clear hb2 cl ct
              by_cases hen : k + 2 + m = n
              · have HE : Hid (g = true) := by
                  show g = true
                  rw [HE0.out]
                  unfold shK
                  have : decide (n ≤ k + 2 + m) = true := by simp; omega
                  rw [this]
                  rfl
                have z5 : (k : Int) + 2 + (m : Int) = (s.size : Int) := by have := HH.out.1.1; omega
                have z6 : ((k : Int) + 2 + (m : Int) == (s.size : Int)) = true := by simpa using z5
                clear z5 hen
                go_wp2
                go_meet
                case rel => exact ⟨by rw [HE.out], HB2⟩
              · have hltk : k + 2 + m < n := by omega
                have z6 : ((k : Int) + 2 + (m : Int) == (s.size : Int)) = false := by have := HH.out.1.1; simp only [beq_eq_false_iff_ne]; omega
                have z7 : (k : Int) + 2 + (m : Int) < (s.size : Int) := by have := HH.out.1.1; omega
                have z8 : (0 : Int) ≤ (k : Int) + 2 + (m : Int) := by omega
                have z9 : k + 2 + m < s.size := by have := HH.out.1.1; omega
                have cb := rblank_any HH.out.1 (by omega) (k + 2 + m) w2
                rw [show ((k + 2 + m : Nat) : Int) = (k : Int) + 2 + (m : Int) by omega] at cb
                have hxx := HH.out.1.2.2.1 (k + 2 + m) z9
                have HE1 : Hid (g = (c (k + 2 + m) == 47 || c (k + 2 + m) == 62 || bkB (c (k + 2 + m)))) := by
                  show g = _
                  rw [HE0.out]
                  unfold shK
                  have : decide (n ≤ k + 2 + m) = false := by simp; omega
                  rw [this]
                  simp
                obtain ⟨x, hx⟩ : ∃ x, c (k + 2 + m) = x := ⟨_, rfl⟩
                rw [hx] at cb hxx HE1
                clear hx
                cases hbk : bkB x with
                | true =>
                  rw [hbk] at cb
                  have HE : Hid (g = true) := by show g = true; rw [HE1.out, hbk]; simp
                  clear hbk
                  go_wp2_with fail
                  refine cb.mono ?_
                  rintro e w3 ⟨rfl, hw⟩
                  subst w3
                  go_wp2
                  go_meet
                  case rel => exact ⟨by rw [HE.out], HB2⟩
                | false =>
                  rw [hbk] at cb
                  by_cases x47 : x = 47
                  · have HE : Hid (g = true) := by show g = true; rw [HE1.out, x47]; rfl
                    subst x47
                    clear hbk
                    go_wp2_with fail
                    refine cb.mono ?_
                    rintro e w3 ⟨rfl, hw⟩
                    subst w3
                    go_wp2
                    go_meet
                    case rel => exact ⟨by rw [HE.out], HB2⟩
                  · by_cases x62 : x = 62
                    · have HE : Hid (g = true) := by show g = true; rw [HE1.out, x62]; rfl
                      subst x62
                      clear hbk
                      go_wp2_with fail
                      refine cb.mono ?_
                      rintro e w3 ⟨rfl, hw⟩
                      subst w3
                      go_wp2
                      go_meet
                      case rel => exact ⟨by rw [HE.out], HB2⟩
                    · have k1 : (x == 47) = false := by simpa using x47
                      have k2 : (x == 62) = false := by simpa using x62
                      have HE : Hid (g = false) := by show g = false; rw [HE1.out, k1, k2, hbk]; rfl
                      clear hbk
                      go_wp2_with fail
                      refine cb.mono ?_
                      rintro e w3 ⟨rfl, hw⟩
                      subst w3
                      go_wp2
                      go_meet
                      case rel => exact ⟨by rw [HE.out], HB2⟩
          · have z2 : ¬ (k : Int) + 2 + (m : Int) ≤ (s.size : Int) := by have := HH.out.1.1; omega
            have z3 : decide ((k : Int) + 2 + (m : Int) ≤ (s.size : Int)) = false := by simpa using z2
            have HE : Hid (g = false) := by
              show g = false
              rw [← hg]
              have : decide (k + 2 + m ≤ n) = false := by simpa using hr
              rw [this]
              simp
            clear hg h60
            go_wp2_with fail
            refine ct.mono ?_
            rintro e w1 ⟨rfl, hw⟩
            subst w1
            go_wp2
            go_meet
            case rel => exact ⟨by rw [HE.out], HW⟩
      case rest =>
        obtain ⟨rfl, HWc⟩ := hcut
        clear hg ct
        cases g with
        | true =>
          go_wp2
          go_ret
          exact ⟨by rw [HKY.out (by simp)]; rfl, HWc.out⟩
        | false =>
          go_wp2
          go_roundg (n - (k + 1))
          case measure => omega
          case rel => exact ⟨k + 1, by omega, rfl, by go_num, HKN.out (by simp), HWc⟩
    · have z1 : ¬ (k : Int) < (s.size : Int) := by omega
      have HE : Hid (F = n) := by show F = n; rw [← HK.out, fs_end _ (by omega)]; omega
      go_wp2
      go_ret
      refine ⟨?_, HW.out⟩
      rw [HE.out]
      first | rfl | (simp; omega)
set_option maxRecDepth 100000 in
set_option maxHeartbeats 1000000 in
theorem rsame_any {w : World} {ba bb : Nat} {va vb : Value} {l : List (Nat × Nat)} (e : Nat) (X : ByteArray) (cl : Bool) (ha : PR w ba va l) (hb : PR w bb vb l) (hn : l.length ≤ 100000) (he : e ≤ 100000) : Calls Tryd.prog 19 #[.agg #[.int .i64 e, .string X, .bool cl, va], .agg #[.int .i64 e, .string X, .bool cl, vb]] w fun ev w' =>
    ev = .returned (.bool true) ∧ Below w.heap.size w w' := by
  obtain ⟨aa, ca, rfl⟩ := ha.form
  obtain ⟨ab, cb, rfl⟩ := hb.form
  obtain ⟨n, en⟩ : ∃ n, l.length = n := ⟨_, rfl⟩
  have HN : Hid (l.length = n) := en
  obtain ⟨W, hW⟩ : ∃ W, (w.alloc (.cells #[.int .i64 e, .string X, .bool cl, .slice aa n ca] 46)).alloc (.cells #[.int .i64 e, .string X, .bool cl, .slice ab n cb] 46) = W := ⟨_, rfl⟩
  have hb1 := below_alloc w (.cells #[.int .i64 e, .string X, .bool cl, .slice aa n ca] 46)
  have hb2 := below_alloc (w.alloc (.cells #[.int .i64 e, .string X, .bool cl, .slice aa n ca] 46)) (.cells #[.int .i64 e, .string X, .bool cl, .slice ab n cb] 46)
  have hbW : Below w.heap.size w W := by rw [← hW]; exact hb1.trans (hb2.mono hb1.size)
  have g0 : W.heap[w.heap.size]? = some (.cells #[.int .i64 e, .string X, .bool cl, .slice aa n ca] 46) := by rw [← hW]; exact blk_stay (heap_alloc_new _ _) hb2
  have hs1 : (w.alloc (.cells #[.int .i64 e, .string X, .bool cl, .slice aa n ca] 46)).heap.size = w.heap.size + 1 := by simp
  have g1 : W.heap[w.heap.size + 1]? = some (.cells #[.int .i64 e, .string X, .bool cl, .slice ab n cb] 46) := by rw [← hW, ← hs1]; exact heap_alloc_new _ _
  rw [en] at ha hb hn ⊢
  have HA : Hid (PR W ba (.slice aa n ca) l ∧ PR W bb (.slice ab n cb) l ∧ Below w.heap.size w W) := ⟨ha.stay hbW, hb.stay hbW, hbW⟩
  have y0 : W.cell? ⟨w.heap.size, 0, none⟩ = some (.int .i64 e) := by simp [World.cell?, g0]
  have y1 : W.cell? ⟨w.heap.size, 1, none⟩ = some (.string X) := by simp [World.cell?, g0]
  have y2 : W.cell? ⟨w.heap.size, 2, none⟩ = some (.bool cl) := by simp [World.cell?, g0]
  have y3 : W.cell? ⟨w.heap.size, 3, none⟩ = some (.slice aa n ca) := by simp [World.cell?, g0]
  have x0 : W.cell? ⟨w.heap.size + 1, 0, none⟩ = some (.int .i64 e) := by simp [World.cell?, g1]
  have x1 : W.cell? ⟨w.heap.size + 1, 1, none⟩ = some (.string X) := by simp [World.cell?, g1]
  have x2 : W.cell? ⟨w.heap.size + 1, 2, none⟩ = some (.bool cl) := by simp [World.cell?, g1]
  have x3 : W.cell? ⟨w.heap.size + 1, 3, none⟩ = some (.slice ab n cb) := by simp [World.cell?, g1]
  have k1 : ((e : Int) != (e : Int)) = false := by simp
  have k2 : (cl != cl) = false := by simp
  clear ha hb en hb1 hb2 hbW g0 g1 hs1
  go_enter Tryd.func19, Tryd.ntmps19
  go_wp2
  go_loopg [5] n (fun q iv wr => ∃ i : Nat, i ≤ n ∧ q = n - i ∧ iv = .int .i64 i ∧ Hid (Below W.heap.size W wr))
  case atStart => exact ⟨0, Nat.zero_le _, rfl, rfl, Below.refl _ _⟩
  case round =>
    obtain ⟨i, hi, hq, rfl, HU⟩ := hrel
    have v3 := cell_stay y3 HU.out
    have u3 := cell_stay x3 HU.out
    by_cases hlt : i < n
    · have z1 : (i : Int) < (n : Int) := by omega
      have z2 : (0 : Int) ≤ (i : Int) := by omega
      have hA := HA.out.1.stay HU.out
      have hB := HA.out.2.1.stay HU.out
      obtain ⟨ga, rfl, -, -⟩ := own_at (n := n) (by have := HA.out.1; unfold PR at this; rw [HN.out] at this; exact this) (by omega)
      obtain ⟨gb, rfl, -, -⟩ := own_at (n := n) (by have := HA.out.2.1; unfold PR at this; rw [HN.out] at this; exact this) (by omega)
      obtain ⟨p, hp⟩ : ∃ p, l[i]? = some p := ⟨l[i]'(by rw [HN.out]; exact hlt), List.getElem?_eq_getElem _⟩
      obtain ⟨a1, a2⟩ := hA.cells HN.out.symm hp
      obtain ⟨b1, b2⟩ := hB.cells HN.out.symm hp
      obtain ⟨px, py⟩ := p
      dsimp only at a1 a2 b1 b2
      have k3 : ((px : Int) == (px : Int)) = true := by simp
      have k4 : ((py : Int) == (py : Int)) = true := by simp
      clear hA hB hp y0 y1 y2 y3 x0 x1 x2 x3
      go_upto_region 6 with fail
      go_quiet (fail)
      go_wp2
      go_roundg (n - (i + 1))
      case measure => omega
      case rel => exact ⟨i + 1, by omega, rfl, by go_num, below_drewN HU.out _⟩
    · obtain rfl : i = n := by omega
      have z1 : ¬ (i : Int) < (i : Int) := by omega
      clear y0 y1 y2 y3 x0 x1 x2 x3
      go_wp2
      go_ret
      exact ⟨rfl, HA.out.2.2.trans (HU.out.mono HA.out.2.2.size)⟩
end Go.Proofs.YtjieonldmckheaaDoor
