/- The reference's Read. -/
import Derived.Test.YtjieonldmckheaaDoorhRef3
namespace Go.Proofs.YtjieonldmckheaaDoor
set_option linter.unusedVariables false
open Go.RowKit Go.ChangeShapes
theorem ps_go {p : Int → Bool} {c : Nat → Int} {n j A : Nat} (hj : ps p c n j = A) (h : j < n) (hp : p (c j) = true) : ps p c n (j + 1) = A := by
  rw [← hj]; exact (fs_no h (by simp [hp])).symm
theorem ps_at {p : Int → Bool} {c : Nat → Int} {n j A : Nat} (hj : ps p c n j = A) (hp : p (c j) = false) : A = j := by
  rw [← hj]; exact fs_yes (by simp [hp])
theorem ps_out {p : Int → Bool} {c : Nat → Int} {n j A : Nat} (hj : ps p c n j = A) (h : n ≤ j) : A = j := by
  rw [← hj]; exact fs_end _ h
theorem g_yes {p : Int → Bool} {c : Nat → Int} {n j A : Nat} (hj : ps p c n j = A) (h : (decide (j < n) && p (c j)) = true) : j < n ∧ ps p c n (j + 1) = A := by
  simp only [Bool.and_eq_true, decide_eq_true_eq] at h
  exact ⟨h.1, ps_go hj h.1 h.2⟩
theorem g_no {p : Int → Bool} {c : Nat → Int} {n j A : Nat} (hj : ps p c n j = A) (h : (decide (j < n) && p (c j)) = false) : A = j := by
  by_cases hl : j < n
  · refine ps_at hj ?_
    simpa [hl] using h
  · exact ps_out hj (by omega)
set_option maxRecDepth 100000 in
theorem rread_out {s : ByteArray} {c : Nat → Int} {n : Nat} (h : SC s c n) (hn : n ≤ 100000) (i : Int) (hi : i < 0 ∨ (n : Int) ≤ i) (w : World) :
    Calls Tryd.prog 18 #[.string s, .int .i64 i] w fun ev w' => ev = .returned (.tuple #[.agg #[.int .i64 0, .string ⟨#[]⟩, .bool false, .slice none 0 0], .bool false]) ∧ Below w.heap.size w w' := by
  have hsn := h.1
  clear h
  by_cases h1 : i < 0
  · clear hi hsn
    go_enter Tryd.func18, Tryd.ntmps18
    go_wp2
    exact bodyPost_ret (v := .tuple #[.agg #[.int .i64 0, .string ⟨#[]⟩, .bool false, .slice none 0 0], .bool false]) (by simp [results, Tryd.results18, go_sem]) rfl ⟨rfl, by (repeat (first | exact Below.refl _ _ | (refine Below.alloc ?_ (by simp <;> omega) _) | (refine Below.setCell ?_ (by simp <;> omega) _)))⟩
  · have h2 : (s.size : Int) ≤ i := by omega
    clear hi hsn
    go_enter Tryd.func18, Tryd.ntmps18
    go_wp2
    exact bodyPost_ret (v := .tuple #[.agg #[.int .i64 0, .string ⟨#[]⟩, .bool false, .slice none 0 0], .bool false]) (by simp [results, Tryd.results18, go_sem]) rfl ⟨rfl, by (repeat (first | exact Below.refl _ _ | (refine Below.alloc ?_ (by simp <;> omega) _) | (refine Below.setCell ?_ (by simp <;> omega) _)))⟩
def neB (q x : Int) : Bool := x != q
theorem a4_ne {c : Nat → Int} {n e : Nat} {q : Int} (h : c e = q) : a4 c n e = ps (neB q) c n (e + 1) := by
  unfold a4 ps
  rw [h]
  congr 1
  funext j
  unfold neB bne
  rw [Bool.not_not]
theorem atE_q {c : Nat → Int} {n k A2 A3 A4 : Nat} (h2 : a2 c n k = A2) (h3 : a3 c n k = A3) (h61 : c A2 = 61) (hq : quB (c A3) = true) (h4 : a4 c n A3 = A4) : atE c n k = if A4 < n then A4 + 1 else n := by
  unfold atE vlE
  rw [h2, if_pos h61, h3, if_pos hq, h4]
theorem prL_q {c : Nat → Int} {n k A1 A2 A3 A4 : Nat} (h1 : a1 c n k = A1) (h2 : a2 c n k = A2) (h3 : a3 c n k = A3) (h61 : c A2 = 61) (hq : quB (c A3) = true) (h4 : a4 c n A3 = A4) (hn : A4 < n) :
    prL (atP c n k) = if (decide (A3 + 1 < A4) && altB (nm c k A1)) = true then [(A3 + 1, A4 - (A3 + 1))] else [] := by
  unfold atP vlP
  rw [h2, if_pos h61, h3, if_pos hq, h4, if_pos hn, h1]
  by_cases e3 : altB (nm c k A1) = true
  · rw [if_pos e3, e3]
    unfold prL
    by_cases e4 : A3 + 1 < A4
    · rw [if_pos (show 0 < (A3 + 1, A4 - (A3 + 1)).2 by dsimp only; omega), if_pos (by simpa using e4)]
    · rw [if_neg (show ¬ 0 < (A3 + 1, A4 - (A3 + 1)).2 by dsimp only; omega), if_neg (by simp; omega)]
  · rw [if_neg e3, if_neg (by simp [e3])]
    rfl
theorem prL_nq {c : Nat → Int} {n k A2 A3 : Nat} (h2 : a2 c n k = A2) (h3 : a3 c n k = A3) (h61 : c A2 = 61) (hq : quB (c A3) = false) : prL (atP c n k) = [] := by
  have e : atP c n k = (0, 0) := by
    unfold atP vlP
    rw [h2, if_pos h61, h3, if_neg (show ¬ quB (c A3) = true by rw [hq]; exact Bool.false_ne_true)]
    split <;> rfl
  rw [e]
  rfl
set_option maxRecDepth 100000 in
set_option maxHeartbeats 8000000 in
theorem rread_any {s : ByteArray} {c : Nat → Int} {n : Nat} (h : SC s c n) (hn : n ≤ 100000) (i : Nat) (hi : i < n) (w : World) :
    Calls Tryd.prog 18 #[.string s, .int .i64 i] w (RdP c n i w) := by
  have HH : Hid (SC s c n) := h
  obtain ⟨Q, hQ⟩ : ∃ Q, RdP c n i w = Q := ⟨_, rfl⟩
  rw [hQ]
  have HQ : Hid (RdP c n i w = Q) := hQ
  have hsn := h.1
  have hci := h.2.2.1 i (by omega)
  have z1 : ¬ (i : Int) < 0 := by omega
  have z2 : ¬ (s.size : Int) ≤ (i : Int) := by omega
  have z3 : (0 : Int) ≤ (i : Int) := by omega
  have z4 : i < s.size := by omega
  obtain ⟨x, hx⟩ : ∃ x, c i = x := ⟨_, rfl⟩
  rw [hx] at hci
  have HX : Hid (c i = x) := hx
  clear h hQ hx
  by_cases h60 : x = 60
  · subst h60
    have k0 : ((60 : Int) != 60) = false := by simp
    obtain ⟨cl, hcl⟩ : ∃ cl, (c (i + 1) == 47) = cl := ⟨_, rfl⟩
    have HCL : Hid ((c (i + 1) == 47) = cl) := hcl
    obtain ⟨F, hF⟩ : ∃ F, tgF c i = F := ⟨_, rfl⟩
    have hFc : F = if cl = true then i + 2 else i + 1 := by
      rw [← hF]
      unfold tgF
      by_cases e : c (i + 1) = 47
      · rw [if_pos e, ← hcl, e]; rfl
      · rw [if_neg e, ← hcl, if_neg (by simpa using e)]
    have HF : Hid (tgF c i = F) := hF
    have hF2 : F ≤ i + 2 := by rw [hFc]; split <;> omega
    have CA : Hid (∀ w', Calls Tryd.prog 30 #[.string s, .int .i64 ((i : Int) + 1), .string ⟨#[47]⟩] w' fun e w'' => e = .returned (.bool cl) ∧ w'' = w') := fun w' => by
      have := rat_any HH.out (by omega) (i + 1) (by omega) ⟨#[47]⟩ [47] (byt_lit _ rfl) rfl (by decide) (by simp) w'
      rw [oc1, hcl, show ((i + 1 : Nat) : Int) = (i : Int) + 1 by omega] at this
      exact this
    clear hcl hF
    go_enter Tryd.func18, Tryd.ntmps18
    go_wp2_with fail
    refine (CA.out _).mono ?_
    rintro e w1 ⟨rfl, hw⟩
    obtain ⟨T, hT⟩ : ∃ T, w.heap.size + 1 = T := ⟨_, rfl⟩
    have HTT : Hid (w.heap.size + 1 = T) := hT
    have hb1 := below_alloc w (.cells #[.int .i64 0, .string ⟨#[]⟩, .bool false, .slice none 0 0] 46)
    have hb2 := below_alloc (w.alloc (.cells #[.int .i64 0, .string ⟨#[]⟩, .bool false, .slice none 0 0] 46)) (.cells #[.int .i64 0, .string ⟨#[]⟩, .bool false, .slice none 0 0] 46)
    have hs1 : (w.alloc (.cells #[.int .i64 0, .string ⟨#[]⟩, .bool false, .slice none 0 0] 46)).heap.size = w.heap.size + 1 := by simp
    have hz0 : w1.heap[w.heap.size]? = some (.cells #[.int .i64 0, .string ⟨#[]⟩, .bool false, .slice none 0 0] 46) := by rw [hw]; exact blk_stay (heap_alloc_new _ _) hb2
    have ht0 : w1.heap[T]? = some (.cells #[.int .i64 0, .string ⟨#[]⟩, .bool false, .slice none 0 0] 46) := by rw [hw, ← hT, ← hs1]; exact heap_alloc_new _ _
    have HB1 : Hid (Below w.heap.size w w1) := by show Below _ _ _; rw [hw]; exact hb1.trans (hb2.mono hb1.size)
    have HZ1 : Hid (w1.heap[w.heap.size]? = some (.cells #[.int .i64 0, .string ⟨#[]⟩, .bool false, .slice none 0 0] 46)) := hz0
    have t2 : w1.cell? ⟨T, 2, none⟩ = some (.bool false) := by simp [World.cell?, ht0]
    have f2 : w1.frozen? ⟨T, 2, none⟩ = false := by simp [World.frozen?, ht0]
    have HT1 : Hid (w1.heap[T]? = some (.cells #[.int .i64 0, .string ⟨#[]⟩, .bool false, .slice none 0 0] 46)) := ht0
    (try rw [hT])
    clear hb1 hb2 hs1 hz0 ht0 hw hT
    go_upto_if 29 with fail
    go_cut [1] (fun v wx => v = .int .i64 (F : Int) ∧ Hid (wx.heap[T]? = some (.cells #[.int .i64 0, .string ⟨#[]⟩, .bool cl, .slice none 0 0] 46)) ∧ Hid (wx.heap[w.heap.size]? = some (.cells #[.int .i64 0, .string ⟨#[]⟩, .bool false, .slice none 0 0] 46)) ∧ Hid (Below w.heap.size w wx))
    case first => as_aux_lemma =>
      cases cl with
      | true => as_aux_lemma =>
        have HF2 : Hid (F = i + 2) := hFc
        clear hFc
        go_wp2
        go_meet
        case rel =>
          refine ⟨by rw [HF2.out]; go_num, ?_, ?_, ?_⟩
          · exact heap_setCell_same _ T 2 #[.int .i64 0, .string ⟨#[]⟩, .bool false, .slice none 0 0] _ _ HT1.out
          · show (World.setCell _ _ _).heap[w.heap.size]? = _
            rw [heap_setCell_other _ _ _ _ (by simp; have := HTT.out; omega)]
            exact HZ1.out
          · exact HB1.out.setCell (by simp; have := HTT.out; omega) _
      | false => as_aux_lemma =>
        have HF2 : Hid (F = i + 1) := hFc
        clear hFc
        go_wp2
        go_meet
        case rel => exact ⟨by rw [HF2.out]; go_num, HT1, HZ1, HB1⟩
    case rest =>
      obtain ⟨rfl, HTc, HZc, HBc⟩ := hcut
      have CLt : Hid (∀ w', Calls Tryd.prog 33 #[.string s, .int .i64 F] w' fun e w'' => e = .returned (.bool (ltB (c F))) ∧ w'' = w') := fun w' => rletter_any HH.out (by omega) F w'
      obtain ⟨lt, hlt⟩ : ∃ lt, ltB (c F) = lt := ⟨_, rfl⟩
      rw [hlt] at CLt
      have HLT : Hid (ltB (c F) = lt) := hlt
      clear hFc t2 f2 HT1 HZ1 HB1 hlt hci
      go_wp2_with fail
      refine (CLt.out _).mono ?_
      rintro e w2 ⟨rfl, hw⟩
      subst w2
      cases lt with
      | false => as_aux_lemma =>
        have HN : Hid (tg c n i = none) := by
          show _ = _
          unfold tg
          rw [if_neg]
          unfold bg
          rw [HX.out, HF.out, HLT.out]
          simp
        have yf0 : wc.frozen? ⟨w.heap.size, 0, none⟩ = false := by simp [World.frozen?, HZc.out]
        have yc0 : wc.cell? ⟨w.heap.size, 0, none⟩ = some (.int .i64 0) := by simp [World.cell?, HZc.out]
        have yf1 : wc.frozen? ⟨w.heap.size, 1, none⟩ = false := by simp [World.frozen?, HZc.out]
        have yc1 : wc.cell? ⟨w.heap.size, 1, none⟩ = some (.string ⟨#[]⟩) := by simp [World.cell?, HZc.out]
        have yf2 : wc.frozen? ⟨w.heap.size, 2, none⟩ = false := by simp [World.frozen?, HZc.out]
        have yc2 : wc.cell? ⟨w.heap.size, 2, none⟩ = some (.bool false) := by simp [World.cell?, HZc.out]
        have yf3 : wc.frozen? ⟨w.heap.size, 3, none⟩ = false := by simp [World.frozen?, HZc.out]
        have yc3 : wc.cell? ⟨w.heap.size, 3, none⟩ = some (.slice none 0 0) := by simp [World.cell?, HZc.out]
        go_wp2
        refine bodyPost_ret (v := .tuple #[.agg #[.int .i64 0, .string ⟨#[]⟩, .bool false, .slice none 0 0], .bool false]) (by simp [results, Tryd.results18, go_sem, *]) rfl ?_
        rw [← HQ.out]
        exact Or.inl ⟨HN.out, rfl, by (repeat (first | exact HBc.out | (refine Below.setCell ?_ (by simp <;> omega) _)))⟩
      | true => as_aux_lemma =>
        have hFn : F < n := by
          rcases Nat.lt_or_ge F n with h1 | h1
          · exact h1
          · have := HLT.out
            rw [HH.out.2.1.2 F h1] at this
            exact absurd this (by decide)
        obtain ⟨E, hE⟩ : ∃ E, ps nmB c n F = E := ⟨_, rfl⟩
        have HE : Hid (ps nmB c n F = E) := hE
        have HT : Hid (tg c n i = (rd c n E []).map fun r => ⟨r.1, nm c F E, cl, r.2⟩) := by
          show _ = _
          unfold tg
          rw [if_pos (by unfold bg; rw [HX.out, HF.out, HLT.out]; rfl), HF.out, hE, HCL.out]
        have hE2 : E ≤ n := by rw [← hE]; exact ps_le _ _ (by omega)
        have hE1 : F ≤ E := by rw [← hE]; exact ps_ge _ _ _ _
        clear hE
        go_wp2_with fail
        go_loopg [1] (n - F) (fun q iv wr => ∃ j : Nat, F ≤ j ∧ j ≤ n ∧ q = n - j ∧ iv = .int .i64 j ∧ Hid (ps nmB c n j = E) ∧ wr = wc)
        case atStart => exact ⟨F, Nat.le_refl _, by omega, rfl, rfl, HE, rfl⟩
        case round =>
          obtain ⟨j, hFj, hj, hq, rfl, HJ, hwr⟩ := hrel
          subst wr
          obtain ⟨g, hg⟩ : ∃ g, (decide (j < n) && nmB (c j)) = g := ⟨_, rfl⟩
          have HJT : Hid (g = true → j < n ∧ ps nmB c n (j + 1) = E) := fun e => g_yes HJ.out (hg.trans e)
          have HJF : Hid (g = false → E = j) := fun e => g_no HJ.out (hg.trans e)
          go_upto_region 11 with fail
          go_cut [65] (fun v wx => v = .bool g ∧ wx = wc)
          case first => as_aux_lemma =>
            by_cases hjn : j < n
            · have y1 : (j : Int) < (s.size : Int) := by omega
              have y2 : (0 : Int) ≤ (j : Int) := by omega
              have y3 : j < s.size := by omega
              have hcj := HH.out.2.2.1 j y3
              have cl1 := rletter_any HH.out (by omega) j wc
              have hg2 : nmB (c j) = g := by rw [← hg]; simp [hjn]
              generalize c j = y at hcj cl1 hg2
              clear hg
              cases hly : ltB y with
              | true => as_aux_lemma =>
                rw [hly] at cl1
                have HG : Hid (g = true) := by show g = _; rw [← hg2]; simp [nmB, hly]
                clear hly hg2
                go_wp2_with fail
                refine cl1.mono ?_
                rintro e w2 ⟨rfl, hw⟩
                subst w2
                go_wp2
                go_meet
                case rel => exact ⟨by rw [HG.out], rfl⟩
              | false => as_aux_lemma =>
                rw [hly] at cl1
                by_cases e45 : y = 45
                · have HG : Hid (g = true) := by show g = _; rw [← hg2, e45]; rfl
                  subst e45
                  clear hly hg2
                  go_wp2_with fail
                  refine cl1.mono ?_
                  rintro e w2 ⟨rfl, hw⟩
                  subst w2
                  go_wp2
                  go_meet
                  case rel => exact ⟨by rw [HG.out], rfl⟩
                · have k5 : (y == 45) = false := by simpa using e45
                  by_cases a1 : 48 ≤ y
                  · by_cases a2 : y ≤ 57
                    · have HG : Hid (g = true) := by show g = _; rw [← hg2]; simp [nmB, a1, a2]
                      clear hly hg2
                      go_wp2_with fail
                      refine cl1.mono ?_
                      rintro e w2 ⟨rfl, hw⟩
                      subst w2
                      go_wp2
                      go_meet
                      case rel => exact ⟨by rw [HG.out], rfl⟩
                    · have a3 : decide (y ≤ 57) = false := by simpa using a2
                      have HG : Hid (g = false) := by show g = _; rw [← hg2]; simp [nmB, hly, a2, e45]
                      clear hly hg2
                      go_wp2_with fail
                      refine cl1.mono ?_
                      rintro e w2 ⟨rfl, hw⟩
                      subst w2
                      go_wp2
                      go_meet
                      case rel => exact ⟨by rw [HG.out], rfl⟩
                  · have HG : Hid (g = false) := by show g = _; rw [← hg2]; simp [nmB, hly, a1, e45]
                    clear hly hg2
                    go_wp2_with fail
                    refine cl1.mono ?_
                    rintro e w2 ⟨rfl, hw⟩
                    subst w2
                    go_wp2
                    go_meet
                    case rel => exact ⟨by rw [HG.out], rfl⟩
            · have y1 : ¬ (j : Int) < (s.size : Int) := by omega
              have HG : Hid (g = false) := by show g = _; rw [← hg]; simp [hjn]
              clear hg
              go_wp2
              go_meet
              case rel => exact ⟨by rw [HG.out], rfl⟩
          case rest =>
            obtain ⟨rfl, hwx⟩ := hcut
            subst hwx
            clear hg
            cases g with
            | true => as_aux_lemma =>
              have hjn := (HJT.out (by simp)).1
              have HJ2 : Hid (ps nmB c n (j + 1) = E) := (HJT.out (by simp)).2
              go_wp2
              go_roundg (n - (j + 1))
              case measure => omega
              case rel => exact ⟨j + 1, by omega, by omega, rfl, by go_num, HJ2, rfl⟩
            | false => as_aux_lemma =>
              have hEj : E = j := HJF.out (by simp)
              subst hEj
              have y1 : (0 : Int) ≤ (F : Int) := by omega
              have y2 : (F : Int) ≤ (E : Int) := by omega
              have y3 : (E : Int) ≤ (s.size : Int) := by omega
              have hex := sc_sub HH.out F E hE1 hE2
              have clw := rlow_any (c := fun j => c (F + j)) (n := E - F) (fun j hj => HH.out.2.1.1 _ (by omega)) (by omega) _ hex.symm wc
              rw [nm_shift] at clw
              obtain ⟨X, hX⟩ : ∃ X, strOfNums (nm c F E) = X := ⟨_, rfl⟩
              rw [hX] at clw
              have HXN : Hid (strOfNums (nm c F E) = X) := hX
              clear hex hX
              go_wp2_with fail
              refine clw.mono ?_
              rintro e w3 ⟨rfl, hb3⟩
              have ht3 := blk_stay HTc.out hb3
              have hz3 := blk_stay HZc.out hb3
              have HB3 : Hid (Below w.heap.size w w3) := HBc.out.trans (hb3.mono HBc.out.size)
              have t1 : w3.cell? ⟨T, 1, none⟩ = some (.string ⟨#[]⟩) := by simp [World.cell?, ht3]
              have f1 : w3.frozen? ⟨T, 1, none⟩ = false := by simp [World.frozen?, ht3]
              obtain ⟨V, hV⟩ : ∃ V, w3.setCell ⟨T, 1, none⟩ (.string X) = V := ⟨_, rfl⟩
              have HTV : Hid (V.heap[T]? = some (.cells #[.int .i64 0, .string X, .bool cl, .slice none 0 0] 46)) := by
                show _ = _
                rw [← hV]
                exact heap_setCell_same _ T 1 #[.int .i64 0, .string ⟨#[]⟩, .bool cl, .slice none 0 0] _ _ ht3
              have HZV : Hid (V.heap[w.heap.size]? = some (.cells #[.int .i64 0, .string ⟨#[]⟩, .bool false, .slice none 0 0] 46)) := by
                show _ = _
                rw [← hV, heap_setCell_other _ _ _ _ (by simp; have := HTT.out; omega)]
                exact hz3
              have HUV : Hid (Up w.heap.size w V) := by
                show Up _ _ _
                rw [← hV]
                exact Up.setCell ⟨HB3.out, HB3.out.size⟩ (by simp; have := HTT.out; omega) _
              have HSV : Hid (T + 1 ≤ V.heap.size) := by
                show T + 1 ≤ V.heap.size
                rw [← hV]
                have := lt_of_heap ht3
                have h2 : (w3.setCell ⟨T, 1, none⟩ (.string X)).heap.size = w3.heap.size := by simp
                omega
              have HWT : Hid (w.heap.size < T) := by show _ < _; have := HTT.out; omega
              clear clw hb3 ht3 hz3
              go_wp2_with fail
              clear hV t1 f1 y1 y2 y3
              obtain ⟨i0, hi0, hzz0, hzz1, hzz2⟩ := info_parts infoPr
              go_loopg [1] (n + 1 - E) (fun q iv wr => ∃ (k : Nat) (pd : Option Addr) (pn pc : Nat), k ≤ n + 1 ∧ q = n + 1 - k ∧ iv = .int .i64 k ∧ pn ≤ k ∧ Hid (wr.heap[T]? = some (.cells #[.int .i64 0, .string X, .bool cl, .slice pd pn pc] 46)) ∧ Hid (wr.heap[w.heap.size]? = some (.cells #[.int .i64 0, .string ⟨#[]⟩, .bool false, .slice none 0 0] 46)) ∧ Hid (∃ l, l.length = pn ∧ PR wr (T + 1) (.slice pd pn pc) l ∧ rd c n k l = rd c n E []) ∧ Hid (Up w.heap.size w wr) ∧ Hid (T + 1 ≤ wr.heap.size))
              case atStart => exact ⟨E, none, 0, 0, by omega, rfl, rfl, Nat.zero_le _, HTV, HZV, ⟨[], rfl, World.ownsRow_nil _ _ _ _, rfl⟩, HUV, HSV⟩
              case round =>
                obtain ⟨k, pd, pn, pc, hk, hq, rfl, hpn, HTk, HZk, HL, HU, HS⟩ := hrel
                obtain ⟨l, hl, hpr, hrd⟩ := HL.out
                have HL2 : Hid (l.length = pn ∧ PR wr (T + 1) (.slice pd pn pc) l ∧ rd c n k l = rd c n E []) := ⟨hl, hpr, hrd⟩
                clear hl hpr hrd HL
                obtain ⟨wT, hwT⟩ : ∃ wT, wT = wr := ⟨_, rfl⟩
                rw [← hwT] at HTk HZk HL2 HU HS ⊢
                clear hwT wr
                by_cases hkn : k < n
                · have z6 : (k : Int) < (s.size : Int) := by omega
                  have z7 : (0 : Int) ≤ (k : Int) := by omega
                  have z8 : k < s.size := by omega
                  have hck := HH.out.2.2.1 k z8
                  have cbk := rblank_any HH.out (by omega) k wT
                  obtain ⟨ck, hckE⟩ : ∃ ck, c k = ck := ⟨_, rfl⟩
                  rw [hckE] at hck cbk
                  have HCK : Hid (c k = ck) := hckE
                  clear hckE
                  cases hbk : bkB ck with
                  | true => as_aux_lemma =>
                    rw [hbk] at cbk
                    have HR2 : Hid (rd c n (k + 1) l = rd c n E []) := by
                      show _ = _
                      rw [← HL2.out.2.2]
                      exact (rd_skip HH.out.2.1.2 hkn (fun e => by rw [HCK.out] at e; rw [e] at hbk; exact absurd hbk (by decide)) (Or.inr (by rw [HCK.out]; exact hbk)) l).symm
                    clear hbk
                    go_wp2_with fail
                    refine cbk.mono ?_
                    rintro e w4 ⟨rfl, hw⟩
                    subst w4
                    go_wp2
                    go_roundg (n + 1 - (k + 1))
                    case measure => omega
                    case rel => exact ⟨k + 1, pd, pn, pc, by omega, rfl, by go_num, by omega, HTk, HZk, ⟨l, HL2.out.1, HL2.out.2.1, HR2.out⟩, HU, HS⟩
                  | false => as_aux_lemma =>
                    rw [hbk] at cbk
                    by_cases h47 : ck = 47
                    · have HR2 : Hid (rd c n (k + 1) l = rd c n E []) := by
                        show _ = _
                        rw [← HL2.out.2.2]
                        exact (rd_skip HH.out.2.1.2 hkn (fun e => by rw [HCK.out] at e; omega) (Or.inl (by rw [HCK.out]; exact h47)) l).symm
                      subst h47
                      clear hbk
                      go_wp2_with fail
                      refine cbk.mono ?_
                      rintro e w4 ⟨rfl, hw⟩
                      subst w4
                      go_wp2
                      go_roundg (n + 1 - (k + 1))
                      case measure => omega
                      case rel => exact ⟨k + 1, pd, pn, pc, by omega, rfl, by go_num, by omega, HTk, HZk, ⟨l, HL2.out.1, HL2.out.2.1, HR2.out⟩, HU, HS⟩
                    · have k47 : (ck == 47) = false := by simpa using h47
                      by_cases h62 : ck = 62
                      · have HN : Hid (tg c n i = some ⟨k + 1, nm c F E, cl, l⟩) := by
                          show _ = _
                          rw [HT.out, ← HL2.out.2.2, rd_shut HH.out.2.1.2 hkn (by rw [HCK.out]; exact h62)]
                          rfl
                        subst h62
                        have t0 : wT.cell? ⟨T, 0, none⟩ = some (.int .i64 0) := by simp [World.cell?, HTk.out]
                        have t1 : wT.cell? ⟨T, 1, none⟩ = some (.string X) := by simp [World.cell?, HTk.out]
                        have t2 : wT.cell? ⟨T, 2, none⟩ = some (.bool cl) := by simp [World.cell?, HTk.out]
                        have t3 : wT.cell? ⟨T, 3, none⟩ = some (.slice pd pn pc) := by simp [World.cell?, HTk.out]
                        have f0 : wT.frozen? ⟨T, 0, none⟩ = false := by simp [World.frozen?, HTk.out]
                        have hne : ¬ w.heap.size = T := by have := HWT.out; omega
                        have hne2 : ¬ T = w.heap.size := by have := HWT.out; omega
                        have yf0 : wT.frozen? ⟨w.heap.size, 0, none⟩ = false := by simp [World.frozen?, HZk.out]
                        have yf1 : wT.frozen? ⟨w.heap.size, 1, none⟩ = false := by simp [World.frozen?, HZk.out]
                        have yf2 : wT.frozen? ⟨w.heap.size, 2, none⟩ = false := by simp [World.frozen?, HZk.out]
                        have yf3 : wT.frozen? ⟨w.heap.size, 3, none⟩ = false := by simp [World.frozen?, HZk.out]
                        have yc0 : wT.cell? ⟨w.heap.size, 0, none⟩ = some (.int .i64 0) := by simp [World.cell?, HZk.out]
                        have yc1 : wT.cell? ⟨w.heap.size, 1, none⟩ = some (.string ⟨#[]⟩) := by simp [World.cell?, HZk.out]
                        have yc2 : wT.cell? ⟨w.heap.size, 2, none⟩ = some (.bool false) := by simp [World.cell?, HZk.out]
                        have yc3 : wT.cell? ⟨w.heap.size, 3, none⟩ = some (.slice none 0 0) := by simp [World.cell?, HZk.out]
                        clear hbk
                        go_wp2_with fail
                        refine cbk.mono ?_
                        rintro e w4 ⟨rfl, hw⟩
                        subst w4
                        go_wp2
                        refine bodyPost_ret (v := .tuple #[.agg #[.int .i64 ((k : Int) + 1), .string X, .bool cl, .slice pd pn pc], .bool true]) (by simp [results, Tryd.results18, go_sem, *]) rfl ?_
                        rw [← HQ.out]
                        have hlw := HWT.out
                        refine Or.inr ⟨⟨k + 1, nm c F E, cl, l⟩, .slice pd pn pc, HN.out, ?_, ?_, by (repeat (first | exact HU.out.1 | (refine Below.setCell ?_ (by simp <;> omega) _)))⟩
                        · rw [HXN.out]; rfl
                        · have hp := HL2.out.2.1
                          unfold PR at hp ⊢
                          refine own_mono ?_ (show w.heap.size ≤ T + 1 by omega)
                          refine own_set (own_set (own_set (own_set (own_set ?_ (by simp <;> omega) _) (by simp <;> omega) _) (by simp <;> omega) _) (by simp <;> omega) _) (by simp <;> omega) _
                          exact hp
                      · have k62 : (ck == 62) = false := by simpa using h62
                        have HAT : Hid (rd c n (atE c n k) (l ++ prL (atP c n k)) = rd c n E []) := by
                          show _ = _
                          rw [← HL2.out.2.2]
                          exact (rd_attr HH.out.2.1.2 hkn (by rw [HCK.out]; exact h62) (by rw [HCK.out, hbk]; simp [h47]) l).symm
                        clear hbk
                        go_wp2_with fail
                        refine cbk.mono ?_
                        rintro e w5 ⟨rfl, hw⟩
                        subst w5
                        clear cbk
                        obtain ⟨A1, hA1⟩ : ∃ A1, ps atB c n (k + 1) = A1 := ⟨_, rfl⟩
                        have HA1s : Hid (ps atB c n (k + 1) = A1) := hA1
                        have HA1e : Hid (a1 c n k = A1) := hA1
                        clear hA1
                        go_wp2_with fail
                        clear hck z6 z7 z8 k47 k62
                        go_loopg [1] (n - (k + 1)) (fun q iv wr => ∃ j : Nat, k + 1 ≤ j ∧ j ≤ n ∧ q = n - j ∧ iv = .int .i64 j ∧ Hid (ps atB c n j = A1) ∧ wr = wT)
                        case atStart => exact ⟨k + 1, by omega, by omega, rfl, by go_num, HA1s, rfl⟩
                        case round =>
                          obtain ⟨j, hlo, hj, hq, rfl, HJ, hwr⟩ := hrel
                          subst wr
                          obtain ⟨g, hg⟩ : ∃ g, (decide (j < n) && atB (c j)) = g := ⟨_, rfl⟩
                          have HJT : Hid (g = true → j < n ∧ ps atB c n (j + 1) = A1) := fun e => g_yes HJ.out (hg.trans e)
                          have HJF : Hid (g = false → A1 = j) := fun e => g_no HJ.out (hg.trans e)
                          go_upto_region 22 with fail
                          go_cut [129] (fun v wx => v = .bool g ∧ wx = wT)
                          case first => as_aux_lemma =>
                            by_cases hjn : j < n
                            · have y1 : (j : Int) < (s.size : Int) := by omega
                              have y2 : (0 : Int) ≤ (j : Int) := by omega
                              have y3 : j < s.size := by omega
                              have hcj := HH.out.2.2.1 j y3
                              have cl1 := rblank_any HH.out (by omega) j wT
                              have hg2 : atB (c j) = g := by rw [← hg]; simp [hjn]
                              generalize c j = y at hcj cl1 hg2
                              clear hg
                              cases hly : bkB y with
                              | true => as_aux_lemma =>
                                rw [hly] at cl1
                                have HG : Hid (g = false) := by show g = _; rw [← hg2]; simp [atB, hly]
                                clear hly hg2
                                go_wp2_with fail
                                refine cl1.mono ?_
                                rintro e w5 ⟨rfl, hw⟩
                                subst w5
                                go_wp2
                                go_meet
                                case rel => exact ⟨by rw [HG.out], rfl⟩
                              | false => as_aux_lemma =>
                                rw [hly] at cl1
                                by_cases e47 : y = 47
                                · have HG : Hid (g = false) := by show g = _; rw [← hg2, e47]; rfl
                                  subst e47
                                  clear hly hg2
                                  go_wp2_with fail
                                  refine cl1.mono ?_
                                  rintro e w5 ⟨rfl, hw⟩
                                  subst w5
                                  go_wp2
                                  go_meet
                                  case rel => exact ⟨by rw [HG.out], rfl⟩
                                by_cases e62 : y = 62
                                · have HG : Hid (g = false) := by show g = _; rw [← hg2, e62]; rfl
                                  subst e62
                                  clear hly hg2
                                  go_wp2_with fail
                                  refine cl1.mono ?_
                                  rintro e w5 ⟨rfl, hw⟩
                                  subst w5
                                  go_wp2
                                  go_meet
                                  case rel => exact ⟨by rw [HG.out], rfl⟩
                                by_cases e61 : y = 61
                                · have HG : Hid (g = false) := by show g = _; rw [← hg2, e61]; rfl
                                  subst e61
                                  clear hly hg2
                                  go_wp2_with fail
                                  refine cl1.mono ?_
                                  rintro e w5 ⟨rfl, hw⟩
                                  subst w5
                                  go_wp2
                                  go_meet
                                  case rel => exact ⟨by rw [HG.out], rfl⟩
                                have n47 : (y != 47) = true := by simpa using e47
                                have n62 : (y != 62) = true := by simpa using e62
                                have n61 : (y != 61) = true := by simpa using e61
                                have HG : Hid (g = true) := by show g = _; rw [← hg2]; simp [atB, hly, n47, n62, n61]
                                clear hly hg2
                                go_wp2_with fail
                                refine cl1.mono ?_
                                rintro e w5 ⟨rfl, hw⟩
                                subst w5
                                go_wp2
                                go_meet
                                case rel => exact ⟨by rw [HG.out], rfl⟩
                            · have y1 : ¬ (j : Int) < (s.size : Int) := by omega
                              have HG : Hid (g = false) := by show g = _; rw [← hg]; simp [hjn]
                              clear hg
                              go_wp2
                              go_meet
                              case rel => exact ⟨by rw [HG.out], rfl⟩
                          case rest =>
                            obtain ⟨rfl, hwx⟩ := hcut
                            obtain rfl := hwx.symm
                            clear hg
                            cases g with
                            | true => as_aux_lemma =>
                              have hjn := (HJT.out (by simp)).1
                              have HJ2 : Hid (ps atB c n (j + 1) = A1) := (HJT.out (by simp)).2
                              clear HJT HJF
                              go_wp2
                              go_roundg (n - (j + 1))
                              case measure => omega
                              case rel => exact ⟨j + 1, by omega, by omega, rfl, by go_num, HJ2, rfl⟩
                            | false => as_aux_lemma =>
                              have hEj : A1 = j := HJF.out (by simp)
                              clear HJT HJF HJ
                              subst hEj
                              have v1 : (0 : Int) ≤ (k : Int) := by omega
                              have v2 : (k : Int) ≤ (A1 : Int) := by omega
                              have v3 : (A1 : Int) ≤ (s.size : Int) := by omega
                              have hA1n : A1 ≤ n := by omega
                              have hex := sc_sub HH.out k A1 (by omega) hA1n
                              have clw := rlow_any (c := fun j => c (k + j)) (n := A1 - k) (fun j hj => HH.out.2.1.1 _ (by omega)) (by omega) _ hex.symm wT
                              rw [nm_shift] at clw
                              obtain ⟨Y, hY⟩ : ∃ Y, strOfNums (nm c k A1) = Y := ⟨_, rfl⟩
                              rw [hY] at clw
                              have HKY : Hid (strOfNums (nm c k A1) = Y) := hY
                              obtain ⟨A2, hA2⟩ : ∃ A2, ps bkB c n A1 = A2 := ⟨_, rfl⟩
                              have HA2s : Hid (ps bkB c n A1 = A2) := hA2
                              have HA2e : Hid (a2 c n k = A2) := by show ps bkB c n (a1 c n k) = A2; rw [HA1e.out]; exact hA2
                              clear hex hY hA2
                              go_wp2_with fail
                              refine clw.mono ?_
                              rintro e w4 ⟨rfl, hb4⟩
                              have HT4 : Hid (w4.heap[T]? = some (.cells #[.int .i64 0, .string X, .bool cl, .slice pd pn pc] 46)) := blk_stay HTk.out hb4
                              have HZ4 : Hid (w4.heap[w.heap.size]? = some (.cells #[.int .i64 0, .string ⟨#[]⟩, .bool false, .slice none 0 0] 46)) := blk_stay HZk.out hb4
                              have HU4 : Hid (Up w.heap.size w w4) := HU.out.stay hb4
                              have HP4 : Hid (PR w4 (T + 1) (.slice pd pn pc) l) := HL2.out.2.1.stay hb4
                              have HS4 : Hid (T + 1 ≤ w4.heap.size) := Nat.le_trans HS.out hb4.size
                              clear clw hb4 v1 v2 v3
                              go_wp2_with fail
                              go_loopg [1] (n - (A1)) (fun q iv wr => ∃ j : Nat, A1 ≤ j ∧ j ≤ n ∧ q = n - j ∧ iv = .int .i64 j ∧ Hid (ps bkB c n j = A2) ∧ wr = w4)
                              case atStart => exact ⟨A1, by omega, by omega, rfl, rfl, HA2s, rfl⟩
                              case round =>
                                obtain ⟨j, hlo, hj, hq, rfl, HJ, hwr⟩ := hrel
                                subst wr
                                have cbj := rblank_any HH.out (by omega) j w4
                                cases hbj : bkB (c j) with
                                | true => as_aux_lemma =>
                                  rw [hbj] at cbj
                                  have hjn : j < n := by
                                    rcases Nat.lt_or_ge j n with h1 | h1
                                    · exact h1
                                    · rw [HH.out.2.1.2 j h1] at hbj; exact absurd hbj (by decide)
                                  have HJ2 : Hid (ps bkB c n (j + 1) = A2) := ps_go HJ.out hjn hbj
                                  clear hbj
                                  go_wp2_with fail
                                  refine cbj.mono ?_
                                  rintro e w5 ⟨rfl, hw⟩
                                  subst w5
                                  go_wp2
                                  go_roundg (n - (j + 1))
                                  case measure => omega
                                  case rel => exact ⟨j + 1, by omega, by omega, rfl, by go_num, HJ2, rfl⟩
                                | false => as_aux_lemma =>
                                  rw [hbj] at cbj
                                  have hEj : A2 = j := ps_at HJ.out hbj
                                  clear hbj HJ
                                  subst hEj
                                  go_wp2_with fail
                                  refine cbj.mono ?_
                                  rintro e w5 ⟨rfl, hw⟩
                                  subst w5
                                  clear cbj
                                  have ceq := rat_any HH.out (by omega) A2 (by omega) ⟨#[61]⟩ [61] (byt_lit _ rfl) rfl (by decide) (by simp) w4
                                  rw [oc1] at ceq
                                  obtain ⟨ge, hge⟩ : ∃ ge, (c A2 == 61) = ge := ⟨_, rfl⟩
                                  rw [hge] at ceq
                                  have HEQ : Hid ((c A2 == 61) = ge) := hge
                                  clear hge
                                  go_wp2_with fail
                                  refine ceq.mono ?_
                                  rintro e w5 ⟨rfl, hw⟩
                                  subst w5
                                  clear ceq
                                  cases ge with
                                  | false => as_aux_lemma =>
                                    have HR2 : Hid (rd c n A2 l = rd c n E []) := by
                                      show _ = _
                                      have h61 : ¬ c A2 = 61 := by simpa using HEQ.out
                                      have e1 : atE c n k = A2 := by unfold atE; rw [HA2e.out, if_neg h61]
                                      have e2 : prL (atP c n k) = [] := by unfold atP; rw [HA2e.out, if_neg h61]; rfl
                                      have := HAT.out
                                      rw [e1, e2, List.append_nil] at this
                                      exact this
                                    go_wp2
                                    go_roundg (n + 1 - (A2))
                                    case measure => omega
                                    case rel => exact ⟨A2, pd, pn, pc, by omega, rfl, rfl, by omega, HT4, HZ4, ⟨l, HL2.out.1, HP4.out, HR2.out⟩, HU4, HS4⟩
                                  | true => as_aux_lemma =>
                                    have hA2l : A2 < n := by
                                      rcases Nat.lt_or_ge A2 n with h1 | h1
                                      · exact h1
                                      · have := HEQ.out
                                        rw [HH.out.2.1.2 A2 h1] at this
                                        exact absurd this (by decide)
                                    obtain ⟨A3, hA3⟩ : ∃ A3, ps bkB c n (A2 + 1) = A3 := ⟨_, rfl⟩
                                    have HA3s : Hid (ps bkB c n (A2 + 1) = A3) := hA3
                                    have HA : Hid (a1 c n k = A1 ∧ a2 c n k = A2 ∧ a3 c n k = A3) := ⟨HA1e.out, HA2e.out, by show ps bkB c n (a2 c n k + 1) = A3; rw [HA2e.out]; exact hA3⟩
                                    clear hA3
                                    go_wp2_with fail
                                    go_loopg [1] (n - (A2 + 1)) (fun q iv wr => ∃ j : Nat, A2 + 1 ≤ j ∧ j ≤ n ∧ q = n - j ∧ iv = .int .i64 j ∧ Hid (ps bkB c n j = A3) ∧ wr = w4)
                                    case atStart => exact ⟨A2 + 1, by omega, by omega, rfl, by go_num, HA3s, rfl⟩
                                    case round =>
                                      obtain ⟨j, hlo, hj, hq, rfl, HJ, hwr⟩ := hrel
                                      subst wr
                                      have cbj := rblank_any HH.out (by omega) j w4
                                      cases hbj : bkB (c j) with
                                      | true => as_aux_lemma =>
                                        rw [hbj] at cbj
                                        have hjn : j < n := by
                                          rcases Nat.lt_or_ge j n with h1 | h1
                                          · exact h1
                                          · rw [HH.out.2.1.2 j h1] at hbj; exact absurd hbj (by decide)
                                        have HJ2 : Hid (ps bkB c n (j + 1) = A3) := ps_go HJ.out hjn hbj
                                        clear hbj
                                        go_wp2_with fail
                                        refine cbj.mono ?_
                                        rintro e w5 ⟨rfl, hw⟩
                                        subst w5
                                        go_wp2
                                        go_roundg (n - (j + 1))
                                        case measure => omega
                                        case rel => exact ⟨j + 1, by omega, by omega, rfl, by go_num, HJ2, rfl⟩
                                      | false => as_aux_lemma =>
                                        rw [hbj] at cbj
                                        have hEj : A3 = j := ps_at HJ.out hbj
                                        clear hbj HJ
                                        subst hEj
                                        go_wp2_with fail
                                        refine cbj.mono ?_
                                        rintro e w5 ⟨rfl, hw⟩
                                        subst w5
                                        clear cbj
                                        have c34 := rat_any HH.out (by omega) A3 (by omega) ⟨#[34]⟩ [34] (byt_lit _ rfl) rfl (by decide) (by simp) w4
                                        have c39 := rat_any HH.out (by omega) A3 (by omega) ⟨#[39]⟩ [39] (byt_lit _ rfl) rfl (by decide) (by simp) w4
                                        rw [oc1] at c34 c39
                                        obtain ⟨gq, hgq⟩ : ∃ gq, quB (c A3) = gq := ⟨_, rfl⟩
                                        have HGQ : Hid (quB (c A3) = gq) := hgq
                                        go_upto_region 31 with fail
                                        go_cut [160] (fun v wx => v = .bool gq ∧ wx = w4)
                                        case first => as_aux_lemma =>
                                          cases h34 : (c A3 == 34) with
                                          | true => as_aux_lemma =>
                                            rw [h34] at c34
                                            have HG : Hid (gq = true) := by show gq = _; rw [← hgq]; simp [quB, h34]
                                            clear h34 hgq
                                            go_wp2_with fail
                                            refine c34.mono ?_
                                            rintro e w5 ⟨rfl, hw⟩
                                            subst w5
                                            go_wp2
                                            go_meet
                                            case rel => exact ⟨by rw [HG.out], rfl⟩
                                          | false => as_aux_lemma =>
                                            rw [h34] at c34
                                            obtain ⟨g39, h39⟩ : ∃ g39, (c A3 == 39) = g39 := ⟨_, rfl⟩
                                            rw [h39] at c39
                                            have HG : Hid (gq = g39) := by show gq = _; rw [← hgq]; simp [quB, h34, h39]
                                            clear h34 hgq h39
                                            go_wp2_with fail
                                            refine c34.mono ?_
                                            rintro e w5 ⟨rfl, hw⟩
                                            subst w5
                                            go_wp2_with fail
                                            refine c39.mono ?_
                                            rintro e w5 ⟨rfl, hw⟩
                                            subst w5
                                            go_wp2
                                            go_meet
                                            case rel => exact ⟨by rw [HG.out], rfl⟩
                                        case rest =>
                                          obtain ⟨rfl, hwx⟩ := hcut
                                          obtain rfl := hwx.symm
                                          clear hgq c34 c39
                                          cases gq with
                                          | true => as_aux_lemma =>
                                            have HQU : Hid (quB (c A3) = true) := HGQ
                                            have hA3l : A3 < n := by
                                              rcases Nat.lt_or_ge A3 n with h1 | h1
                                              · exact h1
                                              · have := HQU.out
                                                rw [HH.out.2.1.2 A3 h1] at this
                                                exact absurd this (by decide)
                                            have v3 : A3 < s.size := by omega
                                            have v4 : (0 : Int) ≤ (A3 : Int) := by omega
                                            have v5 : (A3 : Int) < (s.size : Int) := by omega
                                            have hcq := HH.out.2.2.1 A3 v3
                                            obtain ⟨qq, hqq⟩ : ∃ qq, c A3 = qq := ⟨_, rfl⟩
                                            rw [hqq] at hcq
                                            obtain ⟨A4, hA4⟩ : ∃ A4, ps (neB qq) c n (A3 + 1) = A4 := ⟨_, rfl⟩
                                            have HA4s : Hid (ps (neB qq) c n (A3 + 1) = A4) := hA4
                                            have HA4' : a4 c n A3 = A4 := by rw [a4_ne hqq]; exact hA4
                                            clear hqq hA4
                                            go_wp2_with fail
                                            go_loopg [1] (n - (A3 + 1)) (fun q iv wr => ∃ j : Nat, A3 + 1 ≤ j ∧ j ≤ n ∧ q = n - j ∧ iv = .int .i64 j ∧ Hid (ps (neB qq) c n j = A4) ∧ wr = w4)
                                            case atStart => exact ⟨A3 + 1, by omega, by omega, rfl, by go_num, HA4s, rfl⟩
                                            case round =>
                                              obtain ⟨j, hlo, hj, hq, rfl, HJ, hwr⟩ := hrel
                                              subst wr
                                              obtain ⟨g, hg⟩ : ∃ g, (decide (j < n) && (neB qq) (c j)) = g := ⟨_, rfl⟩
                                              have HJT : Hid (g = true → j < n ∧ ps (neB qq) c n (j + 1) = A4) := fun e => g_yes HJ.out (hg.trans e)
                                              have HJF : Hid (g = false → A4 = j) := fun e => g_no HJ.out (hg.trans e)
                                              go_upto_region 35 with fail
                                              go_cut [177] (fun v wx => v = .bool g ∧ wx = w4)
                                              case first => as_aux_lemma =>
                                                by_cases hjn : j < n
                                                · have y1 : (j : Int) < (s.size : Int) := by omega
                                                  have y2 : (0 : Int) ≤ (j : Int) := by omega
                                                  have y3 : j < s.size := by omega
                                                  have hcj := HH.out.2.2.1 j y3
                                                  have hg2 : neB qq (c j) = g := by rw [← hg]; simp [hjn]
                                                  generalize c j = y at hcj hg2
                                                  clear hg
                                                  have hg3 : (y != qq) = g := hg2
                                                  clear hg2
                                                  go_wp2
                                                  go_meet
                                                  case rel => exact ⟨by first | rfl | rw [hg3], rfl⟩
                                                · have y1 : ¬ (j : Int) < (s.size : Int) := by omega
                                                  have HG : Hid (g = false) := by show g = _; rw [← hg]; simp [hjn]
                                                  clear hg
                                                  go_wp2
                                                  go_meet
                                                  case rel => exact ⟨by rw [HG.out], rfl⟩
                                              case rest =>
                                                obtain ⟨rfl, hwx⟩ := hcut
                                                obtain rfl := hwx.symm
                                                clear hg
                                                cases g with
                                                | true => as_aux_lemma =>
                                                  have hjn := (HJT.out (by simp)).1
                                                  have HJ2 : Hid (ps (neB qq) c n (j + 1) = A4) := (HJT.out (by simp)).2
                                                  clear HJT HJF
                                                  go_wp2
                                                  go_roundg (n - (j + 1))
                                                  case measure => omega
                                                  case rel => exact ⟨j + 1, by omega, by omega, rfl, by go_num, HJ2, rfl⟩
                                                | false => as_aux_lemma =>
                                                  have hEj : A4 = j := HJF.out (by simp)
                                                  clear HJT HJF HJ
                                                  subst hEj
                                                  have HA4 : Hid (a4 c n A3 = A4) := HA4'
                                                  obtain ⟨g9, hg9⟩ : ∃ g9, (decide (A3 + 1 < A4) && altB (nm c k A1)) = g9 := ⟨_, rfl⟩
                                                  have HG9 : Hid ((decide (A3 + 1 < A4) && altB (nm c k A1)) = g9) := hg9
                                                  have hKK := alt_two (nm_byt HH.out.2.1 k A1 hA1n)
                                                  rw [HKY.out] at hKK
                                                  rw [hKK] at hg9
                                                  clear hKK
                                                  go_upto_region 37 with fail
                                                  go_cut [190] (fun v wx => v = .bool g9 ∧ wx = w4)
                                                  case first => as_aux_lemma =>
                                                    by_cases h34 : A3 + 1 < A4
                                                    · have v1 : (A3 : Int) + 1 < (A4 : Int) := by omega
                                                      by_cases s1 : Y.toList = [97, 108, 116]
                                                      · have HG : Hid (g9 = true) := by show g9 = _; rw [← hg9, s1]; simp [h34]
                                                        clear hg9
                                                        go_wp2
                                                        go_meet
                                                        case rel => exact ⟨by rw [HG.out], rfl⟩
                                                      · have u1 : (Y.toList == [97, 108, 116]) = false := by simpa using s1
                                                        by_cases s2 : Y.toList = [116, 105, 116, 108, 101]
                                                        · have HG : Hid (g9 = true) := by show g9 = _; rw [← hg9, s2]; simp [h34]
                                                          clear hg9
                                                          go_wp2
                                                          go_meet
                                                          case rel => exact ⟨by rw [HG.out], rfl⟩
                                                        · have u2 : (Y.toList == [116, 105, 116, 108, 101]) = false := by simpa using s2
                                                          have HG : Hid (g9 = false) := by show g9 = _; rw [← hg9, u1, u2]; simp
                                                          clear hg9
                                                          go_wp2
                                                          go_meet
                                                          case rel => exact ⟨by rw [HG.out], rfl⟩
                                                    · have v1 : ¬ (A3 : Int) + 1 < (A4 : Int) := by omega
                                                      have v2 : decide ((A3 : Int) + 1 < (A4 : Int)) = false := by simpa using v1
                                                      have HG : Hid (g9 = false) := by show g9 = _; rw [← hg9]; simp [h34]
                                                      clear hg9
                                                      go_wp2
                                                      go_meet
                                                      case rel => exact ⟨by rw [HG.out], rfl⟩
                                                  case rest =>
                                                    obtain ⟨rfl, hwx⟩ := hcut
                                                    obtain rfl := hwx.symm
                                                    clear hg9
                                                    have HR3 : Hid (∀ l', l' = l ++ (if g9 = true then [(A3 + 1, A4 - (A3 + 1))] else []) → rd c n (A4 + 1) l' = rd c n E []) := fun l' hl' => by
                                                      rcases Nat.lt_or_ge A4 n with h4 | h4
                                                      · have e1 := atE_q HA.out.2.1 HA.out.2.2 (by simpa using HEQ.out) HQU.out HA4.out
                                                        rw [if_pos h4] at e1
                                                        have e2 := prL_q HA.out.1 HA.out.2.1 HA.out.2.2 (by simpa using HEQ.out) HQU.out HA4.out h4
                                                        rw [HG9.out] at e2
                                                        rw [hl', ← e2, ← e1]
                                                        exact HAT.out
                                                      · have e1 := atE_q HA.out.2.1 HA.out.2.2 (by simpa using HEQ.out) HQU.out HA4.out
                                                        rw [if_neg (by omega)] at e1
                                                        rw [rd_end (by omega), ← HAT.out, e1, rd_end (Nat.le_refl _)]
                                                    cases g9 with
                                                    | false => as_aux_lemma =>
                                                      have HR2 : Hid (rd c n (A4 + 1) l = rd c n E []) := HR3.out l (by simp)
                                                      clear HR3 HG9
                                                      go_wp2
                                                      go_roundg (n + 1 - (A4 + 1))
                                                      case measure => omega
                                                      case rel => exact ⟨A4 + 1, pd, pn, pc, by omega, rfl, by go_num, by omega, HT4, HZ4, ⟨l, HL2.out.1, HP4.out, HR2.out⟩, HU4, HS4⟩
                                                    | true => as_aux_lemma =>
                                                      have HR2 : Hid (rd c n (A4 + 1) (l ++ [(A3 + 1, A4 - (A3 + 1))]) = rd c n E []) := HR3.out _ (by simp)
                                                      have h34 : A3 + 1 < A4 := by have := HG9.out; simp only [Bool.and_eq_true, decide_eq_true_eq] at this; exact this.1
                                                      obtain ⟨P2, hP2⟩ : ∃ P2 : Nat, (A4 : Int) - ((A3 : Int) + 1) = (P2 : Int) := ⟨A4 - (A3 + 1), by omega⟩
                                                      have HP2 : Hid (A4 - (A3 + 1) = P2) := by show _ = _; omega
                                                      have hP2b : P2 ≤ 100000 := by omega
                                                      have t3 : w4.cell? ⟨T, 3, none⟩ = some (.slice pd pn pc) := by simp [World.cell?, HT4.out]
                                                      have HO : Hid (w4.ownsRow (T + 1) 53 2 (.slice pd pn pc) pn (prC l)) := by
                                                        have := HP4.out
                                                        unfold PR at this
                                                        rw [HL2.out.1] at this
                                                        exact this
                                                      have hs4 := HS4.out
                                                      clear HR3 HG9
                                                      go_wp2_with (at_builtin; refine wpList_append_lies _ rfl _ _ 41 rfl (T + 1) 53 i0 _ 2 16 Tryd.underlying41 hi0 hzz0 hzz1 hzz2 rfl (by decide) _ _ _ rfl (HO.out.alloc _) ⟨w4.heap.size, 0, none⟩ 1 1 [.int .i64 ((A3 : Int) + 1), .int .i64 (P2 : Int)] rfl rfl (World.news_of_block (heap_alloc_new _ _)) (pr_one _ _) (by omega) (by unfold maxLen; omega) (by omega) (by simp; omega) (w4.heap.size + 1) (by simp) ?_)
                                                      intro g1 cap1 w5 ho1 hg1 ha1 hlt1
                                                      have hob : ∀ j, j < T + 1 → some j ≠ (Value.slice pd pn pc).ownBlock := fun j hj e => by
                                                        have := own_base HO.out j e.symm
                                                        omega
                                                      have HT5 : Hid (w5.heap[T]? = some (.cells #[.int .i64 0, .string X, .bool cl, .slice pd pn pc] 46)) := by
                                                        have h1 := blk_stay HT4.out (below_alloc w4 (.cells #[.int .i64 ((A3 : Int) + 1), .int .i64 (P2 : Int)] 53))
                                                        exact (hg1.block T (lt_of_heap h1) (hob T (by omega))).trans h1
                                                      have HZ5 : Hid (w5.heap[w.heap.size]? = some (.cells #[.int .i64 0, .string ⟨#[]⟩, .bool false, .slice none 0 0] 46)) := by
                                                        have h1 := blk_stay HZ4.out (below_alloc w4 (.cells #[.int .i64 ((A3 : Int) + 1), .int .i64 (P2 : Int)] 53))
                                                        exact (hg1.block _ (lt_of_heap h1) (hob _ (by have := HWT.out; omega))).trans h1
                                                      have HU5 : Hid (Up w.heap.size w w5) := (HU4.out.alloc _).grown hg1 (fun j hj => by
                                                        have := own_base HO.out j hj
                                                        have := HWT.out
                                                        omega)
                                                      have HO5 : Hid (w5.ownsRow (T + 1) 53 2 (.slice (some ⟨g1, 0, none⟩) (pn + 1) cap1) (pn + 1) (prC l ++ [.int .i64 ((A3 : Int) + 1), .int .i64 (P2 : Int)])) := ho1
                                                      have HS5 : Hid (T + 1 ≤ w5.heap.size) := by
                                                        have h1 := hg1.size
                                                        have h2 : (w4.alloc (.cells #[.int .i64 ((A3 : Int) + 1), .int .i64 (P2 : Int)] 53)).heap.size = w4.heap.size + 1 := by simp
                                                        show T + 1 ≤ _
                                                        omega
                                                      have t5 : w5.cell? ⟨T, 3, none⟩ = some (.slice pd pn pc) := by simp [World.cell?, HT5.out]
                                                      have f5 : w5.frozen? ⟨T, 3, none⟩ = false := by simp [World.frozen?, HT5.out]
                                                      clear ho1 hg1 ha1 hlt1 hob t3
                                                      go_wp2
                                                      go_roundg (n + 1 - (A4 + 1))
                                                      case measure => omega
                                                      case rel =>
                                                        refine ⟨A4 + 1, some ⟨g1, 0, none⟩, pn + 1, cap1, by omega, rfl, by go_num, by omega, ?_, ?_, ⟨l ++ [(A3 + 1, A4 - (A3 + 1))], ?_, ?_, HR2.out⟩, ?_, ?_⟩
                                                        · exact heap_setCell_same _ T 3 #[.int .i64 0, .string X, .bool cl, .slice pd pn pc] _ _ HT5.out
                                                        · show (World.setCell _ _ _).heap[w.heap.size]? = _
                                                          rw [heap_setCell_other _ _ _ _ (by simp; have := HWT.out; omega)]
                                                          exact HZ5.out
                                                        · rw [List.length_append, HL2.out.1]; rfl
                                                        · unfold PR
                                                          rw [List.length_append, HL2.out.1, prC_app, HP2.out]
                                                          exact own_set HO5.out (by simp) _
                                                        · exact HU5.out.setCell (by simp; have := HWT.out; omega) _
                                                        · show T + 1 ≤ (World.setCell _ _ _).heap.size
                                                          have := HS5.out
                                                          have h2 : (w5.setCell ⟨T, 3, none⟩ (.slice (some ⟨g1, 0, none⟩) (pn + 1) cap1)).heap.size = w5.heap.size := by simp
                                                          omega
                                          | false => as_aux_lemma =>
                                            have HNQ : Hid (quB (c A3) = false) := HGQ
                                            obtain ⟨A5, hA5⟩ : ∃ A5, ps vlB c n A3 = A5 := ⟨_, rfl⟩
                                            have HA5s : Hid (ps vlB c n A3 = A5) := hA5
                                            have HR2 : Hid (rd c n A5 l = rd c n E []) := by
                                              show _ = _
                                              have e1 : atE c n k = A5 := by
                                                unfold atE vlE
                                                rw [HA.out.2.1, if_pos (by simpa using HEQ.out), HA.out.2.2, if_neg (by rw [HNQ.out]; exact Bool.false_ne_true), hA5]
                                              have e2 := prL_nq HA.out.2.1 HA.out.2.2 (by simpa using HEQ.out) HNQ.out
                                              have := HAT.out
                                              rw [e1, e2, List.append_nil] at this
                                              exact this
                                            have hA35 : A3 ≤ A5 := by rw [← hA5]; exact ps_ge _ _ _ _
                                            clear hA5
                                            go_wp2_with fail
                                            go_loopg [1] (n - (A3)) (fun q iv wr => ∃ j : Nat, A3 ≤ j ∧ j ≤ n ∧ q = n - j ∧ iv = .int .i64 j ∧ Hid (ps vlB c n j = A5) ∧ wr = w4)
                                            case atStart => exact ⟨A3, by omega, by omega, rfl, rfl, HA5s, rfl⟩
                                            case round =>
                                              obtain ⟨j, hlo, hj, hq, rfl, HJ, hwr⟩ := hrel
                                              subst wr
                                              obtain ⟨g, hg⟩ : ∃ g, (decide (j < n) && vlB (c j)) = g := ⟨_, rfl⟩
                                              have HJT : Hid (g = true → j < n ∧ ps vlB c n (j + 1) = A5) := fun e => g_yes HJ.out (hg.trans e)
                                              have HJF : Hid (g = false → A5 = j) := fun e => g_no HJ.out (hg.trans e)
                                              go_upto_region 40 with fail
                                              go_cut [218] (fun v wx => v = .bool g ∧ wx = w4)
                                              case first => as_aux_lemma =>
                                                by_cases hjn : j < n
                                                · have y1 : (j : Int) < (s.size : Int) := by omega
                                                  have y2 : (0 : Int) ≤ (j : Int) := by omega
                                                  have y3 : j < s.size := by omega
                                                  have hcj := HH.out.2.2.1 j y3
                                                  have cl1 := rblank_any HH.out (by omega) j w4
                                                  have hg2 : vlB (c j) = g := by rw [← hg]; simp [hjn]
                                                  generalize c j = y at hcj cl1 hg2
                                                  clear hg
                                                  cases hly : bkB y with
                                                  | true => as_aux_lemma =>
                                                    rw [hly] at cl1
                                                    have HG : Hid (g = false) := by show g = _; rw [← hg2]; simp [vlB, hly]
                                                    clear hly hg2
                                                    go_wp2_with fail
                                                    refine cl1.mono ?_
                                                    rintro e w5 ⟨rfl, hw⟩
                                                    subst w5
                                                    go_wp2
                                                    go_meet
                                                    case rel => exact ⟨by rw [HG.out], rfl⟩
                                                  | false => as_aux_lemma =>
                                                    rw [hly] at cl1
                                                    by_cases e62 : y = 62
                                                    · have HG : Hid (g = false) := by show g = _; rw [← hg2, e62]; rfl
                                                      subst e62
                                                      clear hly hg2
                                                      go_wp2_with fail
                                                      refine cl1.mono ?_
                                                      rintro e w5 ⟨rfl, hw⟩
                                                      subst w5
                                                      go_wp2
                                                      go_meet
                                                      case rel => exact ⟨by rw [HG.out], rfl⟩
                                                    have n62 : (y != 62) = true := by simpa using e62
                                                    have HG : Hid (g = true) := by show g = _; rw [← hg2]; simp [vlB, hly, n62]
                                                    clear hly hg2
                                                    go_wp2_with fail
                                                    refine cl1.mono ?_
                                                    rintro e w5 ⟨rfl, hw⟩
                                                    subst w5
                                                    go_wp2
                                                    go_meet
                                                    case rel => exact ⟨by rw [HG.out], rfl⟩
                                                · have y1 : ¬ (j : Int) < (s.size : Int) := by omega
                                                  have HG : Hid (g = false) := by show g = _; rw [← hg]; simp [hjn]
                                                  clear hg
                                                  go_wp2
                                                  go_meet
                                                  case rel => exact ⟨by rw [HG.out], rfl⟩
                                              case rest =>
                                                obtain ⟨rfl, hwx⟩ := hcut
                                                obtain rfl := hwx.symm
                                                clear hg
                                                cases g with
                                                | true => as_aux_lemma =>
                                                  have hjn := (HJT.out (by simp)).1
                                                  have HJ2 : Hid (ps vlB c n (j + 1) = A5) := (HJT.out (by simp)).2
                                                  clear HJT HJF
                                                  go_wp2
                                                  go_roundg (n - (j + 1))
                                                  case measure => omega
                                                  case rel => exact ⟨j + 1, by omega, by omega, rfl, by go_num, HJ2, rfl⟩
                                                | false => as_aux_lemma =>
                                                  have hEj : A5 = j := HJF.out (by simp)
                                                  clear HJT HJF HJ
                                                  subst hEj
                                                  go_wp2
                                                  go_roundg (n + 1 - (A5))
                                                  case measure => omega
                                                  case rel => exact ⟨A5, pd, pn, pc, by omega, rfl, rfl, by omega, HT4, HZ4, ⟨l, HL2.out.1, HP4.out, HR2.out⟩, HU4, HS4⟩
                · have z6 : ¬ (k : Int) < (s.size : Int) := by omega
                  have HN : Hid (tg c n i = none) := by
                    show _ = _
                    rw [HT.out, ← HL2.out.2.2, rd_end (by omega)]
                    rfl
                  have yf0 : wT.frozen? ⟨w.heap.size, 0, none⟩ = false := by simp [World.frozen?, HZk.out]
                  have yf1 : wT.frozen? ⟨w.heap.size, 1, none⟩ = false := by simp [World.frozen?, HZk.out]
                  have yf2 : wT.frozen? ⟨w.heap.size, 2, none⟩ = false := by simp [World.frozen?, HZk.out]
                  have yf3 : wT.frozen? ⟨w.heap.size, 3, none⟩ = false := by simp [World.frozen?, HZk.out]
                  have yc0 : wT.cell? ⟨w.heap.size, 0, none⟩ = some (.int .i64 0) := by simp [World.cell?, HZk.out]
                  have yc1 : wT.cell? ⟨w.heap.size, 1, none⟩ = some (.string ⟨#[]⟩) := by simp [World.cell?, HZk.out]
                  have yc2 : wT.cell? ⟨w.heap.size, 2, none⟩ = some (.bool false) := by simp [World.cell?, HZk.out]
                  have yc3 : wT.cell? ⟨w.heap.size, 3, none⟩ = some (.slice none 0 0) := by simp [World.cell?, HZk.out]
                  go_wp2
                  refine bodyPost_ret (v := .tuple #[.agg #[.int .i64 0, .string ⟨#[]⟩, .bool false, .slice none 0 0], .bool false]) (by simp [results, Tryd.results18, go_sem, *]) rfl ?_
                  rw [← HQ.out]
                  exact Or.inl ⟨HN.out, rfl, by (repeat (first | exact HU.out.1 | (refine Below.setCell ?_ (by simp <;> omega) _)))⟩
  · have k0 : (x != 60) = true := by simpa using h60
    have HN : Hid (tg c n i = none) := by
      show _ = _
      unfold tg
      rw [if_neg]
      unfold bg
      rw [HX.out]
      have : (x == 60) = false := by simpa using h60
      rw [this]
      simp
    go_enter Tryd.func18, Tryd.ntmps18
    go_wp2
    refine bodyPost_ret (v := .tuple #[.agg #[.int .i64 0, .string ⟨#[]⟩, .bool false, .slice none 0 0], .bool false]) (by simp [results, Tryd.results18, go_sem]) rfl ?_
    rw [← HQ.out]
    exact Or.inl ⟨HN.out, rfl, by (repeat (first | exact Below.refl _ _ | (refine Below.alloc ?_ (by simp <;> omega) _) | (refine Below.setCell ?_ (by simp <;> omega) _)))⟩
end Go.Proofs.YtjieonldmckheaaDoor
