/- tex: begin. -/
import Derived.Test.YtlgfmhhhecaddaaDoorxGrp
namespace Go.Proofs.YtlgfmhhhecaddaaDoor
set_option linter.unusedVariables false
open Go.RowKit Go.ChangeShapes
theorem wh_len {l : List Int} (h : whB l = true) : l.length ≤ 20 := by
  unfold whB at h
  simp only [Bool.or_eq_true, beq_iff_eq] at h
  rcases h with ((((h | h) | h) | h) | h) | h <;> (rw [h]; decide)
section
variable {w0 w : World} {S b off n cap B T gs i : Nat} {c L : Nat → Int}
set_option maxRecDepth 100000 in
set_option maxHeartbeats 4000000 in
theorem begin_any (hs : Sta S b n cap B T gs c) (h : En w0 S w b off n cap B T gs c L i) (hi : i ≤ n) :
    Calls Tryd.prog 51 #[.pointer (some ⟨B, 0, none⟩)] w (SP w0 S b off n cap B T gs c (stp 19 B) (bgL L c n i) (bgE c n i)) := by
  obtain ⟨x0, x1, x2⟩ := h.cells
  have hn := hs.n6
  have hle := gps_le c n _ i (Nat.le_refl _) hi
  have HH : Hid (Sta S b n cap B T gs c ∧ ∀ q, En w0 S (w.drewN q) b off n cap B T gs c L i) := ⟨hs, fun q => h.drewN q⟩
  have hby := bcd_byt hs.ch i
  have hL : bgL L c n i = if whB (bcd c n i) = true then unL (gpL L c n i) c n (gps c n i) (enT (bcd c n i)) else gpL L c n i := rfl
  have hE : bgE c n i = if whB (bcd c n i) = true then unE c n (gps c n i) (enT (bcd c n i)) else gps c n i := rfl
  obtain ⟨Q, hQ⟩ : ∃ Q, SP w0 S b off n cap B T gs c (stp 19 B) (bgL L c n i) (bgE c n i) = Q := ⟨_, rfl⟩
  rw [hQ]
  have CB : Hid (∀ q, Calls Tryd.prog 58 #[.slice (some ⟨b, off, none⟩) n cap, .int .i64 i] (w.drewN q) fun ev w2 => ev = .returned (.string (strOfNums (bcd c n i))) ∧ w2 = w.drewN q) := fun q => braced_any hs.ch (h.drewN q).bc (by omega) hs.nc hs.big i hi
  generalize bcd c n i = l at hby hL hE CB
  rw [hL, hE] at hQ
  have HQ : Hid (SP w0 S b off n cap B T gs c (stp 19 B) (if whB l = true then unL (gpL L c n i) c n (gps c n i) (enT l) else gpL L c n i) (if whB l = true then unE c n (gps c n i) (enT l) else gps c n i) = Q) := hQ
  have hun : Hid (whB l = true → ∀ w', En w0 S w' b off n cap B T gs c (gpL L c n i) (gps c n i) → Calls Tryd.prog 59 #[.pointer (some ⟨B, 0, none⟩), .string (strOfNums (enT l))] w' (SP w0 S b off n cap B T gs c (stp 19 B) (unL (gpL L c n i) c n (gps c n i) (enT l)) (unE c n (gps c n i) (enT l)))) := fun hw w' h' => unread_any HH.out.1 h' hle.2 (enT l) (enT_byt hby) (enT_ne l) (by have := wh_len hw; simp [enT]; omega)
  obtain ⟨X, hX⟩ : ∃ X, strOfNums l = X := ⟨_, rfl⟩
  have hsz : X.size = l.length := by rw [← hX]; exact strOfNums_size l
  have HX : Hid (strOfNums (enT l) = ⟨#[92, 101, 110, 100, 123]⟩ ++ X ++ ⟨#[125]⟩) := by
    show strOfNums (([92, 101, 110, 100, 123] ++ l) ++ [125]) = _
    rw [nums_app, nums_app, hX]
    rfl
  have e0 := nums_is hby [97, 108, 105, 103, 110] (byt_lit _ rfl)
  have e1 := nums_is hby [97, 108, 105, 103, 110, 42] (byt_lit _ rfl)
  have e2 := nums_is hby [101, 113, 117, 97, 116, 105, 111, 110] (byt_lit _ rfl)
  have e3 := nums_is hby [101, 113, 117, 97, 116, 105, 111, 110, 42] (byt_lit _ rfl)
  have e4 := nums_is hby [108, 115, 116, 108, 105, 115, 116, 105, 110, 103] (byt_lit _ rfl)
  have e5 := nums_is hby [118, 101, 114, 98, 97, 116, 105, 109] (byt_lit _ rfl)
  rw [hX] at e0 e1 e2 e3 e4 e5 CB
  simp only [List.map] at e0 e1 e2 e3 e4 e5
  clear hs h hQ hL hE hby hX
  go_enter Tryd.func51, Tryd.ntmps51
  go_wp2_with fail
  go_quiet (first | (go_at_call 58; exact Calls.quiet_of_same (CB.out _)))
  go_wp2_with fail
  refine (groups_any HH.out.1 (HH.out.2 _) hi).mono ?_
  rintro ev w1 ⟨rfl, hE1⟩
  have HE1 : Hid (En w0 S w1 b off n cap B T gs c (gpL L c n i) (gps c n i)) := hE1
  clear hE1 CB x0 x1 x2
  by_cases h0 : l = [97, 108, 105, 103, 110]
  · have hwh : whB l = true := by rw [h0]; rfl
    have hlen := wh_len hwh
    rw [hsz.symm] at hlen
    have cu := hun.out hwh w1 HE1.out
    rw [HX.out] at cu
    have hov : ¬ 9223372036854775807 < 5 + X.size := by omega
    have hov2 : ¬ 9223372036854775807 < 5 + X.size + 1 := by omega
    have k0 : (X.toList == [97, 108, 105, 103, 110]) = true := by rw [show (X.toList == [97, 108, 105, 103, 110]) = (l == [97, 108, 105, 103, 110]) from e0, h0]; rfl
    have HW : Hid (whB l = true) := hwh
    clear h0 hwh hun e0 e1 e2 e3 e4 e5
    go_wp2_with fail
    refine cu.mono ?_
    rintro ev w2 ⟨rfl, hE2⟩
    go_wp2
    rw [← HQ.out, if_pos HW.out, if_pos HW.out]
    exact ⟨rfl, hE2⟩
  · have k0 : (X.toList == [97, 108, 105, 103, 110]) = false := by rw [show (X.toList == [97, 108, 105, 103, 110]) = (l == [97, 108, 105, 103, 110]) from e0]; simpa using h0
    by_cases h1 : l = [97, 108, 105, 103, 110, 42]
    · have hwh : whB l = true := by rw [h1]; rfl
      have hlen := wh_len hwh
      rw [hsz.symm] at hlen
      have cu := hun.out hwh w1 HE1.out
      rw [HX.out] at cu
      have hov : ¬ 9223372036854775807 < 5 + X.size := by omega
      have hov2 : ¬ 9223372036854775807 < 5 + X.size + 1 := by omega
      have k1 : (X.toList == [97, 108, 105, 103, 110, 42]) = true := by rw [show (X.toList == [97, 108, 105, 103, 110, 42]) = (l == [97, 108, 105, 103, 110, 42]) from e1, h1]; rfl
      have HW : Hid (whB l = true) := hwh
      clear h1 hwh hun e0 e1 e2 e3 e4 e5
      go_wp2_with fail
      refine cu.mono ?_
      rintro ev w2 ⟨rfl, hE2⟩
      go_wp2
      rw [← HQ.out, if_pos HW.out, if_pos HW.out]
      exact ⟨rfl, hE2⟩
    · have k1 : (X.toList == [97, 108, 105, 103, 110, 42]) = false := by rw [show (X.toList == [97, 108, 105, 103, 110, 42]) = (l == [97, 108, 105, 103, 110, 42]) from e1]; simpa using h1
      by_cases h2 : l = [101, 113, 117, 97, 116, 105, 111, 110]
      · have hwh : whB l = true := by rw [h2]; rfl
        have hlen := wh_len hwh
        rw [hsz.symm] at hlen
        have cu := hun.out hwh w1 HE1.out
        rw [HX.out] at cu
        have hov : ¬ 9223372036854775807 < 5 + X.size := by omega
        have hov2 : ¬ 9223372036854775807 < 5 + X.size + 1 := by omega
        have k2 : (X.toList == [101, 113, 117, 97, 116, 105, 111, 110]) = true := by rw [show (X.toList == [101, 113, 117, 97, 116, 105, 111, 110]) = (l == [101, 113, 117, 97, 116, 105, 111, 110]) from e2, h2]; rfl
        have HW : Hid (whB l = true) := hwh
        clear h2 hwh hun e0 e1 e2 e3 e4 e5
        go_wp2_with fail
        refine cu.mono ?_
        rintro ev w2 ⟨rfl, hE2⟩
        go_wp2
        rw [← HQ.out, if_pos HW.out, if_pos HW.out]
        exact ⟨rfl, hE2⟩
      · have k2 : (X.toList == [101, 113, 117, 97, 116, 105, 111, 110]) = false := by rw [show (X.toList == [101, 113, 117, 97, 116, 105, 111, 110]) = (l == [101, 113, 117, 97, 116, 105, 111, 110]) from e2]; simpa using h2
        by_cases h3 : l = [101, 113, 117, 97, 116, 105, 111, 110, 42]
        · have hwh : whB l = true := by rw [h3]; rfl
          have hlen := wh_len hwh
          rw [hsz.symm] at hlen
          have cu := hun.out hwh w1 HE1.out
          rw [HX.out] at cu
          have hov : ¬ 9223372036854775807 < 5 + X.size := by omega
          have hov2 : ¬ 9223372036854775807 < 5 + X.size + 1 := by omega
          have k3 : (X.toList == [101, 113, 117, 97, 116, 105, 111, 110, 42]) = true := by rw [show (X.toList == [101, 113, 117, 97, 116, 105, 111, 110, 42]) = (l == [101, 113, 117, 97, 116, 105, 111, 110, 42]) from e3, h3]; rfl
          have HW : Hid (whB l = true) := hwh
          clear h3 hwh hun e0 e1 e2 e3 e4 e5
          go_wp2_with fail
          refine cu.mono ?_
          rintro ev w2 ⟨rfl, hE2⟩
          go_wp2
          rw [← HQ.out, if_pos HW.out, if_pos HW.out]
          exact ⟨rfl, hE2⟩
        · have k3 : (X.toList == [101, 113, 117, 97, 116, 105, 111, 110, 42]) = false := by rw [show (X.toList == [101, 113, 117, 97, 116, 105, 111, 110, 42]) = (l == [101, 113, 117, 97, 116, 105, 111, 110, 42]) from e3]; simpa using h3
          by_cases h4 : l = [108, 115, 116, 108, 105, 115, 116, 105, 110, 103]
          · have hwh : whB l = true := by rw [h4]; rfl
            have hlen := wh_len hwh
            rw [hsz.symm] at hlen
            have cu := hun.out hwh w1 HE1.out
            rw [HX.out] at cu
            have hov : ¬ 9223372036854775807 < 5 + X.size := by omega
            have hov2 : ¬ 9223372036854775807 < 5 + X.size + 1 := by omega
            have k4 : (X.toList == [108, 115, 116, 108, 105, 115, 116, 105, 110, 103]) = true := by rw [show (X.toList == [108, 115, 116, 108, 105, 115, 116, 105, 110, 103]) = (l == [108, 115, 116, 108, 105, 115, 116, 105, 110, 103]) from e4, h4]; rfl
            have HW : Hid (whB l = true) := hwh
            clear h4 hwh hun e0 e1 e2 e3 e4 e5
            go_wp2_with fail
            refine cu.mono ?_
            rintro ev w2 ⟨rfl, hE2⟩
            go_wp2
            rw [← HQ.out, if_pos HW.out, if_pos HW.out]
            exact ⟨rfl, hE2⟩
          · have k4 : (X.toList == [108, 115, 116, 108, 105, 115, 116, 105, 110, 103]) = false := by rw [show (X.toList == [108, 115, 116, 108, 105, 115, 116, 105, 110, 103]) = (l == [108, 115, 116, 108, 105, 115, 116, 105, 110, 103]) from e4]; simpa using h4
            by_cases h5 : l = [118, 101, 114, 98, 97, 116, 105, 109]
            · have hwh : whB l = true := by rw [h5]; rfl
              have hlen := wh_len hwh
              rw [hsz.symm] at hlen
              have cu := hun.out hwh w1 HE1.out
              rw [HX.out] at cu
              have hov : ¬ 9223372036854775807 < 5 + X.size := by omega
              have hov2 : ¬ 9223372036854775807 < 5 + X.size + 1 := by omega
              have k5 : (X.toList == [118, 101, 114, 98, 97, 116, 105, 109]) = true := by rw [show (X.toList == [118, 101, 114, 98, 97, 116, 105, 109]) = (l == [118, 101, 114, 98, 97, 116, 105, 109]) from e5, h5]; rfl
              have HW : Hid (whB l = true) := hwh
              clear h5 hwh hun e0 e1 e2 e3 e4 e5
              go_wp2_with fail
              refine cu.mono ?_
              rintro ev w2 ⟨rfl, hE2⟩
              go_wp2
              rw [← HQ.out, if_pos HW.out, if_pos HW.out]
              exact ⟨rfl, hE2⟩
            · have k5 : (X.toList == [118, 101, 114, 98, 97, 116, 105, 109]) = false := by rw [show (X.toList == [118, 101, 114, 98, 97, 116, 105, 109]) = (l == [118, 101, 114, 98, 97, 116, 105, 109]) from e5]; simpa using h5
              have hwh : whB l = false := by unfold whB; simp [h0, h1, h2, h3, h4, h5]
              have HW : Hid (¬ whB l = true) := by show ¬ _; rw [hwh]; exact Bool.false_ne_true
              clear hwh h0 h1 h2 h3 h4 h5 e0 e1 e2 e3 e4 e5 hun
              go_wp2
              rw [← HQ.out, if_neg HW.out, if_neg HW.out]
              exact ⟨rfl, HE1.out⟩
end
end Go.Proofs.YtlgfmhhhecaddaaDoor
