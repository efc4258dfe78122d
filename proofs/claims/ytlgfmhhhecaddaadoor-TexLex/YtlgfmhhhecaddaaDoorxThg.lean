/- tex: thing, remark, groups. -/
import Derived.Test.YtlgfmhhhecaddaaDoorxEn
import Derived.Test.YtlgfmhhhecaddaaDoorxBhd
namespace Go.Proofs.YtlgfmhhhecaddaaDoor
set_option linter.unusedVariables false
open Go.RowKit Go.ChangeShapes
section
variable {w0 w : World} {S b off n cap B T gs i : Nat} {c L : Nat → Int}
theorem En.drewN (h : En w0 S w b off n cap B T gs c L i) (q : Nat) : En w0 S (w.drewN q) b off n cap B T gs c L i := h.stay (below_drewN (Below.refl _ _) q)
theorem thing_end (hs : Sta S b n cap B T gs c) (h : En w0 S w b off n cap B T gs c L n) :
    Calls Tryd.prog 19 #[.pointer (some ⟨B, 0, none⟩)] w (SP w0 S b off n cap B T gs c .nilFunc L n) := by
  obtain ⟨x0, x1, x2⟩ := h.cells
  have HH : Hid (∀ q, En w0 S (w.drewN q) b off n cap B T gs c L n) := fun q => h.drewN q
  obtain ⟨Q, hQ⟩ : ∃ Q, SP w0 S b off n cap B T gs c .nilFunc L n = Q := ⟨_, rfl⟩
  rw [hQ]
  have HQ : Hid (SP w0 S b off n cap B T gs c .nilFunc L n = Q) := hQ
  clear hs h hQ
  go_enter Tryd.func19, Tryd.ntmps19
  go_wp2_with fail
  go_quiet (fail)
  go_wp2
  rw [← HQ.out]
  exact ⟨rfl, HH.out _⟩
set_option maxRecDepth 100000 in
theorem thing_rem (hs : Sta S b n cap B T gs c) (h : En w0 S w b off n cap B T gs c L i) (hi : i < n) (h1 : c i = 37) :
    Calls Tryd.prog 19 #[.pointer (some ⟨B, 0, none⟩)] w (SP w0 S b off n cap B T gs c (stp 24 B) L i) := by
  obtain ⟨x0, x1, x2⟩ := h.cells
  have hn := hs.n6
  have HH : Hid (Sta S b n cap B T gs c ∧ ∀ q, En w0 S (w.drewN q) b off n cap B T gs c L i) := ⟨hs, fun q => h.drewN q⟩
  obtain ⟨b', off', e, hc⟩ := h.bc i hi
  injection e with e
  injection e with e1 e2 _
  subst e1 e2
  have z0 : ((i : Int) == (n : Int)) = false := by simp; omega
  have z1 : (0 : Int) ≤ (i : Int) := by omega
  have z2 : (i : Int) < (n : Int) := by omega
  have z3 : ¬ (i : Int) < 0 := by omega
  rw [h1] at hc
  clear h1
  obtain ⟨Q, hQ⟩ : ∃ Q, SP w0 S b off n cap B T gs c (stp 24 B) L i = Q := ⟨_, rfl⟩
  rw [hQ]
  have HQ : Hid (SP w0 S b off n cap B T gs c (stp 24 B) L i = Q) := hQ
  clear hs h hQ
  go_enter Tryd.func19, Tryd.ntmps19
  go_wp2_with fail
  go_quiet (fail)
  go_wp2_with fail
  go_quiet (fail)
  go_wp2
  rw [← HQ.out]
  exact ⟨rfl, HH.out.2 _⟩
set_option maxRecDepth 100000 in
theorem thing_mat (hs : Sta S b n cap B T gs c) (h : En w0 S w b off n cap B T gs c L i) (hi : i < n) (h1 : c i = 36) :
    Calls Tryd.prog 19 #[.pointer (some ⟨B, 0, none⟩)] w (SP w0 S b off n cap B T gs c (stp 25 B) L i) := by
  obtain ⟨x0, x1, x2⟩ := h.cells
  have hn := hs.n6
  have HH : Hid (Sta S b n cap B T gs c ∧ ∀ q, En w0 S (w.drewN q) b off n cap B T gs c L i) := ⟨hs, fun q => h.drewN q⟩
  obtain ⟨b', off', e, hc⟩ := h.bc i hi
  injection e with e
  injection e with e1 e2 _
  subst e1 e2
  have z0 : ((i : Int) == (n : Int)) = false := by simp; omega
  have z1 : (0 : Int) ≤ (i : Int) := by omega
  have z2 : (i : Int) < (n : Int) := by omega
  have z3 : ¬ (i : Int) < 0 := by omega
  rw [h1] at hc
  clear h1
  obtain ⟨Q, hQ⟩ : ∃ Q, SP w0 S b off n cap B T gs c (stp 25 B) L i = Q := ⟨_, rfl⟩
  rw [hQ]
  have HQ : Hid (SP w0 S b off n cap B T gs c (stp 25 B) L i = Q) := hQ
  clear hs h hQ
  go_enter Tryd.func19, Tryd.ntmps19
  go_wp2_with fail
  go_quiet (fail)
  go_wp2_with fail
  go_quiet (fail)
  go_wp2
  rw [← HQ.out]
  exact ⟨rfl, HH.out.2 _⟩
set_option maxRecDepth 100000 in
theorem thing_bsl (hs : Sta S b n cap B T gs c) (h : En w0 S w b off n cap B T gs c L i) (hi : i < n) (h1 : c i = 92) :
    Calls Tryd.prog 19 #[.pointer (some ⟨B, 0, none⟩)] w (SP w0 S b off n cap B T gs c (stp 26 B) L i) := by
  obtain ⟨x0, x1, x2⟩ := h.cells
  have hn := hs.n6
  have HH : Hid (Sta S b n cap B T gs c ∧ ∀ q, En w0 S (w.drewN q) b off n cap B T gs c L i) := ⟨hs, fun q => h.drewN q⟩
  obtain ⟨b', off', e, hc⟩ := h.bc i hi
  injection e with e
  injection e with e1 e2 _
  subst e1 e2
  have z0 : ((i : Int) == (n : Int)) = false := by simp; omega
  have z1 : (0 : Int) ≤ (i : Int) := by omega
  have z2 : (i : Int) < (n : Int) := by omega
  have z3 : ¬ (i : Int) < 0 := by omega
  rw [h1] at hc
  clear h1
  obtain ⟨Q, hQ⟩ : ∃ Q, SP w0 S b off n cap B T gs c (stp 26 B) L i = Q := ⟨_, rfl⟩
  rw [hQ]
  have HQ : Hid (SP w0 S b off n cap B T gs c (stp 26 B) L i = Q) := hQ
  clear hs h hQ
  go_enter Tryd.func19, Tryd.ntmps19
  go_wp2_with fail
  go_quiet (fail)
  go_wp2_with fail
  go_quiet (fail)
  go_wp2
  rw [← HQ.out]
  exact ⟨rfl, HH.out.2 _⟩
set_option maxRecDepth 100000 in
theorem thing_mk (hs : Sta S b n cap B T gs c) (h : En w0 S w b off n cap B T gs c L i) (hi : i < n) (h1 : mkB (c i) = true) :
    Calls Tryd.prog 19 #[.pointer (some ⟨B, 0, none⟩)] w (SP w0 S b off n cap B T gs c (stp 19 B) (setL L 2 (i : Int) ((i + 1 : Nat) : Int)) (i + 1)) := by
  obtain ⟨x0, x1, x2⟩ := h.cells
  have hn := hs.n6
  have HH : Hid (Sta S b n cap B T gs c ∧ ∀ q, En w0 S (w.drewN q) b off n cap B T gs c L i) := ⟨hs, fun q => h.drewN q⟩
  obtain ⟨b', off', e, hc⟩ := h.bc i hi
  injection e with e
  injection e with e1 e2 _
  subst e1 e2
  have z0 : ((i : Int) == (n : Int)) = false := by simp; omega
  have z1 : (0 : Int) ≤ (i : Int) := by omega
  have z2 : (i : Int) < (n : Int) := by omega
  have z3 : ¬ (i : Int) < 0 := by omega
  have hcs : c i = 123 ∨ c i = 125 ∨ c i = 126 ∨ c i = 38 ∨ c i = 35 ∨ c i = 94 ∨ c i = 95 := by unfold mkB at h1; simpa [or_assoc] using h1
  clear h1
  have cl : Hid (∀ a, Calls Tryd.prog 27 #[.pointer (some ⟨B, 0, none⟩), .int .u8 2, .int .i64 (i + 1 : Nat)] (w.drewN a) (SP w0 S b off n cap B T gs c (stp 19 B) (setL L 2 (i : Int) ((i + 1 : Nat) : Int)) (i + 1))) := fun a => flay_any HH.out.1 (HH.out.2 a) (by omega) 2 (i + 1) (i + 1) (by omega) (by omega)
  obtain ⟨Q, hQ⟩ : ∃ Q, SP w0 S b off n cap B T gs c (stp 19 B) (setL L 2 (i : Int) ((i + 1 : Nat) : Int)) (i + 1) = Q := ⟨_, rfl⟩
  rw [hQ]
  have HQ : Hid (SP w0 S b off n cap B T gs c (stp 19 B) (setL L 2 (i : Int) ((i + 1 : Nat) : Int)) (i + 1) = Q) := hQ
  clear hs h hQ
  rcases hcs with h1 | h1 | h1 | h1 | h1 | h1 | h1
  all_goals
    rw [h1] at hc
    clear h1
    go_enter Tryd.func19, Tryd.ntmps19
    go_wp2_with fail
    go_quiet (fail)
    go_wp2_with fail
    go_quiet (fail)
    go_wp2_with fail
    rw [show ((i : Int) + 1) = ((i + 1 : Nat) : Int) by omega]
    refine (cl.out _).mono ?_
    rintro ev w1 ⟨rfl, hE⟩
    go_wp2
    rw [← HQ.out]
    exact ⟨rfl, hE⟩
set_option maxRecDepth 100000 in
theorem thing_pr (hs : Sta S b n cap B T gs c) (h : En w0 S w b off n cap B T gs c L i) (hi : i < n) (h1 : mkB (c i) = false) (h2 : c i ≠ 37) (h3 : c i ≠ 36) (h4 : c i ≠ 92) :
    Calls Tryd.prog 19 #[.pointer (some ⟨B, 0, none⟩)] w (SP w0 S b off n cap B T gs c (stp 19 B) (setL L 1 (i : Int) ((i + 1 : Nat) : Int)) (i + 1)) := by
  obtain ⟨x0, x1, x2⟩ := h.cells
  have hn := hs.n6
  have HH : Hid (Sta S b n cap B T gs c ∧ ∀ q, En w0 S (w.drewN q) b off n cap B T gs c L i) := ⟨hs, fun q => h.drewN q⟩
  obtain ⟨b', off', e, hc⟩ := h.bc i hi
  injection e with e
  injection e with e1 e2 _
  subst e1 e2
  have z0 : ((i : Int) == (n : Int)) = false := by simp; omega
  have z1 : (0 : Int) ≤ (i : Int) := by omega
  have z2 : (i : Int) < (n : Int) := by omega
  have z3 : ¬ (i : Int) < 0 := by omega
  obtain ⟨⟨⟨⟨⟨⟨k1, k2⟩, k3⟩, k4⟩, k5⟩, k6⟩, k7⟩ : ((((((c i == 123) = false ∧ (c i == 125) = false) ∧ (c i == 126) = false) ∧ (c i == 38) = false) ∧ (c i == 35) = false) ∧ (c i == 94) = false) ∧ (c i == 95) = false := by
    unfold mkB at h1
    rw [Bool.or_eq_false_iff, Bool.or_eq_false_iff, Bool.or_eq_false_iff, Bool.or_eq_false_iff, Bool.or_eq_false_iff, Bool.or_eq_false_iff] at h1
    exact h1
  have k8 : (c i == 37) = false := by simpa using h2
  have k9 : (c i == 36) = false := by simpa using h3
  have k10 : (c i == 92) = false := by simpa using h4
  clear h1 h2 h3 h4
  have cl : Hid (∀ a, Calls Tryd.prog 27 #[.pointer (some ⟨B, 0, none⟩), .int .u8 1, .int .i64 (i + 1 : Nat)] (w.drewN a) (SP w0 S b off n cap B T gs c (stp 19 B) (setL L 1 (i : Int) ((i + 1 : Nat) : Int)) (i + 1))) := fun a => flay_any HH.out.1 (HH.out.2 a) (by omega) 1 (i + 1) (i + 1) (by omega) (by omega)
  obtain ⟨Q, hQ⟩ : ∃ Q, SP w0 S b off n cap B T gs c (stp 19 B) (setL L 1 (i : Int) ((i + 1 : Nat) : Int)) (i + 1) = Q := ⟨_, rfl⟩
  rw [hQ]
  have HQ : Hid (SP w0 S b off n cap B T gs c (stp 19 B) (setL L 1 (i : Int) ((i + 1 : Nat) : Int)) (i + 1) = Q) := hQ
  clear hs h hQ
  go_enter Tryd.func19, Tryd.ntmps19
  go_wp2_with fail
  go_quiet (fail)
  go_wp2_with fail
  go_quiet (fail)
  go_wp2_with fail
  rw [show ((i : Int) + 1) = ((i + 1 : Nat) : Int) by omega]
  refine (cl.out _).mono ?_
  rintro ev w1 ⟨rfl, hE⟩
  go_wp2
  rw [← HQ.out]
  exact ⟨rfl, hE⟩
end
end Go.Proofs.YtlgfmhhhecaddaaDoor
