/- The reference's Line and Place. -/
import Derived.Test.YtihplafalbokdaaDoorWalksV
import Derived.Test.YtihplafalbokdaaDoorWalksU
namespace Go.Proofs.YtihplafalbokdaaDoor
set_option linter.unusedVariables false
open Go.RowKit Go.ChangeShapes
theorem ends_go (s : ByteArray) : ∀ d k, s.size - pos s k ≤ d → (∀ j, j < k → pos s j < s.size) → ∃ K, Ends s K
  | 0, k, hd, h => ⟨k, ⟨by have := pos_le s k h; omega, h⟩⟩
  | d + 1, k, hd, h => by
    by_cases h1 : pos s k < s.size
    · have h2 := (wd_pos s (pos s k) h1).1
      refine ends_go s d (k + 1) (by simp only [pos]; omega) (fun j hj => ?_)
      rcases Nat.lt_succ_iff_lt_or_eq.1 hj with h3 | h3
      · exact h j h3
      · rw [h3]; exact h1
    · exact ⟨k, ⟨by have := pos_le s k h; omega, h⟩⟩
theorem ends_ex (s : ByteArray) : ∃ K, Ends s K := ends_go s s.size 0 (by omega) (fun j hj => absurd hj (Nat.not_lt_zero j))
set_option maxHeartbeats 1000000 in
theorem rline_any (s : ByteArray) (v : Value) (p : Nat) (w : World) (hs : s.size ≤ 5000) (hp : p ≤ s.size) (h : BSl w v s) :
    Calls Tryd.prog 17 #[v, .int .i64 p] w fun e w' => ∃ m : Nat, e = .returned (.tuple #[.int .i64 m, .int .i64 (S s (m - 1))]) ∧ OnL s p m ∧ Below w.heap.size w w' := by
  have hnl := nL_le s
  go_enter Tryd.func17, Tryd.ntmps17
  go_wp2_with fail
  refine (rlines_any s v w hs h).mono ?_
  rintro e w1 ⟨vl, rfl, hown, hb⟩
  have HB : Hid (Below w.heap.size w w1) := hb
  clear hb h
  have ht := tsl_own hown
  clear hown
  by_cases h0 : nL s = 0
  · obtain ⟨ad, c, hv⟩ := ht.form
    have H0 : Hid (nL s = 0) := h0
    rw [h0] at hv
    subst hv
    clear ht h0 hnl
    go_wp2
    go_loopg [7, 8] (0) (fun g f i wr => f = .int .i64 0 ∧ i = .int .i64 0 ∧ wr = w1)
    case atStart => exact ⟨rfl, rfl, rfl⟩
    case round =>
      obtain ⟨rfl, rfl, rfl⟩ := hrel
      go_wp2_with fail
      go_ret2
      refine ⟨1, ?_, ⟨Nat.le_refl _, Or.inl ⟨H0.out, rfl⟩⟩, HB.out⟩
      rw [show (1 - 1 : Nat) = 0 from rfl, S_zero]
      rfl
  · rcases ht with ⟨ad, c, rfl, hz⟩ | ⟨g, c, rfl, ht⟩
    · exact absurd hz h0
    have HS : Hid (∀ i, i < nL s → w1.cell? ⟨g, i, none⟩ = some (.string (line s i))) := ht
    clear ht
    go_wp2
    go_loopg [7, 8] (nL s) (fun g f iv wr => ∃ i : Nat, i < nL s ∧ g = nL s - i ∧ iv = .int .i64 i ∧ f = .int .i64 (S s i) ∧ S s i ≤ p ∧ wr = w1)
    case atStart => exact ⟨0, by omega, rfl, rfl, by rw [S_zero]; rfl, by rw [S_zero]; omega, rfl⟩
    case round =>
      obtain ⟨i, hlt, hg, rfl, rfl, hip, rfl⟩ := hrel
      have z0 : (0 : Int) ≤ (i : Int) := by omega
      have z1 : (i : Int) < (nL s : Int) := by omega
      have hc := HS.out i hlt
      have hls := line_size s i
      have hm := S_mono_le s (show i ≤ i + 1 by omega)
      have hle := S_le s (i + 1)
      have HZ : Hid ((line s i).size = S s (i + 1) - S s i) := hls
      have y3 : (S s i : Int) + ((line s i).size : Int) ≤ 5000 := by omega
      by_cases h1 : p < S s (i + 1)
      · have y1 : (p : Int) < (S s i : Int) + ((line s i).size : Int) := by omega
        have HO : Hid (OnL s p (i + 1)) := ⟨by omega, Or.inr ⟨hlt, hip, fun _ => h1⟩⟩
        clear hls h1
        generalize line s i = tx at *
        go_wp2
        go_ret2
        exact ⟨i + 1, by simp, HO.out, HB.out⟩
      · have y1 : ¬ (p : Int) < (S s i : Int) + ((line s i).size : Int) := by omega
        by_cases h2 : i + 1 = nL s
        · have y2 : ((i : Int) == (nL s : Int) - 1) = true := by rw [beq_iff_eq]; omega
          have HO : Hid (OnL s p (i + 1)) := ⟨by omega, Or.inr ⟨hlt, hip, fun h3 => absurd h3 (by omega)⟩⟩
          have HI : Hid (i + 1 = nL s) := h2
          clear hls h1 h2
          generalize line s i = tx at *
          go_wp2
          go_ret2
          exact ⟨i + 1, by simp, HO.out, HB.out⟩
        · have y2 : ((i : Int) == (nL s : Int) - 1) = false := by rw [beq_eq_false_iff_ne]; omega
          clear hls
          generalize line s i = tx at *
          go_wp2
          go_roundg (nL s - (i + 1))
          case measure => omega
          case rel => exact ⟨i + 1, by omega, rfl, by go_num, congrArg (Value.int .i64) (by have := HZ.out; omega), by omega, rfl⟩
theorem bsl_from {w : World} {b off c f : Nat} {s : ByteArray} (h : By w b off s) (hf : f < s.size) (hc : s.size - f ≤ c) : BSl w (.slice (some ⟨b, off + f, none⟩) (s.size - f) c) (from_ s f) := by
  have hz := from_size s f
  refine Or.inr ⟨b, off + f, c, by rw [hz], by omega, by omega, fun j hj => ?_⟩
  rw [hz] at hj
  rw [from_get, Nat.add_assoc]
  exact h (f + j) (by omega)
set_option maxRecDepth 100000 in
set_option maxHeartbeats 2000000 in
theorem rplace_at (s : ByteArray) (b off cap p : Nat) (w : World) (hs : s.size ≤ 5000) (hp : p ≤ s.size) (h0 : 0 < s.size) (hcap : s.size ≤ cap) (h : By w b off s) :
    Calls Tryd.prog 18 #[.slice (some ⟨b, off, none⟩) s.size cap, .int .i64 p] w fun e w' => ∃ m c : Nat, e = .returned (.agg #[.int .i64 m, .int .i64 c]) ∧ Plc s p m c ∧ Below w.heap.size w w' := by
  have hnl := nL_pos h0
  have HU : Hid (Up w.heap.size w (w.alloc (.cells #[.int .i64 0, .int .i64 0] 40))) := (Up.refl w).alloc _
  have ct := rline_any s (.slice (some ⟨b, off, none⟩) s.size cap) p (w.alloc (.cells #[.int .i64 0, .int .i64 0] 40)) hs hp ((show BSl w _ s from Or.inr ⟨b, off, cap, rfl, h0, hcap, h⟩).stay HU.out.1)
  have k0 : (w.alloc (.cells #[.int .i64 0, .int .i64 0] 40)).cell? ⟨w.heap.size, 0, none⟩ = some (.int .i64 0) := by simp
  have k1 : (w.alloc (.cells #[.int .i64 0, .int .i64 0] 40)).cell? ⟨w.heap.size, 1, none⟩ = some (.int .i64 0) := by simp
  have f0 : (w.alloc (.cells #[.int .i64 0, .int .i64 0] 40)).frozen? ⟨w.heap.size, 0, none⟩ = false := by simp
  have f1 : (w.alloc (.cells #[.int .i64 0, .int .i64 0] 40)).frozen? ⟨w.heap.size, 1, none⟩ = false := by simp
  have HB : Hid (By (w.alloc (.cells #[.int .i64 0, .int .i64 0] 40)) b off s) := h.stay HU.out.1
  obtain ⟨W, hW⟩ : ∃ W, w.alloc (.cells #[.int .i64 0, .int .i64 0] 40) = W := ⟨_, rfl⟩
  rw [hW] at ct k0 k1 f0 f1 HU HB
  clear h
  go_enter Tryd.func18, Tryd.ntmps18
  go_wp2_with fail
  refine ct.mono ?_
  rintro e w1 ⟨m, rfl, ho, hb⟩
  have HO : Hid (OnL s p m) := ho
  have K0 : Hid (W.cell? ⟨w.heap.size, 0, none⟩ = some (.int .i64 0)) := k0
  have K1 : Hid (W.cell? ⟨w.heap.size, 1, none⟩ = some (.int .i64 0)) := k1
  have F0 : Hid (W.frozen? ⟨w.heap.size, 0, none⟩ = false) := f0
  have F1 : Hid (W.frozen? ⟨w.heap.size, 1, none⟩ = false) := f1
  have UU : Hid (Up W.heap.size W w1) := (Up.refl W).stay hb
  clear k0 k1 f0 f1 ct hW hb
  have hm : 1 ≤ m ∧ m ≤ nL s ∧ S s (m - 1) ≤ p := by
    rcases ho with ⟨h1, ⟨h2, _⟩ | ⟨h2, h3, _⟩⟩
    · omega
    · exact ⟨h1, h2, h3⟩
  have hsl := S_lt (show m - 1 < nL s by omega)
  have HF : Hid (∃ f, f = S s (m - 1)) := ⟨_, rfl⟩
  have HFM : Hid (S s (m - 1) ≤ p) := hm.2.2
  clear ho
  obtain ⟨f, hf⟩ := HF.out
  have HF1 : Hid (f = S s (m - 1)) := hf
  rw [← hf] at hsl ⊢
  clear hf HF
  have y1 : (0 : Int) ≤ (f : Int) := by omega
  have y2 : (f : Int) ≤ (s.size : Int) := by omega
  have y4 : f < cap := by omega
  have y5 : (s.size : Int) ≤ (cap : Int) := by omega
  go_wp2_with fail
  refine (runitsS_any (from_ s f) _ w1 (by rw [from_size]; omega) (bsl_from (HB.out.stay UU.out.1) hsl (show s.size - f ≤ cap - f by omega))).mono ?_
  rintro e w2 ⟨k2, v2, rfl, he2, ho2, hb2⟩
  have HE2 : Hid (Ends (from_ s f) k2) := he2
  have hk2 := he2.le
  rw [from_size] at hk2
  have hform : ∃ a1 c1, v2 = .slice a1 k2 c1 ∧ (∀ j, j < k2 → ∃ g, a1 = some ⟨g, 0, none⟩ ∧ Us w2 g k2 (from_ s f)) := by
    have h0 := ho2
    obtain ⟨_, ⟨rfl, rfl⟩ | ⟨g, cap, cur, rfl, hg, _⟩⟩ := ho2
    · exact ⟨none, 0, rfl, fun j hj => absurd hj (Nat.not_lt_zero j)⟩
    · exact ⟨_, cap, rfl, fun j _ => ⟨g, rfl, us_of h0⟩⟩
  obtain ⟨a1, c1, rfl, hus⟩ := hform
  have HS : Hid (∀ j, j < k2 → ∃ g, a1 = some ⟨g, 0, none⟩ ∧ Us w2 g k2 (from_ s f)) := hus
  have HU2 : Hid (Up W.heap.size W w2) := UU.out.stay hb2
  clear hus ho2 he2 hb2 UU
  go_wp2
  go_loopg [7, 9] k2 (fun g cv iv wr => ∃ j : Nat, j ≤ k2 ∧ g = k2 - j ∧ iv = .int .i64 j ∧ cv = .int .i64 ((1 : Int) + j) ∧ Hid (∀ t, t < j → f + pos (from_ s f) t < p) ∧ wr = w2)
  case atStart => exact ⟨0, Nat.zero_le _, rfl, rfl, rfl, fun t ht => absurd ht (Nat.not_lt_zero t), rfl⟩
  case round =>
    obtain ⟨j, hj, hg, rfl, rfl, HA, rfl⟩ := hrel
    have fin : (j < k2 → p ≤ f + pos (from_ s f) j) → Plc s p m (1 + j) := fun hstop => by
      obtain ⟨K, hK⟩ := ends_ex s
      obtain ⟨k, hk, hpk⟩ := S_pos hK (show m - 1 < nL s by omega)
      have hf := HF1.out
      have hpk' : pos s k = f := hpk.trans hf.symm
      have he := cut_right_ends s hK (show k ≤ K by omega)
      rw [hpk'] at he
      obtain rfl : k2 = K - k := HE2.out.one he
      have hcr : ∀ t, pos s (k + t) = f + pos (from_ s f) t := fun t => by have := cut_right s k t; rw [hpk'] at this; exact this
      have hfm := HFM.out
      refine ⟨K, k + j, k, hK, HO.out, by omega, by omega, hpk, ⟨by omega, fun t ht => ?_, fun t h1 h2 => ?_⟩, by omega⟩
      · by_cases h3 : t < k
        · have := pos_up s hK k (by omega) t h3; omega
        · have h4 := hcr (t - k)
          rw [show k + (t - k) = t by omega] at h4
          have := HA.out (t - k) (by omega)
          omega
      · have h4 := hcr j
        have h5 := hstop (by omega)
        have h6 := pos_up_le s hK h1 (by omega)
        omega
    have HFIN : Hid ((j < k2 → p ≤ f + pos (from_ s f) j) → Plc s p m (1 + j)) := fin
    clear fin
    have g0 := HU2.out.cell K0.out
    have g1 := HU2.out.cell K1.out
    have e0 := HU2.out.free K0.out F0.out
    have e1 := HU2.out.free K1.out F1.out
    have HBE : Hid (Up w.heap.size w wr) := HU.out.stay HU2.out.1
    by_cases hlt : j < k2
    · have z0 : (0 : Int) ≤ (j : Int) := by omega
      have z1 : (j : Int) < (k2 : Int) := by omega
      obtain ⟨g, hgg, hus⟩ := HS.out j hlt
      subst hgg
      obtain ⟨u0, u1, u2, u3⟩ := hus j hlt
      clear hus
      have hps := HE2.out.2 j hlt
      rw [from_size] at hps
      by_cases hq : f + pos (from_ s f) j < p
      · have HA1 : Hid (∀ t, t < j + 1 → f + pos (from_ s f) t < p) := fun t ht => by
          rcases Nat.lt_succ_iff_lt_or_eq.1 ht with h1 | h1
          · exact HA.out t h1
          · rw [h1]; exact hq
        generalize pos (from_ s f) j = q at *
        have y6 : (f : Int) + (q : Int) < (p : Int) := by omega
        go_wp2
        go_roundg (k2 - (j + 1))
        case measure => omega
        case rel => exact ⟨j + 1, hlt, rfl, by go_num, congrArg (Value.int .i64) (by omega), HA1, rfl⟩
      · have HF3 : Hid (Plc s p m (1 + j)) := HFIN.out (fun _ => by omega)
        clear HFIN
        generalize pos (from_ s f) j = q at *
        have y6 : ¬ (f : Int) + (q : Int) < (p : Int) := by omega
        go_wp2
        refine bodyPost_ret (v := .agg #[.int .i64 m, .int .i64 ((1 : Int) + j)]) (by simp [results, Tryd.results18, go_sem, *]) rfl ⟨m, 1 + j, by simp, HF3.out, (HBE.out.1.setCell (Nat.le_refl _) _).setCell (Nat.le_refl _) _⟩
    · have HF3 : Hid (Plc s p m (1 + j)) := HFIN.out (fun h => absurd h hlt)
      have z1 : ¬ (j : Int) < (k2 : Int) := by omega
      clear HFIN
      go_wp2
      refine bodyPost_ret (v := .agg #[.int .i64 m, .int .i64 ((1 : Int) + j)]) (by simp [results, Tryd.results18, go_sem, *]) rfl ⟨m, 1 + j, by simp, HF3.out, (HBE.out.1.setCell (Nat.le_refl _) _).setCell (Nat.le_refl _) _⟩
end Go.Proofs.YtihplafalbokdaaDoor
