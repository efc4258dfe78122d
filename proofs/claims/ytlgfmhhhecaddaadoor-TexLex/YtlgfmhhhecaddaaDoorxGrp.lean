/- tex: groups, unread, begin. -/
import Derived.Test.YtlgfmhhhecaddaaDoorxRmk
namespace Go.Proofs.YtlgfmhhhecaddaaDoor
set_option linter.unusedVariables false
open Go.RowKit Go.ChangeShapes
theorem setL_join (L : Nat → Int) (l : Int) (a b e : Nat) (h1 : a ≤ b) (h2 : b ≤ e) : setL (setL L l (a : Int) (b : Int)) l (b : Int) (e : Int) = setL L l (a : Int) (e : Int) := by
  funext j
  unfold setL
  by_cases h : (b : Int) ≤ (j : Int) ∧ (j : Int) < (e : Int)
  · rw [if_pos h, if_pos (by omega)]
  · rw [if_neg h]
    by_cases h3 : (a : Int) ≤ (j : Int) ∧ (j : Int) < (b : Int)
    · rw [if_pos h3, if_pos (by omega)]
    · rw [if_neg h3, if_neg (by omega)]
theorem setL_zero (L : Nat → Int) (l : Int) (a : Nat) : setL L l (a : Int) (a : Int) = L := by
  funext j
  exact setL_none L l _ _ (Int.le_refl _) j
section
variable {w0 w : World} {S b off n cap B T gs i : Nat} {c L : Nat → Int}
set_option maxRecDepth 100000 in
set_option maxHeartbeats 2000000 in
theorem groups_any (hs : Sta S b n cap B T gs c) (h : En w0 S w b off n cap B T gs c L i) (hi : i ≤ n) :
    Calls Tryd.prog 52 #[.pointer (some ⟨B, 0, none⟩)] w (SP w0 S b off n cap B T gs c (stp 19 B) (gpL L c n i) (gps c n i)) := by
  obtain ⟨x0, x1, x2⟩ := h.cells
  have hn := hs.n6
  have hle := gps_le c n _ i (Nat.le_refl _) hi
  have HH : Hid (Sta S b n cap B T gs c ∧ ∀ q, En w0 S (w.drewN q) b off n cap B T gs c L i) := ⟨hs, fun q => h.drewN q⟩
  obtain ⟨Q, hQ⟩ : ∃ Q, SP w0 S b off n cap B T gs c (stp 19 B) (gpL L c n i) (gps c n i) = Q := ⟨_, rfl⟩
  rw [hQ]
  have HQ : Hid (SP w0 S b off n cap B T gs c (stp 19 B) (gpL L c n i) (gps c n i) = Q) := hQ
  have CG : Hid (∀ (w' : World) (L' : Nat → Int) (k : Nat), k ≤ n → En w0 S w' b off n cap B T gs c L' k → Calls Tryd.prog 60 #[.slice (some ⟨b, off, none⟩) n cap, .int .i64 k] w' fun ev w2 => ev = .returned (.int .i64 (grp c n k : Nat)) ∧ w2 = w') := fun w' L' k hk h' => group_any hs.ch h'.bc (by omega) hs.nc k hk
  clear hs h hQ
  go_enter Tryd.func52, Tryd.ntmps52
  go_wp2_with fail
  go_quiet (first | (go_at_call 60; exact Calls.quiet_of_same (CG.out _ _ _ hi (HH.out.2 _))))
  go_wp2_with fail
  go_loopg [3] (n - i) (fun q tv wr => ∃ k : Nat, q = n - k ∧ i ≤ k ∧ k ≤ n ∧ tv = .int .i64 (grp c n k : Nat) ∧ Hid (gps c n k = gps c n i) ∧ Hid (En w0 S wr b off n cap B T gs c (setL L 2 (i : Int) (k : Int)) k))
  case atStart => exact ⟨i, rfl, Nat.le_refl _, hi, rfl, rfl, by rw [setL_zero]; exact HH.out.2 _⟩
  case round =>
    clear x0 x1 x2
    obtain ⟨k, hq, hk1, hk2, rfl, HG, HE⟩ := hrel
    have hg := grp_le c n k
    by_cases h0 : grp c n k = 0
    · have z0 : ¬ (0 : Int) < ((grp c n k : Nat) : Int) := by omega
      have e := HG.out
      rw [gps_no h0] at e
      have HE2 : Hid (En w0 S wr b off n cap B T gs c (gpL L c n i) (gps c n i)) := by
        unfold gpL
        rw [← e]
        exact HE.out
      clear e h0 hg HE HG
      go_wp2
      rw [← HQ.out]
      exact ⟨rfl, HE2.out⟩
    · have e := HG.out
      rw [gps_one h0] at e
      obtain ⟨G, hG⟩ : ∃ G, grp c n k = G := ⟨_, rfl⟩
      rw [hG] at hg e h0 ⊢
      have z0 : (0 : Int) < (G : Int) := by omega
      have cf := flay_any HH.out.1 HE.out hk2 2 G G (by omega) (by omega)
      rw [setL_join L 2 i k G hk1 (by omega)] at cf
      have HG2 : Hid (gps c n G = gps c n i) := e
      clear hG h0 e HE HG
      go_wp2_with fail
      refine cf.mono ?_
      rintro ev w2 ⟨rfl, hE2⟩
      obtain ⟨y0, y1, y2⟩ := hE2.cells
      have HE2 : Hid (∀ q, En w0 S (w2.drewN q) b off n cap B T gs c (setL L 2 (i : Int) (G : Int)) G) := fun q => hE2.drewN q
      have hGn : G ≤ n := by omega
      clear cf hE2
      go_wp2_with fail
      go_quiet (first | (go_at_call 60; exact Calls.quiet_of_same (CG.out _ _ _ hGn (HE2.out _))))
      go_wp2_with fail
      go_roundg (n - G)
      case measure => omega
      case rel => exact ⟨G, rfl, by omega, hGn, rfl, HG2.out, HE2.out _⟩
set_option maxRecDepth 100000 in
set_option maxHeartbeats 2000000 in
theorem unread_any (hs : Sta S b n cap B T gs c) (h : En w0 S w b off n cap B T gs c L i) (hi : i ≤ n) (t : List Int) (ht : Byt t) (h0 : t ≠ []) (h9 : t.length ≤ 100) :
    Calls Tryd.prog 59 #[.pointer (some ⟨B, 0, none⟩), .string (strOfNums t)] w (SP w0 S b off n cap B T gs c (stp 19 B) (unL L c n i t) (unE c n i t)) := by
  have hn := hs.n6
  obtain ⟨ad, ha⟩ : ∃ ad, (if cap = i then some (⟨b, off, none⟩ : Addr) else some ⟨b, off + i, none⟩) = ad := ⟨_, rfl⟩
  have cr := rest_any hs h hi ha
  have HH : Hid (Sta S b n cap B T gs c ∧ En w0 S w b off n cap B T gs c L i) := ⟨hs, h⟩
  have had : Hid (ad ≠ none) := by show ad ≠ none; rw [← ha]; split <;> simp
  have HA : Hid ((if cap = i then some (⟨b, off, none⟩ : Addr) else some ⟨b, off + i, none⟩) = ad) := ha
  have HT : Hid (Byt t ∧ t ≠ []) := ⟨ht, h0⟩
  have hsz : (strOfNums t).size = t.length := strOfNums_size t
  obtain ⟨s, hst⟩ : ∃ s, strOfNums t = s := ⟨_, rfl⟩
  have HST : Hid (strOfNums t = s) := hst
  obtain ⟨Q, hQ⟩ : ∃ Q, SP w0 S b off n cap B T gs c (stp 19 B) (unL L c n i t) (unE c n i t) = Q := ⟨_, rfl⟩
  rw [hQ]
  have HQ : Hid (SP w0 S b off n cap B T gs c (stp 19 B) (unL L c n i t) (unE c n i t) = Q) := hQ
  rw [hst] at hsz ⊢
  obtain ⟨m, hm⟩ : ∃ m, t.length = m := ⟨_, rfl⟩
  have HM : Hid (t.length = m) := hm
  rw [hm] at h9 hsz
  clear hs h hQ ht h0 hst ha hm
  go_enter Tryd.func59, Tryd.ntmps59
  go_wp2_with fail
  refine cr.mono ?_
  rintro ev w1 ⟨rfl, hb1⟩
  have hE1 := HH.out.2.stay hb1
  have hcv := Lib.run_convert_string_bytes (P := Tryd.prog) w1 9 22 5 s Tryd.underlying9 Tryd.underlying22 Tryd.underlying5
  rw [hsz] at hcv
  have hb2 := conv_bc w1 t HT.out.1
  have hbw := conv_below w1 (strOfNums t)
  rw [HST.out, HM.out] at hb2
  rw [HST.out] at hbw
  generalize Lib.bytesWorld w1 5 s = W at hcv hb2 hbw
  generalize grownCap w1 m 0 5 = gc at hcv
  have hE2 := hE1.stay hbw
  obtain ⟨⟨x, hx⟩, -⟩ := hE2.gl
  have hfr := BC.from hE2.bc i hi HH.out.1.nc
  rw [HA.out] at hfr
  have ct := idx_any (cap := cap - i) (d := gc) (HH.out.1.ch.from i hi) hfr had.out (by have := HH.out.1.nc; omega) (by omega) hb2 HM.out HT.out.1 HT.out.2 (by omega) hx
  rw [ix_bh hi] at ct
  have hle := fs_le (oc t c) hi
  have hge := fs_ge (oc t c) n i
  have hhit := fun h : fs (oc t c) n i < n => oc_len HH.out.1.ch.2 t HT.out.1 _ HT.out.2 (fs_hit h)
  rw [HM.out] at hhit
  have hL : unL L c n i t = if fs (oc t c) n i < n then setL (setL L 4 (i : Int) ((fs (oc t c) n i : Nat) : Int)) 2 ((fs (oc t c) n i : Nat) : Int) ((fs (oc t c) n i + m : Nat) : Int) else setL L 4 (i : Int) (n : Int) := by unfold unL; rw [HM.out]
  have hE : unE c n i t = if fs (oc t c) n i < n then fs (oc t c) n i + m else n := by unfold unE bh; rw [HM.out]
  generalize fs (oc t c) n i = A at ct hle hge hhit hL hE
  have HE2 : Hid (En w0 S W b off n cap B T gs c L i) := hE2
  clear hE1 hE2 hb1 hb2 hbw hx hfr cr
  by_cases hA : A < n
  · rw [if_pos hA] at ct hL hE
    have hAm := hhit hA
    obtain ⟨D, hD⟩ : ∃ D : Nat, (A : Int) - i = (D : Int) := ⟨A - i, by omega⟩
    rw [hD] at ct
    have q1 : ¬ (D : Int) < 0 := by omega
    have q2 : (D : Int) ≤ 1000000 := by omega
    have HD : Hid (i + D = A) := by show i + D = A; omega
    have HL : Hid (unL L c n i t = setL (setL L 4 (i : Int) (A : Int)) 2 (A : Int) ((A + m : Nat) : Int) ∧ unE c n i t = A + m) := ⟨hL, hE⟩
    clear hL hE hD hhit
    go_wp2_with fail
    refine ct.mono ?_
    rintro ev w2 ⟨rfl, hb2⟩
    have hE3 := HE2.out.stay hb2
    obtain ⟨y0, y1, y2⟩ := hE3.cells
    have HE3 : Hid (En w0 S w2 b off n cap B T gs c L i) := hE3
    clear hE3 hb2 ct HE2 hcv
    go_wp2_with fail
    rw [show ((i : Int) + (D : Int)) = (A : Int) by have := HD.out; omega]
    refine (flay_any HH.out.1 HE3.out hi 4 A A (by omega) (by omega)).mono ?_
    rintro ev w3 ⟨rfl, hE4⟩
    clear y0 y1 y2
    obtain ⟨y0, y1, y2⟩ := hE4.cells
    have HE4 : Hid (En w0 S w3 b off n cap B T gs c (setL L 4 (i : Int) (A : Int)) A) := hE4
    clear hE4 HE3
    go_wp2_with fail
    rw [show ((A : Int) + (m : Int)) = ((A + m : Nat) : Int) by omega]
    refine (flay_any HH.out.1 HE4.out (by omega) 2 (A + m) (A + m) (by omega) (by omega)).mono ?_
    rintro ev w4 ⟨rfl, hE5⟩
    go_wp2
    rw [← HQ.out, HL.out.1, HL.out.2]
    exact ⟨rfl, hE5⟩
  · rw [if_neg hA] at ct hL hE
    have HL : Hid (unL L c n i t = setL L 4 (i : Int) (n : Int) ∧ unE c n i t = n) := ⟨hL, hE⟩
    clear hL hE hhit hA
    go_wp2_with fail
    refine ct.mono ?_
    rintro ev w2 ⟨rfl, hb2⟩
    have hE3 := HE2.out.stay hb2
    obtain ⟨y0, y1, y2⟩ := hE3.cells
    have HE3 : Hid (En w0 S w2 b off n cap B T gs c L i) := hE3
    clear hE3 hb2 ct HE2 hcv
    go_wp2_with fail
    refine (flay_any HH.out.1 HE3.out hi 4 n n (by omega) (by omega)).mono ?_
    rintro ev w3 ⟨rfl, hE4⟩
    go_wp2
    rw [← HQ.out, HL.out.1, HL.out.2]
    exact ⟨rfl, hE4⟩
end
end Go.Proofs.YtlgfmhhhecaddaaDoor
