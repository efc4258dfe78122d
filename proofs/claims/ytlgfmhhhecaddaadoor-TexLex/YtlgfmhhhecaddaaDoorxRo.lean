/- The reference: tex, a backslash and another sign. -/
import Derived.Test.YtlgfmhhhecaddaaDoorxRtM
import Derived.Test.YtlgfmhhhecaddaaDoorxRn
namespace Go.Proofs.YtlgfmhhhecaddaaDoor
set_option linter.unusedVariables false
open Go.RowKit Go.ChangeShapes
theorem bs_from {c : Nat → Int} {n : Nat} (hC : Ch c n) (k : Nat) (hk : k ≤ n) : bs (fun j => c (k + j)) (n - k) = Lns.from_ (bs c n) k := by
  apply ByteArray.ext
  apply Array.ext'
  show (strOfNums _).data.toList = ((strOfNums _).data.extract k (strOfNums (cl c n)).data.size).toList
  rw [strOfNums_data, Array.toList_extract, strOfNums_data]
  have hsz : (strOfNums (cl c n)).data.size = n := by show (strOfNums (cl c n)).size = n; rw [strOfNums_size, cl_len]
  rw [hsz]
  apply List.ext_getElem?
  intro q
  simp only [List.extract_eq_take_drop, List.getElem?_map, List.getElem?_take, List.getElem?_drop]
  by_cases hq : q < n - k
  · rw [cl_at _ _ _ hq, if_pos hq, cl_at _ _ _ (show k + q < n by omega)]
  · rw [List.getElem?_eq_none (by rw [cl_len]; omega), if_neg hq]
    rfl
theorem wd_sub {c : Nat → Int} {n : Nat} (hC : Ch c n) (k : Nat) (hk : k < n) : wd (bs (fun j => c (k + j)) (n - k)) 0 = wd (bs c n) k := by
  rw [bs_from hC k (by omega)]
  unfold wd
  rw [Lns.from_decode, Nat.add_zero]
section
variable {s : ByteArray} {c L : Nat → Int} {n g i : Nat} {w : World}
set_option maxRecDepth 100000 in
set_option maxHeartbeats 16000000 in
theorem rtex_oth (h : SC s c n) (hn : n ≤ 65536) (hR : LR w g n L) (hi : i < n) (h92 : c i = 92) (h1 : c (i + 1) ≠ 40) (h2 : c (i + 1) ≠ 91) (h3 : ltB (c (i + 1)) = false) :
    Calls Tryd.prog 22 #[.slice (some ⟨g, 0, none⟩) n n, .string s, .int .i64 i] w (RtP w g n (i + 1 + wdE (bs c n) (i + 1)) (setL L 2 (i : Int) ((i + 1 + wdE (bs c n) (i + 1) : Nat) : Int))) := by
  have hsz := h.1
  have z1 : (0 : Int) ≤ (i : Int) := by omega
  have z2 : (i : Int) < (n : Int) := by omega
  have z3 : i < s.size := by omega
  have hx := h.2.2.1 i z3
  rw [h92] at hx
  have hlf : ltB (c (i + 1)) = false := h3
  obtain ⟨K, hKK⟩ : ∃ K, i + 1 = K := ⟨_, rfl⟩
  have HKd : Hid (fs (fun j => !ltB (c j)) n (i + 1) = K) := by
    show _ = _
    rw [fs_yes (by rw [hlf]; rfl), hKK]
  have HKi : Hid (i + 1 = K) := hKK
  have hKn : K ≤ n := by omega
  have c40 := rat_any h (by omega) K (by omega) ⟨#[40]⟩ [40] (byt_lit _ rfl) (by kernel_rfl) (by decide) (by simp) w
  have c91 := rat_any h (by omega) K (by omega) ⟨#[91]⟩ [91] (byt_lit _ rfl) (by kernel_rfl) (by decide) (by simp) w
  rw [oc1, ← hKK, show (c (i + 1) == 40) = false by simpa using h1] at c40
  rw [oc1, ← hKK, show (c (i + 1) == 91) = false by simpa using h2] at c91
  rw [hKK] at c40 c91
  have hwl := wdE_le (bs c n) (p := K) (by rw [bs_size]; omega)
  rw [bs_size] at hwl
  have hsub : s.extract K n = strOfNums (cl (fun j => c (K + j)) (n - K)) := sc_sub h K n hKn (Nat.le_refl _)
  have hby2 : Byt (cl (fun j => c (K + j)) (n - K)) := cl_byt2 fun j hj => h.2.1.1 (K + j) (by omega)
  obtain ⟨ww, hww⟩ : ∃ ww, wdE (bs c n) K = ww := ⟨_, rfl⟩
  have HWW : Hid (wdE (bs c n) K = ww) := hww
  rw [hww] at hwl
  rw [hKK, hww]
  obtain ⟨Ex, hEx⟩ : ∃ Ex, s.extract K n = Ex := ⟨_, rfl⟩
  have HEx : Hid (Ex = strOfNums (cl (fun j => c (K + j)) (n - K)) ∧ Byt (cl (fun j => c (K + j)) (n - K))) := ⟨by rw [← hEx]; exact hsub, hby2⟩
  have v1 : (K : Int) ≤ (n : Int) := by omega
  have v2 : (0 : Int) ≤ (K : Int) := by omega
  clear h1 h2 hsub hby2 hww
  clear h92 hlf hKK
  have HH : Hid (SC s c n ∧ LR w g n L) := ⟨h, hR⟩
  obtain ⟨Q, hQ⟩ : ∃ Q, RtP w g n (K + ww) (setL L 2 (i : Int) ((K + ww : Nat) : Int)) = Q := ⟨_, rfl⟩
  rw [hQ]
  have HQ : Hid (RtP w g n (K + ww) (setL L 2 (i : Int) ((K + ww : Nat) : Int)) = Q) := hQ
  clear h hR hQ
  go_enter Tryd.func22, Tryd.ntmps22
  go_wp2_with fail
  go_loopg [11] (n + 1 - (i + 1)) (fun q tv wr => ∃ k : Nat, q = n + 1 - k ∧ i + 1 ≤ k ∧ k ≤ n ∧ tv = .int .i64 k ∧ wr = w ∧ Hid (fs (fun j => !ltB (c j)) n k = K))
  case atStart => exact ⟨i + 1, rfl, Nat.le_refl _, by omega, by go_num, rfl, HKd.out⟩
  case round =>
    obtain ⟨k, hq, hk1, hk2, rfl, hw, HK⟩ := hrel
    subst wr
    have cT := rletter_any HH.out.1 (by omega) k w
    cases hlt : ltB (c k) with
    | true =>
      have hkn : k < n := by
        rcases Nat.lt_or_ge k n with h2 | h2
        · exact h2
        · rw [HH.out.1.2.1.2 k h2] at hlt; exact absurd hlt (by decide)
      rw [hlt] at cT
      have hk := HK.out
      rw [fs_no hkn (by rw [hlt]; rfl)] at hk
      have HK2 : Hid (fs (fun j => !ltB (c j)) n (k + 1) = K) := hk
      clear hk hlt
      go_wp2_with fail
      refine cT.mono ?_
      rintro ev w2 ⟨rfl, hw⟩
      subst w2
      go_wp2
      go_roundg (n + 1 - (k + 1))
      case measure => omega
      case rel => exact ⟨k + 1, rfl, by omega, by omega, by go_num, rfl, HK2⟩
    | false =>
      rw [hlt] at cT
      have hkk : k = K := by
        rw [← HK.out]
        exact (fs_yes (by rw [hlt]; rfl)).symm
      subst hkk
      clear hlt HK hq hk1 hk2
      go_wp2_with fail
      refine cT.mono ?_
      rintro ev w2 ⟨rfl, hw⟩
      subst w2
      clear cT
      have v0 : ((k : Int) == (i : Int) + 1) = true := by have := HKi.out; simp; omega
      go_wp2_with fail
      refine c40.mono ?_
      rintro ev w2 ⟨rfl, hw⟩
      subst w2
      go_wp2_with fail
      refine c91.mono ?_
      rintro ev w2 ⟨rfl, hw⟩
      subst w2
      clear c40 c91
      have hcv := Lib.run_convert_string_bytes (P := Tryd.prog) w 9 22 5 Ex Tryd.underlying9 Tryd.underlying22 Tryd.underlying5
      have hesz : Ex.size = n - k := by rw [HEx.out.1, strOfNums_size, cl_len]
      rw [hesz] at hcv
      have hbc := conv_bc w (cl (fun j => c (k + j)) (n - k)) HEx.out.2
      have hbw := conv_below w Ex
      rw [← HEx.out.1, cl_len] at hbc
      generalize Lib.bytesWorld w 5 Ex = V at hcv hbc hbw
      generalize grownCap w (n - k) 0 5 = gc at hcv
      have cN : Calls Tryd.prog 32 #[.slice (some ⟨w.heap.size, 0, none⟩) (n - k) gc] V fun e w' => ∃ r, e = .returned (.tuple #[.int .i32 r, .int .i64 (ww : Nat)]) ∧ Below V.heap.size V w' := by
        rcases Nat.lt_or_ge k n with h5 | h5
        · have hby : Lns.By V w.heap.size 0 (bs (fun j => c (k + j)) (n - k)) := bs_by (fun j hj => HH.out.1.2.1.1 (k + j) (by omega)) (hbc.congr fun j hj => by rw [cl_getD _ _ _ hj])
          have := Lns.rnext_at (bs (fun j => c (k + j)) (n - k)) 0 w.heap.size 0 gc V (by rw [bs_size]; omega) hby
          rw [bs_size] at this
          have e1 : wd (bs (fun j => c (k + j)) (n - k)) 0 = ww := by
            rw [← HWW.out]
            unfold wdE
            rw [if_pos (by rw [bs_size]; exact h5)]
            exact wd_sub HH.out.1.2.1 k h5
          rw [e1] at this
          exact this.mono fun e w' ⟨a, b⟩ => ⟨_, a, b⟩
        · have e0 : ww = 0 := by rw [← HWW.out]; unfold wdE; rw [if_neg (by rw [bs_size]; omega)]
          rw [show n - k = 0 by omega, e0]
          exact (Lns.rnext_zero _ _ _).mono fun e w' ⟨a, b⟩ => ⟨_, a, by rw [b]; exact Below.refl _ _⟩
      have HRV : Hid (LR V g n L) := HH.out.2.stay hbw
      have HBW : Hid (Below w.heap.size w V) := hbw
      clear hbc hbw HEx
      go_wp2_with fail
      refine cN.mono ?_
      rintro ev w2 ⟨rr, rfl, hb2⟩
      have HR2 : Hid (LR w2 g n L ∧ Below w.heap.size w w2) := ⟨HRV.out.stay hb2, HBW.out.trans (hb2.mono HBW.out.size)⟩
      clear cN hcv hb2
      go_wp2_with fail
      rw [show ((k : Int) + (ww : Int)) = ((k + ww : Nat) : Int) by omega]
      refine (rput_any HR2.out.1 hn 2 i (k + ww) hwl.1).mono ?_
      rintro ev w3 ⟨rfl, hr3, hg3, -⟩
      go_wp2
      rw [← HQ.out]
      exact ⟨by go_num, hr3, grown_trans (grown_of HR2.out.2 (some g)) hg3⟩
end
end Go.Proofs.YtlgfmhhhecaddaaDoor
