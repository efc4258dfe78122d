/- The reference: tex, Tex. -/
import Derived.Test.YtlgfmhhhecaddaaDoorxRo
import Derived.Test.YtlgfmhhhecaddaaDoorxRcM
import Derived.Test.YtlgfmhhhecaddaaDoorxRg
import Derived.Test.YtlgfmhhhecaddaaDoorxLawP
namespace Go.Proofs.YtlgfmhhhecaddaaDoor
set_option linter.unusedVariables false
open Go.RowKit Go.ChangeShapes
/-- What comes next leaves the labels behind it. -/
theorem cm_hi {c : Nat → Int} {n i : Nat} (hC : Ch c n) (hi : i < n) (L : Nat → Int) {j : Nat} (hj : cmE c n i ≤ j) : cmL L c n i j = L j := by
  have hK := cmK_le (c := c) hi
  have h2 := vbE_le hC (k := cmK c n i) hK.2
  have h3 := bgE_le hC (k := cmK c n i) hK.2
  have h4 := gps_le c n _ (cmK c n i) (Nat.le_refl _) hK.2
  unfold cmE at hj
  unfold cmL
  by_cases hv : isV (cmN c n i) = true
  · rw [if_pos hv] at hj ⊢
    unfold vbL cm1
    rw [setL_out (by omega), setL_out (by omega), setL_out (by omega)]
  · rw [if_neg hv] at hj ⊢
    by_cases hb : isBg (cmN c n i) = true
    · rw [if_pos hb] at hj ⊢
      unfold bgE at hj
      unfold bgL
      by_cases hw : whB (bcd c n (cmK c n i)) = true
      · rw [if_pos hw] at hj ⊢
        unfold unE bh at hj
        unfold unL
        have hfg := fs_ge (oc (enT (bcd c n (cmK c n i))) c) n (gps c n (cmK c n i))
        by_cases hf : fs (oc (enT (bcd c n (cmK c n i))) c) n (gps c n (cmK c n i)) < n
        · rw [if_pos hf] at hj ⊢
          rw [setL_out (by omega), setL_out (by omega)]
          unfold gpL cm1
          rw [setL_out (by omega), setL_out (by omega)]
        · rw [if_neg hf] at hj ⊢
          rw [setL_out (by omega)]
          unfold gpL cm1
          rw [setL_out (by omega), setL_out (by omega)]
      · rw [if_neg hw] at hj ⊢
        unfold gpL cm1
        rw [setL_out (by omega), setL_out (by omega)]
    · rw [if_neg hb] at hj ⊢
      by_cases hr : bareB (cmN c n i) = true
      · rw [if_pos hr] at hj ⊢
        unfold gpL cm1
        rw [setL_out (by omega), setL_out (by omega)]
      · rw [if_neg hr] at hj ⊢
        unfold cm1
        rw [setL_out (by omega)]
theorem nx_hi {c : Nat → Int} {n i : Nat} (hC : Ch c n) (hi : i < n) (L : Nat → Int) {j : Nat} (hj : nxE c n i ≤ j) : nxL L c n i j = L j := by
  unfold nxE at hj
  unfold nxL
  by_cases h1 : c i = 37
  · rw [if_pos h1] at hj ⊢; rw [setL_out (by omega)]
  rw [if_neg h1] at hj ⊢
  by_cases h2 : c i = 36
  · rw [if_pos h2] at hj ⊢; rw [setL_out (by omega)]
  rw [if_neg h2] at hj ⊢
  by_cases h3 : c i = 92
  · rw [if_pos h3] at hj ⊢
    unfold bkE at hj
    unfold bkL
    by_cases h4 : c (i + 1) = 40
    · rw [if_pos h4] at hj ⊢; rw [setL_out (by omega)]
    rw [if_neg h4] at hj ⊢
    by_cases h5 : c (i + 1) = 91
    · rw [if_pos h5] at hj ⊢; rw [setL_out (by omega)]
    rw [if_neg h5] at hj ⊢
    by_cases h6 : ltB (c (i + 1)) = true
    · rw [if_pos h6] at hj ⊢; exact cm_hi hC hi L hj
    · rw [if_neg h6] at hj ⊢; rw [setL_out (by omega)]
  · rw [if_neg h3] at hj ⊢
    by_cases h4 : mkB (c i) = true
    · rw [if_pos h4, setL_out (by omega)]
    · rw [if_neg h4, setL_out (by omega)]
theorem rtex_any {s : ByteArray} {c L : Nat → Int} {n g i : Nat} {w : World} (h : SC s c n) (hn : n ≤ 65536) (hR : LR w g n L) (hi : i < n) (hL : L i = 1) :
    Calls Tryd.prog 22 #[.slice (some ⟨g, 0, none⟩) n n, .string s, .int .i64 i] w (RtP w g n (nxE c n i) (nxL L c n i)) := by
  unfold nxE nxL
  by_cases h1 : c i = 37
  · rw [if_pos h1, if_pos h1]; exact rtex_rem h hn hR hi h1
  rw [if_neg h1, if_neg h1]
  by_cases h2 : c i = 36
  · rw [if_pos h2, if_pos h2]; exact rtex_mat h hn hR hi h2
  rw [if_neg h2, if_neg h2]
  by_cases h3 : c i = 92
  · rw [if_pos h3, if_pos h3]
    unfold bkE bkL
    by_cases h4 : c (i + 1) = 40
    · rw [if_pos h4, if_pos h4]; exact rtex_par h hn hR hi h3 h4
    rw [if_neg h4, if_neg h4]
    by_cases h5 : c (i + 1) = 91
    · rw [if_pos h5, if_pos h5]; exact rtex_brk h hn hR hi h3 h5
    rw [if_neg h5, if_neg h5]
    cases h6 : ltB (c (i + 1)) with
    | true =>
      rw [if_pos rfl, if_pos rfl]
      cases hv : isV (cmN c n i) with
      | true => exact rtex_vrb h hn hR hi h3 h6 hv
      | false =>
        cases hb : (isBg (cmN c n i) || bareB (cmN c n i)) with
        | true => exact rtex_grp h hn hR hi h3 h6 hv hb
        | false => exact rtex_cno h hn hR hi h3 h6 hv hb
    | false =>
      rw [if_neg Bool.false_ne_true, if_neg Bool.false_ne_true]
      exact rtex_oth h hn hR hi h3 h4 h5 h6
  · rw [if_neg h3, if_neg h3]
    cases h4 : mkB (c i) with
    | true => rw [if_pos rfl]; exact rtex_mk h hn hR hi h4
    | false =>
      rw [if_neg Bool.false_ne_true]
      have e : setL L 1 (i : Int) ((i + 1 : Nat) : Int) = L := by
        funext j
        unfold setL
        by_cases hj : (i : Int) ≤ (j : Int) ∧ (j : Int) < ((i + 1 : Nat) : Int)
        · rw [if_pos hj, show j = i by omega, hL]
        · rw [if_neg hj]
      rw [e]
      exact rtex_pr h hn hR hi h4 h1 h2 h3
/-- What the reference answers of a text. -/
def RhP (c : Nat → Int) (n : Nat) (w : World) (ev : Ending) (w' : World) : Prop := ∃ g, ev = .returned (.slice (some ⟨g, 0, none⟩) n n) ∧ w.heap.size ≤ g ∧ LR w' g n (lxA c n) ∧ Up w.heap.size w w'
set_option maxRecDepth 100000 in
set_option maxHeartbeats 4000000 in
theorem rhtml_any {s : ByteArray} {c : Nat → Int} {n : Nat} (h : SC s c n) (hn : n ≤ 65536) (w : World) :
    Calls Tryd.prog 16 #[.string s] w (RhP c n w) := by
  have hsn := h.1
  have ca := rall_any n hn 1 w
  have HH : Hid (SC s c n) := h
  obtain ⟨Q, hQ⟩ : ∃ Q, RhP c n w = Q := ⟨_, rfl⟩
  rw [hQ]
  have HQ : Hid (RhP c n w = Q) := hQ
  clear h hQ
  go_enter Tryd.func16, Tryd.ntmps16
  go_wp2_with fail
  refine ca.mono ?_
  rintro ev w1 ⟨g, rfl, hg, hR, hU⟩
  have HR1 : Hid (LR w1 g n (fun _ => 1) ∧ Up w.heap.size w w1 ∧ w.heap.size ≤ g) := ⟨hR, hU, hg⟩
  clear ca hR hU hg
  go_wp2
  go_loopg [4] n (fun q iv wr => ∃ k : Nat, k ≤ n ∧ q = n - k ∧ iv = .int .i64 k ∧ Hid (∃ L, LR wr g n L ∧ lx c n k L = lxA c n ∧ ∀ j, k ≤ j → L j = 1) ∧ Hid (Up w.heap.size w wr))
  case atStart => exact ⟨0, Nat.zero_le _, rfl, rfl, ⟨_, HR1.out.1, rfl, fun _ _ => rfl⟩, HR1.out.2.1⟩
  case round =>
    obtain ⟨k, hk, hq, rfl, HL, HU⟩ := hrel
    by_cases hlt : k < n
    · have z1 : (k : Int) < (n : Int) := by omega
      obtain ⟨L, hR, hL, hL1⟩ := HL.out
      have ct := rtex_any HH.out hn hR hlt (hL1 k (Nat.le_refl _))
      have hle := nxE_le HH.out.2.1 hlt
      have hone := lx_one HH.out.2.1 hlt L
      have hhi : ∀ j, nxE c n k ≤ j → nxL L c n k j = 1 := fun j hj => by rw [nx_hi HH.out.2.1 hlt L hj]; exact hL1 j (by omega)
      unfold RtP at ct
      generalize nxE c n k = E at ct hle hone hhi
      generalize nxL L c n k = M at ct hone hhi
      have HM : Hid (lx c n E M = lxA c n ∧ ∀ j, E ≤ j → M j = 1) := ⟨by rw [← hone]; exact hL, hhi⟩
      clear hR hL hL1 hone hhi HL
      go_wp2_with fail
      refine ct.mono ?_
      rintro ev w2 ⟨rfl, h21, h22⟩
      have HE2 : Hid ((∃ L, LR w2 g n L ∧ lx c n E L = lxA c n ∧ ∀ j, E ≤ j → L j = 1) ∧ Up w.heap.size w w2) := ⟨⟨M, h21, HM.out.1, HM.out.2⟩, HU.out.grown h22 (fun j hj => by cases hj; exact HR1.out.2.2)⟩
      clear ct h21 h22
      go_wp2
      go_roundg (n - E)
      case measure => omega
      case rel => exact ⟨E, hle.2, rfl, rfl, HE2.out.1, HE2.out.2⟩
    · obtain rfl : k = n := by omega
      have z1 : ¬ (k : Int) < (k : Int) := by omega
      have HF : Hid (LR wr g k (lxA c k)) := by
        obtain ⟨L, hR, hL, -⟩ := HL.out
        rw [lx_end (Nat.le_refl _)] at hL
        rw [← hL]
        exact hR
      clear HL
      go_wp2
      rw [← HQ.out]
      exact ⟨g, rfl, HR1.out.2.2, HF.out, HU.out⟩
end Go.Proofs.YtlgfmhhhecaddaaDoor
