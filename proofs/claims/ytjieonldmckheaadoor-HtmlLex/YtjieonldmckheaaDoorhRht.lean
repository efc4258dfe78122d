/- The reference's Html. -/
import Derived.Test.YtjieonldmckheaaDoorhRrd2
import Derived.Test.YtjieonldmckheaaDoorhPlnP
import Derived.Test.YtjieonldmckheaaDoorlRef
namespace Go.Proofs.YtjieonldmckheaaDoor
set_option linter.unusedVariables false
open Go.RowKit Go.ChangeShapes
theorem kdO_0 : kdO 0 = [60, 33, 45, 45] := rfl
theorem kdS_0 : kdS 0 = [45, 45, 62] := rfl
theorem rat_0 {s : ByteArray} {c : Nat → Int} {n : Nat} (h : SC s c n) (hn : n ≤ 1000000) (i : Nat) (hi : i ≤ 2000000) (w : World) :
    Calls Tryd.prog 30 #[.string s, .int .i64 i, .string ⟨#[60, 33, 45, 45]⟩] w fun e w' => e = .returned (.bool (oc (kdO 0) c i)) ∧ w' = w := by
  rw [kdO_0]
  exact rat_any h hn i hi ⟨#[60, 33, 45, 45]⟩ [60, 33, 45, 45] (byt_lit _ rfl) (by kernel_rfl) (by decide) (by simp) w
theorem rbh_0 {s : ByteArray} {c : Nat → Int} {n : Nat} (h : SC s c n) (hn : n ≤ 1000000) (i : Nat) (hi : i + (kdO 0).length ≤ n) (w : World) :
    Calls Tryd.prog 31 #[.string s, .int .i64 ((i : Int) + 4), .string ⟨#[45, 45, 62]⟩] w fun e w' => e = .returned (.int .i64 (kdE c n i 0 : Nat)) ∧ w' = w := by
  unfold kdE
  rw [kdS_0]
  rw [kdO_0] at hi ⊢
  have := rbehind_any h hn (i + 4) hi ⟨#[45, 45, 62]⟩ [45, 45, 62] (byt_lit _ rfl) (by kernel_rfl) (by decide) (by simp) w
  rw [show ((i + 4 : Nat) : Int) = (i : Int) + 4 by omega] at this
  exact this
theorem kdO_1 : kdO 1 = [60, 33, 91, 67, 68, 65, 84, 65, 91] := rfl
theorem kdS_1 : kdS 1 = [93, 93, 62] := rfl
theorem rat_1 {s : ByteArray} {c : Nat → Int} {n : Nat} (h : SC s c n) (hn : n ≤ 1000000) (i : Nat) (hi : i ≤ 2000000) (w : World) :
    Calls Tryd.prog 30 #[.string s, .int .i64 i, .string ⟨#[60, 33, 91, 67, 68, 65, 84, 65, 91]⟩] w fun e w' => e = .returned (.bool (oc (kdO 1) c i)) ∧ w' = w := by
  rw [kdO_1]
  exact rat_any h hn i hi ⟨#[60, 33, 91, 67, 68, 65, 84, 65, 91]⟩ [60, 33, 91, 67, 68, 65, 84, 65, 91] (byt_lit _ rfl) (by kernel_rfl) (by decide) (by simp) w
theorem rbh_1 {s : ByteArray} {c : Nat → Int} {n : Nat} (h : SC s c n) (hn : n ≤ 1000000) (i : Nat) (hi : i + (kdO 1).length ≤ n) (w : World) :
    Calls Tryd.prog 31 #[.string s, .int .i64 ((i : Int) + 9), .string ⟨#[93, 93, 62]⟩] w fun e w' => e = .returned (.int .i64 (kdE c n i 1 : Nat)) ∧ w' = w := by
  unfold kdE
  rw [kdS_1]
  rw [kdO_1] at hi ⊢
  have := rbehind_any h hn (i + 9) hi ⟨#[93, 93, 62]⟩ [93, 93, 62] (byt_lit _ rfl) (by kernel_rfl) (by decide) (by simp) w
  rw [show ((i + 9 : Nat) : Int) = (i : Int) + 9 by omega] at this
  exact this
theorem kdO_2 : kdO 2 = [60, 33] := rfl
theorem kdS_2 : kdS 2 = [62] := rfl
theorem rat_2 {s : ByteArray} {c : Nat → Int} {n : Nat} (h : SC s c n) (hn : n ≤ 1000000) (i : Nat) (hi : i ≤ 2000000) (w : World) :
    Calls Tryd.prog 30 #[.string s, .int .i64 i, .string ⟨#[60, 33]⟩] w fun e w' => e = .returned (.bool (oc (kdO 2) c i)) ∧ w' = w := by
  rw [kdO_2]
  exact rat_any h hn i hi ⟨#[60, 33]⟩ [60, 33] (byt_lit _ rfl) (by kernel_rfl) (by decide) (by simp) w
theorem rbh_2 {s : ByteArray} {c : Nat → Int} {n : Nat} (h : SC s c n) (hn : n ≤ 1000000) (i : Nat) (hi : i + (kdO 2).length ≤ n) (w : World) :
    Calls Tryd.prog 31 #[.string s, .int .i64 ((i : Int) + 2), .string ⟨#[62]⟩] w fun e w' => e = .returned (.int .i64 (kdE c n i 2 : Nat)) ∧ w' = w := by
  unfold kdE
  rw [kdS_2]
  rw [kdO_2] at hi ⊢
  have := rbehind_any h hn (i + 2) hi ⟨#[62]⟩ [62] (byt_lit _ rfl) (by kernel_rfl) (by decide) (by simp) w
  rw [show ((i + 2 : Nat) : Int) = (i : Int) + 2 by omega] at this
  exact this
theorem kdO_3 : kdO 3 = [60, 63] := rfl
theorem kdS_3 : kdS 3 = [62] := rfl
theorem rat_3 {s : ByteArray} {c : Nat → Int} {n : Nat} (h : SC s c n) (hn : n ≤ 1000000) (i : Nat) (hi : i ≤ 2000000) (w : World) :
    Calls Tryd.prog 30 #[.string s, .int .i64 i, .string ⟨#[60, 63]⟩] w fun e w' => e = .returned (.bool (oc (kdO 3) c i)) ∧ w' = w := by
  rw [kdO_3]
  exact rat_any h hn i hi ⟨#[60, 63]⟩ [60, 63] (byt_lit _ rfl) (by kernel_rfl) (by decide) (by simp) w
theorem rbh_3 {s : ByteArray} {c : Nat → Int} {n : Nat} (h : SC s c n) (hn : n ≤ 1000000) (i : Nat) (hi : i + (kdO 3).length ≤ n) (w : World) :
    Calls Tryd.prog 31 #[.string s, .int .i64 ((i : Int) + 2), .string ⟨#[62]⟩] w fun e w' => e = .returned (.int .i64 (kdE c n i 3 : Nat)) ∧ w' = w := by
  unfold kdE
  rw [kdS_3]
  rw [kdO_3] at hi ⊢
  have := rbehind_any h hn (i + 2) hi ⟨#[62]⟩ [62] (byt_lit _ rfl) (by kernel_rfl) (by decide) (by simp) w
  rw [show ((i + 2 : Nat) : Int) = (i : Int) + 2 by omega] at this
  exact this
/-- What the reference's Html answers. -/
def RhP (c : Nat → Int) (n : Nat) (w : World) (ev : Ending) (w' : World) : Prop := ∃ g, ev = .returned (.slice (some ⟨g, 0, none⟩) n n) ∧ w.heap.size ≤ g ∧ LR w' g n (lxA c n) ∧ Up w.heap.size w w'
set_option maxRecDepth 100000 in
set_option maxHeartbeats 8000000 in
theorem rhtml_any {s : ByteArray} {c : Nat → Int} {n : Nat} (h : SC s c n) (hn : n ≤ 65536) (w : World) :
    Calls Tryd.prog 16 #[.string s] w (RhP c n w) := by
  have hsn := h.1
  have ca := rall_any n hn 1 w
  have HH : Hid (SC s c n ∧ Ch c n) := ⟨h, h.2.1⟩
  obtain ⟨Q, hQ⟩ : ∃ Q, RhP c n w = Q := ⟨_, rfl⟩
  rw [hQ]
  have HQ : Hid (RhP c n w = Q) := hQ
  clear h hQ
  go_enter Tryd.func16, Tryd.ntmps16
  go_wp2_with fail
  refine ca.mono ?_
  rintro ev w1 ⟨g, rfl, hg, hR, hU⟩
  have HS1 : Hid (LR w1 g n (fun _ => 1) ∧ Up w.heap.size w w1) := ⟨hR, hU⟩
  clear ca hR hU
  go_wp2
  go_loopg [4] n (fun q iv wr => ∃ k : Nat, k ≤ n ∧ q = n - k ∧ iv = .int .i64 k ∧ Hid (∃ L, LR wr g n L ∧ lx c n k L = lxA c n) ∧ Hid (Up w.heap.size w wr))
  case atStart => exact ⟨0, Nat.zero_le _, rfl, rfl, ⟨_, HS1.out.1, rfl⟩, HS1.out.2⟩
  case round =>
    obtain ⟨k, hk, hq, rfl, HL, HU⟩ := hrel
    by_cases hlt : k < n
    · have z1 : (k : Int) < (s.size : Int) := by omega
      have z1n : (k : Int) < (n : Int) := by omega
      have z2 : (0 : Int) ≤ (k : Int) := by omega
      have z3 : k < s.size := by omega
      have hck := HH.out.1.2.2.1 k z3
      obtain ⟨L, hS, hL⟩ := HL.out
      have HL2 : Hid (LR wr g n L ∧ lx c n (nxE c n k) (nxL L c n k) = lxA c n) := ⟨hS, by rw [← lx_one HH.out.2 hlt L]; exact hL⟩
      clear hS hL HL
      obtain ⟨x, hx⟩ : ∃ x, c k = x := ⟨_, rfl⟩
      rw [hx] at hck
      have HX : Hid (c k = x) := hx
      clear hx
      by_cases h60 : x = 60
      · subst h60
        have c0 := rat_0 HH.out.1 (by omega) k (by omega) wr
        obtain ⟨g0, hg0⟩ : ∃ g0, oc (kdO 0) c k = g0 := ⟨_, rfl⟩
        have HO0 : Hid (oc (kdO 0) c k = g0) := hg0
        rw [hg0] at c0
        clear hg0
        cases g0 with
        | true =>
          have hle := kdE_le (n := n) (k := 0) HH.out.2.2 HO0.out
          have HL3 : Hid (lx c n (kdE c n k 0) (setL L 3 (k : Int) ((kdE c n k 0 : Nat) : Int)) = lxA c n) := by
            show _ = _
            rw [← HL2.out.2, ← lx_one HH.out.2 hlt L]
            exact (lx_kd HH.out.2 hlt (by decide) (fun j hj => by
              omega) HO0.out L).symm
          have cbh := rbh_0 HH.out.1 (by omega) k hle.2.2 wr
          have cpt := rput_any HL2.out.1 hn 3 k (kdE c n k 0) hle.2.1
          obtain ⟨E, hE⟩ : ∃ E, kdE c n k 0 = E := ⟨_, rfl⟩
          rw [hE] at cbh cpt hle HL3
          have z5 : (0 : Int) < (E : Int) := by omega
          clear hE
          go_wp2_with fail
          refine c0.mono ?_
          rintro ev w2 ⟨rfl, hw⟩
          subst w2
          go_wp2_with fail
          refine cbh.mono ?_
          rintro ev w2 ⟨rfl, hw⟩
          subst w2
          go_wp2_with fail
          refine cpt.mono ?_
          rintro ev w2 ⟨rfl, h21, h22, h23⟩
          have HE2 : Hid ((∃ L, LR w2 g n L ∧ lx c n E L = lxA c n) ∧ Up w.heap.size w w2) := ⟨⟨_, h21, HL3.out⟩, HU.out.grown h22 (fun j hj => by cases hj; exact hg)⟩
          clear cbh cpt h21 h22 h23
          go_wp2
          go_roundg (n - E)
          case measure => omega
          case rel => exact ⟨E, hle.2.1, rfl, rfl, HE2.out.1, HE2.out.2⟩
        | false =>
          have c1 := rat_1 HH.out.1 (by omega) k (by omega) wr
          obtain ⟨g1, hg1⟩ : ∃ g1, oc (kdO 1) c k = g1 := ⟨_, rfl⟩
          have HO1 : Hid (oc (kdO 1) c k = g1) := hg1
          rw [hg1] at c1
          clear hg1
          cases g1 with
          | true =>
            have hle := kdE_le (n := n) (k := 1) HH.out.2.2 HO1.out
            have HL3 : Hid (lx c n (kdE c n k 1) (setL L 6 (k : Int) ((kdE c n k 1 : Nat) : Int)) = lxA c n) := by
              show _ = _
              rw [← HL2.out.2, ← lx_one HH.out.2 hlt L]
              exact (lx_kd HH.out.2 hlt (by decide) (fun j hj => by
                obtain rfl : j = 0 := by omega
                exact HO0.out) HO1.out L).symm
            have cbh := rbh_1 HH.out.1 (by omega) k hle.2.2 wr
            have cpt := rput_any HL2.out.1 hn 6 k (kdE c n k 1) hle.2.1
            obtain ⟨E, hE⟩ : ∃ E, kdE c n k 1 = E := ⟨_, rfl⟩
            rw [hE] at cbh cpt hle HL3
            have z5 : (0 : Int) < (E : Int) := by omega
            clear hE
            go_wp2_with fail
            refine c0.mono ?_
            rintro ev w2 ⟨rfl, hw⟩
            subst w2
            go_wp2_with fail
            refine c1.mono ?_
            rintro ev w2 ⟨rfl, hw⟩
            subst w2
            go_wp2_with fail
            refine cbh.mono ?_
            rintro ev w2 ⟨rfl, hw⟩
            subst w2
            go_wp2_with fail
            refine cpt.mono ?_
            rintro ev w2 ⟨rfl, h21, h22, h23⟩
            have HE2 : Hid ((∃ L, LR w2 g n L ∧ lx c n E L = lxA c n) ∧ Up w.heap.size w w2) := ⟨⟨_, h21, HL3.out⟩, HU.out.grown h22 (fun j hj => by cases hj; exact hg)⟩
            clear cbh cpt h21 h22 h23
            go_wp2
            go_roundg (n - E)
            case measure => omega
            case rel => exact ⟨E, hle.2.1, rfl, rfl, HE2.out.1, HE2.out.2⟩
          | false =>
            have c2 := rat_2 HH.out.1 (by omega) k (by omega) wr
            obtain ⟨g2, hg2⟩ : ∃ g2, oc (kdO 2) c k = g2 := ⟨_, rfl⟩
            have HO2 : Hid (oc (kdO 2) c k = g2) := hg2
            rw [hg2] at c2
            clear hg2
            cases g2 with
            | true =>
              have hle := kdE_le (n := n) (k := 2) HH.out.2.2 HO2.out
              have HL3 : Hid (lx c n (kdE c n k 2) (setL L 2 (k : Int) ((kdE c n k 2 : Nat) : Int)) = lxA c n) := by
                show _ = _
                rw [← HL2.out.2, ← lx_one HH.out.2 hlt L]
                exact (lx_kd HH.out.2 hlt (by decide) (fun j hj => by
                  rcases (show j = 0 ∨ j = 1 by omega) with rfl | rfl
                  · exact HO0.out
                  · exact HO1.out) HO2.out L).symm
              have cbh := rbh_2 HH.out.1 (by omega) k hle.2.2 wr
              have cpt := rput_any HL2.out.1 hn 2 k (kdE c n k 2) hle.2.1
              obtain ⟨E, hE⟩ : ∃ E, kdE c n k 2 = E := ⟨_, rfl⟩
              rw [hE] at cbh cpt hle HL3
              have z5 : (0 : Int) < (E : Int) := by omega
              clear hE
              go_wp2_with fail
              refine c0.mono ?_
              rintro ev w2 ⟨rfl, hw⟩
              subst w2
              go_wp2_with fail
              refine c1.mono ?_
              rintro ev w2 ⟨rfl, hw⟩
              subst w2
              go_wp2_with fail
              refine c2.mono ?_
              rintro ev w2 ⟨rfl, hw⟩
              subst w2
              go_wp2_with fail
              refine cbh.mono ?_
              rintro ev w2 ⟨rfl, hw⟩
              subst w2
              go_wp2_with fail
              refine cpt.mono ?_
              rintro ev w2 ⟨rfl, h21, h22, h23⟩
              have HE2 : Hid ((∃ L, LR w2 g n L ∧ lx c n E L = lxA c n) ∧ Up w.heap.size w w2) := ⟨⟨_, h21, HL3.out⟩, HU.out.grown h22 (fun j hj => by cases hj; exact hg)⟩
              clear cbh cpt h21 h22 h23
              go_wp2
              go_roundg (n - E)
              case measure => omega
              case rel => exact ⟨E, hle.2.1, rfl, rfl, HE2.out.1, HE2.out.2⟩
            | false =>
              have c3 := rat_3 HH.out.1 (by omega) k (by omega) wr
              obtain ⟨g3, hg3⟩ : ∃ g3, oc (kdO 3) c k = g3 := ⟨_, rfl⟩
              have HO3 : Hid (oc (kdO 3) c k = g3) := hg3
              rw [hg3] at c3
              clear hg3
              cases g3 with
              | true =>
                have hle := kdE_le (n := n) (k := 3) HH.out.2.2 HO3.out
                have HL3 : Hid (lx c n (kdE c n k 3) (setL L 2 (k : Int) ((kdE c n k 3 : Nat) : Int)) = lxA c n) := by
                  show _ = _
                  rw [← HL2.out.2, ← lx_one HH.out.2 hlt L]
                  exact (lx_kd HH.out.2 hlt (by decide) (fun j hj => by
                    rcases (show j = 0 ∨ j = 1 ∨ j = 2 by omega) with rfl | rfl | rfl
                    · exact HO0.out
                    · exact HO1.out
                    · exact HO2.out) HO3.out L).symm
                have cbh := rbh_3 HH.out.1 (by omega) k hle.2.2 wr
                have cpt := rput_any HL2.out.1 hn 2 k (kdE c n k 3) hle.2.1
                obtain ⟨E, hE⟩ : ∃ E, kdE c n k 3 = E := ⟨_, rfl⟩
                rw [hE] at cbh cpt hle HL3
                have z5 : (0 : Int) < (E : Int) := by omega
                clear hE
                go_wp2_with fail
                refine c0.mono ?_
                rintro ev w2 ⟨rfl, hw⟩
                subst w2
                go_wp2_with fail
                refine c1.mono ?_
                rintro ev w2 ⟨rfl, hw⟩
                subst w2
                go_wp2_with fail
                refine c2.mono ?_
                rintro ev w2 ⟨rfl, hw⟩
                subst w2
                go_wp2_with fail
                refine c3.mono ?_
                rintro ev w2 ⟨rfl, hw⟩
                subst w2
                go_wp2_with fail
                refine cbh.mono ?_
                rintro ev w2 ⟨rfl, hw⟩
                subst w2
                go_wp2_with fail
                refine cpt.mono ?_
                rintro ev w2 ⟨rfl, h21, h22, h23⟩
                have HE2 : Hid ((∃ L, LR w2 g n L ∧ lx c n E L = lxA c n) ∧ Up w.heap.size w w2) := ⟨⟨_, h21, HL3.out⟩, HU.out.grown h22 (fun j hj => by cases hj; exact hg)⟩
                clear cbh cpt h21 h22 h23
                go_wp2
                go_roundg (n - E)
                case measure => omega
                case rel => exact ⟨E, hle.2.1, rfl, rfl, HE2.out.1, HE2.out.2⟩
              | false =>
                have cr := rread_any HH.out.1 (by omega) k hlt wr
                obtain ⟨QR, hQR⟩ : ∃ QR, RdP c n k wr = QR := ⟨_, rfl⟩
                rw [hQR] at cr
                have HQR : Hid (RdP c n k wr = QR) := hQR
                have HK4 : Hid (kd c k = 4) := kd_no fun j hj => by
                  rcases (show j = 0 ∨ j = 1 ∨ j = 2 ∨ j = 3 by omega) with rfl | rfl | rfl | rfl
                  · exact HO0.out
                  · exact HO1.out
                  · exact HO2.out
                  · exact HO3.out
                clear hQR
                go_wp2_with fail
                refine c0.mono ?_
                rintro ev w2 ⟨rfl, hw⟩
                subst w2
                go_wp2_with fail
                refine c1.mono ?_
                rintro ev w2 ⟨rfl, hw⟩
                subst w2
                go_wp2_with fail
                refine c2.mono ?_
                rintro ev w2 ⟨rfl, hw⟩
                subst w2
                go_wp2_with fail
                refine c3.mono ?_
                rintro ev w2 ⟨rfl, hw⟩
                subst w2
                go_wp2_with fail
                refine cr.mono ?_
                intro ev w2 hev
                rw [← HQR.out] at hev
                clear cr HQR c0 c1 c2 c3 hck
                rcases hev with ⟨ht, rfl, hb2⟩ | ⟨t, pv, ht, rfl, hp, hb2⟩
                · have HL3 : Hid (lx c n (if bg c k = true then n else k + 1) (if bg c k = true then setL L 2 (k : Int) (n : Int) else L) = lxA c n) := by
                    show _ = _
                    have := HL2.out.2
                    unfold nxE nxL tgE tgL at this
                    rw [HK4.out, if_neg (Nat.lt_irrefl 4), if_neg (Nat.lt_irrefl 4), ht] at this
                    exact this
                  have HBG : Hid (bg c k = ltB (c (tgF c k))) := by
                    show _ = _
                    unfold bg
                    rw [HX.out]
                    rfl
                  have HU2 : Hid (Up w.heap.size w w2) := HU.out.stay hb2
                  have HLr2 : Hid (LR w2 g n L) := HL2.out.1.keep (hb2.block _ HL2.out.1.lt)
                  have hbV := below_alloc w2 (.cells #[.int .i64 0, .string ⟨#[]⟩, .bool false, .slice none 0 0] 46)
                  have HW : Hid (LR (w2.alloc (.cells #[.int .i64 0, .string ⟨#[]⟩, .bool false, .slice none 0 0] 46)) g n L ∧ Up w.heap.size w (w2.alloc (.cells #[.int .i64 0, .string ⟨#[]⟩, .bool false, .slice none 0 0] 46))) := ⟨HLr2.out.keep (hbV.block _ HLr2.out.lt), HU2.out.stay hbV⟩
                  have cpt := rput_any HW.out.1 hn 2 k n (Nat.le_refl _)
                  have cl1 := rletter_any HH.out.1 (by omega) (k + 1) (w2.alloc (.cells #[.int .i64 0, .string ⟨#[]⟩, .bool false, .slice none 0 0] 46))
                  have cl2 := rletter_any HH.out.1 (by omega) (k + 2) (w2.alloc (.cells #[.int .i64 0, .string ⟨#[]⟩, .bool false, .slice none 0 0] 46))
                  have c47 := rat_any HH.out.1 (by omega) (k + 1) (by omega) ⟨#[47]⟩ [47] (byt_lit _ rfl) rfl (by decide) (by simp) (w2.alloc (.cells #[.int .i64 0, .string ⟨#[]⟩, .bool false, .slice none 0 0] 46))
                  rw [oc1] at c47
                  rw [show ((k + 1 : Nat) : Int) = (k : Int) + 1 by omega] at cl1 c47
                  rw [show ((k + 2 : Nat) : Int) = (k : Int) + 2 by omega] at cl2
                  clear hb2 ht hbV
                  cases e1 : ltB (c (k + 1)) with
                  | true =>
                    rw [e1] at cl1
                    have HL5 : Hid (setL L 2 (k : Int) (n : Int) = lxA c n) := by
                      show _ = _
                      have := HL3.out
                      rw [show bg c k = true by rw [HBG.out]; unfold tgF; rw [if_neg (fun e => by rw [e] at e1; exact absurd e1 (by decide))]; exact e1, if_pos rfl, if_pos rfl, lx_end (Nat.le_refl _)] at this
                      exact this

                    clear e1 cl2 c47
                    go_wp2_with fail
                    refine cl1.mono ?_
                    rintro ev w3 ⟨rfl, hw⟩
                    subst w3
                    go_wp2_with fail
                    refine cpt.mono ?_
                    rintro ev w5 ⟨rfl, h51, h52, h53⟩
                    have HE2 : Hid (LR w5 g n (lxA c n) ∧ Up w.heap.size w w5) := by
                      refine ⟨?_, HW.out.2.grown h52 (fun j hj => by cases hj; exact hg)⟩
                      rw [← HL5.out]
                      exact h51
                    clear cpt h51 h52 h53
                    go_wp2
                    rw [← HQ.out]
                    exact ⟨g, rfl, hg, HE2.out.1, HE2.out.2⟩
                  | false =>
                    rw [e1] at cl1
                    cases e2 : (c (k + 1) == 47) with
                    | false =>
                      rw [e2] at c47
                      have HL5 : Hid (lx c n (k + 1) L = lxA c n) := by
                        show _ = _
                        have := HL3.out
                        rw [show bg c k = false by rw [HBG.out]; unfold tgF; rw [if_neg (by simpa using e2)]; exact e1, if_neg Bool.false_ne_true, if_neg Bool.false_ne_true] at this
                        exact this

                      clear e1 e2 cl2
                      go_wp2_with fail
                      refine cl1.mono ?_
                      rintro ev w3 ⟨rfl, hw⟩
                      subst w3
                      go_wp2_with fail
                      refine c47.mono ?_
                      rintro ev w3 ⟨rfl, hw⟩
                      subst w3
                      go_wp2
                      go_roundg (n - (k + 1))
                      case measure => omega
                      case rel => exact ⟨k + 1, by omega, rfl, by go_num, ⟨_, HW.out.1, HL5.out⟩, HW.out.2⟩
                    | true =>
                      rw [e2] at c47
                      cases e3 : ltB (c (k + 2)) with
                      | true =>
                        rw [e3] at cl2
                        have HL5 : Hid (setL L 2 (k : Int) (n : Int) = lxA c n) := by
                          show _ = _
                          have := HL3.out
                          rw [show bg c k = true by rw [HBG.out]; unfold tgF; rw [if_pos (by simpa using e2)]; exact e3, if_pos rfl, if_pos rfl, lx_end (Nat.le_refl _)] at this
                          exact this

                        clear e1 e2 e3
                        go_wp2_with fail
                        refine cl1.mono ?_
                        rintro ev w3 ⟨rfl, hw⟩
                        subst w3
                        go_wp2_with fail
                        refine c47.mono ?_
                        rintro ev w3 ⟨rfl, hw⟩
                        subst w3
                        go_wp2_with fail
                        refine cl2.mono ?_
                        rintro ev w3 ⟨rfl, hw⟩
                        subst w3
                        go_wp2_with fail
                        refine cpt.mono ?_
                        rintro ev w5 ⟨rfl, h51, h52, h53⟩
                        have HE2 : Hid (LR w5 g n (lxA c n) ∧ Up w.heap.size w w5) := by
                          refine ⟨?_, HW.out.2.grown h52 (fun j hj => by cases hj; exact hg)⟩
                          rw [← HL5.out]
                          exact h51
                        clear cpt h51 h52 h53
                        go_wp2
                        rw [← HQ.out]
                        exact ⟨g, rfl, hg, HE2.out.1, HE2.out.2⟩
                      | false =>
                        rw [e3] at cl2
                        have HL5 : Hid (lx c n (k + 1) L = lxA c n) := by
                          show _ = _
                          have := HL3.out
                          rw [show bg c k = false by rw [HBG.out]; unfold tgF; rw [if_pos (by simpa using e2)]; exact e3, if_neg Bool.false_ne_true, if_neg Bool.false_ne_true] at this
                          exact this

                        clear e1 e2 e3
                        go_wp2_with fail
                        refine cl1.mono ?_
                        rintro ev w3 ⟨rfl, hw⟩
                        subst w3
                        go_wp2_with fail
                        refine c47.mono ?_
                        rintro ev w3 ⟨rfl, hw⟩
                        subst w3
                        go_wp2_with fail
                        refine cl2.mono ?_
                        rintro ev w3 ⟨rfl, hw⟩
                        subst w3
                        go_wp2
                        go_roundg (n - (k + 1))
                        case measure => omega
                        case rel => exact ⟨k + 1, by omega, rfl, by go_num, ⟨_, HW.out.1, HL5.out⟩, HW.out.2⟩
                · have HL3 : Hid (lx c n (inE c n t) (inL (layT L k t) c n t) = lxA c n) := by
                    show _ = _
                    have := HL2.out.2
                    unfold nxE nxL tgE tgL at this
                    rw [HK4.out, if_neg (Nat.lt_irrefl 4), if_neg (Nat.lt_irrefl 4), ht] at this
                    exact this
                  have hok := tg_ok HH.out.2 ht
                  have HOK : Hid (k < t.e ∧ t.e ≤ n ∧ Byt t.nm ∧ t.nm ≠ [] ∧ t.nm.length ≤ n ∧ PrOk n t.pr ∧ t.pr.length ≤ n) := hok
                  obtain ⟨pd, pc, hpv⟩ := hp.form
                  have HU2 : Hid (Up w.heap.size w w2) := HU.out.stay hb2
                  have HLr2 : Hid (LR w2 g n L) := HL2.out.1.keep (hb2.block _ HL2.out.1.lt)
                  obtain ⟨V, hV⟩ : ∃ V, w2.alloc (.cells #[.int .i64 (t.e : Int), .string (strOfNums t.nm), .bool t.cl, pv] 46) = V := ⟨_, rfl⟩
                  have hbV : Below w2.heap.size w2 V := by rw [← hV]; exact below_alloc w2 _
                  have hV0 : V.heap[w2.heap.size]? = some (.cells #[.int .i64 (t.e : Int), .string (strOfNums t.nm), .bool t.cl, pv] 46) := by rw [← hV]; exact heap_alloc_new _ _
                  have HUV : Hid (Up w.heap.size w V) := HU2.out.stay hbV
                  have hLV : LR V g n L := HLr2.out.keep (hbV.block _ HLr2.out.lt)
                  have hgV : g < w2.heap.size := HLr2.out.lt
                  have ctg := rtag_any hLV hn k t.e hok.2.1 (strOfNums t.nm) t.cl pv t.pr (hp.stay hbV) hok.2.2.2.2.2.1 (by omega)
                  change Calls _ _ _ _ (fun ev w' => ev = .returned (.tuple #[]) ∧ LR w' g n (layT L k t) ∧ V.grownBy w' (some g)) at ctg
                  obtain ⟨L1, hL1⟩ : ∃ L1, layT L k t = L1 := ⟨_, rfl⟩
                  have HL1 : Hid (layT L k t = L1) := hL1
                  rw [hL1] at ctg
                  obtain ⟨D, hD⟩ : ∃ D, w2.heap.size = D := ⟨_, rfl⟩
                  have HDD : Hid (w2.heap.size = D) := hD
                  obtain ⟨te, hte⟩ : ∃ te, t.e = te := ⟨_, rfl⟩
                  obtain ⟨tn, htn⟩ : ∃ tn, strOfNums t.nm = tn := ⟨_, rfl⟩
                  obtain ⟨tc, htc⟩ : ∃ tc, t.cl = tc := ⟨_, rfl⟩
                  obtain ⟨pn, hpn⟩ : ∃ pn, t.pr.length = pn := ⟨_, rfl⟩
                  have HTE : Hid (t.e = te) := hte
                  have HTN : Hid (strOfNums t.nm = tn) := htn
                  have HTC : Hid (t.cl = tc) := htc
                  have hte1 : k < te := by rw [← hte]; exact hok.1
                  have hte2 : te ≤ n := by rw [← hte]; exact hok.2.1
                  rw [hpn] at hpv
                  rw [hte, htn, htc, hpv] at ctg hV hV0
                  rw [hte, htn, htc, hpv]
                  have HV0 : Hid (V.heap[w2.heap.size]? = some (.cells #[.int .i64 (te : Int), .string tn, .bool tc, .slice pd pn pc] 46) ∧ g < w2.heap.size) := ⟨hV0, hgV⟩
                  have y0 : V.cell? ⟨w2.heap.size, 0, none⟩ = some (.int .i64 (te : Int)) := by simp [World.cell?, hV0]
                  have y1 : V.cell? ⟨w2.heap.size, 1, none⟩ = some (.string tn) := by simp [World.cell?, hV0]
                  have y2 : V.cell? ⟨w2.heap.size, 2, none⟩ = some (.bool tc) := by simp [World.cell?, hV0]
                  have y3 : V.cell? ⟨w2.heap.size, 3, none⟩ = some (.slice pd pn pc) := by simp [World.cell?, hV0]
                  clear hb2 ht hp hbV hV0 hok hL1 hD hte htn htc hpn hpv hLV hgV
                  go_wp2_with fail
                  refine ctg.mono ?_
                  rintro ev w4 ⟨rfl, h41, h42⟩
                  have h4 := (h42.block w2.heap.size (lt_of_heap HV0.out.1) (fun ee => by injection ee with ee; have := HV0.out; omega)).trans HV0.out.1
                  have x0 : w4.cell? ⟨w2.heap.size, 0, none⟩ = some (.int .i64 (te : Int)) := by simp [World.cell?, h4]
                  have x1 : w4.cell? ⟨w2.heap.size, 1, none⟩ = some (.string tn) := by simp [World.cell?, h4]
                  have x2 : w4.cell? ⟨w2.heap.size, 2, none⟩ = some (.bool tc) := by simp [World.cell?, h4]
                  have HL4 : Hid (LR w4 g n L1) := h41
                  have HU4 : Hid (Up w.heap.size w w4) := HUV.out.grown h42 (fun j hj => by cases hj; exact hg)
                  clear ctg h41 h42 h4 hV y0 y1 y2 y3
                  cases tc with
                  | true =>
                    have HL6 : Hid (lx c n te L1 = lxA c n) := by
                      show _ = _
                      have := HL3.out
                      unfold inE inL at this
                      rw [if_pos HTC.out, if_pos HTC.out, HL1.out, HTE.out] at this
                      exact this
                    go_wp2
                    go_roundg (n - te)
                    case measure => omega
                    case rel => exact ⟨te, hte2, rfl, rfl, ⟨_, HL4.out, HL6.out⟩, HU4⟩
                  | false =>
                    have htw := sc_two HOK.out.2.2.1
                    rw [HTN.out] at htw
                    obtain ⟨gz, hgz⟩ : ∃ gz, scB t.nm = gz := ⟨_, rfl⟩
                    have HGZ : Hid (scB t.nm = gz) := hgz
                    rw [hgz] at htw
                    clear hgz
                    go_upto_region 27 with fail
                    go_cut [112] (fun v wx => v = .bool gz ∧ wx = w4)
                    case first =>
                      by_cases s1 : tn.toList = [115, 99, 114, 105, 112, 116]
                      · have HG : Hid (gz = true) := by show gz = _; rw [htw, s1]; rfl
                        clear htw
                        go_wp2
                        go_meet
                        case rel => exact ⟨by rw [HG.out], rfl⟩
                      · have u1 : (tn.toList == [115, 99, 114, 105, 112, 116]) = false := by simpa using s1
                        obtain ⟨u, hu⟩ : ∃ u, (tn.toList == [115, 116, 121, 108, 101]) = u := ⟨_, rfl⟩
                        have HG : Hid (gz = u) := by show gz = _; rw [htw, u1, hu]; rfl
                        clear htw
                        go_wp2
                        go_meet
                        case rel => exact ⟨by rw [HG.out], rfl⟩
                    case rest =>
                      obtain ⟨rfl, hwx⟩ := hcut
                      obtain rfl := hwx.symm
                      clear htw
                      cases gz with
                      | true =>
                        have HL3 : Hid (lx c n (fs (shB t.nm c n) n t.e) (setL L1 4 (t.e : Int) ((fs (shB t.nm c n) n t.e : Nat) : Int)) = lxA c n) := by
                          show _ = _
                          have := HL3.out
                          unfold inE inL at this
                          rw [if_neg (show ¬ t.cl = true by rw [HTC.out]; exact Bool.false_ne_true), if_neg (show ¬ t.cl = true by rw [HTC.out]; exact Bool.false_ne_true), if_pos (show scB t.nm = true ∨ txB t.nm = true from Or.inl HGZ.out), if_pos (show scB t.nm = true from HGZ.out), HL1.out] at this
                          exact this
                        have hK1 := fs_ge (shB t.nm c n) n t.e
                        have hK2 := fs_le (shB t.nm c n) HOK.out.2.1
                        have csh := rshut_any HH.out.1 (by omega) t.e HOK.out.2.1 t.nm HOK.out.2.2.1 HOK.out.2.2.2.1 (by have := HOK.out.2.2.2.2.1; omega) tn HTN.out w4
                        obtain ⟨K, hK⟩ : ∃ K, fs (shB t.nm c n) n t.e = K := ⟨_, rfl⟩
                        rw [hK] at csh HL3 hK1 hK2
                        rw [HTE.out] at csh hK1
                        (try rw [HTE.out] at HL3)
                        clear hK
                        have HL6 : Hid (lx c n K (setL L1 4 (te : Int) (K : Int)) = lxA c n) := HL3
                        clear HL3
                        go_wp2_with fail
                        refine csh.mono ?_
                        rintro ev w5 ⟨rfl, hb5⟩
                        have HL5 : Hid (LR w5 g n L1) := HL4.out.keep (hb5.block _ (HL4.out.lt))
                        have HU5 : Hid (Up w.heap.size w w5) := HU4.out.stay hb5
                        clear csh hb5
                        have cpt := rput_any HL5.out hn 4 te K hK2
                        go_wp2_with fail
                        refine cpt.mono ?_
                        rintro ev w6 ⟨rfl, h61, h62, h63⟩
                        have HE2 : Hid ((∃ L, LR w6 g n L ∧ lx c n K L = lxA c n) ∧ Up w.heap.size w w6) := ⟨⟨_, h61, HL6.out⟩, HU5.out.grown h62 (fun j hj => by cases hj; exact hg)⟩
                        clear cpt h61 h62 h63
                        go_wp2
                        go_roundg (n - K)
                        case measure => omega
                        case rel => exact ⟨K, hK2, rfl, rfl, HE2.out.1, HE2.out.2⟩
                      | false =>
                        have HSC : Hid (scB t.nm = false) := HGZ
                        clear HGZ
                        have htw := tx_two HOK.out.2.2.1
                        rw [HTN.out] at htw
                        obtain ⟨gz, hgz⟩ : ∃ gz, txB t.nm = gz := ⟨_, rfl⟩
                        have HGZ : Hid (txB t.nm = gz) := hgz
                        rw [hgz] at htw
                        clear hgz
                        go_upto_region 31 with fail
                        go_cut [130] (fun v wx => v = .bool gz ∧ wx = w4)
                        case first =>
                          by_cases s1 : tn.toList = [116, 101, 120, 116, 97, 114, 101, 97]
                          · have HG : Hid (gz = true) := by show gz = _; rw [htw, s1]; rfl
                            clear htw
                            go_wp2
                            go_meet
                            case rel => exact ⟨by rw [HG.out], rfl⟩
                          · have u1 : (tn.toList == [116, 101, 120, 116, 97, 114, 101, 97]) = false := by simpa using s1
                            obtain ⟨u, hu⟩ : ∃ u, (tn.toList == [116, 105, 116, 108, 101]) = u := ⟨_, rfl⟩
                            have HG : Hid (gz = u) := by show gz = _; rw [htw, u1, hu]; rfl
                            clear htw
                            go_wp2
                            go_meet
                            case rel => exact ⟨by rw [HG.out], rfl⟩
                        case rest =>
                          obtain ⟨rfl, hwx⟩ := hcut
                          obtain rfl := hwx.symm
                          clear htw
                          cases gz with
                          | true =>
                            have HL3 : Hid (lx c n (fs (shB t.nm c n) n t.e) L1 = lxA c n) := by
                              show _ = _
                              have := HL3.out
                              unfold inE inL at this
                              rw [if_neg (show ¬ t.cl = true by rw [HTC.out]; exact Bool.false_ne_true), if_neg (show ¬ t.cl = true by rw [HTC.out]; exact Bool.false_ne_true), if_pos (show scB t.nm = true ∨ txB t.nm = true from Or.inr HGZ.out), if_neg (show ¬ scB t.nm = true by rw [HSC.out]; exact Bool.false_ne_true), HL1.out] at this
                              exact this
                            have hK1 := fs_ge (shB t.nm c n) n t.e
                            have hK2 := fs_le (shB t.nm c n) HOK.out.2.1
                            have csh := rshut_any HH.out.1 (by omega) t.e HOK.out.2.1 t.nm HOK.out.2.2.1 HOK.out.2.2.2.1 (by have := HOK.out.2.2.2.2.1; omega) tn HTN.out w4
                            obtain ⟨K, hK⟩ : ∃ K, fs (shB t.nm c n) n t.e = K := ⟨_, rfl⟩
                            rw [hK] at csh HL3 hK1 hK2
                            rw [HTE.out] at csh hK1
                            (try rw [HTE.out] at HL3)
                            clear hK
                            have HL6 : Hid (lx c n K L1 = lxA c n) := HL3
                            clear HL3
                            go_wp2_with fail
                            refine csh.mono ?_
                            rintro ev w5 ⟨rfl, hb5⟩
                            have HL5 : Hid (LR w5 g n L1) := HL4.out.keep (hb5.block _ (HL4.out.lt))
                            have HU5 : Hid (Up w.heap.size w w5) := HU4.out.stay hb5
                            clear csh hb5
                            have HE2 : Hid ((∃ L, LR w5 g n L ∧ lx c n K L = lxA c n) ∧ Up w.heap.size w w5) := ⟨⟨_, HL5.out, HL6.out⟩, HU5.out⟩
                            go_wp2
                            go_roundg (n - K)
                            case measure => omega
                            case rel => exact ⟨K, hK2, rfl, rfl, HE2.out.1, HE2.out.2⟩
                          | false =>
                            have HL6 : Hid (lx c n te L1 = lxA c n) := by
                              show _ = _
                              have := HL3.out
                              unfold inE inL at this
                              rw [if_neg (show ¬ t.cl = true by rw [HTC.out]; exact Bool.false_ne_true), if_neg (show ¬ t.cl = true by rw [HTC.out]; exact Bool.false_ne_true), if_neg (show ¬ (scB t.nm = true ∨ txB t.nm = true) by rw [HSC.out, HGZ.out]; simp), if_neg (show ¬ scB t.nm = true by rw [HSC.out]; exact Bool.false_ne_true), HL1.out, HTE.out] at this
                              exact this
                            go_wp2
                            go_roundg (n - te)
                            case measure => omega
                            case rel => exact ⟨te, hte2, rfl, rfl, ⟨_, HL4.out, HL6.out⟩, HU4⟩
      · have k60 : (x != 60) = true := by simpa using h60
        have hnx := nx_not (n := n) (i := k) (c := c) (by rw [HX.out]; exact h60) L
        have HL5 : Hid (lx c n (k + 1) L = lxA c n) := by
          show _ = _
          have := HL2.out.2
          rw [hnx.1, hnx.2] at this
          exact this
        clear hnx
        go_wp2
        go_roundg (n - (k + 1))
        case measure => omega
        case rel => exact ⟨k + 1, by omega, rfl, by go_num, ⟨_, HL2.out.1, HL5.out⟩, HU⟩
    · obtain rfl : k = n := by omega
      have z1 : ¬ (k : Int) < (s.size : Int) := by omega
      have z1n : ¬ (k : Int) < (k : Int) := by omega
      go_wp2
      obtain ⟨L, hS, hL⟩ := HL.out
      rw [lx_end (Nat.le_refl _)] at hL
      rw [← HQ.out]
      refine ⟨g, rfl, hg, ?_, HU.out⟩
      rw [← hL]
      exact hS
end Go.Proofs.YtjieonldmckheaaDoor
