/- tex: taken, letter, behind, shut, group, braced. -/
import Derived.Test.YtlgfmhhhecaddaaDoorxPure
import Derived.Test.YtlgfmhhhecaddaaDoorxCL
namespace Go.Proofs.YtlgfmhhhecaddaaDoor
set_option linter.unusedVariables false
open Go.RowKit Go.ChangeShapes
theorem taken_any (x : Int) (w : World) : Calls Tryd.prog 39 #[.int .u8 x] w fun e w' => e = .returned (.int .i64 (tkn x : Nat)) ∧ w' = w := by
  by_cases h : x = 92
  · subst h
    go_enter Tryd.func39, Tryd.ntmps39; go_wp2; go_ret; exact ⟨rfl, rfl⟩
  · have k : (x == 92) = false := by simpa using h
    have e : tkn x = 1 := by unfold tkn; rw [if_neg h]
    rw [e]
    clear h
    go_enter Tryd.func39, Tryd.ntmps39; go_wp2; go_ret; exact ⟨rfl, rfl⟩
theorem letterT_any (x : Int) (w : World) : Calls Tryd.prog 41 #[.int .i32 x] w fun e w' => e = .returned (.bool (ltB x)) ∧ w' = w := by
  rcases (show x < 65 ∨ (65 ≤ x ∧ x ≤ 90) ∨ (90 < x ∧ x < 97) ∨ (97 ≤ x ∧ x ≤ 122) ∨ 122 < x by omega) with h | ⟨h, h'⟩ | ⟨h, h'⟩ | ⟨h, h'⟩ | h
  · have e : ltB x = false := by unfold ltB grB; rw [decide_eq_false (show ¬ 97 ≤ x by omega), decide_eq_false (show ¬ 65 ≤ x by omega)]; rfl
    have z1 : ¬ 97 ≤ x := by omega
    have z2 : ¬ 65 ≤ x := by omega
    rw [e]
    go_enter Tryd.func41, Tryd.ntmps41; go_wp2; go_ret; exact ⟨rfl, rfl⟩
  · have e : ltB x = true := by unfold ltB grB; rw [decide_eq_true h, decide_eq_true h']; simp
    have z1 : ¬ 97 ≤ x := by omega
    rw [e]
    go_enter Tryd.func41, Tryd.ntmps41; go_wp2; go_ret; exact ⟨rfl, rfl⟩
  · have e : ltB x = false := by unfold ltB grB; rw [decide_eq_false (show ¬ 97 ≤ x by omega), decide_eq_false (show ¬ x ≤ 90 by omega)]; simp
    have z1 : ¬ 97 ≤ x := by omega
    have z2 : ¬ x ≤ 90 := by omega
    have z3 : 65 ≤ x := by omega
    rw [e]
    go_enter Tryd.func41, Tryd.ntmps41; go_wp2; go_ret; exact ⟨rfl, rfl⟩
  · have e : ltB x = true := by unfold ltB; rw [decide_eq_true h, decide_eq_true h']; rfl
    rw [e]
    go_enter Tryd.func41, Tryd.ntmps41; go_wp2; go_ret; exact ⟨rfl, rfl⟩
  · have e : ltB x = false := by unfold ltB grB; rw [decide_eq_false (show ¬ x ≤ 122 by omega), decide_eq_false (show ¬ x ≤ 90 by omega)]; simp
    have z1 : 97 ≤ x := by omega
    have z2 : ¬ x ≤ 122 := by omega
    have z3 : 65 ≤ x := by omega
    have z4 : ¬ x ≤ 90 := by omega
    rw [e]
    go_enter Tryd.func41, Tryd.ntmps41; go_wp2; go_ret; exact ⟨rfl, rfl⟩
set_option maxRecDepth 100000 in
/-- From the bracket itself on: none is open yet. -/
theorem shut_any {w : World} {b off n cap : Nat} {c : Nat → Int} (hC : Ch c n) (h : BC w (some ⟨b, off, none⟩) n c) (hn : n ≤ 1000000) (hcap : n ≤ cap) (i0 : Nat) (hi0 : i0 < n) (o s : Int) (ho : c i0 = o) (hos : o ≠ s) (h92 : o ≠ 92) (hs92 : s ≠ 92) :
    Calls Tryd.prog 63 #[.slice (some ⟨b, off, none⟩) n cap, .int .i64 i0, .int .u8 s] w fun ev w' => ev = .returned (.int .i64 (br o s c n (i0 + 1) 1 : Nat)) ∧ w' = w := by
  have HH : Hid (Ch c n ∧ BC w (some ⟨b, off, none⟩) n c) := ⟨hC, h⟩
  obtain ⟨R, hR⟩ : ∃ R, br o s c n (i0 + 1) 1 = R := ⟨_, rfl⟩
  have H0 : br o s c n i0 0 = R := by
    rw [br_one hi0, if_neg (by rw [ho]; exact h92), if_pos ho, if_neg (by omega)]
    exact hR
  rw [hR]
  have HO : Hid (o ≠ s ∧ o ≠ 92 ∧ s ≠ 92) := ⟨hos, h92, hs92⟩
  obtain ⟨b', off', e, hc0⟩ := h i0 hi0
  injection e with e
  injection e with e1 e2 _
  subst e1 e2
  rw [ho] at hc0
  have ho0 := ho
  have z1 : (0 : Int) ≤ (i0 : Int) := by omega
  have z2 : (i0 : Int) < (n : Int) := by omega
  have z3 : ¬ (i0 : Int) < 0 := by omega
  have HO0 : Hid (c i0 = o) := ho0
  clear h hC hR hos h92 hs92
  go_enter Tryd.func63, Tryd.ntmps63
  go_wp2
  go_loopg [1, 8] (n + 2 - i0) (fun q iv dv wr => ∃ i d : Nat, q = n + 2 - i ∧ i ≤ n + 1 ∧ d ≤ 32 ∧ iv = .int .i64 i ∧ dv = .int .i64 d ∧ wr = w ∧ Hid (br o s c n i d = R) ∧ Hid (d = 0 → i = i0))
  case atStart => exact ⟨i0, 0, rfl, by omega, by omega, rfl, rfl, rfl, H0, fun _ => rfl⟩
  case round =>
    obtain ⟨i, d, hq, hi, hd, rfl, rfl, rfl, HB, HZ⟩ := hrel
    clear hc0 z1 z2 z3 H0
    by_cases hlt : i < n
    · have z1 : (0 : Int) ≤ (i : Int) := by omega
      have z2 : (i : Int) < (n : Int) := by omega
      have z3 : ¬ (i : Int) < 0 := by omega
      obtain ⟨b', off', e, hc⟩ := HH.out.2 i hlt
      injection e with e
      injection e with e1 e2 _
      subst e1 e2
      have hb1 := HB.out
      rw [br_one hlt] at hb1
      have ct := taken_any (c i) wr
      have hz := HZ.out
      have hz0 : d = 0 → c i = o := fun e => by rw [hz e]; exact HO0.out
      clear hz
      by_cases ho : c i = o
      · rw [if_neg (by rw [ho]; exact HO.out.2.1), if_pos ho] at hb1
        have ht : tkn (c i) = 1 := by unfold tkn; rw [if_neg (by rw [ho]; exact HO.out.2.1)]
        rw [ht] at ct
        have k1 : (c i == o) = true := by simpa using ho
        by_cases h32 : 32 < d + 1
        · rw [if_pos h32] at hb1
          have y1 : (32 : Int) < (d : Int) + 1 := by omega
          have HR : Hid (0 = R) := hb1
          clear hb1 hz0 ho ct ht
          go_wp2
          go_ret
          exact ⟨by rw [← HR.out]; rfl, rfl⟩
        · rw [if_neg h32] at hb1
          have y1 : ¬ (32 : Int) < (d : Int) + 1 := by omega
          have HR : Hid (br o s c n (i + 1) (d + 1) = R) := hb1
          clear hb1 hz0 ho ht
          go_wp2_with fail
          refine ct.mono ?_
          rintro ev w1 ⟨rfl, hw⟩
          subst w1
          go_wp2
          go_roundg (n + 2 - (i + 1))
          case measure => omega
          case rel => exact ⟨i + 1, d + 1, rfl, by omega, by omega, by go_num, by go_num, rfl, HR.out, fun e => absurd e (by omega)⟩
      · have k1 : (c i == o) = false := by simpa using ho
        have hd0 : d ≠ 0 := fun e => ho (hz0 e)
        by_cases hs : c i = s
        · rw [if_neg (by rw [hs]; exact HO.out.2.2), if_neg ho, if_pos hs] at hb1
          have ht : tkn (c i) = 1 := by unfold tkn; rw [if_neg (by rw [hs]; exact HO.out.2.2)]
          rw [ht] at ct
          have k2 : (c i == s) = true := by simpa using hs
          by_cases h1 : d = 1
          · rw [if_pos h1] at hb1
            subst h1
            have HR : Hid (i + 1 = R) := hb1
            clear hb1 hz0 ho ct ht hs hd0
            go_wp2
            go_ret
            exact ⟨by rw [← HR.out]; go_num, rfl⟩
          · rw [if_neg h1] at hb1
            have y1 : ((d : Int) - 1 == 0) = false := by simp; omega
            have HR : Hid (br o s c n (i + 1) (d - 1) = R) := hb1
            clear hb1 hz0 ho ht hs
            go_wp2_with fail
            refine ct.mono ?_
            rintro ev w1 ⟨rfl, hw⟩
            subst w1
            go_wp2
            go_roundg (n + 2 - (i + 1))
            case measure => omega
            case rel => exact ⟨i + 1, d - 1, rfl, by omega, by omega, by go_num, by congr 1; omega, rfl, HR.out, fun e => absurd e (by omega)⟩
        · have k2 : (c i == s) = false := by simpa using hs
          have hb2 : br o s c n (i + tkn (c i)) d = R := by
            rw [← hb1]
            unfold tkn
            by_cases h9 : c i = 92
            · rw [if_pos h9, if_pos h9]
            · rw [if_neg h9, if_neg h9, if_neg ho, if_neg hs]
          have htk := tkn_pos (c i)
          obtain ⟨t, ht⟩ : ∃ t, tkn (c i) = t := ⟨_, rfl⟩
          rw [ht] at hb2 htk ct
          have HR : Hid (br o s c n (i + t) d = R) := hb2
          have y2 : (t : Int) ≤ 2 := by omega
          clear hb1 hb2 hz0 ho hs ht
          go_wp2_with fail
          refine ct.mono ?_
          rintro ev w1 ⟨rfl, hw⟩
          subst w1
          go_wp2
          go_roundg (n + 2 - (i + t))
          case measure => omega
          case rel => exact ⟨i + t, d, rfl, by omega, by omega, by go_num, rfl, rfl, HR.out, fun e => absurd e hd0⟩
    · have z1 : ¬ (i : Int) < (n : Int) := by omega
      have hb1 := HB.out
      rw [br_end (by omega)] at hb1
      have HR : Hid (0 = R) := hb1
      clear hb1
      go_wp2
      go_ret
      exact ⟨by rw [← HR.out]; rfl, rfl⟩
end Go.Proofs.YtlgfmhhhecaddaaDoor
