/- The reference: valid, number. -/
import Derived.Test.YtkfgfbdalkifjaaDoorvRa
namespace Go.Proofs.YtkfgfbdalkifjaaDoor
set_option linter.unusedVariables false
open Go.RowKit Go.ChangeShapes
theorem rvalid_any (x : Int) (w : World) : Calls Tryd.prog 30 #[.int .i64 x] w fun e w' => e = .returned (.bool (okN x)) ∧ w' = w := by
  unfold okN
  by_cases h1 : 1 ≤ x
  · by_cases h2 : x ≤ 1114111
    · by_cases h3 : x < 55296
      · go_enter Tryd.func30, Tryd.ntmps30
        go_wp2
        go_ret
        simp [h1, h2, h3]
      · by_cases h4 : 57343 < x
        · go_enter Tryd.func30, Tryd.ntmps30
          go_wp2
          go_ret
          simp []
        · go_enter Tryd.func30, Tryd.ntmps30
          go_wp2
          go_ret
          simp [h3, h4]
    · go_enter Tryd.func30, Tryd.ntmps30
      go_wp2
      go_ret
      simp []; omega
  · go_enter Tryd.func30, Tryd.ntmps30
    go_wp2
    go_ret
    simp []; omega
set_option maxRecDepth 100000 in
set_option maxHeartbeats 4000000 in
theorem rnum10_any {s : ByteArray} {c : Nat → Int} {n : Nat} (h : SC s c n) (hn : n ≤ 100000) (w : World) :
    Calls Tryd.prog 29 #[.string s, .int .i64 10] w fun e w' => e = .returned (.int .i64 (num 10 (cl c n))) ∧ w' = w := by
  have hsn := h.1
  have HX : Hid (∀ i (h : i < s.size), ∃ X : Nat, ((s[i]'h).toNat : Int) = (X : Int) ∧ c i = (X : Int) ∧ X < 256) := fun i hi => by
    have h1 := h.2.2.1 i hi
    have h2 := h.2.1.1 i (by omega)
    exact ⟨(c i).toNat, by omega, by omega, by omega⟩
  by_cases h0 : n = 0
  · subst h0
    have hz : ((s.size : Int) == 0) = true := beq_iff_eq.2 (by omega)
    have hr : num 10 (cl c 0) = -1 := rfl
    rw [hr]
    clear h HX hr
    go_enter Tryd.func29, Tryd.ntmps29
    go_wp2
    go_ret
    exact ⟨rfl, rfl⟩
  · have hz : ((s.size : Int) == 0) = false := beq_eq_false_iff_ne.2 (by omega)
    obtain ⟨R, hR⟩ : ∃ R, num 10 (cl c n) = R := ⟨_, rfl⟩
    have HR0 : Hid (numG 10 (cl (fun k => c (0 + k)) (n - 0)) 0 = R) := by show _ = _; rw [← hR, num_cl (by omega)]
    rw [hR]
    have hsn1 : s.size ≤ n := by omega
    have hsn2 : n ≤ s.size := by omega
    clear h h0 hR hsn
    go_enter Tryd.func29, Tryd.ntmps29
    go_wp2
    go_loopg [4, 5, 6] s.size (fun q rv av iv wr => ∃ (i : Nat) (a : Int), i ≤ s.size ∧ q = s.size - i ∧ rv = .int .i64 0 ∧ iv = .int .i64 i ∧ av = .int .i64 a ∧ 0 ≤ a ∧ a ≤ 17825791 ∧ Hid (numG 10 (cl (fun k => c (i + k)) (n - i)) a = R) ∧ wr = w)
    case atStart => exact ⟨0, 0, Nat.zero_le _, rfl, rfl, rfl, rfl, by decide, by decide, HR0, rfl⟩
    case round =>
      obtain ⟨i, a, hi, hq, rfl, rfl, rfl, ha0, ha9, HR, hwr⟩ := hrel
      subst wr
      by_cases hlt : i < s.size
      · have z1 : (i : Int) < (s.size : Int) := by omega
        have z2 : (0 : Int) ≤ (i : Int) := by omega
        obtain ⟨X, hX, hcX, hX9⟩ := HX.out i hlt
        have y1 : i < s.size := hlt
        rcases (show (48 ≤ X ∧ X ≤ 57) ∨ (97 ≤ X ∧ X ≤ 102) ∨ (65 ≤ X ∧ X ≤ 70) ∨ (¬ (48 ≤ X ∧ X ≤ 57) ∧ ¬ (97 ≤ X ∧ X ≤ 102) ∧ ¬ (65 ≤ X ∧ X ≤ 70)) by omega) with k | k | k | ⟨k1, k2, k3⟩
        · have u1 : (48 : Int) ≤ (X : Int) := by omega
          have u2 : (X : Int) ≤ 57 := by omega
          have u3 : IntKind.u8.wrap ((X : Int) - 48) = (X : Int) - 48 := by rw [IntKind.wrap_u8]; omega
          have hdg : dgt (c i) = (X : Int) - 48 := by rw [hcX]; unfold dgt; rw [if_pos (by omega)]
          have hyes := numG_yes (b := 10) (a := a) (c := c) (n := n) (j := i) (by omega) (by omega)
          rw [hdg] at hyes
          by_cases ha : a ≤ 1114111
          · rw [if_pos ha] at hyes
            have HR2 : Hid (numG 10 (cl (fun k => c (i + 1 + k)) (n - (i + 1))) (a * 10 + ((X : Int) - 48)) = R) := by show _ = _; rw [← HR.out, hyes]
            clear HR hyes hdg hcX k
            go_wp2
            go_roundg (s.size - (i + 1))
            case measure => omega
            case rel => exact ⟨i + 1, a * 10 + ((X : Int) - 48), by omega, rfl, rfl, by go_num, by go_num, by omega, by omega, HR2, rfl⟩
          · rw [if_neg ha] at hyes
            have HR2 : Hid (numG 10 (cl (fun k => c (i + 1 + k)) (n - (i + 1))) a = R) := by show _ = _; rw [← HR.out, hyes]
            clear HR hyes hdg hcX k
            go_wp2
            go_roundg (s.size - (i + 1))
            case measure => omega
            case rel => exact ⟨i + 1, a, by omega, rfl, rfl, by go_num, rfl, ha0, ha9, HR2, rfl⟩
        · have u1 : (97 : Int) ≤ (X : Int) := by omega
          have u2 : (X : Int) ≤ 102 := by omega
          have u0 : ¬ (X : Int) ≤ 57 := by omega
          have u3 : IntKind.u8.wrap ((X : Int) - 97) = (X : Int) - 97 := by rw [IntKind.wrap_u8]; omega
          have hdg : dgt (c i) = (X : Int) - 87 := by rw [hcX]; unfold dgt; rw [if_neg (by omega), if_pos (by omega)]; 
          have hno : numG 10 (cl (fun k => c (i + k)) (n - i)) a = -1 := numG_no (by omega) (Or.inr (by omega))
          have HRm : Hid (R = -1) := by show _ = _; rw [← HR.out]; exact hno
          clear HR hno hdg hcX k
          have u4 : (10 : Int) ≤ (X : Int) - 97 + 10 := by omega
          go_wp2
          go_ret
          exact ⟨by have e := HRm.out; subst e; rfl, rfl⟩
        · have u1 : (65 : Int) ≤ (X : Int) := by omega
          have u2 : (X : Int) ≤ 70 := by omega
          have u0 : ¬ (X : Int) ≤ 57 := by omega
          have u00 : ¬ (97 : Int) ≤ (X : Int) := by omega
          have u3 : IntKind.u8.wrap ((X : Int) - 65) = (X : Int) - 65 := by rw [IntKind.wrap_u8]; omega
          have hdg : dgt (c i) = (X : Int) - 55 := by rw [hcX]; unfold dgt; rw [if_neg (by omega), if_neg (by omega), if_pos (by omega)]
          have hno : numG 10 (cl (fun k => c (i + k)) (n - i)) a = -1 := numG_no (by omega) (Or.inr (by omega))
          have HRm : Hid (R = -1) := by show _ = _; rw [← HR.out]; exact hno
          clear HR hno hdg hcX k
          have u4 : (10 : Int) ≤ (X : Int) - 65 + 10 := by omega
          go_wp2
          go_ret
          exact ⟨by have e := HRm.out; subst e; rfl, rfl⟩
        · have hdg : dgt (c i) = -1 := by rw [hcX]; unfold dgt; rw [if_neg (by omega), if_neg (by omega), if_neg (by omega)]
          have hno : numG 10 (cl (fun k => c (i + k)) (n - i)) a = -1 := numG_no (by omega) (Or.inl (by omega))
          have HRm : Hid (R = -1) := by show _ = _; rw [← HR.out]; exact hno
          clear HR hno hdg hcX
          rcases (show X < 48 ∨ (57 < X ∧ X < 65) ∨ (70 < X ∧ X < 97) ∨ 102 < X by omega) with k | k | k | k
          · have v0 : ¬ (48 : Int) ≤ (X : Int) := by omega
            have v1 : ¬ (97 : Int) ≤ (X : Int) := by omega
            have v2 : ¬ (65 : Int) ≤ (X : Int) := by omega
            clear k k1 k2 k3
            go_wp2
            go_ret
            exact ⟨by have e := HRm.out; subst e; rfl, rfl⟩
          · have v0 : (48 : Int) ≤ (X : Int) := by omega
            have v1 : ¬ (X : Int) ≤ 57 := by omega
            have v2 : ¬ (97 : Int) ≤ (X : Int) := by omega
            have v3 : ¬ (65 : Int) ≤ (X : Int) := by omega
            clear k k1 k2 k3
            go_wp2
            go_ret
            exact ⟨by have e := HRm.out; subst e; rfl, rfl⟩
          · have v0 : (48 : Int) ≤ (X : Int) := by omega
            have v1 : ¬ (X : Int) ≤ 57 := by omega
            have v2 : ¬ (97 : Int) ≤ (X : Int) := by omega
            have v3 : (65 : Int) ≤ (X : Int) := by omega
            have v4 : ¬ (X : Int) ≤ 70 := by omega
            clear k k1 k2 k3
            go_wp2
            go_ret
            exact ⟨by have e := HRm.out; subst e; rfl, rfl⟩
          · have v0 : (48 : Int) ≤ (X : Int) := by omega
            have v1 : ¬ (X : Int) ≤ 57 := by omega
            have v2 : (97 : Int) ≤ (X : Int) := by omega
            have v3 : ¬ (X : Int) ≤ 102 := by omega
            have v4 : (65 : Int) ≤ (X : Int) := by omega
            have v5 : ¬ (X : Int) ≤ 70 := by omega
            clear k k1 k2 k3
            go_wp2
            go_ret
            exact ⟨by have e := HRm.out; subst e; rfl, rfl⟩
      · have z1 : ¬ (i : Int) < (s.size : Int) := by omega
        have HRe : Hid (a = R) := by show _ = _; rw [← HR.out]; exact (numG_end (by omega)).symm
        clear HR
        go_wp2
        go_ret
        exact ⟨by have e := HRe.out; subst e; rfl, rfl⟩
set_option maxRecDepth 100000 in
set_option maxHeartbeats 4000000 in
theorem rnum16_any {s : ByteArray} {c : Nat → Int} {n : Nat} (h : SC s c n) (hn : n ≤ 100000) (w : World) :
    Calls Tryd.prog 29 #[.string s, .int .i64 16] w fun e w' => e = .returned (.int .i64 (num 16 (cl c n))) ∧ w' = w := by
  have hsn := h.1
  have HX : Hid (∀ i (h : i < s.size), ∃ X : Nat, ((s[i]'h).toNat : Int) = (X : Int) ∧ c i = (X : Int) ∧ X < 256) := fun i hi => by
    have h1 := h.2.2.1 i hi
    have h2 := h.2.1.1 i (by omega)
    exact ⟨(c i).toNat, by omega, by omega, by omega⟩
  by_cases h0 : n = 0
  · subst h0
    have hz : ((s.size : Int) == 0) = true := beq_iff_eq.2 (by omega)
    have hr : num 16 (cl c 0) = -1 := rfl
    rw [hr]
    clear h HX hr
    go_enter Tryd.func29, Tryd.ntmps29
    go_wp2
    go_ret
    exact ⟨rfl, rfl⟩
  · have hz : ((s.size : Int) == 0) = false := beq_eq_false_iff_ne.2 (by omega)
    obtain ⟨R, hR⟩ : ∃ R, num 16 (cl c n) = R := ⟨_, rfl⟩
    have HR0 : Hid (numG 16 (cl (fun k => c (0 + k)) (n - 0)) 0 = R) := by show _ = _; rw [← hR, num_cl (by omega)]
    rw [hR]
    have hsn1 : s.size ≤ n := by omega
    have hsn2 : n ≤ s.size := by omega
    clear h h0 hR hsn
    go_enter Tryd.func29, Tryd.ntmps29
    go_wp2
    go_loopg [4, 5, 6] s.size (fun q rv av iv wr => ∃ (i : Nat) (a : Int), i ≤ s.size ∧ q = s.size - i ∧ rv = .int .i64 0 ∧ iv = .int .i64 i ∧ av = .int .i64 a ∧ 0 ≤ a ∧ a ≤ 17825791 ∧ Hid (numG 16 (cl (fun k => c (i + k)) (n - i)) a = R) ∧ wr = w)
    case atStart => exact ⟨0, 0, Nat.zero_le _, rfl, rfl, rfl, rfl, by decide, by decide, HR0, rfl⟩
    case round =>
      obtain ⟨i, a, hi, hq, rfl, rfl, rfl, ha0, ha9, HR, hwr⟩ := hrel
      subst wr
      by_cases hlt : i < s.size
      · have z1 : (i : Int) < (s.size : Int) := by omega
        have z2 : (0 : Int) ≤ (i : Int) := by omega
        obtain ⟨X, hX, hcX, hX9⟩ := HX.out i hlt
        have y1 : i < s.size := hlt
        rcases (show (48 ≤ X ∧ X ≤ 57) ∨ (97 ≤ X ∧ X ≤ 102) ∨ (65 ≤ X ∧ X ≤ 70) ∨ (¬ (48 ≤ X ∧ X ≤ 57) ∧ ¬ (97 ≤ X ∧ X ≤ 102) ∧ ¬ (65 ≤ X ∧ X ≤ 70)) by omega) with k | k | k | ⟨k1, k2, k3⟩
        · have u1 : (48 : Int) ≤ (X : Int) := by omega
          have u2 : (X : Int) ≤ 57 := by omega
          have u3 : IntKind.u8.wrap ((X : Int) - 48) = (X : Int) - 48 := by rw [IntKind.wrap_u8]; omega
          have hdg : dgt (c i) = (X : Int) - 48 := by rw [hcX]; unfold dgt; rw [if_pos (by omega)]
          have hyes := numG_yes (b := 16) (a := a) (c := c) (n := n) (j := i) (by omega) (by omega)
          rw [hdg] at hyes
          by_cases ha : a ≤ 1114111
          · rw [if_pos ha] at hyes
            have HR2 : Hid (numG 16 (cl (fun k => c (i + 1 + k)) (n - (i + 1))) (a * 16 + ((X : Int) - 48)) = R) := by show _ = _; rw [← HR.out, hyes]
            clear HR hyes hdg hcX k
            go_wp2
            go_roundg (s.size - (i + 1))
            case measure => omega
            case rel => exact ⟨i + 1, a * 16 + ((X : Int) - 48), by omega, rfl, rfl, by go_num, by go_num, by omega, by omega, HR2, rfl⟩
          · rw [if_neg ha] at hyes
            have HR2 : Hid (numG 16 (cl (fun k => c (i + 1 + k)) (n - (i + 1))) a = R) := by show _ = _; rw [← HR.out, hyes]
            clear HR hyes hdg hcX k
            go_wp2
            go_roundg (s.size - (i + 1))
            case measure => omega
            case rel => exact ⟨i + 1, a, by omega, rfl, rfl, by go_num, rfl, ha0, ha9, HR2, rfl⟩
        · have u1 : (97 : Int) ≤ (X : Int) := by omega
          have u2 : (X : Int) ≤ 102 := by omega
          have u0 : ¬ (X : Int) ≤ 57 := by omega
          have u3 : IntKind.u8.wrap ((X : Int) - 97) = (X : Int) - 97 := by rw [IntKind.wrap_u8]; omega
          have hdg : dgt (c i) = (X : Int) - 87 := by rw [hcX]; unfold dgt; rw [if_neg (by omega), if_pos (by omega)]; 
          have hyes := numG_yes (b := 16) (a := a) (c := c) (n := n) (j := i) (by omega) (by omega)
          rw [hdg] at hyes
          by_cases ha : a ≤ 1114111
          · rw [if_pos ha] at hyes
            have HR2 : Hid (numG 16 (cl (fun k => c (i + 1 + k)) (n - (i + 1))) (a * 16 + ((X : Int) - 97 + 10)) = R) := by show _ = _; rw [← HR.out, hyes, show a * 16 + ((X : Int) - 87) = a * 16 + ((X : Int) - 97 + 10) by omega]
            clear HR hyes hdg hcX k
            go_wp2
            go_roundg (s.size - (i + 1))
            case measure => omega
            case rel => exact ⟨i + 1, a * 16 + ((X : Int) - 97 + 10), by omega, rfl, rfl, by go_num, by go_num, by omega, by omega, HR2, rfl⟩
          · rw [if_neg ha] at hyes
            have HR2 : Hid (numG 16 (cl (fun k => c (i + 1 + k)) (n - (i + 1))) a = R) := by show _ = _; rw [← HR.out, hyes]
            clear HR hyes hdg hcX k
            go_wp2
            go_roundg (s.size - (i + 1))
            case measure => omega
            case rel => exact ⟨i + 1, a, by omega, rfl, rfl, by go_num, rfl, ha0, ha9, HR2, rfl⟩
        · have u1 : (65 : Int) ≤ (X : Int) := by omega
          have u2 : (X : Int) ≤ 70 := by omega
          have u0 : ¬ (X : Int) ≤ 57 := by omega
          have u00 : ¬ (97 : Int) ≤ (X : Int) := by omega
          have u3 : IntKind.u8.wrap ((X : Int) - 65) = (X : Int) - 65 := by rw [IntKind.wrap_u8]; omega
          have hdg : dgt (c i) = (X : Int) - 55 := by rw [hcX]; unfold dgt; rw [if_neg (by omega), if_neg (by omega), if_pos (by omega)]
          have hyes := numG_yes (b := 16) (a := a) (c := c) (n := n) (j := i) (by omega) (by omega)
          rw [hdg] at hyes
          by_cases ha : a ≤ 1114111
          · rw [if_pos ha] at hyes
            have HR2 : Hid (numG 16 (cl (fun k => c (i + 1 + k)) (n - (i + 1))) (a * 16 + ((X : Int) - 65 + 10)) = R) := by show _ = _; rw [← HR.out, hyes, show a * 16 + ((X : Int) - 55) = a * 16 + ((X : Int) - 65 + 10) by omega]
            clear HR hyes hdg hcX k
            go_wp2
            go_roundg (s.size - (i + 1))
            case measure => omega
            case rel => exact ⟨i + 1, a * 16 + ((X : Int) - 65 + 10), by omega, rfl, rfl, by go_num, by go_num, by omega, by omega, HR2, rfl⟩
          · rw [if_neg ha] at hyes
            have HR2 : Hid (numG 16 (cl (fun k => c (i + 1 + k)) (n - (i + 1))) a = R) := by show _ = _; rw [← HR.out, hyes]
            clear HR hyes hdg hcX k
            go_wp2
            go_roundg (s.size - (i + 1))
            case measure => omega
            case rel => exact ⟨i + 1, a, by omega, rfl, rfl, by go_num, rfl, ha0, ha9, HR2, rfl⟩
        · have hdg : dgt (c i) = -1 := by rw [hcX]; unfold dgt; rw [if_neg (by omega), if_neg (by omega), if_neg (by omega)]
          have hno : numG 16 (cl (fun k => c (i + k)) (n - i)) a = -1 := numG_no (by omega) (Or.inl (by omega))
          have HRm : Hid (R = -1) := by show _ = _; rw [← HR.out]; exact hno
          clear HR hno hdg hcX
          rcases (show X < 48 ∨ (57 < X ∧ X < 65) ∨ (70 < X ∧ X < 97) ∨ 102 < X by omega) with k | k | k | k
          · have v0 : ¬ (48 : Int) ≤ (X : Int) := by omega
            have v1 : ¬ (97 : Int) ≤ (X : Int) := by omega
            have v2 : ¬ (65 : Int) ≤ (X : Int) := by omega
            clear k k1 k2 k3
            go_wp2
            go_ret
            exact ⟨by have e := HRm.out; subst e; rfl, rfl⟩
          · have v0 : (48 : Int) ≤ (X : Int) := by omega
            have v1 : ¬ (X : Int) ≤ 57 := by omega
            have v2 : ¬ (97 : Int) ≤ (X : Int) := by omega
            have v3 : ¬ (65 : Int) ≤ (X : Int) := by omega
            clear k k1 k2 k3
            go_wp2
            go_ret
            exact ⟨by have e := HRm.out; subst e; rfl, rfl⟩
          · have v0 : (48 : Int) ≤ (X : Int) := by omega
            have v1 : ¬ (X : Int) ≤ 57 := by omega
            have v2 : ¬ (97 : Int) ≤ (X : Int) := by omega
            have v3 : (65 : Int) ≤ (X : Int) := by omega
            have v4 : ¬ (X : Int) ≤ 70 := by omega
            clear k k1 k2 k3
            go_wp2
            go_ret
            exact ⟨by have e := HRm.out; subst e; rfl, rfl⟩
          · have v0 : (48 : Int) ≤ (X : Int) := by omega
            have v1 : ¬ (X : Int) ≤ 57 := by omega
            have v2 : (97 : Int) ≤ (X : Int) := by omega
            have v3 : ¬ (X : Int) ≤ 102 := by omega
            have v4 : (65 : Int) ≤ (X : Int) := by omega
            have v5 : ¬ (X : Int) ≤ 70 := by omega
            clear k k1 k2 k3
            go_wp2
            go_ret
            exact ⟨by have e := HRm.out; subst e; rfl, rfl⟩
      · have z1 : ¬ (i : Int) < (s.size : Int) := by omega
        have HRe : Hid (a = R) := by show _ = _; rw [← HR.out]; exact (numG_end (by omega)).symm
        clear HR
        go_wp2
        go_ret
        exact ⟨by have e := HRe.out; subst e; rfl, rfl⟩
theorem sc_list {m : List Int} (hm : Byt m) {s : ByteArray} (hs : strOfNums m = s) : SC s (cL m) m.length := by
  have := sc_nums (cL_ch hm)
  rw [cl_cL, hs] at this
  exact this
theorem rnum10_list {m : List Int} (hm : Byt m) (hn : m.length ≤ 100000) {s : ByteArray} (hs : strOfNums m = s) (w : World) :
    Calls Tryd.prog 29 #[.string s, .int .i64 10] w fun e w' => e = .returned (.int .i64 (num 10 m)) ∧ w' = w := by
  have := rnum10_any (sc_list hm hs) hn w
  rw [cl_cL] at this
  exact this
theorem rnum16_list {m : List Int} (hm : Byt m) (hn : m.length ≤ 100000) {s : ByteArray} (hs : strOfNums m = s) (w : World) :
    Calls Tryd.prog 29 #[.string s, .int .i64 16] w fun e w' => e = .returned (.int .i64 (num 16 m)) ∧ w' = w := by
  have := rnum16_any (sc_list hm hs) hn w
  rw [cl_cL] at this
  exact this
theorem ext_drop {m : List Int} {s : ByteArray} (hs : strOfNums m = s) (i : Nat) : strOfNums (m.drop i) = s.extract i s.size := by
  rw [← hs, ext_nums, strOfNums_size, List.take_of_length_le (by rw [List.length_drop]; omega)]
end Go.Proofs.YtkfgfbdalkifjaaDoor
