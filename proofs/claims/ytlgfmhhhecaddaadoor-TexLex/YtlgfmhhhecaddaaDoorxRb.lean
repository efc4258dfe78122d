/- The reference: bracket, group, bare, whole. -/
import Derived.Test.YtlgfmhhhecaddaaDoorxRa
import Derived.Test.YtlgfmhhhecaddaaDoorxPure
namespace Go.Proofs.YtlgfmhhhecaddaaDoor
set_option linter.unusedVariables false
open Go.RowKit Go.ChangeShapes
/-- A place, -1 for none. -/
def brI (q : Nat) : Int := if q = 0 then -1 else (q : Int)
section
variable {s : ByteArray} {c : Nat → Int} {n : Nat}
set_option maxRecDepth 100000 in
theorem rbracket_any (h : SC s c n) (hn : n ≤ 65536) (op sh : Int) (hop : op ≠ sh) (h9 : op ≠ 92) (hs9 : sh ≠ 92) (i0 : Nat) (hi0 : i0 ≤ n) (w : World) : Calls Tryd.prog 45 #[.string s, .int .i64 i0, .int .u8 op, .int .u8 sh] w fun e w' => e = .returned (.int .i64 (brI (br op sh c n i0 1))) ∧ w' = w := by
  have hsz := h.1
  have HH : Hid (SC s c n ∧ op ≠ sh ∧ op ≠ 92 ∧ sh ≠ 92) := ⟨h, hop, h9, hs9⟩
  obtain ⟨Z, hZ⟩ : ∃ Z, br op sh c n i0 1 = Z := ⟨_, rfl⟩
  have HZ : Hid (br op sh c n i0 1 = Z) := hZ
  rw [hZ]
  obtain ⟨V, hV⟩ : ∃ V, brI Z = V := ⟨_, rfl⟩
  have HV : Hid (brI Z = V) := hV
  rw [hV]
  clear h hZ hV hop h9 hs9
  go_enter Tryd.func45, Tryd.ntmps45
  go_wp2
  go_loopg [1, 9] (n + 2 - i0) (fun q iv dv wr => ∃ (i o : Nat), q = n + 2 - i ∧ i ≤ n + 1 ∧ iv = .int .i64 i ∧ dv = .int .i64 o ∧ 1 ≤ o ∧ o ≤ 32 ∧ wr = w ∧ Hid (br op sh c n i o = Z))
  case atStart => exact ⟨i0, 1, by omega, by omega, rfl, rfl, by omega, by omega, rfl, HZ⟩
  case round =>
    obtain ⟨i, o, hq, hi, rfl, rfl, ho1, ho2, hw, HS⟩ := hrel
    subst wr
    by_cases hlt : i < n
    · have z1 : (i : Int) < (n : Int) := by omega
      have z2 : (0 : Int) ≤ (i : Int) := by omega
      have z3 : i < s.size := by omega
      have hx := HH.out.1.2.2.1 i z3
      have hone := br_one (o := op) (s := sh) (c := c) hlt o
      rw [HS.out] at hone
      obtain ⟨x, hcx⟩ : ∃ x, c i = x := ⟨_, rfl⟩
      rw [hcx] at hx hone
      have HO : Hid (Z = if x = 92 then br op sh c n (i + 2) o else if x = op then (if 32 < o + 1 then 0 else br op sh c n (i + 1) (o + 1)) else if x = sh then (if o = 1 then i + 1 else br op sh c n (i + 1) (o - 1)) else br op sh c n (i + 1) o) := hone
      clear hone hcx
      by_cases e1 : x = 92
      · subst e1
        have HN : Hid (br op sh c n (i + 2) o = Z) := by show _ = _; rw [HO.out, if_pos rfl]
        go_wp2
        go_roundg (n + 2 - (i + 2))
        case measure => omega
        case rel => exact ⟨i + 2, o, rfl, by omega, by go_num, rfl, ho1, ho2, rfl, HN⟩
      have k1 : (x == 92) = false := by simpa using e1
      by_cases e2 : x = sh
      · have k2 : (x == sh) = true := by simpa using e2
        have e4 : ¬ x = op := fun e => HH.out.2.1 (e.symm.trans e2)
        by_cases e3 : o = 1
        · subst e3
          have HN : Hid ((i : Int) + 1 = V) := by show _ = _; rw [← HV.out, HO.out, if_neg e1, if_neg e4, if_pos e2, if_pos rfl]; unfold brI; rw [if_neg (by omega)]; omega
          clear e1 e2 e4 HO
          go_wp2
          go_ret
          exact ⟨by rw [HN.out]; rfl, rfl⟩
        · have hoo : (o : Int) - 1 = ((o - 1 : Nat) : Int) := by omega
          have HN : Hid (br op sh c n (i + 1) (o - 1) = Z) := by show _ = _; rw [HO.out, if_neg e1, if_neg e4, if_pos e2, if_neg e3]
          obtain ⟨o', ho'⟩ : ∃ o', o - 1 = o' := ⟨_, rfl⟩
          rw [ho'] at hoo HN
          have k3 : ((o' : Int) == 0) = false := by simp; omega
          have ho3 : 1 ≤ o' ∧ o' ≤ 32 := by omega
          clear e1 e2 e4 HO e3
          go_wp2
          go_roundg (n + 2 - (i + 1))
          case measure => omega
          case rel => exact ⟨i + 1, o', by omega, by omega, by go_num, rfl, ho3.1, ho3.2, rfl, HN⟩
      have k2 : (x == sh) = false := by simpa using e2
      by_cases e4 : x = op
      · have k4 : (x == op) = true := by simpa using e4
        by_cases e5 : 32 < o + 1
        · have z4 : (32 : Int) < (o : Int) + 1 := by omega
          have HN : Hid ((-1 : Int) = V) := by show _ = _; rw [← HV.out, HO.out, if_neg e1, if_pos e4, if_pos e5]; rfl
          clear e1 e2 e4 HO
          go_wp2
          go_ret
          exact ⟨by rw [HN.out]; rfl, rfl⟩
        · have z4 : ¬ (32 : Int) < (o : Int) + 1 := by omega
          have HN : Hid (br op sh c n (i + 1) (o + 1) = Z) := by show _ = _; rw [HO.out, if_neg e1, if_pos e4, if_neg e5]
          clear e1 e2 e4 HO
          go_wp2
          go_roundg (n + 2 - (i + 1))
          case measure => omega
          case rel => exact ⟨i + 1, o + 1, by omega, by omega, by go_num, by go_num, by omega, by omega, rfl, HN⟩
      have k4 : (x == op) = false := by simpa using e4
      have HN : Hid (br op sh c n (i + 1) o = Z) := by show _ = _; rw [HO.out, if_neg e1, if_neg e4, if_neg e2]
      clear e1 e2 e4 HO
      go_wp2
      go_roundg (n + 2 - (i + 1))
      case measure => omega
      case rel => exact ⟨i + 1, o, by omega, by omega, by go_num, rfl, ho1, ho2, rfl, HN⟩
    · have z1 : ¬ (i : Int) < (n : Int) := by omega
      have HN : Hid ((-1 : Int) = V) := by show _ = _; rw [← HV.out, ← HS.out, br_end (by omega)]; rfl
      go_wp2
      go_ret
      exact ⟨by rw [HN.out]; rfl, rfl⟩
theorem oc1' (x : Int) (c : Nat → Int) (i : Nat) : oc [x] c i = (c i == x) := oc1 x c i
theorem rgroup_any (h : SC s c n) (hn : n ≤ 65536) (i : Nat) (hi : i ≤ n) (w : World) : Calls Tryd.prog 34 #[.string s, .int .i64 i] w fun e w' => e = .returned (.int .i64 (brI (grp c n i))) ∧ w' = w := by
  have ca := rat_any h (by omega) i (by omega) ⟨#[123]⟩ [123] (byt_lit _ rfl) (by kernel_rfl) (by decide) (by simp) w
  have cb := rat_any h (by omega) i (by omega) ⟨#[91]⟩ [91] (byt_lit _ rfl) (by kernel_rfl) (by decide) (by simp) w
  rw [oc1] at ca cb
  by_cases h1 : c i = 123
  · have hin := in_of h.2.1 (i := i) (by omega)
    have cc := rbracket_any h hn 123 125 (by decide) (by decide) (by decide) (i + 1) (by omega) w
    have e : grp c n i = br 123 125 c n (i + 1) 1 := by unfold grp; rw [if_pos h1]
    rw [← e] at cc
    rw [show (c i == 123) = true by simpa using h1] at ca
    obtain ⟨V, hV⟩ : ∃ V, brI (grp c n i) = V := ⟨_, rfl⟩
    rw [hV] at cc ⊢
    clear h1 e cb hV h
    go_enter Tryd.func34, Tryd.ntmps34
    go_wp2_with fail
    refine ca.mono ?_
    rintro ev w1 ⟨rfl, hw⟩
    subst w1
    go_wp2_with fail
    rw [show ((i : Int) + 1) = ((i + 1 : Nat) : Int) by omega]
    refine cc.mono ?_
    rintro ev w1 ⟨rfl, hw⟩
    subst w1
    go_wp2
    go_ret
    exact ⟨rfl, rfl⟩
  · rw [show (c i == 123) = false by simpa using h1] at ca
    by_cases h2 : c i = 91
    · have hin := in_of h.2.1 (i := i) (by omega)
      have cc := rbracket_any h hn 91 93 (by decide) (by decide) (by decide) (i + 1) (by omega) w
      have e : grp c n i = br 91 93 c n (i + 1) 1 := by unfold grp; rw [if_neg h1, if_pos h2]
      rw [← e] at cc
      rw [show (c i == 91) = true by simpa using h2] at cb
      obtain ⟨V, hV⟩ : ∃ V, brI (grp c n i) = V := ⟨_, rfl⟩
      rw [hV] at cc ⊢
      clear h1 h2 e hV h
      go_enter Tryd.func34, Tryd.ntmps34
      go_wp2_with fail
      refine ca.mono ?_
      rintro ev w1 ⟨rfl, hw⟩
      subst w1
      go_wp2_with fail
      refine cb.mono ?_
      rintro ev w1 ⟨rfl, hw⟩
      subst w1
      go_wp2_with fail
      rw [show ((i : Int) + 1) = ((i + 1 : Nat) : Int) by omega]
      refine cc.mono ?_
      rintro ev w1 ⟨rfl, hw⟩
      subst w1
      go_wp2
      go_ret
      exact ⟨rfl, rfl⟩
    · rw [show (c i == 91) = false by simpa using h2] at cb
      have e : grp c n i = 0 := by unfold grp; rw [if_neg h1, if_neg h2]
      rw [e]
      clear h1 h2 e h
      go_enter Tryd.func34, Tryd.ntmps34
      go_wp2_with fail
      refine ca.mono ?_
      rintro ev w1 ⟨rfl, hw⟩
      subst w1
      go_wp2_with fail
      refine cb.mono ?_
      rintro ev w1 ⟨rfl, hw⟩
      subst w1
      go_wp2
      go_ret
      exact ⟨rfl, rfl⟩
end
set_option maxRecDepth 100000 in
set_option maxHeartbeats 4000000 in
theorem rbare_any {l : List Int} (hby : Byt l) (w : World) : Calls Tryd.prog 33 #[.string (strOfNums l)] w fun e w' => e = .returned (.bool (isBg l || bareB l)) ∧ w' = w := by
  obtain ⟨X, hX⟩ : ∃ X, strOfNums l = X := ⟨_, rfl⟩
  have e0 := nums_is hby [98, 101, 103, 105, 110] (byt_lit _ rfl)
  have e1 := nums_is hby [98, 105, 98, 108, 105, 111, 103, 114, 97, 112, 104, 121] (byt_lit _ rfl)
  have e2 := nums_is hby [98, 105, 98, 108, 105, 111, 103, 114, 97, 112, 104, 121, 115, 116, 121, 108, 101] (byt_lit _ rfl)
  have e3 := nums_is hby [99, 105, 116, 101] (byt_lit _ rfl)
  have e4 := nums_is hby [100, 111, 99, 117, 109, 101, 110, 116, 99, 108, 97, 115, 115] (byt_lit _ rfl)
  have e5 := nums_is hby [101, 110, 100] (byt_lit _ rfl)
  have e6 := nums_is hby [105, 110, 99, 108, 117, 100, 101] (byt_lit _ rfl)
  have e7 := nums_is hby [105, 110, 99, 108, 117, 100, 101, 103, 114, 97, 112, 104, 105, 99, 115] (byt_lit _ rfl)
  have e8 := nums_is hby [105, 110, 112, 117, 116] (byt_lit _ rfl)
  have e9 := nums_is hby [108, 97, 98, 101, 108] (byt_lit _ rfl)
  have e10 := nums_is hby [112, 97, 103, 101, 114, 101, 102] (byt_lit _ rfl)
  have e11 := nums_is hby [114, 101, 102] (byt_lit _ rfl)
  have e12 := nums_is hby [117, 115, 101, 112, 97, 99, 107, 97, 103, 101] (byt_lit _ rfl)
  rw [hX] at e0 e1 e2 e3 e4 e5 e6 e7 e8 e9 e10 e11 e12 ⊢
  simp only [List.map] at e0 e1 e2 e3 e4 e5 e6 e7 e8 e9 e10 e11 e12
  by_cases h0 : l = [98, 101, 103, 105, 110]
  · have k0 : (X.toList == [98, 101, 103, 105, 110]) = true := by rw [show (X.toList == [98, 101, 103, 105, 110]) = (l == [98, 101, 103, 105, 110]) from e0, h0]; rfl
    have hp : (isBg l || bareB l) = true := by rw [h0]; rfl
    rw [hp]
    clear hp e0 e1 e2 e3 e4 e5 e6 e7 e8 e9 e10 e11 e12 hX h0 hby
    go_enter Tryd.func33, Tryd.ntmps33
    go_wp2
    go_ret
    exact ⟨rfl, rfl⟩
  · have k0 : (X.toList == [98, 101, 103, 105, 110]) = false := by rw [show (X.toList == [98, 101, 103, 105, 110]) = (l == [98, 101, 103, 105, 110]) from e0]; simpa using h0
    by_cases h1 : l = [98, 105, 98, 108, 105, 111, 103, 114, 97, 112, 104, 121]
    · have k1 : (X.toList == [98, 105, 98, 108, 105, 111, 103, 114, 97, 112, 104, 121]) = true := by rw [show (X.toList == [98, 105, 98, 108, 105, 111, 103, 114, 97, 112, 104, 121]) = (l == [98, 105, 98, 108, 105, 111, 103, 114, 97, 112, 104, 121]) from e1, h1]; rfl
      have hp : (isBg l || bareB l) = true := by rw [h1]; rfl
      rw [hp]
      clear hp e0 e1 e2 e3 e4 e5 e6 e7 e8 e9 e10 e11 e12 hX h0 h1 hby
      go_enter Tryd.func33, Tryd.ntmps33
      go_wp2
      go_ret
      exact ⟨rfl, rfl⟩
    · have k1 : (X.toList == [98, 105, 98, 108, 105, 111, 103, 114, 97, 112, 104, 121]) = false := by rw [show (X.toList == [98, 105, 98, 108, 105, 111, 103, 114, 97, 112, 104, 121]) = (l == [98, 105, 98, 108, 105, 111, 103, 114, 97, 112, 104, 121]) from e1]; simpa using h1
      by_cases h2 : l = [98, 105, 98, 108, 105, 111, 103, 114, 97, 112, 104, 121, 115, 116, 121, 108, 101]
      · have k2 : (X.toList == [98, 105, 98, 108, 105, 111, 103, 114, 97, 112, 104, 121, 115, 116, 121, 108, 101]) = true := by rw [show (X.toList == [98, 105, 98, 108, 105, 111, 103, 114, 97, 112, 104, 121, 115, 116, 121, 108, 101]) = (l == [98, 105, 98, 108, 105, 111, 103, 114, 97, 112, 104, 121, 115, 116, 121, 108, 101]) from e2, h2]; rfl
        have hp : (isBg l || bareB l) = true := by rw [h2]; rfl
        rw [hp]
        clear hp e0 e1 e2 e3 e4 e5 e6 e7 e8 e9 e10 e11 e12 hX h0 h1 h2 hby
        go_enter Tryd.func33, Tryd.ntmps33
        go_wp2
        go_ret
        exact ⟨rfl, rfl⟩
      · have k2 : (X.toList == [98, 105, 98, 108, 105, 111, 103, 114, 97, 112, 104, 121, 115, 116, 121, 108, 101]) = false := by rw [show (X.toList == [98, 105, 98, 108, 105, 111, 103, 114, 97, 112, 104, 121, 115, 116, 121, 108, 101]) = (l == [98, 105, 98, 108, 105, 111, 103, 114, 97, 112, 104, 121, 115, 116, 121, 108, 101]) from e2]; simpa using h2
        by_cases h3 : l = [99, 105, 116, 101]
        · have k3 : (X.toList == [99, 105, 116, 101]) = true := by rw [show (X.toList == [99, 105, 116, 101]) = (l == [99, 105, 116, 101]) from e3, h3]; rfl
          have hp : (isBg l || bareB l) = true := by rw [h3]; rfl
          rw [hp]
          clear hp e0 e1 e2 e3 e4 e5 e6 e7 e8 e9 e10 e11 e12 hX h0 h1 h2 h3 hby
          go_enter Tryd.func33, Tryd.ntmps33
          go_wp2
          go_ret
          exact ⟨rfl, rfl⟩
        · have k3 : (X.toList == [99, 105, 116, 101]) = false := by rw [show (X.toList == [99, 105, 116, 101]) = (l == [99, 105, 116, 101]) from e3]; simpa using h3
          by_cases h4 : l = [100, 111, 99, 117, 109, 101, 110, 116, 99, 108, 97, 115, 115]
          · have k4 : (X.toList == [100, 111, 99, 117, 109, 101, 110, 116, 99, 108, 97, 115, 115]) = true := by rw [show (X.toList == [100, 111, 99, 117, 109, 101, 110, 116, 99, 108, 97, 115, 115]) = (l == [100, 111, 99, 117, 109, 101, 110, 116, 99, 108, 97, 115, 115]) from e4, h4]; rfl
            have hp : (isBg l || bareB l) = true := by rw [h4]; rfl
            rw [hp]
            clear hp e0 e1 e2 e3 e4 e5 e6 e7 e8 e9 e10 e11 e12 hX h0 h1 h2 h3 h4 hby
            go_enter Tryd.func33, Tryd.ntmps33
            go_wp2
            go_ret
            exact ⟨rfl, rfl⟩
          · have k4 : (X.toList == [100, 111, 99, 117, 109, 101, 110, 116, 99, 108, 97, 115, 115]) = false := by rw [show (X.toList == [100, 111, 99, 117, 109, 101, 110, 116, 99, 108, 97, 115, 115]) = (l == [100, 111, 99, 117, 109, 101, 110, 116, 99, 108, 97, 115, 115]) from e4]; simpa using h4
            by_cases h5 : l = [101, 110, 100]
            · have k5 : (X.toList == [101, 110, 100]) = true := by rw [show (X.toList == [101, 110, 100]) = (l == [101, 110, 100]) from e5, h5]; rfl
              have hp : (isBg l || bareB l) = true := by rw [h5]; rfl
              rw [hp]
              clear hp e0 e1 e2 e3 e4 e5 e6 e7 e8 e9 e10 e11 e12 hX h0 h1 h2 h3 h4 h5 hby
              go_enter Tryd.func33, Tryd.ntmps33
              go_wp2
              go_ret
              exact ⟨rfl, rfl⟩
            · have k5 : (X.toList == [101, 110, 100]) = false := by rw [show (X.toList == [101, 110, 100]) = (l == [101, 110, 100]) from e5]; simpa using h5
              by_cases h6 : l = [105, 110, 99, 108, 117, 100, 101]
              · have k6 : (X.toList == [105, 110, 99, 108, 117, 100, 101]) = true := by rw [show (X.toList == [105, 110, 99, 108, 117, 100, 101]) = (l == [105, 110, 99, 108, 117, 100, 101]) from e6, h6]; rfl
                have hp : (isBg l || bareB l) = true := by rw [h6]; rfl
                rw [hp]
                clear hp e0 e1 e2 e3 e4 e5 e6 e7 e8 e9 e10 e11 e12 hX h0 h1 h2 h3 h4 h5 h6 hby
                go_enter Tryd.func33, Tryd.ntmps33
                go_wp2
                go_ret
                exact ⟨rfl, rfl⟩
              · have k6 : (X.toList == [105, 110, 99, 108, 117, 100, 101]) = false := by rw [show (X.toList == [105, 110, 99, 108, 117, 100, 101]) = (l == [105, 110, 99, 108, 117, 100, 101]) from e6]; simpa using h6
                by_cases h7 : l = [105, 110, 99, 108, 117, 100, 101, 103, 114, 97, 112, 104, 105, 99, 115]
                · have k7 : (X.toList == [105, 110, 99, 108, 117, 100, 101, 103, 114, 97, 112, 104, 105, 99, 115]) = true := by rw [show (X.toList == [105, 110, 99, 108, 117, 100, 101, 103, 114, 97, 112, 104, 105, 99, 115]) = (l == [105, 110, 99, 108, 117, 100, 101, 103, 114, 97, 112, 104, 105, 99, 115]) from e7, h7]; rfl
                  have hp : (isBg l || bareB l) = true := by rw [h7]; rfl
                  rw [hp]
                  clear hp e0 e1 e2 e3 e4 e5 e6 e7 e8 e9 e10 e11 e12 hX h0 h1 h2 h3 h4 h5 h6 h7 hby
                  go_enter Tryd.func33, Tryd.ntmps33
                  go_wp2
                  go_ret
                  exact ⟨rfl, rfl⟩
                · have k7 : (X.toList == [105, 110, 99, 108, 117, 100, 101, 103, 114, 97, 112, 104, 105, 99, 115]) = false := by rw [show (X.toList == [105, 110, 99, 108, 117, 100, 101, 103, 114, 97, 112, 104, 105, 99, 115]) = (l == [105, 110, 99, 108, 117, 100, 101, 103, 114, 97, 112, 104, 105, 99, 115]) from e7]; simpa using h7
                  by_cases h8 : l = [105, 110, 112, 117, 116]
                  · have k8 : (X.toList == [105, 110, 112, 117, 116]) = true := by rw [show (X.toList == [105, 110, 112, 117, 116]) = (l == [105, 110, 112, 117, 116]) from e8, h8]; rfl
                    have hp : (isBg l || bareB l) = true := by rw [h8]; rfl
                    rw [hp]
                    clear hp e0 e1 e2 e3 e4 e5 e6 e7 e8 e9 e10 e11 e12 hX h0 h1 h2 h3 h4 h5 h6 h7 h8 hby
                    go_enter Tryd.func33, Tryd.ntmps33
                    go_wp2
                    go_ret
                    exact ⟨rfl, rfl⟩
                  · have k8 : (X.toList == [105, 110, 112, 117, 116]) = false := by rw [show (X.toList == [105, 110, 112, 117, 116]) = (l == [105, 110, 112, 117, 116]) from e8]; simpa using h8
                    by_cases h9 : l = [108, 97, 98, 101, 108]
                    · have k9 : (X.toList == [108, 97, 98, 101, 108]) = true := by rw [show (X.toList == [108, 97, 98, 101, 108]) = (l == [108, 97, 98, 101, 108]) from e9, h9]; rfl
                      have hp : (isBg l || bareB l) = true := by rw [h9]; rfl
                      rw [hp]
                      clear hp e0 e1 e2 e3 e4 e5 e6 e7 e8 e9 e10 e11 e12 hX h0 h1 h2 h3 h4 h5 h6 h7 h8 h9 hby
                      go_enter Tryd.func33, Tryd.ntmps33
                      go_wp2
                      go_ret
                      exact ⟨rfl, rfl⟩
                    · have k9 : (X.toList == [108, 97, 98, 101, 108]) = false := by rw [show (X.toList == [108, 97, 98, 101, 108]) = (l == [108, 97, 98, 101, 108]) from e9]; simpa using h9
                      by_cases h10 : l = [112, 97, 103, 101, 114, 101, 102]
                      · have k10 : (X.toList == [112, 97, 103, 101, 114, 101, 102]) = true := by rw [show (X.toList == [112, 97, 103, 101, 114, 101, 102]) = (l == [112, 97, 103, 101, 114, 101, 102]) from e10, h10]; rfl
                        have hp : (isBg l || bareB l) = true := by rw [h10]; rfl
                        rw [hp]
                        clear hp e0 e1 e2 e3 e4 e5 e6 e7 e8 e9 e10 e11 e12 hX h0 h1 h2 h3 h4 h5 h6 h7 h8 h9 h10 hby
                        go_enter Tryd.func33, Tryd.ntmps33
                        go_wp2
                        go_ret
                        exact ⟨rfl, rfl⟩
                      · have k10 : (X.toList == [112, 97, 103, 101, 114, 101, 102]) = false := by rw [show (X.toList == [112, 97, 103, 101, 114, 101, 102]) = (l == [112, 97, 103, 101, 114, 101, 102]) from e10]; simpa using h10
                        by_cases h11 : l = [114, 101, 102]
                        · have k11 : (X.toList == [114, 101, 102]) = true := by rw [show (X.toList == [114, 101, 102]) = (l == [114, 101, 102]) from e11, h11]; rfl
                          have hp : (isBg l || bareB l) = true := by rw [h11]; rfl
                          rw [hp]
                          clear hp e0 e1 e2 e3 e4 e5 e6 e7 e8 e9 e10 e11 e12 hX h0 h1 h2 h3 h4 h5 h6 h7 h8 h9 h10 h11 hby
                          go_enter Tryd.func33, Tryd.ntmps33
                          go_wp2
                          go_ret
                          exact ⟨rfl, rfl⟩
                        · have k11 : (X.toList == [114, 101, 102]) = false := by rw [show (X.toList == [114, 101, 102]) = (l == [114, 101, 102]) from e11]; simpa using h11
                          by_cases h12 : l = [117, 115, 101, 112, 97, 99, 107, 97, 103, 101]
                          · have k12 : (X.toList == [117, 115, 101, 112, 97, 99, 107, 97, 103, 101]) = true := by rw [show (X.toList == [117, 115, 101, 112, 97, 99, 107, 97, 103, 101]) = (l == [117, 115, 101, 112, 97, 99, 107, 97, 103, 101]) from e12, h12]; rfl
                            have hp : (isBg l || bareB l) = true := by rw [h12]; rfl
                            rw [hp]
                            clear hp e0 e1 e2 e3 e4 e5 e6 e7 e8 e9 e10 e11 e12 hX h0 h1 h2 h3 h4 h5 h6 h7 h8 h9 h10 h11 h12 hby
                            go_enter Tryd.func33, Tryd.ntmps33
                            go_wp2
                            go_ret
                            exact ⟨rfl, rfl⟩
                          · have k12 : (X.toList == [117, 115, 101, 112, 97, 99, 107, 97, 103, 101]) = false := by rw [show (X.toList == [117, 115, 101, 112, 97, 99, 107, 97, 103, 101]) = (l == [117, 115, 101, 112, 97, 99, 107, 97, 103, 101]) from e12]; simpa using h12
                            have hp : (isBg l || bareB l) = false := by unfold isBg bareB; simp [h0, h1, h2, h3, h4, h5, h6, h7, h8, h9, h10, h11, h12]
                            rw [hp]
                            clear hp e0 e1 e2 e3 e4 e5 e6 e7 e8 e9 e10 e11 e12 hX h0 h1 h2 h3 h4 h5 h6 h7 h8 h9 h10 h11 h12 hby
                            go_enter Tryd.func33, Tryd.ntmps33
                            go_wp2
                            go_ret
                            exact ⟨rfl, rfl⟩
set_option maxRecDepth 100000 in
set_option maxHeartbeats 4000000 in
theorem rwhole_any {l : List Int} (hby : Byt l) (w : World) : Calls Tryd.prog 35 #[.string (strOfNums l)] w fun e w' => e = .returned (.bool (whB l)) ∧ w' = w := by
  obtain ⟨X, hX⟩ : ∃ X, strOfNums l = X := ⟨_, rfl⟩
  have e0 := nums_is hby [97, 108, 105, 103, 110] (byt_lit _ rfl)
  have e1 := nums_is hby [97, 108, 105, 103, 110, 42] (byt_lit _ rfl)
  have e2 := nums_is hby [101, 113, 117, 97, 116, 105, 111, 110] (byt_lit _ rfl)
  have e3 := nums_is hby [101, 113, 117, 97, 116, 105, 111, 110, 42] (byt_lit _ rfl)
  have e4 := nums_is hby [108, 115, 116, 108, 105, 115, 116, 105, 110, 103] (byt_lit _ rfl)
  have e5 := nums_is hby [118, 101, 114, 98, 97, 116, 105, 109] (byt_lit _ rfl)
  rw [hX] at e0 e1 e2 e3 e4 e5 ⊢
  simp only [List.map] at e0 e1 e2 e3 e4 e5
  by_cases h0 : l = [97, 108, 105, 103, 110]
  · have k0 : (X.toList == [97, 108, 105, 103, 110]) = true := by rw [show (X.toList == [97, 108, 105, 103, 110]) = (l == [97, 108, 105, 103, 110]) from e0, h0]; rfl
    have hp : (whB l) = true := by rw [h0]; rfl
    rw [hp]
    clear hp e0 e1 e2 e3 e4 e5 hX h0 hby
    go_enter Tryd.func35, Tryd.ntmps35
    go_wp2
    go_ret
    exact ⟨rfl, rfl⟩
  · have k0 : (X.toList == [97, 108, 105, 103, 110]) = false := by rw [show (X.toList == [97, 108, 105, 103, 110]) = (l == [97, 108, 105, 103, 110]) from e0]; simpa using h0
    by_cases h1 : l = [97, 108, 105, 103, 110, 42]
    · have k1 : (X.toList == [97, 108, 105, 103, 110, 42]) = true := by rw [show (X.toList == [97, 108, 105, 103, 110, 42]) = (l == [97, 108, 105, 103, 110, 42]) from e1, h1]; rfl
      have hp : (whB l) = true := by rw [h1]; rfl
      rw [hp]
      clear hp e0 e1 e2 e3 e4 e5 hX h0 h1 hby
      go_enter Tryd.func35, Tryd.ntmps35
      go_wp2
      go_ret
      exact ⟨rfl, rfl⟩
    · have k1 : (X.toList == [97, 108, 105, 103, 110, 42]) = false := by rw [show (X.toList == [97, 108, 105, 103, 110, 42]) = (l == [97, 108, 105, 103, 110, 42]) from e1]; simpa using h1
      by_cases h2 : l = [101, 113, 117, 97, 116, 105, 111, 110]
      · have k2 : (X.toList == [101, 113, 117, 97, 116, 105, 111, 110]) = true := by rw [show (X.toList == [101, 113, 117, 97, 116, 105, 111, 110]) = (l == [101, 113, 117, 97, 116, 105, 111, 110]) from e2, h2]; rfl
        have hp : (whB l) = true := by rw [h2]; rfl
        rw [hp]
        clear hp e0 e1 e2 e3 e4 e5 hX h0 h1 h2 hby
        go_enter Tryd.func35, Tryd.ntmps35
        go_wp2
        go_ret
        exact ⟨rfl, rfl⟩
      · have k2 : (X.toList == [101, 113, 117, 97, 116, 105, 111, 110]) = false := by rw [show (X.toList == [101, 113, 117, 97, 116, 105, 111, 110]) = (l == [101, 113, 117, 97, 116, 105, 111, 110]) from e2]; simpa using h2
        by_cases h3 : l = [101, 113, 117, 97, 116, 105, 111, 110, 42]
        · have k3 : (X.toList == [101, 113, 117, 97, 116, 105, 111, 110, 42]) = true := by rw [show (X.toList == [101, 113, 117, 97, 116, 105, 111, 110, 42]) = (l == [101, 113, 117, 97, 116, 105, 111, 110, 42]) from e3, h3]; rfl
          have hp : (whB l) = true := by rw [h3]; rfl
          rw [hp]
          clear hp e0 e1 e2 e3 e4 e5 hX h0 h1 h2 h3 hby
          go_enter Tryd.func35, Tryd.ntmps35
          go_wp2
          go_ret
          exact ⟨rfl, rfl⟩
        · have k3 : (X.toList == [101, 113, 117, 97, 116, 105, 111, 110, 42]) = false := by rw [show (X.toList == [101, 113, 117, 97, 116, 105, 111, 110, 42]) = (l == [101, 113, 117, 97, 116, 105, 111, 110, 42]) from e3]; simpa using h3
          by_cases h4 : l = [108, 115, 116, 108, 105, 115, 116, 105, 110, 103]
          · have k4 : (X.toList == [108, 115, 116, 108, 105, 115, 116, 105, 110, 103]) = true := by rw [show (X.toList == [108, 115, 116, 108, 105, 115, 116, 105, 110, 103]) = (l == [108, 115, 116, 108, 105, 115, 116, 105, 110, 103]) from e4, h4]; rfl
            have hp : (whB l) = true := by rw [h4]; rfl
            rw [hp]
            clear hp e0 e1 e2 e3 e4 e5 hX h0 h1 h2 h3 h4 hby
            go_enter Tryd.func35, Tryd.ntmps35
            go_wp2
            go_ret
            exact ⟨rfl, rfl⟩
          · have k4 : (X.toList == [108, 115, 116, 108, 105, 115, 116, 105, 110, 103]) = false := by rw [show (X.toList == [108, 115, 116, 108, 105, 115, 116, 105, 110, 103]) = (l == [108, 115, 116, 108, 105, 115, 116, 105, 110, 103]) from e4]; simpa using h4
            by_cases h5 : l = [118, 101, 114, 98, 97, 116, 105, 109]
            · have k5 : (X.toList == [118, 101, 114, 98, 97, 116, 105, 109]) = true := by rw [show (X.toList == [118, 101, 114, 98, 97, 116, 105, 109]) = (l == [118, 101, 114, 98, 97, 116, 105, 109]) from e5, h5]; rfl
              have hp : (whB l) = true := by rw [h5]; rfl
              rw [hp]
              clear hp e0 e1 e2 e3 e4 e5 hX h0 h1 h2 h3 h4 h5 hby
              go_enter Tryd.func35, Tryd.ntmps35
              go_wp2
              go_ret
              exact ⟨rfl, rfl⟩
            · have k5 : (X.toList == [118, 101, 114, 98, 97, 116, 105, 109]) = false := by rw [show (X.toList == [118, 101, 114, 98, 97, 116, 105, 109]) = (l == [118, 101, 114, 98, 97, 116, 105, 109]) from e5]; simpa using h5
              have hp : (whB l) = false := by unfold whB; simp [h0, h1, h2, h3, h4, h5]
              rw [hp]
              clear hp e0 e1 e2 e3 e4 e5 hX h0 h1 h2 h3 h4 h5 hby
              go_enter Tryd.func35, Tryd.ntmps35
              go_wp2
              go_ret
              exact ⟨rfl, rfl⟩
end Go.Proofs.YtlgfmhhhecaddaaDoor
