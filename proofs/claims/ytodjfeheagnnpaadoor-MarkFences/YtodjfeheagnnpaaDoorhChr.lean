/- html: blank, letter, great, inName, inAttribute, inValue, pass. -/
import Derived.Test.YtodjfeheagnnpaaDoorhPure
import Derived.Test.YtodjfeheagnnpaaDoorlBase
namespace Go.Proofs.YtodjfeheagnnpaaDoor
set_option linter.unusedVariables false
open Go.RowKit Go.ChangeShapes
/-- Bytes that lie where a slice points. -/
def BC (w : World) (ad : Option Addr) (n : Nat) (c : Nat → Int) : Prop := ∀ i, i < n → ∃ b off, ad = some ⟨b, off, none⟩ ∧ w.cell? ⟨b, off + i, none⟩ = some (.int .u8 (c i))
theorem BC.stay {w w' : World} {ad : Option Addr} {n : Nat} {c : Nat → Int} (h : BC w ad n c) (hb : Below w.heap.size w w') : BC w' ad n c := fun i hi => by
  obtain ⟨b, off, e, hc⟩ := h i hi
  exact ⟨b, off, e, cell_stay hc hb⟩
theorem BC.drew {w : World} {ad : Option Addr} {n : Nat} {c : Nat → Int} (h : BC w ad n c) : BC w.drew ad n c := h
/-- So many bytes; behind them there are none. -/
def Ch (c : Nat → Int) (n : Nat) : Prop := (∀ i, i < n → 0 ≤ c i ∧ c i < 256) ∧ ∀ i, n ≤ i → c i = -1
theorem blank_any (x : Int) (w : World) : Calls Tryd.prog 24 #[.int .u8 x] w fun e w' => e = .returned (.bool (bkB x)) ∧ w' = w := by
  by_cases h1 : x = 32
  · subst h1; go_enter Tryd.func24, Tryd.ntmps24; go_wp2; go_ret; exact ⟨rfl, rfl⟩
  by_cases h2 : x = 9
  · subst h2; go_enter Tryd.func24, Tryd.ntmps24; go_wp2; go_ret; exact ⟨rfl, rfl⟩
  by_cases h3 : x = 10
  · subst h3; go_enter Tryd.func24, Tryd.ntmps24; go_wp2; go_ret; exact ⟨rfl, rfl⟩
  by_cases h4 : x = 13
  · subst h4; go_enter Tryd.func24, Tryd.ntmps24; go_wp2; go_ret; exact ⟨rfl, rfl⟩
  by_cases h5 : x = 12
  · subst h5; go_enter Tryd.func24, Tryd.ntmps24; go_wp2; go_ret; exact ⟨rfl, rfl⟩
  have k1 : (x == 32) = false := by simpa using h1
  have k2 : (x == 9) = false := by simpa using h2
  have k3 : (x == 10) = false := by simpa using h3
  have k4 : (x == 13) = false := by simpa using h4
  have k5 : (x == 12) = false := by simpa using h5
  have e : bkB x = false := by simp [bkB, h1, h2, h3, h4, h5]
  rw [e]
  go_enter Tryd.func24, Tryd.ntmps24
  go_wp2
  go_ret
  exact ⟨rfl, rfl⟩
theorem great_any (x : Int) (w : World) : Calls Tryd.prog 39 #[.int .u8 x] w fun e w' => e = .returned (.bool (grB x)) ∧ w' = w := by
  by_cases h1 : 65 ≤ x
  · by_cases h2 : x ≤ 90
    · have e : grB x = true := by simp [grB, h1, h2]
      rw [e]
      go_enter Tryd.func39, Tryd.ntmps39; go_wp2; go_ret; exact ⟨rfl, rfl⟩
    · have e : grB x = false := by simp [grB, h2]
      rw [e]
      go_enter Tryd.func39, Tryd.ntmps39; go_wp2; go_ret; exact ⟨rfl, rfl⟩
  · have e : grB x = false := by simp [grB, h1]
    rw [e]
    go_enter Tryd.func39, Tryd.ntmps39; go_wp2; go_ret; exact ⟨rfl, rfl⟩
theorem letter_any (x : Int) (w : World) : Calls Tryd.prog 37 #[.int .u8 x] w fun e w' => e = .returned (.bool (ltB x)) ∧ w' = w := by
  have c := great_any x w
  obtain ⟨g, hg⟩ : ∃ g, grB x = g := ⟨_, rfl⟩
  rw [hg] at c
  by_cases h1 : 97 ≤ x
  · by_cases h2 : x ≤ 122
    · have e : ltB x = true := by simp [ltB, h1, h2]
      rw [e]
      go_enter Tryd.func37, Tryd.ntmps37; go_wp2; go_ret; exact ⟨rfl, rfl⟩
    · have e : ltB x = g := by simp [ltB, h2, hg]
      rw [e]
      go_enter Tryd.func37, Tryd.ntmps37
      go_wp2_with (refine c.mono ?_; rintro e w1 ⟨rfl, h1⟩; subst w1)
      go_ret; exact ⟨rfl, rfl⟩
  · have e : ltB x = g := by simp [ltB, h1, hg]
    rw [e]
    go_enter Tryd.func37, Tryd.ntmps37
    go_wp2_with (refine c.mono ?_; rintro e w1 ⟨rfl, h1⟩; subst w1)
    go_ret; exact ⟨rfl, rfl⟩
theorem inName_any (x : Int) (w : World) : Calls Tryd.prog 22 #[.int .u8 x] w fun e w' => e = .returned (.bool (nmB x)) ∧ w' = w := by
  have c := letter_any x w
  obtain ⟨g, hg⟩ : ∃ g, ltB x = g := ⟨_, rfl⟩
  rw [hg] at c
  cases g with
  | true =>
    have e : nmB x = true := by simp [nmB, hg]
    rw [e]
    clear hg
    go_enter Tryd.func22, Tryd.ntmps22
    go_wp2_with (refine c.mono ?_; rintro e w1 ⟨rfl, h1⟩; subst w1)
    go_ret; exact ⟨rfl, rfl⟩
  | false =>
    by_cases h5 : x = 45
    · subst h5
      have e : nmB 45 = true := rfl
      rw [e]
      clear hg
      go_enter Tryd.func22, Tryd.ntmps22
      go_wp2_with (refine c.mono ?_; rintro e w1 ⟨rfl, h1⟩; subst w1)
      go_ret; exact ⟨rfl, rfl⟩
    · have k5 : (x == 45) = false := by simpa using h5
      by_cases h1 : 48 ≤ x
      · by_cases h2 : x ≤ 57
        · have e : nmB x = true := by simp [nmB, h1, h2]
          rw [e]
          clear hg
          go_enter Tryd.func22, Tryd.ntmps22
          go_wp2_with (refine c.mono ?_; rintro e w1 ⟨rfl, h1⟩; subst w1)
          go_ret; exact ⟨rfl, rfl⟩
        · have e : nmB x = false := by simp [nmB, hg, h2, h5]
          have k2 : decide (x ≤ 57) = false := by simpa using h2
          rw [e]
          clear hg
          go_enter Tryd.func22, Tryd.ntmps22
          go_wp2_with (refine c.mono ?_; rintro e w1 ⟨rfl, h1⟩; subst w1)
          go_ret; exact ⟨rfl, rfl⟩
      · have e : nmB x = false := by simp [nmB, hg, h1, h5]
        rw [e]
        clear hg
        go_enter Tryd.func22, Tryd.ntmps22
        go_wp2_with (refine c.mono ?_; rintro e w1 ⟨rfl, h1⟩; subst w1)
        go_ret; exact ⟨rfl, rfl⟩
theorem inAttr_any (x : Int) (w : World) : Calls Tryd.prog 40 #[.int .u8 x] w fun e w' => e = .returned (.bool (atB x)) ∧ w' = w := by
  have c := blank_any x w
  by_cases h1 : x = 47
  · subst h1; go_enter Tryd.func40, Tryd.ntmps40
    go_wp2_with (refine c.mono ?_; rintro e w1 ⟨rfl, h1⟩; subst w1)
    go_ret; exact ⟨rfl, rfl⟩
  by_cases h2 : x = 62
  · subst h2; go_enter Tryd.func40, Tryd.ntmps40
    go_wp2_with (refine c.mono ?_; rintro e w1 ⟨rfl, h1⟩; subst w1)
    go_ret; exact ⟨rfl, rfl⟩
  by_cases h3 : x = 61
  · subst h3; go_enter Tryd.func40, Tryd.ntmps40
    go_wp2_with (refine c.mono ?_; rintro e w1 ⟨rfl, h1⟩; subst w1)
    go_ret; exact ⟨rfl, rfl⟩
  have k1 : (x != 47) = true := by simpa using h1
  have k2 : (x != 62) = true := by simpa using h2
  have k3 : (x != 61) = true := by simpa using h3
  have e : atB x = !bkB x := by simp [atB, k1, k2, k3]
  rw [e]
  obtain ⟨g, hg⟩ : ∃ g, bkB x = g := ⟨_, rfl⟩
  rw [hg] at c ⊢
  clear hg e
  cases g
  · go_enter Tryd.func40, Tryd.ntmps40
    go_wp2_with (refine c.mono ?_; rintro e w1 ⟨rfl, h1⟩; subst w1)
    go_ret; exact ⟨rfl, rfl⟩
  · go_enter Tryd.func40, Tryd.ntmps40
    go_wp2_with (refine c.mono ?_; rintro e w1 ⟨rfl, h1⟩; subst w1)
    go_ret; exact ⟨rfl, rfl⟩
theorem inValue_any (x : Int) (w : World) : Calls Tryd.prog 53 #[.int .u8 x] w fun e w' => e = .returned (.bool (vlB x)) ∧ w' = w := by
  have c := blank_any x w
  by_cases h1 : x = 62
  · subst h1; go_enter Tryd.func53, Tryd.ntmps53
    go_wp2_with (refine c.mono ?_; rintro e w1 ⟨rfl, h1⟩; subst w1)
    go_ret; exact ⟨rfl, rfl⟩
  have k1 : (x != 62) = true := by simpa using h1
  have e : vlB x = !bkB x := by simp [vlB, k1]
  rw [e]
  obtain ⟨g, hg⟩ : ∃ g, bkB x = g := ⟨_, rfl⟩
  rw [hg] at c ⊢
  clear hg e
  cases g
  · go_enter Tryd.func53, Tryd.ntmps53
    go_wp2_with (refine c.mono ?_; rintro e w1 ⟨rfl, h1⟩; subst w1)
    go_ret; exact ⟨rfl, rfl⟩
  · go_enter Tryd.func53, Tryd.ntmps53
    go_wp2_with (refine c.mono ?_; rintro e w1 ⟨rfl, h1⟩; subst w1)
    go_ret; exact ⟨rfl, rfl⟩
theorem pass_any {w : World} {ad : Option Addr} {n cap : Nat} {c : Nat → Int} (h : BC w ad n c) (hn : n ≤ 1000000000) (i : Nat) (F : Nat) (p : Int → Bool)
    (hE : ∀ x w, (callFunc F #[.int .u8 x]).run Tryd.prog w = .ok (.enter F #[.int .u8 x]) w)
    (hF : ∀ x w, Calls Tryd.prog F #[.int .u8 x] w fun e w' => e = .returned (.bool (p x)) ∧ w' = w) :
    Calls Tryd.prog 21 #[.slice ad n cap, .int .i64 i, .func (.func F) #[] #[]] w fun e w' => e = .returned (.int .i64 (ps p c n i)) ∧ w' = w := by
  have HB : Hid (BC w ad n c) := h
  have HF : Hid (∀ x w, Calls Tryd.prog F #[.int .u8 x] w fun e w' => e = .returned (.bool (p x)) ∧ w' = w) := hF
  obtain ⟨R, hR⟩ : ∃ R, ps p c n i = R := ⟨_, rfl⟩
  have HR : Hid (ps p c n i = R) := hR
  rw [hR]
  clear h hF hR
  go_enter Tryd.func21, Tryd.ntmps21
  go_wp2
  go_loopg [1] (n - i) (fun q iv wr => ∃ k : Nat, q = n - k ∧ iv = .int .i64 k ∧ Hid (ps p c n k = R) ∧ wr = w)
  case atStart => exact ⟨i, rfl, rfl, HR, rfl⟩
  case round =>
    obtain ⟨k, hq, rfl, HK, rfl⟩ := hrel
    by_cases hlt : k < n
    · have z1 : (k : Int) < (n : Int) := by omega
      have z2 : (0 : Int) ≤ (k : Int) := by omega
      obtain ⟨b, off, rfl, hc⟩ := HB.out k hlt
      obtain ⟨x, hx⟩ : ∃ x, c k = x := ⟨_, rfl⟩
      rw [hx] at hc
      have ct := HF.out x wr
      obtain ⟨g, hg⟩ : ∃ g, p x = g := ⟨_, rfl⟩
      rw [hg] at ct
      have HG : Hid (p (c k) = g) := by show p (c k) = g; rw [hx]; exact hg
      clear hx hg
      cases g with
      | true =>
        go_wp2_with fail
        refine ct.mono ?_
        rintro e w1 ⟨rfl, h1⟩
        subst w1
        go_wp2
        go_roundg (n - (k + 1))
        case measure => omega
        case rel => exact ⟨k + 1, rfl, by go_num, (show ps p c n (k + 1) = R by rw [← HK.out]; exact (fs_no hlt (by simp [HG.out])).symm), rfl⟩
      | false =>
        go_wp2_with fail
        refine ct.mono ?_
        rintro e w1 ⟨rfl, h1⟩
        subst w1
        go_wp2
        go_ret
        have : ps p c n k = k := fs_yes (by simp [HG.out])
        rw [HK.out] at this
        subst this
        exact ⟨rfl, rfl⟩
    · have z1 : ¬ (k : Int) < (n : Int) := by omega
      go_wp2
      go_ret
      have : ps p c n k = k := fs_end _ (by omega)
      rw [HK.out] at this
      subst this
      exact ⟨rfl, rfl⟩
end Go.Proofs.YtodjfeheagnnpaaDoor
