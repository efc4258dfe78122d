/- The reference's trim, indent, fence, refers, bracket, of a line that begins with a link. The reference's text and Mark, of a line that begins with a link. -/
import Derived.Test.YtodjfeheagnnpaaGreatDoorzRa
import Derived.Test.YtodjfeheagnnpaaGreatDoorzLnkP
import Derived.Test.YtodjfeheagnnpaaGreatDoorkV
import Derived.Test.YtodjfeheagnnpaaGreatDoormLex
namespace Go.Proofs.YtodjfeheagnnpaaGreatDoor
set_option linter.unusedVariables false
open Go.RowKit Go.ChangeShapes
section
variable {s : ByteArray} {c : Nat → Int} {n : Nat}
theorem rtrim_lk (h : SC s c n) (hk : Lk c n) (w : World) : Calls Tryz.prog 23 #[.string s] w fun e w' => e = .returned (.string s) ∧ w' = w := by
  have h5 := hk.n5
  have hnb := hk.nb
  have hsz := h.1
  have hx := h.2.2.1 (n - 1) (by omega)
  rw [hk.ce] at hx
  obtain ⟨k, hkk⟩ : ∃ k, n - 1 = k := ⟨_, rfl⟩
  have hk1 : (n : Int) - 1 = (k : Int) := by omega
  have hk2 : k < s.size := by omega
  have hx2 : ((s[k]'hk2).toNat : Int) = 121 := by simpa only [hkk] using hx
  have z1 : (0 : Int) < (n : Int) := by omega
  have z2 : (0 : Int) ≤ (k : Int) := by omega
  have z3 : (k : Int) < (n : Int) := by omega
  clear hx h hk
  go_enter Tryz.func23, Tryz.ntmps23
  go_wp2
  go_loopg [0] 1 (fun q sv wr => q = 1 ∧ sv = .string s ∧ wr = w)
  case atStart => exact ⟨rfl, rfl, rfl⟩
  case round =>
    obtain ⟨rfl, rfl, rfl⟩ := hrel
    go_wp2
    go_ret
    exact ⟨rfl, rfl⟩
theorem oc1_no {x : Int} {i : Nat} (h : c i ≠ x) : oc [x] c i = false := by rw [oc1]; simpa using h
theorem rindent_lk (h : SC s c n) (hk : Lk c n) (w : World) : Calls Tryz.prog 26 #[.string s] w fun e w' => e = .returned (.int .i64 0) ∧ w' = w := by
  have hnb := hk.nb
  have c1 := rat_any h (by omega) 0 (by omega) ⟨#[9]⟩ [9] (byt_lit _ rfl) rfl (by decide) (by decide) w
  have c2 := rat_any h (by omega) 0 (by omega) ⟨#[32]⟩ [32] (byt_lit _ rfl) rfl (by decide) (by decide) w
  rw [oc1_no (by rw [hk.c0]; decide)] at c1 c2
  clear h hk
  go_enter Tryz.func26, Tryz.ntmps26
  go_wp2
  go_loopg [3] 1 (fun q iv wr => q = 1 ∧ iv = .int .i64 0 ∧ wr = w)
  case atStart => exact ⟨rfl, rfl, rfl⟩
  case round =>
    obtain ⟨rfl, rfl, rfl⟩ := hrel
    go_wp2_with fail
    refine c1.mono ?_
    rintro e w1 ⟨rfl, hw⟩
    subst w1
    clear c1
    go_wp2_with fail
    refine c2.mono ?_
    rintro e w1 ⟨rfl, hw⟩
    subst w1
    clear c2
    go_wp2
    go_ret
    exact ⟨rfl, rfl⟩
theorem rfence_lk (h : SC s c n) (hk : Lk c n) (w : World) : Calls Tryz.prog 27 #[.string s] w fun e w' => e = .returned (.string ⟨#[]⟩) ∧ w' = w := by
  have h5 := hk.n5
  have c1 := rindent_lk h hk w
  have hsz := h.1
  have z0 : 0 < s.size := by omega
  have hx := h.2.2.1 0 z0
  rw [hk.c0] at hx
  have z1 : ¬ (n : Int) ≤ 0 := by omega
  have z2 : (0 : Int) < (n : Int) := by omega
  clear h hk
  go_enter Tryz.func27, Tryz.ntmps27
  go_wp2_with fail
  refine c1.mono ?_
  rintro e w1 ⟨rfl, hw⟩
  subst w1
  clear c1
  go_wp2
  go_ret
  exact ⟨rfl, rfl⟩
theorem rrefers_lk (h : SC s c n) (hk : Lk c n) (w : World) : Calls Tryz.prog 28 #[.string s] w fun e w' => e = .returned (.bool false) ∧ w' = w := by
  have h5 := hk.n5
  have hnb := hk.nb
  have c1 := rindent_lk h hk w
  have hsz := h.1
  have c2 := rat_any h (by omega) 0 (by omega) ⟨#[91]⟩ [91] (byt_lit _ rfl) rfl (by decide) (by decide) w
  rw [oc1, hk.c0] at c2
  have c3 := rat_any h (by omega) 2 (by omega) ⟨#[93, 58]⟩ [93, 58] (byt_lit _ rfl) rfl (by decide) (by decide) w
  rw [show oc [93, 58] c 2 = false by show (c 2 == 93 && (c 3 == 58 && true)) = false; rw [hk.c3]; simp] at c3
  have y1 : 1 < s.size := by omega
  have y2 : 2 < s.size := by omega
  have x1 := h.2.2.1 1 y1
  have x2 := h.2.2.1 2 y2
  rw [hk.c1] at x1
  rw [hk.c2] at x2
  have z1 : (1 : Int) < (n : Int) := by omega
  have z2 : (2 : Int) < (n : Int) := by omega
  clear h hk
  go_enter Tryz.func28, Tryz.ntmps28
  go_wp2_with fail
  refine c1.mono ?_
  rintro e w1 ⟨rfl, hw⟩
  subst w1
  clear c1
  go_wp2_with fail
  refine c2.mono ?_
  rintro e w1 ⟨rfl, hw⟩
  subst w1
  clear c2
  go_wp2
  go_loopg [4] 2 (fun q iv wr => wr = w ∧ ((q = 2 ∧ iv = .int .i64 1) ∨ (q = 1 ∧ iv = .int .i64 2)))
  case atStart => exact ⟨rfl, Or.inl ⟨rfl, rfl⟩⟩
  case round =>
    obtain ⟨rfl, ⟨rfl, rfl⟩ | ⟨rfl, rfl⟩⟩ := hrel
    · go_wp2
      go_roundg 1
      case measure => omega
      case rel => exact ⟨rfl, Or.inr ⟨rfl, rfl⟩⟩
    · go_wp2_with fail
      refine c3.mono ?_
      rintro e w1 ⟨rfl, hw⟩
      subst w1
      clear c3
      go_wp2
      go_ret
      exact ⟨rfl, rfl⟩
/-- Where a bracket is shut, as the reference tells it. -/
def brV (o : Option Nat) : Int := match o with
  | some q => (q : Int)
  | none => -1
theorem rbracket_any (h : SC s c n) (hn : n ≤ 1000) (i0 : Nat) (hi0 : i0 ≤ n) (w : World) : Calls Tryz.prog 43 #[.string s, .int .i64 i0, .int .u8 40, .int .u8 41] w fun e w' => e = .returned (.int .i64 (brV (shP c n i0 1))) ∧ w' = w := by
  have hsz := h.1
  have HH : Hid (SC s c n) := h
  obtain ⟨Z, hZ⟩ : ∃ Z, shP c n i0 1 = Z := ⟨_, rfl⟩
  have HZ : Hid (shP c n i0 1 = Z) := hZ
  rw [hZ]
  obtain ⟨V, hV⟩ : ∃ V, brV Z = V := ⟨_, rfl⟩
  have HV : Hid (brV Z = V) := hV
  rw [hV]
  clear h hZ hV
  go_enter Tryz.func43, Tryz.ntmps43
  go_wp2
  go_loopg [1, 9] (n + 2 - i0) (fun q iv dv wr => ∃ (i o : Nat), q = n + 2 - i ∧ i ≤ n + 1 ∧ iv = .int .i64 i ∧ dv = .int .i64 o ∧ 1 ≤ o ∧ o ≤ 32 ∧ wr = w ∧ Hid (shP c n i o = Z))
  case atStart => exact ⟨i0, 1, by omega, by omega, rfl, rfl, by omega, by omega, rfl, HZ⟩
  case round =>
    obtain ⟨i, o, hq, hi, rfl, rfl, ho1, ho2, hw, HS⟩ := hrel
    subst wr
    by_cases hlt : i < n
    · have z1 : (i : Int) < (n : Int) := by omega
      have z2 : (0 : Int) ≤ (i : Int) := by omega
      have z3 : i < s.size := by omega
      have hx := HH.out.2.2.1 i z3
      have hone := sh_one (c := c) hlt o
      rw [HS.out] at hone
      obtain ⟨x, hcx⟩ : ∃ x, c i = x := ⟨_, rfl⟩
      rw [hcx] at hx hone
      have HO : Hid (Z = if x = 92 then shP c n (i + 2) o else if x = 40 then (if 32 < o + 1 then none else shP c n (i + 1) (o + 1)) else if x = 41 then (if o = 1 then some (i + 1) else shP c n (i + 1) (o - 1)) else shP c n (i + 1) o) := hone
      clear hone hcx
      by_cases e1 : x = 92
      · subst e1
        have HN : Hid (shP c n (i + 2) o = Z) := by show _ = _; rw [HO.out, if_pos rfl]
        go_wp2
        go_roundg (n + 2 - (i + 2))
        case measure => omega
        case rel => exact ⟨i + 2, o, rfl, by omega, by go_num, rfl, ho1, ho2, rfl, HN⟩
      have k1 : (x == 92) = false := by simpa using e1
      by_cases e2 : x = 41
      · subst e2
        by_cases e3 : o = 1
        · subst e3
          have HN : Hid ((i : Int) + 1 = V) := by show _ = _; rw [← HV.out, HO.out, if_neg (by decide), if_neg (by decide), if_pos rfl, if_pos rfl]; rfl
          go_wp2
          go_ret
          exact ⟨by rw [HN.out]; rfl, rfl⟩
        · have k2 : ((o : Int) - 1 == 0) = false := by simp; omega
          have hoo : (o : Int) - 1 = ((o - 1 : Nat) : Int) := by omega
          have HN : Hid (shP c n (i + 1) (o - 1) = Z) := by show _ = _; rw [HO.out, if_neg (by decide), if_neg (by decide), if_pos rfl, if_neg e3]
          obtain ⟨o', ho'⟩ : ∃ o', o - 1 = o' := ⟨_, rfl⟩
          rw [ho'] at hoo HN
          have k3 : ((o' : Int) == 0) = false := by simp; omega
          have ho3 : 1 ≤ o' ∧ o' ≤ 32 := by omega
          clear k2
          go_wp2
          go_roundg (n + 2 - (i + 1))
          case measure => omega
          case rel => exact ⟨i + 1, o', by omega, by omega, by go_num, rfl, ho3.1, ho3.2, rfl, HN⟩
      have k2 : (x == 41) = false := by simpa using e2
      by_cases e4 : x = 40
      · subst e4
        by_cases e5 : 32 < o + 1
        · have z4 : (32 : Int) < (o : Int) + 1 := by omega
          have HN : Hid ((-1 : Int) = V) := by show _ = _; rw [← HV.out, HO.out, if_neg (by decide), if_pos rfl, if_pos e5]; rfl
          go_wp2
          go_ret
          exact ⟨by rw [HN.out]; rfl, rfl⟩
        · have z4 : ¬ (32 : Int) < (o : Int) + 1 := by omega
          have HN : Hid (shP c n (i + 1) (o + 1) = Z) := by show _ = _; rw [HO.out, if_neg (by decide), if_pos rfl, if_neg e5]
          go_wp2
          go_roundg (n + 2 - (i + 1))
          case measure => omega
          case rel => exact ⟨i + 1, o + 1, by omega, by omega, by go_num, by go_num, by omega, by omega, rfl, HN⟩
      have k4 : (x == 40) = false := by simpa using e4
      have HN : Hid (shP c n (i + 1) o = Z) := by show _ = _; rw [HO.out, if_neg e1, if_neg e4, if_neg e2]
      go_wp2
      go_roundg (n + 2 - (i + 1))
      case measure => omega
      case rel => exact ⟨i + 1, o, by omega, by omega, by go_num, rfl, ho1, ho2, rfl, HN⟩
    · have z1 : ¬ (i : Int) < (n : Int) := by omega
      have HN : Hid ((-1 : Int) = V) := by show _ = _; rw [← HV.out, ← HS.out, sh_end (by omega)]; rfl
      go_wp2
      go_ret
      exact ⟨by rw [HN.out]; rfl, rfl⟩
end
end Go.Proofs.YtodjfeheagnnpaaGreatDoor
namespace Go.Proofs.YtodjfeheagnnpaaGreatDoor
set_option linter.unusedVariables false
open Go.RowKit Go.ChangeShapes
section
variable {s : ByteArray} {c : Nat → Int} {n : Nat}
def lkM (L : Nat → Int) (o : Option Nat) : Nat → Int := match o with
  | some q => setL L 2 3 (q : Int)
  | none => L
set_option maxRecDepth 100000 in
set_option maxHeartbeats 1000000 in
theorem rtext_lk (h : SC s c n) (hk : Lk c n) {w : World} {g : Nat} {L : Nat → Int} (hR : LR w g n L) :
    Calls Tryz.prog 29 #[.slice (some ⟨g, 0, none⟩) n n, .string s, .int .i64 0] w fun e w' => e = .returned (.tuple #[]) ∧ LR w' g n (lkM L (shP c n 4 1)) ∧ w.grownBy w' (some g) ∧ w'.heap.size = w.heap.size := by
  have h5 := hk.n5
  have hnb := hk.nb
  have hsz := h.1
  have HH : Hid (SC s c n ∧ Lk c n) := ⟨h, hk⟩
  have HR : Hid (LR w g n L) := hR
  obtain ⟨Z, hZ⟩ : ∃ Z, shP c n 4 1 = Z := ⟨_, rfl⟩
  have HZ : Hid (shP c n 4 1 = Z) := hZ
  rw [hZ]
  clear h hk hR hZ
  go_enter Tryz.func29, Tryz.ntmps29
  go_wp2_with fail
  go_loopg [2] n (fun q iv wr => ∃ i : Nat, q = n - i ∧ i ≤ n ∧ iv = .int .i64 i ∧ Hid ((i ≤ 2 ∧ LR wr g n L) ∨ (2 < i ∧ LR wr g n (lkM L Z))) ∧ Hid (w.grownBy wr (some g) ∧ wr.heap.size = w.heap.size))
  case atStart => exact ⟨0, rfl, Nat.zero_le _, rfl, Or.inl ⟨Nat.zero_le _, HR.out⟩, World.grownBy.refl _ _, rfl⟩
  case round =>
    obtain ⟨i, hq, hi, rfl, HL, HG⟩ := hrel
    by_cases hlt : i < n
    · have z1 : (i : Int) < (n : Int) := by omega
      have z2 : (0 : Int) ≤ (i : Int) := by omega
      have z3 : i < s.size := by omega
      have hx := HH.out.1.2.2.1 i z3
      have ca := rat_any HH.out.1 (by omega) i (by omega) ⟨#[93, 40]⟩ [93, 40] (byt_lit _ rfl) rfl (by decide) (by decide) wr
      by_cases h2 : i = 2
      · subst h2
        rw [HH.out.2.c2] at hx
        rw [show oc [93, 40] c 2 = true by show (c 2 == 93 && (c 3 == 40 && true)) = true; rw [HH.out.2.c2, HH.out.2.c3]; rfl] at ca
        have cb := rbracket_any HH.out.1 hnb 4 (by omega) wr
        rw [HZ.out] at cb
        rw [show ((4 : Nat) : Int) = 4 from rfl] at cb
        rw [show ((2 : Nat) : Int) = 2 from rfl] at ca
        rw [show ((2 : Nat) : Int) = 2 from rfl] at z1 z2 ⊢
        have HL2 : Hid (LR wr g n L) := by
          rcases HL.out with h | h
          · exact h.2
          · exact absurd h.1 (by decide)
        go_wp2_with fail
        refine ca.mono ?_
        rintro e w1 ⟨rfl, hw⟩
        subst w1
        clear ca
        go_wp2_with fail
        refine cb.mono ?_
        rintro e w1 ⟨rfl, hw⟩
        subst w1
        clear cb
        cases Z with
        | none =>
          have HF : Hid ((3 ≤ 2 ∧ LR wr g n L) ∨ (2 < 3 ∧ LR wr g n (lkM L none))) := Or.inr ⟨by decide, HL2.out⟩
          rw [show brV none = -1 from rfl]
          go_wp2
          go_roundg (n - 3)
          case measure => omega
          case rel => exact ⟨3, rfl, by omega, rfl, HF, HG⟩
        | some q =>
          have hq4 : 4 < q ∧ q ≤ n := shG_le _ _ _ _ HZ.out
          have cp := rput_any HL2.out (by omega) 2 3 q hq4.2
          rw [show ((3 : Nat) : Int) = 3 from rfl] at cp
          have y1 : (0 : Int) < (q : Int) := by omega
          rw [show brV (some q) = (q : Int) from rfl]
          go_wp2_with fail
          refine cp.mono ?_
          rintro e w1 ⟨rfl, hL1, hG1, hs1⟩
          have HF : Hid ((q ≤ 2 ∧ LR w1 g n L) ∨ (2 < q ∧ LR w1 g n (lkM L (some q)))) := Or.inr ⟨by omega, hL1⟩
          have HG1 : Hid (w.grownBy w1 (some g) ∧ w1.heap.size = w.heap.size) := ⟨HG.out.1.trans hG1, by rw [hs1]; exact HG.out.2⟩
          clear cp hL1 hG1 hs1
          go_wp2
          go_roundg (n - q)
          case measure => omega
          case rel => exact ⟨q, rfl, hq4.2, rfl, HF, HG1⟩
      · have hp := pxB_ne (HH.out.2.px i hlt h2)
        rw [show oc [93, 40] c i = false by show (c i == 93 && _) = false; rw [show (c i == 93) = false by simpa using hp.2.2.1]; rfl] at ca
        obtain ⟨x, hcx⟩ : ∃ x, c i = x := ⟨_, rfl⟩
        rw [hcx] at hx hp
        have k1 : (x == 92) = false := by simpa using hp.2.1
        have k2 : (x == 96) = false := by simpa using hp.2.2.2
        have k3 : (x == 60) = false := by simpa using hp.1
        have HN : Hid ((i + 1 ≤ 2 ∧ LR wr g n L) ∨ (2 < i + 1 ∧ LR wr g n (lkM L Z))) := by
          rcases HL.out with h | h
          · exact Or.inl ⟨by omega, h.2⟩
          · exact Or.inr ⟨by omega, h.2⟩
        clear hcx hp
        go_wp2_with fail
        refine ca.mono ?_
        rintro e w1 ⟨rfl, hw⟩
        subst w1
        clear ca
        go_wp2
        go_roundg (n - (i + 1))
        case measure => omega
        case rel => exact ⟨i + 1, rfl, by omega, by go_num, HN, HG⟩
    · obtain rfl : i = n := by omega
      have z1 : ¬ (i : Int) < (i : Int) := by omega
      have HF : Hid (LR wr g i (lkM L Z)) := by
        rcases HL.out with h | h
        · exact absurd h.1 (by omega)
        · exact h.2
      go_wp2
      go_end0
      exact ⟨rfl, HF.out, HG.out⟩
end
end Go.Proofs.YtodjfeheagnnpaaGreatDoor
