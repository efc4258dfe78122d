/- mark: row, indent, body, trimmed. -/
import Derived.Test.YtodjfeheagnnpaaDoormPure
import Derived.Test.YtodjfeheagnnpaaDoormShelf
namespace Go.Proofs.YtodjfeheagnnpaaDoor
set_option linter.unusedVariables false
open Go.RowKit Go.ChangeShapes
theorem row_any {w : World} {ad : Option Addr} {n cap : Nat} {c : Nat → Int} (h : BC w ad n c) (hn : n ≤ 1000000) (s : Int) :
    Calls Tryd.prog 58 #[.slice ad n cap, .int .u8 s] w fun e w' => e = .returned (.int .i64 (rwP s c n)) ∧ w' = w := by
  have HB : Hid (BC w ad n c) := h
  obtain ⟨R, hR⟩ : ∃ R, rwP s c n = R := ⟨_, rfl⟩
  have HR : Hid (rwP s c n = R) := hR
  rw [hR]
  clear h hR
  go_enter Tryd.func58, Tryd.ntmps58
  go_wp2
  go_loopg [5] n (fun q iv wr => ∃ k : Nat, q = n - k ∧ k ≤ n ∧ iv = .int .i64 k ∧ Hid (∀ j, j < k → c j = s) ∧ wr = w)
  case atStart => exact ⟨0, rfl, Nat.zero_le _, rfl, fun j hj => absurd hj (Nat.not_lt_zero _), rfl⟩
  case round =>
    obtain ⟨k, hq, hk, rfl, HK, rfl⟩ := hrel
    by_cases hlt : k < n
    · have z1 : (k : Int) < (n : Int) := by omega
      have z2 : (0 : Int) ≤ (k : Int) := by omega
      obtain ⟨b, off, rfl, hc⟩ := HB.out k hlt
      obtain ⟨x, hx⟩ : ∃ x, c k = x := ⟨_, rfl⟩
      rw [hx] at hc
      have HX : Hid (c k = x) := hx
      clear hx
      cases hg : (x == s) with
      | true =>
        have HS : Hid (x = s) := by show x = s; simpa using hg
        go_wp2
        go_roundg (n - (k + 1))
        case measure => omega
        case rel => exact ⟨k + 1, rfl, hlt, by go_num, fun j hj => by
          rcases Nat.lt_or_ge j k with h1 | h1
          · exact HK.out j h1
          · rw [show j = k by omega, HX.out, HS.out], rfl⟩
      | false =>
        have HS : Hid (x ≠ s) := by show ¬ x = s; simpa using hg
        go_wp2
        go_ret
        have : rwP s c n = k := rwP_is (by omega) HK.out (fun _ => by rw [HX.out]; exact HS.out)
        rw [HR.out] at this
        subst this
        exact ⟨rfl, rfl⟩
    · have z1 : ¬ (k : Int) < (n : Int) := by omega
      go_wp2
      go_ret
      have : rwP s c n = k := rwP_is hk HK.out (fun h1 => absurd h1 hlt)
      rw [HR.out] at this
      subst this
      exact ⟨rfl, rfl⟩
/-- A slice from a place on, whatever room there is. -/
theorem BC.cut {w : World} {ad : Option Addr} {n cap : Nat} {c : Nat → Int} (h : BC w ad n c) (i : Nat) (hi : i ≤ n) (hn : n ≤ cap) (ad' : Option Addr) (ha : ∀ b off, ad = some ⟨b, off, none⟩ → ad' = if cap = i then some ⟨b, off, none⟩ else some ⟨b, off + i, none⟩) : BC w ad' (n - i) (sf c i) := fun j hj => by
  obtain ⟨b, off, e, _⟩ := h j (by omega)
  subst e
  rw [ha b off rfl]
  exact BC.from h i hi hn j hj
set_option maxRecDepth 100000 in
theorem indent_at {w : World} {b off n cap : Nat} {c : Nat → Int} (hC : Ch c n) (h : BC w (some ⟨b, off, none⟩) n c) (hn : n ≤ 1000000) (hcap : n ≤ cap) :
    Calls Tryd.prog 46 #[.slice (some ⟨b, off, none⟩) n cap] w fun e w' => e = .returned (.int .i64 (indP c n)) ∧ Below w.heap.size w w' := by
  have ct := row_any (cap := cap) h hn 32
  obtain ⟨R, hR⟩ : ∃ R, rwP 32 c n = R := ⟨_, rfl⟩
  have hRn := rwP_le 32 c n
  rw [hR] at ct hRn
  obtain ⟨k, hk⟩ : ∃ k, min R 4 = k := ⟨_, rfl⟩
  have hk4 : k ≤ 4 := by omega
  have hkn : k ≤ n := by omega
  have hI : indP c n = if c k = 9 then 4 else k := by unfold indP; rw [hR, hk]
  obtain ⟨W, hW⟩ : ∃ W, w.alloc (.cells #[.int .u8 9] 5 (1, 2)) = W := ⟨_, rfl⟩
  have hcA := fun (w' : World) => Go.Lib.run_convert_bytes_const (P := Tryd.prog) w' 22 5 #[.int .u8 9] 1 1 Tryd.underlying22 Tryd.underlying5
  have hL1 : BC W (some ⟨w.heap.size, 0, none⟩) 1 (fun j => [9].getD j 0) := by rw [← hW]; exact lit_bc w [9] (1, 2)
  have hB1 : Below w.heap.size w W := by rw [← hW]; exact below_alloc w _
  obtain ⟨adk, hadk⟩ : ∃ adk, (if cap = k then some (⟨b, off, none⟩ : Addr) else some ⟨b, off + k, none⟩) = adk := ⟨_, rfl⟩
  have hfr := BC.from (h.stay hB1) k hkn hcap
  rw [hadk] at hfr
  have ct2 := hasP_any (cap := cap - k) (d := 1) (hC.from k hkn) hfr (by omega) hL1 rfl (byt1 9 (by omega))
  rw [oc1, Nat.add_zero] at ct2
  have hmin : min (R : Int) 4 = (k : Int) := by omega
  have z1 : (0 : Int) ≤ (k : Int) := by omega
  have z2 : (k : Int) ≤ (n : Int) := by omega
  have z3 : (n : Int) ≤ (cap : Int) := by omega
  have HI : Hid (indP c n = if c k = 9 then 4 else k) := hI
  have HBB : Hid (Below w.heap.size w W) := hB1
  obtain ⟨Q, hQ⟩ : ∃ Q, indP c n = Q := ⟨_, rfl⟩
  have HQ : Hid (indP c n = Q) := hQ
  rw [hQ]
  obtain ⟨x, hx⟩ : ∃ x, c k = x := ⟨_, rfl⟩
  rw [hx] at ct2
  have HX : Hid (c k = x) := hx
  clear hR hk hI hRn hB1 hL1 hfr hC h hQ hx
  cases hg : (x == 9) with
  | true =>
    have hx9 : x = 9 := by simpa using hg
    have HE : Hid (Q = 4) := by show Q = 4; rw [← HQ.out, HI.out, if_pos (by rw [HX.out]; exact hx9)]
    rw [hg] at ct2
    clear hg hx9
    go_enter Tryd.func46, Tryd.ntmps46
    go_wp2_with fail
    refine ct.mono ?_
    rintro e w1 ⟨rfl, hw⟩
    subst w1
    go_wp2_with fail
    refine ct2.mono ?_
    rintro e w1 ⟨rfl, hw⟩
    subst w1
    go_wp2
    go_ret
    exact ⟨by rw [HE.out]; rfl, HBB.out⟩
  | false =>
    have hx9 : x ≠ 9 := by simpa using hg
    have HE : Hid (Q = k) := by show Q = k; rw [← HQ.out, HI.out, if_neg (by rw [HX.out]; exact hx9)]
    rw [hg] at ct2
    clear hg hx9
    go_enter Tryd.func46, Tryd.ntmps46
    go_wp2_with fail
    refine ct.mono ?_
    rintro e w1 ⟨rfl, hw⟩
    subst w1
    go_wp2_with fail
    refine ct2.mono ?_
    rintro e w1 ⟨rfl, hw⟩
    subst w1
    go_wp2
    go_ret
    exact ⟨by rw [HE.out]; rfl, HBB.out⟩
/-- A slice of bytes that may be nil, its bytes, its room. -/
structure Bx (w : World) (v : Value) (n : Nat) (c : Nat → Int) : Prop where
  at_ : ∃ ad cap, v = .slice ad n cap ∧ BC w ad n c ∧ n ≤ cap ∧ cap ≤ 9223372036854775807 ∧ ((ad = none ∧ n = 0 ∧ cap = 0) ∨ ∃ b off, ad = some ⟨b, off, none⟩)
theorem body_at {w : World} {b off n cap : Nat} {c : Nat → Int} (hC : Ch c n) (h : BC w (some ⟨b, off, none⟩) n c) (hn : n ≤ 1000000) (hcap : n ≤ cap) (hbig : cap ≤ 9223372036854775807) :
    Calls Tryd.prog 57 #[.slice (some ⟨b, off, none⟩) n cap] w fun e w' => ∃ v, e = .returned v ∧ Bx w' v (bdN c n) (bdC c n) ∧ Below w.heap.size w w' := by
  have ct := indent_at hC h hn hcap
  obtain ⟨k, hk⟩ : ∃ k, indP c n = k := ⟨_, rfl⟩
  have hk4 := indP_four c n
  have hkn : k ≠ 4 → k ≤ n := fun h4 => by rw [← hk]; exact indP_le (by rw [hk]; exact h4)
  rw [hk] at ct hk4
  have HB : Hid (BC w (some ⟨b, off, none⟩) n c ∧ n ≤ cap) := ⟨h, hcap⟩
  have hN : bdN c n = if k = 4 then 0 else n - k := by unfold bdN; rw [hk]
  have hD : bdC c n = if k = 4 then fun _ => -1 else sf c k := by unfold bdC; rw [hk]
  have HN : Hid (bdN c n = (if k = 4 then 0 else n - k) ∧ bdC c n = if k = 4 then fun _ => -1 else sf c k) := ⟨hN, hD⟩
  clear hk hN hD h hC
  obtain ⟨Q, hQ⟩ : ∃ Q, (fun (e : Ending) (w' : World) => ∃ v, e = .returned v ∧ Bx w' v (bdN c n) (bdC c n) ∧ Below w.heap.size w w') = Q := ⟨_, rfl⟩
  have HQ : Hid ((fun (e : Ending) (w' : World) => ∃ v, e = .returned v ∧ Bx w' v (bdN c n) (bdC c n) ∧ Below w.heap.size w w') = Q) := hQ
  rw [hQ]
  clear hQ
  by_cases h4 : k = 4
  · subst h4
    go_enter Tryd.func57, Tryd.ntmps57
    go_wp2_with fail
    refine ct.mono ?_
    rintro e w1 ⟨rfl, hb⟩
    go_wp2
    rw [← HQ.out]
    exact ⟨_, rfl, by rw [HN.out.1, HN.out.2, if_pos trivial, if_pos trivial]; exact ⟨⟨none, 0, rfl, BC.zero _ _ _, Nat.le_refl _, by omega, Or.inl ⟨rfl, rfl, rfl⟩⟩⟩, hb⟩
  · have hkn' := hkn h4
    have z0 : ((k : Int) == 4) = false := by simp only [beq_eq_false_iff_ne]; omega
    have z1 : (0 : Int) ≤ (k : Int) := by omega
    have z2 : (k : Int) ≤ (n : Int) := by omega
    have z3 : (n : Int) ≤ (cap : Int) := by omega
    obtain ⟨adk, hadk⟩ : ∃ adk, (if cap = k then some (⟨b, off, none⟩ : Addr) else some ⟨b, off + k, none⟩) = adk := ⟨_, rfl⟩
    have HA : Hid ((if cap = k then some (⟨b, off, none⟩ : Addr) else some ⟨b, off + k, none⟩) = adk) := hadk
    go_enter Tryd.func57, Tryd.ntmps57
    go_wp2_with fail
    refine ct.mono ?_
    rintro e w1 ⟨rfl, hb⟩
    go_wp2
    rw [← HQ.out]
    refine ⟨_, rfl, ?_, hb⟩
    rw [HN.out.1, HN.out.2, if_neg h4, if_neg h4]
    have hfr := BC.from (HB.out.1.stay hb) k hkn' HB.out.2
    rw [HA.out] at hfr
    refine ⟨⟨adk, cap - k, rfl, hfr, by omega, by omega, Or.inr ?_⟩⟩
    have := HA.out
    split at this
    · exact ⟨b, off, this.symm⟩
    · exact ⟨b, off + k, this.symm⟩
end Go.Proofs.YtodjfeheagnnpaaDoor
