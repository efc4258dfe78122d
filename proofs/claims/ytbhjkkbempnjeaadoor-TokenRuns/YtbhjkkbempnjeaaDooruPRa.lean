/- token: letters among signs, runs. -/
import Derived.Test.YtbhjkkbempnjeaaDooruRun
import Derived.Test.YtbhjkkbempnjeaaDooruSam
namespace Go.Proofs.YtbhjkkbempnjeaaDoor
set_option linter.unusedVariables false
open Go.RowKit Go.ChangeShapes
/-- Is there a letter at a place? -/
def ltZ (R : Nat → Int) (k : Nat) (i : Int) : Bool := decide (0 ≤ i) && ltP R k i.toNat
theorem ltZ_neg {R : Nat → Int} {k : Nat} {i : Int} (h : ¬ 0 ≤ i) : ltZ R k i = false := by
  unfold ltZ
  rw [show decide (0 ≤ i) = false by simpa using h]
  rfl
theorem ltZ_nat {R : Nat → Int} {k i : Nat} : ltZ R k (i : Int) = ltP R k i := by
  unfold ltZ
  rw [show decide (0 ≤ (i : Int)) = true by simp]
  rfl
theorem tlet_any {w : World} {v : Value} {l : List U3} (h : US w v l) (hF : FitU l) (I : Int) :
    Calls Tryd.prog 44 #[v, .int .i64 I] w fun e w' => e = .returned (.bool (ltZ (RU l) l.length I)) ∧ w' = w := by
  obtain ⟨A, C, rfl, hC, hh⟩ := h
  by_cases h0 : 0 ≤ I
  · obtain ⟨i, rfl⟩ : ∃ i : Nat, I = (i : Int) := ⟨I.toNat, by omega⟩
    rw [ltZ_nat]
    by_cases hi : i < l.length
    · obtain ⟨x, hx⟩ : ∃ x, l[i]? = some x := ⟨_, List.getElem?_eq_getElem hi⟩
      obtain ⟨b, off, rfl, hbl, a1, a2, a3⟩ := hh i x hx
      have c := letter_any x.r (hF _ (List.mem_of_getElem? hx)) w
      rw [ltP_yes hi, RU_at hx]
      obtain ⟨r, hr⟩ : ∃ r, x.r = r := ⟨_, rfl⟩
      rw [hr] at a1 c ⊢
      obtain ⟨n, hn⟩ : ∃ n, l.length = n := ⟨_, rfl⟩
      rw [hn] at hi ⊢
      have z1 : (i : Int) < (n : Int) := by omega
      clear hn hr hh hx a2 a3 hC hF hbl hi
      go_enter Tryd.func44, Tryd.ntmps44
      go_wp2_with fail
      refine c.mono ?_
      rintro e w1 ⟨rfl, hw1⟩
      subst w1
      go_wp2
      go_ret
      exact ⟨rfl, rfl⟩
    · rw [ltP_no hi]
      obtain ⟨n, hn⟩ : ∃ n, l.length = n := ⟨_, rfl⟩
      rw [hn] at hi ⊢
      have z1 : ¬ (i : Int) < (n : Int) := by omega
      clear hn hh hC hF hi
      go_enter Tryd.func44, Tryd.ntmps44
      go_wp2
      go_ret
      exact ⟨rfl, rfl⟩
  · rw [ltZ_neg h0]
    clear hh hC hF
    go_enter Tryd.func44, Tryd.ntmps44
    go_wp2
    go_ret
    exact ⟨rfl, rfl⟩
theorem inn_cnt {R : Nat → Int} {k i : Nat} (hi : i < k) (h : R i = 39) : inn R k i = (ltZ R k ((i : Int) - 1) && ltP R k (i + 1)) := by
  have e : ltP R k i = false := by
    unfold ltP
    rw [h, show lB 39 = false by decide]
    simp
  by_cases h0 : 0 < i
  · rw [inn_ap e h0 hi h, show (i : Int) - 1 = ((i - 1 : Nat) : Int) by omega, ltZ_nat]
  · rw [inn_zero e h0, ltZ_neg (by omega)]
    rfl
set_option maxHeartbeats 2000000 in
set_option maxRecDepth 100000 in
theorem tcnt_any {w : World} {v : Value} {l : List U3} (h : US w v l) (hF : FitU l) (hk : l.length ≤ 1000000) (i : Nat) (hi : i < l.length) :
    Calls Tryd.prog 26 #[v, .int .i64 (i : Int)] w fun e w' => e = .returned (.bool (inn (RU l) l.length i)) ∧ w' = w := by
  have CL : Hid (∀ j : Int, Calls Tryd.prog 44 #[v, .int .i64 j] w fun e w' => e = .returned (.bool (ltZ (RU l) l.length j)) ∧ w' = w) := fun j => tlet_any h hF j
  obtain ⟨A, C, rfl, hC, hh⟩ := h
  obtain ⟨x, hx⟩ : ∃ x, l[i]? = some x := ⟨_, List.getElem?_eq_getElem hi⟩
  obtain ⟨b, off, rfl, hbl, a1, a2, a3⟩ := hh i x hx
  have hRx := RU_at hx
  obtain ⟨r, hr⟩ : ∃ r, x.r = r := ⟨_, rfl⟩
  rw [hr] at a1 hRx
  have z0 : (0 : Int) ≤ (i : Int) := by omega
  have c1 := CL.out (i : Int)
  have c2 := CL.out ((i : Int) - 1)
  have c3 := CL.out (((i + 1 : Nat)) : Int)
  rw [ltZ_nat] at c1 c3
  by_cases h39 : r = 39
  · subst h39
    have e := inn_cnt hi hRx
    rw [e]
    obtain ⟨B2, hB2⟩ : ∃ B, ltZ (RU l) l.length ((i : Int) - 1) = B := ⟨_, rfl⟩
    obtain ⟨B3, hB3⟩ : ∃ B, ltP (RU l) l.length (i + 1) = B := ⟨_, rfl⟩
    rw [hB2] at c2 ⊢
    rw [hB3] at c3 ⊢
    obtain ⟨n, hn⟩ : ∃ n, l.length = n := ⟨_, rfl⟩
    rw [hn] at hi hC c2 c3 hk ⊢
    have z1 : (i : Int) < (n : Int) := by omega
    obtain ⟨J, hJ⟩ : ∃ J : Int, (i : Int) - 1 = J := ⟨_, rfl⟩
    have z2 : IntKind.i64.wrap ((i : Int) - 1) = J := by rw [IntWalk.i64_in _ (by omega)]; omega
    obtain ⟨K, hK⟩ : ∃ K : Int, ((i + 1 : Nat) : Int) = K := ⟨_, rfl⟩
    have z3 : IntKind.i64.wrap ((i : Int) + 1) = K := by rw [IntWalk.i64_in _ (by omega)]; omega
    rw [hJ] at c2
    rw [hK] at c3
    clear CL hh hx hr a2 a3 c1 e hRx hn hB2 hB3 hF hbl hJ hK hC
    cases B2
    · go_enter Tryd.func26, Tryd.ntmps26
      go_wp2_with fail
      refine c2.mono ?_
      rintro e w1 ⟨rfl, hw1⟩
      subst w1
      go_wp2
      go_ret
      exact ⟨rfl, rfl⟩
    · go_enter Tryd.func26, Tryd.ntmps26
      go_wp2_with fail
      refine c2.mono ?_
      rintro e w1 ⟨rfl, hw1⟩
      subst w1
      go_wp2_with fail
      refine c3.mono ?_
      rintro e w1 ⟨rfl, hw1⟩
      subst w1
      go_wp2
      go_ret
      exact ⟨rfl, rfl⟩
  · have e : inn (RU l) l.length i = ltP (RU l) l.length i := by
      cases hl : ltP (RU l) l.length i
      · exact inn_sign hl (by rw [hRx]; exact h39)
      · exact inn_let hl
    rw [e]
    obtain ⟨B1, hB1⟩ : ∃ B, ltP (RU l) l.length i = B := ⟨_, rfl⟩
    rw [hB1] at c1 ⊢
    obtain ⟨n, hn⟩ : ∃ n, l.length = n := ⟨_, rfl⟩
    rw [hn] at hi hC c1 hk ⊢
    have z1 : (i : Int) < (n : Int) := by omega
    have z5 : (r == 39) = false := beq_eq_false_iff_ne.2 h39
    clear CL hh hx hr a2 a3 c2 c3 e hRx hn hB1 hF hbl hC h39
    go_enter Tryd.func26, Tryd.ntmps26
    go_wp2_with fail
    refine c1.mono ?_
    rintro e w1 ⟨rfl, hw1⟩
    subst w1
    go_wp2
    go_ret
    exact ⟨rfl, rfl⟩
end Go.Proofs.YtbhjkkbempnjeaaDoor
