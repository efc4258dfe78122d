/- The reference: letters among signs, and those of a run. -/
import Derived.Test.YtbhjkkbempnjeaaDooruPure
import Derived.Test.YtbhjkkbempnjeaaDooruSml
import Derived.Test.YtbhjkkbempnjeaaDoorvTu
namespace Go.Proofs.YtbhjkkbempnjeaaDoor
set_option linter.unusedVariables false
open Go.RowKit Go.ChangeShapes
/-- The runes of signs. -/
def RU (l : List U3) (i : Nat) : Int := (l.getD i ⟨0, 0, 0⟩).r
theorem RU_at {l : List U3} {i : Nat} {x : U3} (h : l[i]? = some x) : RU l i = x.r := by
  unfold RU
  rw [List.getD_eq_getElem?_getD, h]
  rfl
/-- Signs whose runes fit. -/
def FitU (l : List U3) : Prop := ∀ u ∈ l, Fit u.r
theorem ltP_yes {R : Nat → Int} {k i : Nat} (h : i < k) : ltP R k i = lB (R i) := by
  unfold ltP
  rw [show decide (i < k) = true by simpa using h]
  rfl
theorem ltP_no {R : Nat → Int} {k i : Nat} (h : ¬ i < k) : ltP R k i = false := by
  unfold ltP
  rw [show decide (i < k) = false by simpa using h]
  rfl
theorem rlet_any {w : World} {v : Value} {l : List U3} (h : US w v l) (hF : FitU l) (i : Nat) :
    Calls Tryd.prog 45 #[v, .int .i64 (i : Int)] w fun e w' => e = .returned (.bool (ltP (RU l) l.length i)) ∧ w' = w := by
  obtain ⟨A, C, rfl, hC, hh⟩ := h
  have z0 : (0 : Int) ≤ (i : Int) := by omega
  by_cases hi : i < l.length
  · obtain ⟨x, hx⟩ : ∃ x, l[i]? = some x := ⟨_, List.getElem?_eq_getElem hi⟩
    obtain ⟨b, off, rfl, hbl, a1, a2, a3⟩ := hh i x hx
    have c := rletter_any x.r (hF _ (List.mem_of_getElem? hx)) w
    rw [ltP_yes hi, RU_at hx]
    obtain ⟨r, hr⟩ : ∃ r, x.r = r := ⟨_, rfl⟩
    rw [hr] at a1 c ⊢
    obtain ⟨n, hn⟩ : ∃ n, l.length = n := ⟨_, rfl⟩
    rw [hn] at hi ⊢
    have z1 : (i : Int) < (n : Int) := by omega
    clear hn hr hh hx a2 a3 hC hF hbl hi
    go_enter Tryd.func45, Tryd.ntmps45
    go_wp2_with fail
    refine c.mono ?_
    rintro e w1 ⟨rfl, hw1⟩
    subst w1
    go_wp2
    go_ret
    exact ⟨rfl, rfl⟩
  · rw [ltP_no hi]
    obtain ⟨n, hn⟩ : ∃ n, l.length = n := ⟨_, rfl⟩
    rw [hn] at hi ⊢
    have z1 : ¬ (i : Int) < (n : Int) := by omega
    clear hn hh hC hF hi
    go_enter Tryd.func45, Tryd.ntmps45
    go_wp2
    go_ret
    exact ⟨rfl, rfl⟩
theorem inn_let {R : Nat → Int} {k i : Nat} (h : ltP R k i = true) : inn R k i = true := by unfold inn; rw [h]; rfl
theorem inn_zero {R : Nat → Int} {k i : Nat} (h : ltP R k i = false) (h0 : ¬ 0 < i) : inn R k i = false := by
  unfold inn
  rw [h, show decide (0 < i) = false by simpa using h0]
  rfl
theorem inn_sign {R : Nat → Int} {k i : Nat} (h : ltP R k i = false) (h0 : ¬ R i = 39) : inn R k i = false := by
  unfold inn
  rw [h, show (R i == 39) = false from beq_eq_false_iff_ne.2 h0]
  simp
theorem inn_ap {R : Nat → Int} {k i : Nat} (h : ltP R k i = false) (h0 : 0 < i) (h1 : i < k) (h2 : R i = 39) : inn R k i = (ltP R k (i - 1) && ltP R k (i + 1)) := by
  unfold inn
  rw [h, h2, show decide (0 < i) = true by simpa using h0, show decide (i < k) = true by simpa using h1]
  rfl
set_option maxHeartbeats 2000000 in
set_option maxRecDepth 100000 in
theorem rinn_any {w : World} {v : Value} {l : List U3} (h : US w v l) (hF : FitU l) (hk : l.length ≤ 1000000) (i : Nat) (hi : i ≤ 1000000) :
    Calls Tryd.prog 27 #[v, .int .i64 (i : Int)] w fun e w' => e = .returned (.bool (inn (RU l) l.length i)) ∧ w' = w := by
  have CL : Hid (∀ j : Nat, Calls Tryd.prog 45 #[v, .int .i64 (j : Int)] w fun e w' => e = .returned (.bool (ltP (RU l) l.length j)) ∧ w' = w) := fun j => rlet_any h hF j
  obtain ⟨A, C, rfl, hC, hh⟩ := h
  have c1 := CL.out i
  obtain ⟨n, hn⟩ : ∃ n, l.length = n := ⟨_, rfl⟩
  have HN : Hid (l.length = n) := hn
  cases h1 : ltP (RU l) l.length i
  · rw [h1] at c1
    by_cases h0 : 0 < i
    · obtain ⟨m, rfl⟩ : ∃ m, i = m + 1 := ⟨i - 1, by omega⟩
      have c2 := CL.out m
      have c3 := CL.out (m + 2)
      by_cases hlt : m + 1 < l.length
      · obtain ⟨x, hx⟩ : ∃ x, l[m + 1]? = some x := ⟨_, List.getElem?_eq_getElem hlt⟩
        obtain ⟨b, off, rfl, hbl, a1, a2, a3⟩ := hh (m + 1) x hx
        have hRx := RU_at hx
        obtain ⟨r, hr⟩ : ∃ r, x.r = r := ⟨_, rfl⟩
        rw [hr] at a1 hRx
        have HI : Hid (inn (RU l) l.length (m + 1) = if r = 39 then (ltP (RU l) l.length m && ltP (RU l) l.length (m + 2)) else false) := by
          show _ = _
          split
          · rename_i h39
            rw [inn_ap h1 h0 hlt (by rw [hRx]; exact h39)]
            rfl
          · rename_i h39
            exact inn_sign h1 (by rw [hRx]; exact h39)
        obtain ⟨B, hB⟩ : ∃ B, inn (RU l) l.length (m + 1) = B := ⟨_, rfl⟩
        rw [hB] at HI ⊢
        obtain ⟨B2, hB2⟩ : ∃ B, ltP (RU l) l.length m = B := ⟨_, rfl⟩
        obtain ⟨B3, hB3⟩ : ∃ B, ltP (RU l) l.length (m + 2) = B := ⟨_, rfl⟩
        rw [hB2] at c2 HI
        rw [hB3] at c3 HI
        rw [hn] at hlt hC c1 c2 c3 ⊢
        obtain ⟨I, hI⟩ : ∃ I : Int, ((m + 1 : Nat) : Int) = I := ⟨_, rfl⟩
        obtain ⟨J, hJ⟩ : ∃ J : Int, ((m : Nat) : Int) = J := ⟨_, rfl⟩
        obtain ⟨K, hK⟩ : ∃ K : Int, ((m + 2 : Nat) : Int) = K := ⟨_, rfl⟩
        rw [hI] at c1 ⊢
        rw [hJ] at c2
        rw [hK] at c3
        have z0 : 0 < I := by omega
        have z4 : 0 ≤ I := by omega
        have z1 : I < (n : Int) := by omega
        have z2 : IntKind.i64.wrap (I - 1) = J := by rw [IntWalk.i64_in _ (by omega)]; omega
        have z3 : IntKind.i64.wrap (I + 1) = K := by rw [IntWalk.i64_in _ (by omega)]; omega
        have z6 : (I.toNat) = m + 1 := by omega
        clear hh hx hr hRx h1 hF a2 a3 CL hn hlt h0 hbl hB hB2 hB3 hI hJ hK HN hC
        by_cases h39 : r = 39
        · subst h39
          rw [if_pos rfl] at HI
          cases B2
          · obtain rfl : B = false := HI.out
            go_enter Tryd.func27, Tryd.ntmps27
            go_wp2_with fail
            refine c1.mono ?_
            rintro e w1 ⟨rfl, hw1⟩
            subst w1
            go_wp2_with fail
            refine c2.mono ?_
            rintro e w1 ⟨rfl, hw1⟩
            subst w1
            go_wp2
            go_ret
            exact ⟨rfl, rfl⟩
          · obtain rfl : B = B3 := HI.out
            go_enter Tryd.func27, Tryd.ntmps27
            go_wp2_with fail
            refine c1.mono ?_
            rintro e w1 ⟨rfl, hw1⟩
            subst w1
            go_wp2_with fail
            refine c2.mono ?_
            rintro e w1 ⟨rfl, hw1⟩
            subst w1
            go_wp2_with fail
            refine c3.mono ?_
            rintro e w1 ⟨rfl, hw1⟩
            subst w1
            go_wp2
            go_ret
            exact ⟨rfl, rfl⟩
        · rw [if_neg h39] at HI
          obtain rfl : B = false := HI.out
          have z5 : (r == 39) = false := beq_eq_false_iff_ne.2 h39
          clear h39
          go_enter Tryd.func27, Tryd.ntmps27
          go_wp2_with fail
          refine c1.mono ?_
          rintro e w1 ⟨rfl, hw1⟩
          subst w1
          go_wp2
          go_ret
          exact ⟨rfl, rfl⟩
      · rw [inn_ge (by omega)]
        rw [hn] at hlt hC c1 ⊢
        obtain ⟨I, hI⟩ : ∃ I : Int, ((m + 1 : Nat) : Int) = I := ⟨_, rfl⟩
        rw [hI] at c1 ⊢
        have z0 : 0 < I := by omega
        have z1 : ¬ I < (n : Int) := by omega
        clear hh h1 hC hF CL hn hlt h0 hI c2 c3 HN
        go_enter Tryd.func27, Tryd.ntmps27
        go_wp2_with fail
        refine c1.mono ?_
        rintro e w1 ⟨rfl, hw1⟩
        subst w1
        go_wp2
        go_ret
        exact ⟨rfl, rfl⟩
    · obtain rfl : i = 0 := by omega
      rw [inn_zero h1 (by omega)]
      rw [hn] at c1 ⊢
      clear hh h1 hC hF CL hn h0 HN
      go_enter Tryd.func27, Tryd.ntmps27
      go_wp2_with fail
      refine c1.mono ?_
      rintro e w1 ⟨rfl, hw1⟩
      subst w1
      go_wp2
      go_ret
      exact ⟨rfl, rfl⟩
  · rw [h1] at c1
    rw [inn_let h1]
    rw [hn] at c1 ⊢
    clear hh h1 hC hF CL hn HN
    go_enter Tryd.func27, Tryd.ntmps27
    go_wp2_with fail
    refine c1.mono ?_
    rintro e w1 ⟨rfl, hw1⟩
    subst w1
    go_wp2
    go_ret
    exact ⟨rfl, rfl⟩
end Go.Proofs.YtbhjkkbempnjeaaDoor
