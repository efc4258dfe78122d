/- Tries as lists of nodes: no program in this text. -/
import Derived.Test.YtfikkkodepfdkaaDoortMem
namespace Go.Proofs.YtfikkkodepfdkaaDoor
set_option linter.unusedVariables false
def rl (s : ByteArray) (k : Nat) : List Int := (List.range k).map fun j => rn s (pos s j)
def pn0 : PN := ⟨[], [], false⟩
/-- One rune on. -/
def stepP (P : List PN) (i : Nat) (r : Int) : List PN × Nat :=
  match P[i]? with
  | none => (P, 0)
  | some n => if n.R.getLast? = some r then (P, n.K.getLastD 0) else (P.set i ⟨n.R ++ [r], n.K ++ [P.length], n.e⟩ ++ [pn0], P.length)
def walkP : List PN → Nat → List Int → List PN × Nat
  | P, i, [] => (P, i)
  | P, i, r :: rs => walkP (stepP P i r).1 (stepP P i r).2 rs
def endP (P : List PN) (i : Nat) : List PN :=
  match P[i]? with
  | none => P
  | some n => P.set i ⟨n.R, n.K, true⟩
def addP (P : List PN) (rs : List Int) : List PN := endP (walkP P 0 rs).1 (walkP P 0 rs).2
theorem walkP_snoc (P : List PN) (i : Nat) (rs : List Int) (r : Int) : walkP P i (rs ++ [r]) = stepP (walkP P i rs).1 (walkP P i rs).2 r := by
  induction rs generalizing P i with
  | nil => rfl
  | cons x rs ih => exact ih _ _
/-- Runes and kids stand side by side, kids are nodes. -/
def OkP (P : List PN) : Prop := ∀ n ∈ P, n.R.length = n.K.length ∧ (∀ c ∈ n.K, c < P.length) ∧ n.R.length ≤ P.length
theorem okP_step {P : List PN} (h : OkP P) {i : Nat} (hi : i < P.length) (r : Int) : OkP (stepP P i r).1 ∧ (stepP P i r).2 < (stepP P i r).1.length ∧ P.length ≤ (stepP P i r).1.length ∧ (stepP P i r).1.length ≤ P.length + 1 := by
  unfold stepP
  rw [List.getElem?_eq_getElem hi]
  dsimp only
  have hm := h P[i] (List.getElem_mem hi)
  split
  · rename_i hr
    refine ⟨h, ?_, Nat.le_refl _, Nat.le_succ _⟩
    cases hK : P[i].K.getLast? with
    | none =>
      have : P[i].K = [] := List.getLast?_eq_none_iff.1 hK
      have h0 : P[i].R.length = 0 := by rw [hm.1, this]; rfl
      rw [List.eq_nil_of_length_eq_zero h0] at hr
      cases hr
    | some c =>
      have hc := hm.2.1 c (List.mem_of_getLast? hK)
      rw [List.getLastD_eq_getLast?, hK]
      exact hc
  · refine ⟨?_, by simp, by simp, by simp⟩
    intro n hn
    have hlen : (P.set i ⟨P[i].R ++ [r], P[i].K ++ [P.length], P[i].e⟩ ++ [pn0]).length = P.length + 1 := by simp
    rw [hlen]
    rcases List.mem_append.1 hn with hn | hn
    · rcases List.mem_or_eq_of_mem_set hn with hn | rfl
      · have := h n hn
        exact ⟨this.1, fun c hc => Nat.lt_succ_of_lt (this.2.1 c hc), by omega⟩
      · refine ⟨by simp [hm.1], fun c hc => ?_, by simp; omega⟩
        rcases List.mem_append.1 hc with hc | hc
        · exact Nat.lt_succ_of_lt (hm.2.1 c hc)
        · simp at hc; omega
    · simp at hn; subst hn
      exact ⟨rfl, (fun c hc => absurd hc List.not_mem_nil), Nat.zero_le _⟩
theorem okP_walk {P : List PN} (h : OkP P) {i : Nat} (hi : i < P.length) (rs : List Int) : OkP (walkP P i rs).1 ∧ (walkP P i rs).2 < (walkP P i rs).1.length ∧ P.length ≤ (walkP P i rs).1.length ∧ (walkP P i rs).1.length ≤ P.length + rs.length := by
  induction rs generalizing P i with
  | nil => exact ⟨h, hi, Nat.le_refl _, Nat.le_refl _⟩
  | cons r rs ih =>
    obtain ⟨a, b, c, d⟩ := okP_step h hi r
    obtain ⟨a', b', c', d'⟩ := ih a b
    refine ⟨a', b', ?_, ?_⟩
    · exact Nat.le_trans c c'
    · show (walkP (stepP P i r).1 (stepP P i r).2 rs).1.length ≤ _
      simp only [List.length_cons]
      omega
theorem okP_end {P : List PN} (h : OkP P) (i : Nat) : OkP (endP P i) ∧ (endP P i).length = P.length := by
  unfold endP
  cases hn : P[i]? with
  | none => exact ⟨h, rfl⟩
  | some n =>
    dsimp only
    refine ⟨?_, List.length_set⟩
    intro x hx
    rw [List.length_set]
    rcases List.mem_or_eq_of_mem_set hx with hx | rfl
    · exact h x hx
    · exact h n (List.mem_of_getElem? hn)
theorem okP_add {P : List PN} (h : OkP P) (h0 : 0 < P.length) (rs : List Int) : OkP (addP P rs) ∧ P.length ≤ (addP P rs).length ∧ (addP P rs).length ≤ P.length + rs.length := by
  obtain ⟨a, b, c, d⟩ := okP_walk h h0 rs
  obtain ⟨e, f⟩ := okP_end a (walkP P 0 rs).2
  exact ⟨e, by unfold addP; rw [f]; exact c, by unfold addP; rw [f]; exact d⟩
end Go.Proofs.YtfikkkodepfdkaaDoor
