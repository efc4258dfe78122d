/- Nodes and their beginnings: no program in this text. -/
import Derived.Test.YtfikkkodepfdkaaDoortBin
import Derived.Test.YtfikkkodepfdkaaDoortOrd
namespace Go.Proofs.YtfikkkodepfdkaaDoor
set_option linter.unusedVariables false
/-- B: each node's beginning; W: words that the nodes are beginnings of. -/
structure Inv (W : List (List Int)) (P : List PN) (B : List (List Int)) : Prop where
  ok : OkP P
  len : B.length = P.length
  b0 : B[0]? = some []
  kid : ∀ (i : Nat) (n : PN) (j : Nat) (r : Int) (c : Nat) (p : List Int), P[i]? = some n → B[i]? = some p → n.R[j]? = some r → n.K[j]? = some c → B[c]? = some (p ++ [r])
  uniq : ∀ (i j : Nat) (p : List Int), B[i]? = some p → B[j]? = some p → i = j
  up : ∀ (c : Nat) (p : List Int) (r : Int), B[c]? = some (p ++ [r]) → ∃ (i : Nat) (n : PN) (j : Nat), P[i]? = some n ∧ B[i]? = some p ∧ n.R[j]? = some r ∧ n.K[j]? = some c
  rise : ∀ (i : Nat) (n : PN), P[i]? = some n → Up2 n.R
  pre : ∀ (i : Nat) (p : List Int), B[i]? = some p → p = [] ∨ ∃ u ∈ W, p <+: u
/-- D: the words that end at nodes. -/
structure EndI (D : List (List Int)) (P : List PN) (B : List (List Int)) : Prop where
  has : ∀ u ∈ D, ∃ c : Nat, B[c]? = some u
  iff : ∀ (i : Nat) (n : PN) (p : List Int), P[i]? = some n → B[i]? = some p → (n.e = true ↔ p ∈ D)
theorem lt_after (p : List Int) : ∀ (a b : List Int), p ++ a < p ++ b → a < b := by
  induction p with
  | nil => exact fun a b h => h
  | cons x p ih =>
    intro a b h
    rcases List.cons_lt_cons_iff.1 h with h1 | ⟨_, h1⟩
    · omega
    · exact ih a b h1
/-- The runes at a node on the way of the last word are none above the next. -/
theorem Inv.le {W : List (List Int)} {P : List PN} {B : List (List Int)} (h : Inv W P B) {u : List Int} (hW : ∀ x ∈ W, x = u ∨ x < u) {i : Nat} {n : PN} {p : List Int} {r : Int} (hn : P[i]? = some n) (hp : B[i]? = some p) (hu : p ++ [r] <+: u) : ∀ x ∈ n.R, x ≤ r := by
  intro x hx
  obtain ⟨j, hj⟩ := List.getElem?_of_mem hx
  have hl := h.ok n (List.mem_of_getElem? hn)
  have hjl := (List.getElem?_eq_some_iff.1 hj).1
  have hK : n.K[j]? = some (n.K[j]'(by omega)) := List.getElem?_eq_getElem (by omega)
  have hb := h.kid i n j x _ p hn hp hj hK
  rcases h.pre _ _ hb with e | ⟨y, hy, z, hz⟩
  · simp at e
  · obtain ⟨t, ht⟩ := hu
    rcases hW y hy with e | e
    · rw [e, ← ht, List.append_assoc, List.append_assoc] at hz
      have := List.append_cancel_left hz
      simp at this
      omega
    · rw [← hz, ← ht, List.append_assoc, List.append_assoc] at e
      have h3 := lt_after p _ _ e
      rcases List.cons_lt_cons_iff.1 h3 with h4 | ⟨h4, _⟩ <;> omega
theorem at_new {P : List PN} {i k : Nat} {n' m : PN} (h : (P.set i n' ++ [pn0])[k]? = some m) : (k ≠ i ∧ P[k]? = some m) ∨ (k = i ∧ m = n') ∨ (k = P.length ∧ m = pn0) := by
  by_cases hk : k < P.length
  · rw [List.getElem?_append_left (by rw [List.length_set]; exact hk), List.getElem?_set] at h
    by_cases e : i = k
    · rw [if_pos e, if_pos (by omega)] at h
      exact Or.inr (Or.inl ⟨e.symm, (Option.some.inj h).symm⟩)
    · rw [if_neg e] at h
      exact Or.inl ⟨fun e2 => e e2.symm, h⟩
  · rw [List.getElem?_append_right (by rw [List.length_set]; omega), List.length_set] at h
    match hj : k - P.length, h with
    | 0, h => exact Or.inr (Or.inr ⟨by omega, by simpa using h.symm⟩)
    | q + 1, h => simp at h
theorem at_end {B : List (List Int)} {k : Nat} {x q : List Int} (h : (B ++ [x])[k]? = some q) : B[k]? = some q ∨ (k = B.length ∧ q = x) := by
  by_cases hk : k < B.length
  · rw [List.getElem?_append_left hk] at h; exact Or.inl h
  · rw [List.getElem?_append_right (by omega)] at h
    match hj : k - B.length, h with
    | 0, h => exact Or.inr ⟨by omega, by simpa using h.symm⟩
    | q + 1, h => simp at h
theorem old_end {B : List (List Int)} {k : Nat} {q : List Int} (x : List Int) (h : B[k]? = some q) : (B ++ [x])[k]? = some q := by
  rw [List.getElem?_append_left (List.getElem?_eq_some_iff.1 h).1]; exact h
theorem step_inv {W : List (List Int)} {P : List PN} {B : List (List Int)} (h : Inv W P B) {u : List Int} (hW : ∀ x ∈ W, x = u ∨ x < u) (huW : u ∈ W) {i : Nat} {p : List Int} {r : Int} (hp : B[i]? = some p) (hu : p ++ [r] <+: u) :
    ∃ B', Inv W (stepP P i r).1 B' ∧ B'[(stepP P i r).2]? = some (p ++ [r]) ∧ (∀ D, EndI D P B → EndI D (stepP P i r).1 B') := by
  have hi : i < P.length := by have := (List.getElem?_eq_some_iff.1 hp).1; have := h.len; omega
  obtain ⟨n, hn⟩ : ∃ n, P[i]? = some n := ⟨_, List.getElem?_eq_getElem hi⟩
  have hle := h.le hW hn hp hu
  have hok := h.ok n (List.mem_of_getElem? hn)
  have hri := h.rise i n hn
  unfold stepP
  rw [hn]
  dsimp only
  by_cases hr : n.R.getLast? = some r
  · rw [if_pos hr]
    refine ⟨B, h, ?_, fun D hD => hD⟩
    have hR : n.R[n.R.length - 1]? = some r := by rw [← List.getLast?_eq_getElem?]; exact hr
    have hRl := (List.getElem?_eq_some_iff.1 hR).1
    have hK : n.K[n.R.length - 1]? = some (n.K.getLastD 0) := by
      rw [hok.1, List.getLastD_eq_getLast?, ← List.getLast?_eq_getElem?]
      cases hg : n.K.getLast? with
      | none =>
        have : n.K = [] := List.getLast?_eq_none_iff.1 hg
        rw [this] at hok
        simp at hok
        rw [hok.1] at hRl
        simp at hRl
      | some c => rfl
    exact h.kid i n _ r _ p hn hp hR hK
  · rw [if_neg hr]
    have hlt : ∀ x ∈ n.R, x < r := by
      intro x hx
      have h1 := hle x hx
      by_cases e : x = r
      · subst e
        exfalso
        obtain ⟨j, hj⟩ := List.getElem?_of_mem hx
        have hjl := (List.getElem?_eq_some_iff.1 hj).1
        by_cases e2 : j = n.R.length - 1
        · subst e2
          exact hr (by rw [List.getLast?_eq_getElem?]; exact hj)
        · have hq : n.R[n.R.length - 1]? = some (n.R[n.R.length - 1]'(by omega)) := List.getElem?_eq_getElem (by omega)
          have h2 := hri.lt hj hq (by omega)
          have h3 := hle _ (List.mem_of_getElem? hq)
          omega
      · omega
    have ho := (okP_step h.ok hi r).1
    unfold stepP at ho
    rw [hn] at ho
    dsimp only at ho
    rw [if_neg hr] at ho
    have hno : ∀ c : Nat, B[c]? ≠ some (p ++ [r]) := by
      intro c hc
      obtain ⟨i2, n2, j, e1, e2, e3, _⟩ := h.up c p r hc
      obtain rfl := h.uniq i2 i p e2 hp
      rw [hn] at e1
      cases e1
      have := hlt r (List.mem_of_getElem? e3)
      omega
    have hin : (P.set i ⟨n.R ++ [r], n.K ++ [P.length], n.e⟩ ++ [pn0])[i]? = some ⟨n.R ++ [r], n.K ++ [P.length], n.e⟩ := by
      rw [List.getElem?_append_left (by rw [List.length_set]; exact hi), List.getElem?_set_self hi]
    refine ⟨B ++ [p ++ [r]], ⟨ho, by simp [h.len], ?_, ?_, ?_, ?_, ?_, ?_⟩, ?_, ?_⟩
    · exact old_end _ h.b0
    · intro k m j x c q hm hq hj hc
      rcases at_new hm with ⟨_, hm⟩ | ⟨rfl, rfl⟩ | ⟨_, rfl⟩
      · have hkl := (List.getElem?_eq_some_iff.1 hm).1
        rcases at_end hq with hq | ⟨e, _⟩
        · exact old_end _ (h.kid k m j x c q hm hq hj hc)
        · have := h.len; omega
      · rcases at_end hq with hq | ⟨e, _⟩
        · rw [hp] at hq
          cases hq
          dsimp only at hj hc
          by_cases hjl : j < n.R.length
          · rw [List.getElem?_append_left hjl] at hj
            rw [List.getElem?_append_left (by omega)] at hc
            exact old_end _ (h.kid k n j x c p hn hp hj hc)
          · have e : j = n.R.length := by
              have := (List.getElem?_eq_some_iff.1 hj).1
              simp at this
              omega
            subst e
            rw [List.getElem?_append_right (Nat.le_refl _), Nat.sub_self] at hj
            rw [hok.1, List.getElem?_append_right (Nat.le_refl _), Nat.sub_self] at hc
            simp at hj hc
            subst hj hc
            rw [← h.len, List.getElem?_append_right (Nat.le_refl _), Nat.sub_self]
            rfl
        · have := h.len; omega
      · simp [pn0] at hj
    · intro k k' q hk hk'
      rcases at_end hk with hk | ⟨e1, e2⟩ <;> rcases at_end hk' with hk' | ⟨e3, e4⟩
      · exact h.uniq k k' q hk hk'
      · rw [e4] at hk; exact absurd hk (hno k)
      · rw [e2] at hk'; exact absurd hk' (hno k')
      · omega
    · intro c q x hc
      rcases at_end hc with hc | ⟨e1, e2⟩
      · obtain ⟨i2, n2, j, f1, f2, f3, f4⟩ := h.up c q x hc
        by_cases e : i2 = i
        · subst e
          rw [hn] at f1
          cases f1
          refine ⟨i2, _, j, hin, old_end _ f2, ?_, ?_⟩
          · dsimp only
            rw [List.getElem?_append_left (List.getElem?_eq_some_iff.1 f3).1]; exact f3
          · dsimp only
            rw [List.getElem?_append_left (List.getElem?_eq_some_iff.1 f4).1]; exact f4
        · refine ⟨i2, n2, j, ?_, old_end _ f2, f3, f4⟩
          rw [List.getElem?_append_left (by rw [List.length_set]; exact (List.getElem?_eq_some_iff.1 f1).1), List.getElem?_set, if_neg (fun h => e h.symm)]
          exact f1
      · have e3 := List.append_inj' e2 rfl
        obtain ⟨rfl, e4⟩ := e3
        simp at e4
        subst e4
        refine ⟨i, _, n.R.length, hin, old_end _ hp, ?_, ?_⟩
        · dsimp only
          rw [List.getElem?_append_right (Nat.le_refl _), Nat.sub_self]; rfl
        · dsimp only
          rw [hok.1, List.getElem?_append_right (Nat.le_refl _), Nat.sub_self, e1, h.len]; rfl
    · intro k m hm
      rcases at_new hm with ⟨_, hm⟩ | ⟨rfl, rfl⟩ | ⟨_, rfl⟩
      · exact h.rise k m hm
      · exact List.pairwise_append.2 ⟨hri, List.pairwise_singleton _ _, fun a ha b hb => by simp at hb; subst hb; exact hlt a ha⟩
      · exact List.Pairwise.nil
    · intro k q hk
      rcases at_end hk with hk | ⟨_, rfl⟩
      · exact h.pre k q hk
      · exact Or.inr ⟨u, huW, hu⟩
    · show (B ++ [p ++ [r]])[P.length]? = _
      rw [← h.len, List.getElem?_append_right (Nat.le_refl _), Nat.sub_self]
      rfl
    · intro D hD
      refine ⟨fun x hx => ?_, fun k m q hm hq => ?_⟩
      · obtain ⟨c, hc⟩ := hD.has x hx
        exact ⟨c, old_end _ hc⟩
      · rcases at_new hm with ⟨_, hm⟩ | ⟨rfl, rfl⟩ | ⟨e, rfl⟩
        · have hkl := (List.getElem?_eq_some_iff.1 hm).1
          rcases at_end hq with hq | ⟨e, _⟩
          · exact hD.iff k m q hm hq
          · have := h.len; omega
        · rcases at_end hq with hq | ⟨e, _⟩
          · exact hD.iff k n q hn hq
          · have := h.len; omega
        · rcases at_end hq with hq | ⟨_, rfl⟩
          · have := (List.getElem?_eq_some_iff.1 hq).1
            have := h.len
            omega
          · refine ⟨fun hf => by simp [pn0] at hf, fun hm2 => ?_⟩
            obtain ⟨c, hc⟩ := hD.has _ hm2
            exact absurd hc (hno c)
theorem walk_inv {W : List (List Int)} {u : List Int} (hW : ∀ x ∈ W, x = u ∨ x < u) (huW : u ∈ W) : ∀ (rest : List Int) (P : List PN) (B : List (List Int)) (i : Nat) (p : List Int), Inv W P B → B[i]? = some p → p ++ rest <+: u →
    ∃ B', Inv W (walkP P i rest).1 B' ∧ B'[(walkP P i rest).2]? = some (p ++ rest) ∧ (∀ D, EndI D P B → EndI D (walkP P i rest).1 B')
  | [], P, B, i, p, h, hp, _ => ⟨B, h, by rw [List.append_nil]; exact hp, fun D hD => hD⟩
  | r :: rest, P, B, i, p, h, hp, hu => by
    have e : p ++ r :: rest = (p ++ [r]) ++ rest := by simp
    rw [e] at hu ⊢
    obtain ⟨B1, h1, h2, h3⟩ := step_inv h hW huW hp ((List.prefix_append _ _).trans hu)
    obtain ⟨B2, h4, h5, h6⟩ := walk_inv hW huW rest _ B1 _ _ h1 h2 hu
    exact ⟨B2, h4, h5, fun D hD => h6 D (h3 D hD)⟩
theorem end_at {P : List PN} {i k : Nat} {m : PN} (h : (endP P i)[k]? = some m) : ∃ n, P[k]? = some n ∧ m.R = n.R ∧ m.K = n.K ∧ (k ≠ i → m = n) ∧ (k = i → m.e = true) := by
  unfold endP at h
  cases hn : P[i]? with
  | none =>
    rw [hn] at h
    refine ⟨m, h, rfl, rfl, fun _ => rfl, fun e => ?_⟩
    subst e
    rw [hn] at h
    cases h
  | some n =>
    rw [hn] at h
    dsimp only at h
    rw [List.getElem?_set] at h
    by_cases e : i = k
    · subst e
      rw [if_pos rfl, if_pos (List.getElem?_eq_some_iff.1 hn).1] at h
      cases h
      exact ⟨n, hn, rfl, rfl, fun e => absurd rfl e, fun _ => rfl⟩
    · rw [if_neg e] at h
      exact ⟨m, h, rfl, rfl, fun _ => rfl, fun e2 => absurd e2.symm e⟩
theorem end_to {P : List PN} {i k : Nat} {n : PN} (h : P[k]? = some n) : ∃ m, (endP P i)[k]? = some m ∧ m.R = n.R ∧ m.K = n.K := by
  have hl : k < (endP P i).length := by
    have := (List.getElem?_eq_some_iff.1 h).1
    unfold endP
    cases P[i]? with
    | none => exact this
    | some x => dsimp only; rw [List.length_set]; exact this
  have hm : (endP P i)[k]? = some (endP P i)[k] := List.getElem?_eq_getElem hl
  obtain ⟨n', h1, h2, h3, _⟩ := end_at hm
  rw [h] at h1
  cases h1
  exact ⟨_, hm, h2, h3⟩
theorem end_inv {W : List (List Int)} {P : List PN} {B : List (List Int)} (h : Inv W P B) (i : Nat) : Inv W (endP P i) B := by
  obtain ⟨o1, o2⟩ := okP_end h.ok i
  refine ⟨o1, by rw [o2]; exact h.len, h.b0, ?_, h.uniq, ?_, ?_, h.pre⟩
  · intro k m j r c p hm hp hj hc
    obtain ⟨n, h1, h2, h3, _⟩ := end_at hm
    rw [h2] at hj
    rw [h3] at hc
    exact h.kid k n j r c p h1 hp hj hc
  · intro c p r hc
    obtain ⟨k, n, j, h1, h2, h3, h4⟩ := h.up c p r hc
    obtain ⟨m, h5, h6, h7⟩ := end_to (i := i) h1
    exact ⟨k, m, j, h5, h2, by rw [h6]; exact h3, by rw [h7]; exact h4⟩
  · intro k m hm
    obtain ⟨n, h1, h2, _⟩ := end_at hm
    rw [h2]; exact h.rise k n h1
theorem end_end {W D : List (List Int)} {P : List PN} {B : List (List Int)} (h : Inv W P B) (hD : EndI D P B) {i : Nat} {u : List Int} (hu : B[i]? = some u) : EndI (u :: D) (endP P i) B := by
  refine ⟨fun x hx => ?_, fun k m p hm hp => ?_⟩
  · rcases List.mem_cons.1 hx with rfl | hx
    · exact ⟨i, hu⟩
    · exact hD.has x hx
  · obtain ⟨n, h1, h2, h3, h4, h5⟩ := end_at hm
    by_cases e : k = i
    · subst e
      rw [hu] at hp
      cases hp
      exact ⟨fun _ => List.mem_cons_self .., fun _ => h5 rfl⟩
    · rw [h4 e, hD.iff k n p h1 hp]
      refine ⟨fun hx => List.mem_cons_of_mem _ hx, fun hx => ?_⟩
      rcases List.mem_cons.1 hx with rfl | hx
      · exact absurd (h.uniq k i p hp hu) e
      · exact hx
/-- A word more. -/
theorem add_inv {W D : List (List Int)} {P : List PN} {B : List (List Int)} (h : Inv W P B) (hD : EndI D P B) {u : List Int} (hW : ∀ x ∈ W, x = u ∨ x < u) (huW : u ∈ W) : ∃ B', Inv W (addP P u) B' ∧ EndI (u :: D) (addP P u) B' := by
  obtain ⟨B1, h1, h2, h3⟩ := walk_inv hW huW u P B 0 [] h h.b0 (List.prefix_refl _)
  rw [List.nil_append] at h2
  exact ⟨B1, end_inv h1 _, end_end h1 (h3 D hD) h2⟩
theorem Inv.more {W W' : List (List Int)} {P : List PN} {B : List (List Int)} (h : Inv W P B) (hW : ∀ x ∈ W, x ∈ W') : Inv W' P B :=
  ⟨h.ok, h.len, h.b0, h.kid, h.uniq, h.up, h.rise, fun i p hp => (h.pre i p hp).imp id fun ⟨u, hu, e⟩ => ⟨u, hW u hu, e⟩⟩
end Go.Proofs.YtfikkkodepfdkaaDoor
