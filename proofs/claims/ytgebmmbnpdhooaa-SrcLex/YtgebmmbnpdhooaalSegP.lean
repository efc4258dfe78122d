/- Parts of one label each, plainly; no program's function in this text. -/
import Derived.Test.YtgebmmbnpdhooaalBase
import Derived.Laws.OwnMore
namespace Go.Proofs.Ytgebmmbnpdhooaa
set_option linter.unusedVariables false
open Go.RowKit Go.ChangeShapes
/-- A part: its label, where it begins, how long it is. -/
structure Sg where
  l : Int
  a : Nat
  n : Nat
def Sg.cs (s : Sg) : List Value := [.int .u8 s.l, .int .i64 (s.a : Int), .int .i64 (s.n : Int)]
def sgC (l : List Sg) : List Value := l.flatMap Sg.cs
theorem sgC_len (l : List Sg) : (sgC l).length = l.length * 3 := by
  induction l with
  | nil => rfl
  | cons x l ih =>
    show (x.cs ++ sgC l).length = _
    rw [List.length_append, ih, List.length_cons]
    show 3 + _ = _
    omega
theorem sgC_app (l m : List Sg) : sgC (l ++ m) = sgC l ++ sgC m := by simp [sgC]
theorem sgC_at (l : List Sg) (i : Nat) (s : Sg) (h : l[i]? = some s) : (sgC l)[i * 3]? = some (.int .u8 s.l) ∧ (sgC l)[i * 3 + 1]? = some (.int .i64 (s.a : Int)) ∧ (sgC l)[i * 3 + 2]? = some (.int .i64 (s.n : Int)) := by
  induction l generalizing i with
  | nil => simp at h
  | cons x l ih =>
    have hc : sgC (x :: l) = .int .u8 x.l :: .int .i64 (x.a : Int) :: .int .i64 (x.n : Int) :: sgC l := rfl
    rw [hc]
    match i, h with
    | 0, h =>
      simp at h; subst h
      exact ⟨rfl, rfl, rfl⟩
    | i + 1, h =>
      have h' : l[i]? = some s := by simpa using h
      obtain ⟨a, b, c⟩ := ih i h'
      rw [show (i + 1) * 3 = i * 3 + 3 by omega]
      exact ⟨a, b, c⟩
theorem sgC_long (p : List Sg) (l : Int) (a q r : Nat) : (sgC (p ++ [⟨l, a, q⟩])).set (p.length * 3 + 2) (.int .i64 (r : Int)) = sgC (p ++ [⟨l, a, r⟩]) := by
  rw [sgC_app, sgC_app, List.set_append_right _ _ (by rw [sgC_len]; omega), sgC_len]
  rw [show p.length * 3 + 2 - p.length * 3 = 2 by omega]
  rfl
/-- The last one is longer by one. -/
def bump : List Sg → List Sg
  | [] => []
  | [s] => [⟨s.l, s.a, s.n + 1⟩]
  | s :: t :: r => s :: bump (t :: r)
theorem bump_last (p : List Sg) (s : Sg) : bump (p ++ [s]) = p ++ [⟨s.l, s.a, s.n + 1⟩] := by
  induction p with
  | nil => rfl
  | cons x p ih =>
    cases p with
    | nil => rfl
    | cons y p =>
      show x :: bump ((y :: p) ++ [s]) = _
      rw [ih]
      rfl
/-- A part begins there. -/
def begB (L : Nat → Int) (i : Nat) : Bool := i == 0 || L i != L (i - 1)
theorem begB_zero (L : Nat → Int) : begB L 0 = true := rfl
theorem begB_yes {L : Nat → Int} {i : Nat} (h : L (i + 1) ≠ L i) : begB L (i + 1) = true := by
  unfold begB
  simp [h]
theorem begB_no {L : Nat → Int} {i : Nat} (h : L (i + 1) = L i) : begB L (i + 1) = false := by
  unfold begB
  simp [h]
/-- The parts of the first bytes. -/
def sg (L : Nat → Int) : Nat → List Sg
  | 0 => []
  | i + 1 => if begB L i = true then sg L i ++ [⟨L i, i, 1⟩] else bump (sg L i)
theorem sg_yes {L : Nat → Int} {i : Nat} (h : begB L i = true) : sg L (i + 1) = sg L i ++ [⟨L i, i, 1⟩] := by
  show (if begB L i = true then _ else _) = _
  rw [if_pos h]
theorem sg_no {L : Nat → Int} {i : Nat} (h : begB L i = false) : sg L (i + 1) = bump (sg L i) := by
  show (if begB L i = true then _ else _) = _
  rw [if_neg (by rw [h]; exact Bool.false_ne_true)]
theorem sg_last (L : Nat → Int) : ∀ i, ∃ p a, sg L (i + 1) = p ++ [⟨L i, a, i + 1 - a⟩] ∧ a ≤ i
  | 0 => ⟨[], 0, by rw [sg_yes (begB_zero L)]; rfl, Nat.le_refl _⟩
  | i + 1 => by
    by_cases h : L (i + 1) = L i
    · obtain ⟨p, a, e, ha⟩ := sg_last L i
      refine ⟨p, a, ?_, by omega⟩
      rw [sg_no (begB_no h), e, bump_last, h]
      show p ++ [⟨L i, a, i + 1 - a + 1⟩] = _
      rw [show i + 1 - a + 1 = i + 1 + 1 - a by omega]
    · refine ⟨sg L (i + 1), i + 1, ?_, Nat.le_refl _⟩
      rw [sg_yes (begB_yes h)]
      congr 2
      congr 1
      omega
theorem sg_len (L : Nat → Int) : ∀ i, (sg L i).length ≤ i
  | 0 => Nat.le_refl _
  | i + 1 => by
    have ih := sg_len L i
    cases h : begB L i with
    | true =>
      rw [sg_yes h, List.length_append]
      show _ + 1 ≤ _
      omega
    | false =>
      rw [sg_no h]
      cases i with
      | zero => rw [begB_zero] at h; cases h
      | succ i =>
        obtain ⟨p, a, e, _⟩ := sg_last L i
        rw [e] at ih ⊢
        rw [bump_last]
        simp only [List.length_append, List.length_singleton] at ih ⊢
        omega
/-- What follows a byte: the row as it is before the last one's length is counted up. -/
theorem sg_step (L : Nat → Int) (i : Nat) : (begB L i = true ∧ sg L (i + 1) = sg L i ++ [⟨L i, i, 0 + 1⟩]) ∨ (begB L i = false ∧ ∃ p l a q, sg L i = p ++ [⟨l, a, q⟩] ∧ sg L (i + 1) = p ++ [⟨l, a, q + 1⟩] ∧ q ≤ i) := by
  cases h : begB L i with
  | true => exact Or.inl ⟨rfl, sg_yes h⟩
  | false =>
    refine Or.inr ⟨rfl, ?_⟩
    cases i with
    | zero => rw [begB_zero] at h; cases h
    | succ i =>
      obtain ⟨p, a, e, _⟩ := sg_last L i
      exact ⟨p, L i, a, i + 1 - a, e, by rw [sg_no h, e, bump_last], by omega⟩
/-- A part from its beginning on. -/
theorem sg_run {L : Nat → Int} {i : Nat} (hb : begB L i = true) : ∀ d, (∀ j, i ≤ j → j < i + (d + 1) → L j = L i) → sg L (i + (d + 1)) = sg L i ++ [⟨L i, i, d + 1⟩]
  | 0, _ => sg_yes hb
  | d + 1, h => by
    have ih := sg_run hb d fun j h1 h2 => h j h1 (by omega)
    rw [show i + (d + 1 + 1) = i + (d + 1) + 1 by omega]
    rw [sg_no (i := i + (d + 1)) (begB_no (i := i + d) (by rw [h (i + d + 1) (by omega) (by omega), h (i + d) (by omega) (by omega)])), ih, bump_last]
theorem sg_congr {L M : Nat → Int} : ∀ n, (∀ i, i < n → L i = M i) → sg L n = sg M n
  | 0, _ => rfl
  | n + 1, h => by
    have ih := sg_congr n fun i hi => h i (by omega)
    have hb : begB L n = begB M n := by
      unfold begB
      rw [h n (by omega), h (n - 1) (by omega)]
    show (if begB L n = true then sg L n ++ [⟨L n, n, 1⟩] else bump (sg L n)) = (if begB M n = true then sg M n ++ [⟨M n, n, 1⟩] else bump (sg M n))
    rw [hb, ih, h n (by omega)]
/-- Parts lie there as a row of the call's own. -/
def SR (w : World) (base : Nat) (v : Value) (l : List Sg) : Prop := w.ownsRow base 50 3 v l.length (sgC l)
theorem own_stay {w w' : World} {base e size n : Nat} {v : Value} {xs : List Value} (h : w.ownsRow base e size v n xs) (hb : Below w.heap.size w w') : w'.ownsRow base e size v n xs := by
  obtain ⟨h1, h2 | ⟨g, cap, cur, rfl, hg, hh, h3⟩⟩ := h
  · exact ⟨h1, Or.inl h2⟩
  · refine ⟨h1, Or.inr ⟨g, cap, cur, rfl, hg, ?_, h3⟩⟩
    rw [hb.block g (Array.getElem?_eq_some_iff.1 hh).1]; exact hh
theorem own_base {w : World} {base e size n : Nat} {v : Value} {xs : List Value} (h : w.ownsRow base e size v n xs) : ∀ k, v.ownBlock = some k → base ≤ k := by
  obtain ⟨h1, ⟨rfl, _⟩ | ⟨g, cap, cur, rfl, hg, hh, h3⟩⟩ := h
  · intro k hk; cases hk
  · intro k hk; cases hk; exact hg
theorem own_mono {w : World} {base base' e size n : Nat} {v : Value} {xs : List Value} (h : w.ownsRow base e size v n xs) (hb : base' ≤ base) : w.ownsRow base' e size v n xs := by
  obtain ⟨h1, h2 | ⟨g, cap, cur, rfl, hg, hh, h3⟩⟩ := h
  · exact ⟨h1, Or.inl h2⟩
  · exact ⟨h1, Or.inr ⟨g, cap, cur, rfl, by omega, hh, h3⟩⟩
theorem own_form {w : World} {base e size n : Nat} {v : Value} {xs : List Value} (h : w.ownsRow base e size v n xs) : ∃ ad c, v = .slice ad n c := by
  obtain ⟨_, ⟨rfl, h2⟩ | ⟨g, cap, cur, rfl, _⟩⟩ := h
  · exact ⟨none, 0, by rw [h2]⟩
  · exact ⟨_, _, rfl⟩
theorem own_at {w : World} {base e size n c : Nat} {ad : Option Addr} {xs : List Value} (h : w.ownsRow base e size (.slice ad n c) n xs) (hn : 0 < n) : ∃ g, ad = some ⟨g, 0, none⟩ ∧ base ≤ g ∧ g < w.heap.size := by
  have h0 := h
  obtain ⟨_, ⟨e, h2⟩ | ⟨g, cap, cur, e, hg, _⟩⟩ := h
  · omega
  · injection e with e1 _ _
    subst e1
    exact ⟨g, rfl, (h0.lt g rfl)⟩
theorem SR.stay {w w' : World} {base : Nat} {v : Value} {l : List Sg} (h : SR w base v l) (hb : Below w.heap.size w w') : SR w' base v l := own_stay h hb
theorem SR.mono {w : World} {base base' : Nat} {v : Value} {l : List Sg} (h : SR w base v l) (hb : base' ≤ base) : SR w base' v l := own_mono h hb
theorem SR.form {w : World} {base : Nat} {v : Value} {l : List Sg} (h : SR w base v l) : ∃ ad c, v = .slice ad l.length c := own_form h
theorem SR.cells {w : World} {base g n c : Nat} {l : List Sg} (h : SR w base (.slice (some ⟨g, 0, none⟩) n c) l) (hn : n = l.length) {i : Nat} {s : Sg} (hs : l[i]? = some s) :
    w.cell? ⟨g, i * 3, none⟩ = some (.int .u8 s.l) ∧ w.cell? ⟨g, i * 3 + 1, none⟩ = some (.int .i64 (s.a : Int)) ∧ w.cell? ⟨g, i * 3 + 2, none⟩ = some (.int .i64 (s.n : Int)) := by
  subst hn
  have hlt := (List.getElem?_eq_some_iff.1 hs).1
  obtain ⟨a, b, d⟩ := sgC_at l i s hs
  exact ⟨(World.ownsRow.cellAt h _ (by omega)).trans a, (World.ownsRow.cellAt h _ (by omega)).trans b, (World.ownsRow.cellAt h _ (by omega)).trans d⟩
theorem own_frozen {w : World} {base e size g n c n' : Nat} {xs : List Value} (h : w.ownsRow base e size (.slice (some ⟨g, 0, none⟩) n' c) n xs) (i : Nat) : w.frozen? ⟨g, i, none⟩ = false := by
  obtain ⟨_, ⟨e, _⟩ | ⟨g', cap, cur, e, _, hh, _⟩⟩ := h
  · cases e
  · injection e with e1 _ _
    injection e1 with e1
    injection e1 with e1 _ _
    subst e1
    simp [World.frozen?, hh]
theorem infoS : (Try.prog.info? 50).map (fun i => (i.zero, i.size, i.bytes)) = some (some (.agg #[.int .u8 0, .int .i64 0, .int .i64 0]), 3, 24) := by kernel_rfl
theorem info_parts {t : TypeId} {z : Value} {s b : Nat} (h : (Try.prog.info? t).map (fun i => (i.zero, i.size, i.bytes)) = some (some z, s, b)) : ∃ i, Try.prog.info? t = some i ∧ i.zero = some z ∧ i.size = s ∧ i.bytes = b := by
  obtain ⟨i, hi, hzz⟩ := Option.map_eq_some_iff.1 h
  simp only [Prod.mk.injEq] at hzz
  exact ⟨i, hi, hzz.1, hzz.2.1, hzz.2.2⟩
theorem sg_cells (s : Sg) : ∀ u ∈ s.cs, u.oneCell' = true := by
  intro u hu
  simp only [Sg.cs, List.mem_cons, List.not_mem_nil, or_false] at hu
  rcases hu with rfl | rfl | rfl <;> rfl
theorem SR.snoc {w : World} {base n : Nat} {v : Value} {l : List Sg} {s : Sg} (hn : n = l.length + 1) (h : w.ownsRow base 50 3 v n (sgC l ++ s.cs)) : SR w base v (l ++ [s]) := by
  subst hn
  unfold SR
  rw [List.length_append, sgC_app]
  show w.ownsRow base 50 3 v (l.length + 1) (sgC l ++ (s.cs ++ []))
  rw [List.append_nil]
  exact h
end Go.Proofs.Ytgebmmbnpdhooaa
