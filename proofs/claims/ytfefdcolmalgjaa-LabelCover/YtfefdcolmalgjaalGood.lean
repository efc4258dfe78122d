/- Parts lie side by side, cover all, two side by side are unlike: plainly; and what asks for it of spans. -/
import Derived.Test.YtfefdcolmalgjaalSegP
namespace Go.Proofs.Ytfefdcolmalgjaa
set_option linter.unusedVariables false
open Go.RowKit Go.ChangeShapes
/-- From a place up to another one: side by side, none empty, each of its label, unlike the one before. -/
def Good (L : Nat → Int) : Int → Nat → List Sg → Nat → Prop
  | _, a, [], e => a = e
  | z, a, s :: r, e => s.a = a ∧ 0 < s.n ∧ s.l ≠ z ∧ (∀ i, a ≤ i → i < a + s.n → L i = s.l) ∧ Good L s.l (a + s.n) r e
def lastl : Int → List Sg → Int
  | z, [] => z
  | _, s :: r => lastl s.l r
theorem lastl_snoc (z : Int) (p : List Sg) (s : Sg) : lastl z (p ++ [s]) = s.l := by
  induction p generalizing z with
  | nil => rfl
  | cons x p ih => exact ih x.l
theorem good_snoc {L : Nat → Int} (p : List Sg) : ∀ (z : Int) (a e : Nat) (s : Sg), Good L z a (p ++ [s]) e ↔ Good L z a p s.a ∧ 0 < s.n ∧ s.l ≠ lastl z p ∧ (∀ i, s.a ≤ i → i < s.a + s.n → L i = s.l) ∧ s.a + s.n = e := by
  induction p with
  | nil =>
    intro z a e s
    constructor
    · rintro ⟨rfl, h2, h3, h4, h5⟩
      exact ⟨rfl, h2, h3, h4, h5⟩
    · rintro ⟨h1, h2, h3, h4, h5⟩
      have h1' : a = s.a := h1
      subst h1'
      exact ⟨rfl, h2, h3, h4, h5⟩
  | cons x p ih =>
    intro z a e s
    constructor
    · rintro ⟨h1, h2, h3, h4, h5⟩
      obtain ⟨g1, g2, g3, g4, g5⟩ := (ih x.l (a + x.n) e s).1 h5
      exact ⟨⟨h1, h2, h3, h4, g1⟩, g2, g3, g4, g5⟩
    · rintro ⟨⟨h1, h2, h3, h4, g1⟩, g2, g3, g4, g5⟩
      exact ⟨h1, h2, h3, h4, (ih x.l (a + x.n) e s).2 ⟨g1, g2, g3, g4, g5⟩⟩
theorem sg_good {L : Nat → Int} (h0 : L 0 ≠ 0) : ∀ i, Good L 0 0 (sg L i) i ∧ (∀ j, i = j + 1 → lastl 0 (sg L i) = L j)
  | 0 => ⟨rfl, fun j h => by omega⟩
  | i + 1 => by
    obtain ⟨ih, il⟩ := sg_good h0 i
    cases hb : begB L i with
    | true =>
      rw [sg_yes hb]
      refine ⟨(good_snoc _ _ _ _ _).2 ⟨ih, by show 0 < 1; omega, ?_, fun j h1 h2 => ?_, rfl⟩, fun j h => ?_⟩
      · show L i ≠ lastl 0 (sg L i)
        cases i with
        | zero => exact h0
        | succ i =>
          rw [il i rfl]
          intro e
          rw [begB_no e] at hb
          cases hb
      · have h1' : i ≤ j := h1
        have h2' : j < i + 1 := h2
        obtain rfl : j = i := by omega
        rfl
      · obtain rfl : i = j := by omega
        rw [lastl_snoc]
    | false =>
      cases i with
      | zero => rw [begB_zero] at hb; cases hb
      | succ i =>
        have he : L (i + 1) = L i := by
          by_cases e : L (i + 1) = L i
          · exact e
          · rw [begB_yes e] at hb; cases hb
        obtain ⟨p, a, e, ha⟩ := sg_last L i
        rw [sg_no hb, e, bump_last]
        rw [e] at ih
        obtain ⟨g1, g2, g3, g4, g5⟩ := (good_snoc _ _ _ _ _).1 ih
        refine ⟨(good_snoc _ _ _ _ _).2 ⟨g1, by show 0 < _ + 1; omega, g3, fun j h1 h2 => ?_, ?_⟩, fun j h => ?_⟩
        · have h1' : a ≤ j := h1
          have h2' : j < a + (i + 1 - a + 1) := h2
          show L j = L i
          rcases Nat.lt_or_ge j (i + 1) with c | c
          · exact g4 j h1 (by show j < a + (i + 1 - a); omega)
          · obtain rfl : j = i + 1 := by omega
            exact he
        · show a + (i + 1 - a + 1) = i + 1 + 1
          omega
        · obtain rfl : j = i + 1 := by omega
          rw [lastl_snoc]
          exact he.symm
theorem good_le {L : Nat → Int} (p : List Sg) : ∀ (z : Int) (a e : Nat), Good L z a p e → a ≤ e := by
  induction p with
  | nil =>
    intro z a e h
    have h' : a = e := h
    omega
  | cons x p ih =>
    intro z a e ⟨h1, h2, h3, h4, h5⟩
    have := ih _ _ _ h5
    omega
/-- The spans of parts, in memory. -/
def spC (l : List Sg) : List Value := l.flatMap fun s => [.int .i64 (s.a : Int), .int .i64 (s.n : Int)]
theorem spC_len (l : List Sg) : (spC l).length = l.length * 2 := by
  induction l with
  | nil => rfl
  | cons x l ih =>
    have e : spC (x :: l) = .int .i64 (x.a : Int) :: .int .i64 (x.n : Int) :: spC l := rfl
    rw [e]
    simp only [List.length_cons]
    omega
theorem spC_app (l m : List Sg) : spC (l ++ m) = spC l ++ spC m := by simp [spC]
theorem spC_at (l : List Sg) (i : Nat) (s : Sg) (h : l[i]? = some s) : (spC l)[i * 2]? = some (.int .i64 (s.a : Int)) ∧ (spC l)[i * 2 + 1]? = some (.int .i64 (s.n : Int)) := by
  induction l generalizing i with
  | nil => simp at h
  | cons x l ih =>
    have hc : spC (x :: l) = .int .i64 (x.a : Int) :: .int .i64 (x.n : Int) :: spC l := rfl
    rw [hc]
    match i, h with
    | 0, h =>
      simp at h; subst h
      exact ⟨rfl, rfl⟩
    | i + 1, h =>
      have h' : l[i]? = some s := by simpa using h
      obtain ⟨a, b⟩ := ih i h'
      rw [show (i + 1) * 2 = i * 2 + 2 by omega]
      exact ⟨a, b⟩
def SP (w : World) (base : Nat) (v : Value) (l : List Sg) : Prop := w.ownsRow base 45 2 v l.length (spC l)
theorem SP.stay {w w' : World} {base : Nat} {v : Value} {l : List Sg} (h : SP w base v l) (hb : Below w.heap.size w w') : SP w' base v l := own_stay h hb
theorem SP.form {w : World} {base : Nat} {v : Value} {l : List Sg} (h : SP w base v l) : ∃ ad c, v = .slice ad l.length c := own_form h
theorem SP.cells {w : World} {base g n c : Nat} {l : List Sg} (h : SP w base (.slice (some ⟨g, 0, none⟩) n c) l) (hn : n = l.length) {i : Nat} {s : Sg} (hs : l[i]? = some s) :
    w.cell? ⟨g, i * 2, none⟩ = some (.int .i64 (s.a : Int)) ∧ w.cell? ⟨g, i * 2 + 1, none⟩ = some (.int .i64 (s.n : Int)) := by
  subst hn
  have hlt := (List.getElem?_eq_some_iff.1 hs).1
  obtain ⟨a, b⟩ := spC_at l i s hs
  exact ⟨(World.ownsRow.cellAt h _ (by omega)).trans a, (World.ownsRow.cellAt h _ (by omega)).trans b⟩
theorem SP.snoc {w : World} {base n : Nat} {v : Value} {l : List Sg} {s : Sg} (hn : n = l.length + 1) (h : w.ownsRow base 45 2 v n (spC l ++ [.int .i64 (s.a : Int), .int .i64 (s.n : Int)])) : SP w base v (l ++ [s]) := by
  subst hn
  unfold SP
  rw [List.length_append, spC_app]
  exact h
theorem infoP : (Try.prog.info? 45).map (fun i => (i.zero, i.size, i.bytes)) = some (some (.agg #[.int .i64 0, .int .i64 0]), 2, 16) := by kernel_rfl
theorem sp_cells (a n : Int) : ∀ u ∈ [Value.int .i64 a, .int .i64 n], u.oneCell' = true := by
  intro u hu
  simp only [List.mem_cons, List.not_mem_nil, or_false] at hu
  rcases hu with rfl | rfl <;> rfl
theorem inFile_any (x : Int) (h : 0 ≤ x) (h2 : x ≤ 65536) (w : World) : Calls Try.prog 24 #[.int .i64 x] w fun e w' => e = .returned (.bool true) ∧ w' = w := by
  go_enter Try.func24, Try.ntmps24
  go_wp2
  go_ret
  exact ⟨rfl, rfl⟩
theorem sound_any (a n : Int) (h1 : 0 ≤ a) (h2 : a ≤ 65536) (h3 : 0 ≤ n) (h4 : n ≤ 65536) (w : World) : Calls Try.prog 22 #[.agg #[.int .i64 a, .int .i64 n]] w fun e w' => e = .returned (.bool true) ∧ Up w.heap.size w w' := by
  have HU : Hid (Up w.heap.size w (w.alloc (.cells #[.int .i64 a, .int .i64 n] 45))) := (Up.refl w).alloc _
  go_enter Try.func22, Try.ntmps22
  go_wp2_with fail
  refine (inFile_any a h1 h2 _).mono ?_
  rintro e w1 ⟨rfl, hw⟩
  subst w1
  go_wp2_with fail
  refine (inFile_any n h3 h4 _).mono ?_
  rintro e w1 ⟨rfl, hw⟩
  subst w1
  go_wp2
  go_ret
  exact ⟨rfl, HU.out⟩
theorem end_any (a n : Int) (h1 : 0 ≤ a) (h2 : a ≤ 65536) (h3 : 0 ≤ n) (h4 : n ≤ 65536) (w : World) : Calls Try.prog 23 #[.agg #[.int .i64 a, .int .i64 n]] w fun e w' => e = .returned (.int .i64 (a + n)) ∧ Up w.heap.size w w' := by
  have hw : IntKind.i64.wrap (a + n) = a + n := IntWalk.i64_in _ (by omega)
  go_enter Try.func23, Try.ntmps23
  go_wp2
  go_ret
  exact ⟨rfl, (Up.refl w).alloc _⟩
end Go.Proofs.Ytfefdcolmalgjaa
