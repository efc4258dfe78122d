/- HtmlMade: rows that lie apart; names; rows of rows that come in. -/
import Derived.Test.YtodjfeheagnnpaaDoorhMadT
import Derived.Test.YtodjfeheagnnpaaDoorhMadQ
namespace Go.Proofs.YtodjfeheagnnpaaDoor
set_option linter.unusedVariables false
open Go.RowKit Go.ChangeShapes
theorem OMg.keep {w w' : World} {base g cap : Nat} {l : List Int} {row : Option Nat} (h : OMg w base g cap l) (hg : w.grownBy w' row) (hne : ∀ k, row = some k → k ≠ g) : OMg w' base g cap l := by
  have e : w'.heap[g]? = w.heap[g]? := hg.block g h.hi (fun e => hne g e.symm rfl)
  have e1 : ∀ j, w'.cell? ⟨g, j, none⟩ = w.cell? ⟨g, j, none⟩ := fun j => by simp only [World.cell?, e]
  have e2 : ∀ j, w'.frozen? ⟨g, j, none⟩ = w.frozen? ⟨g, j, none⟩ := fun j => by simp only [World.frozen?, e]
  exact ⟨h.lo, Nat.lt_of_lt_of_le h.hi hg.size, h.len, fun j hj => by rw [e1, e2]; exact h.there j hj, fun j x hx => by rw [e1]; exact h.cells j x hx⟩
theorem PR.keepO {w w' : World} {base g : Nat} {v : Value} {l : List (Nat × Nat)} (h : PR w base v l) (hg : w.grownBy w' (some g)) (hne : ∀ k, v.ownBlock = some k → k ≠ g) : PR w' base v l := by
  unfold PR at h ⊢
  obtain ⟨h1, h2 | ⟨g', cap, cur, rfl, hg', hh, h3⟩⟩ := h
  · exact ⟨h1, Or.inl h2⟩
  · refine ⟨h1, Or.inr ⟨g', cap, cur, rfl, hg', ?_, h3⟩⟩
    rw [hg.block g' (lt_of_heap hh) (fun e => hne g' rfl (Option.some.inj e))]
    exact hh
/-- Spans and bytes lie apart. -/
theorem pr_ne {w : World} {base base' g cap pn pc : Nat} {pd : Option Addr} {l : List (Nat × Nat)} {L : List Int} (hP : PR w base (.slice pd pn pc) l) (hl : l.length = pn) (hz : l = [] → pd = none) (hO : OMg w base' g cap L) (hL : 0 < L.length) : ∀ k, (Value.slice pd pn pc).ownBlock = some k → k ≠ g := fun k hk e => by
  subst e
  cases l with
  | nil => rw [hz rfl] at hk; cases hk
  | cons p l =>
    obtain ⟨ad, c, e⟩ := hP.form
    obtain ⟨gp, e2, -, -⟩ := own_at (n := (p :: l).length) (by rw [hl]; exact (by have := hP; unfold PR at this; rw [hl] at this; exact this)) (by simp)
    subst e2
    have hk2 : gp = k := by
      have : (Value.slice (some ⟨gp, 0, none⟩) pn pc).ownBlock = some gp := rfl
      rw [this] at hk
      exact Option.some.inj hk
    subst hk2
    have h1 := (hP.cells hl.symm (i := 0) (p := p) rfl).1
    have h2 := hO.cells 0 L[0] (List.getElem?_eq_getElem hL)
    rw [Nat.zero_mul] at h1
    rw [h1] at h2
    cases h2
theorem PR.keepR {w w' : World} {base : Nat} {v : Value} {l : List (Nat × Nat)} {row : Option Nat} (h : PR w base v l) (hg : w.grownBy w' row) (hne : ∀ k, v.ownBlock = some k → row ≠ some k) : PR w' base v l := by
  unfold PR at h ⊢
  obtain ⟨h1, h2 | ⟨g', cap, cur, rfl, hg', hh, h3⟩⟩ := h
  · exact ⟨h1, Or.inl h2⟩
  · refine ⟨h1, Or.inr ⟨g', cap, cur, rfl, hg', ?_, h3⟩⟩
    rw [hg.block g' (lt_of_heap hh) (fun e => hne g' rfl e.symm)]
    exact hh
theorem PR.lt {w : World} {base : Nat} {v : Value} {l : List (Nat × Nat)} (h : PR w base v l) : ∀ k, v.ownBlock = some k → k < w.heap.size := fun k hk => (World.ownsRow.lt (show w.ownsRow base 29 2 v l.length (prC l) from h) k hk).2
theorem pr_ne2 {w : World} {base base' pn pc : Nat} {pd : Option Addr} {l : List (Nat × Nat)} {vx : Value} {L : List Int} (hP : PR w base (.slice pd pn pc) l) (hl : l.length = pn) (hz : l = [] → pd = none) (hO : OB w base' vx L) (hL : 0 < L.length) : ∀ k, (Value.slice pd pn pc).ownBlock = some k → vx.ownBlock ≠ some k := fun k hk e => by
  obtain ⟨xd, xc, rfl, -⟩ := hO.form
  obtain ⟨gx, rfl, -, -⟩ := own_at (n := L.length) hO hL
  have e2 : gx = k := by
    have : (Value.slice (some ⟨gx, 0, none⟩) L.length xc).ownBlock = some gx := rfl
    rw [this] at e
    exact Option.some.inj e
  subst e2
  have hO2 : OMg w base' gx xc L := om_own hO rfl
  exact pr_ne hP hl hz hO2 hL gx hk rfl
def mdT : List (List Int) := [[97, 108, 116], [84, 73, 84, 76, 69], [99, 108, 97, 115, 115], [120, 45, 97, 108, 116], [65, 108, 116], [116, 105, 116, 108, 101, 115]]
theorem mdT_ok : ∀ r, r < 6 → ∃ t, mdT[r]? = some t ∧ t ≠ [] ∧ t.all (fun x => decide (0 ≤ x) && decide (x < 256) && atB x) = true ∧ t.length ≤ 6 ∧ altB (t.map lw) = (decide (r < 2) || decide (r = 4)) := by decide
/-- Rows of bytes. -/
def BRR (W : World) (ad : Option Addr) (n : Nat) : Prop := ∀ i, i < n → ∃ b off ad' n' cap' c, ad = some ⟨b, off, none⟩ ∧ W.cell? ⟨b, off + i, none⟩ = some (.slice ad' n' cap') ∧ Ch c n' ∧ BC W ad' n' c ∧ n' ≤ maxLen
theorem own_nil5 (w : World) (base : Nat) (hb : base ≤ w.heap.size) : OB (w.alloc (.cells #[] 5)) base (.slice (some ⟨w.heap.size, 0, none⟩) 0 0) [] := World.ownsRow_lit w #[] 0 hb (Nat.zero_le _) rfl
theorem infoSp : (Tryd.prog.info? 29).isSome = true := by kernel_rfl
end Go.Proofs.YtodjfeheagnnpaaDoor
