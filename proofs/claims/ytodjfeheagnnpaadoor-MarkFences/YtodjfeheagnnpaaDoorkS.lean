/- sort.Search over rising places; lines.ahead. -/
import Derived.Test.YtodjfeheagnnpaaDoorkE
import Derived.Test.YtodjfeheagnnpaaDoorkPure
namespace Go.Proofs.YtodjfeheagnnpaaDoor.Lns
set_option linter.unusedVariables false
open Go.RowKit Go.ChangeShapes

/-- A slice of places, wherever. -/
def ISl (w : World) (v : Value) (k : Nat) (P : Nat → Nat) : Prop := (∃ ad c, v = .slice ad 0 c ∧ k = 0) ∨ ∃ b c, v = .slice (some ⟨b, 0, none⟩) k c ∧ ∀ i, i < k → w.cell? ⟨b, i, none⟩ = some (.int .i64 (P i))
theorem ISl.stay {w w' : World} {v : Value} {k : Nat} {P : Nat → Nat} (h : ISl w v k P) (hb : Below w.heap.size w w') : ISl w' v k P := by
  rcases h with h | ⟨b, c, rfl, h⟩
  · exact Or.inl h
  · exact Or.inr ⟨b, c, rfl, fun j hj => (hb.cell (World.block_lt_of_cell? w _ (h j hj))).trans (h j hj)⟩
theorem ISl.form {w : World} {v : Value} {k : Nat} {P : Nat → Nat} (h : ISl w v k P) : ∃ ad c, v = .slice ad k c := by
  rcases h with ⟨ad, c, rfl, rfl⟩ | ⟨b, c, rfl, _⟩
  · exact ⟨ad, c, rfl⟩
  · exact ⟨_, c, rfl⟩
end Go.Proofs.YtodjfeheagnnpaaDoor.Lns
