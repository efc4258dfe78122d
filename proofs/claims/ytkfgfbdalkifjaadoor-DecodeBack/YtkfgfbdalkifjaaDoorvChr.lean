/- Bytes that lie where a slice points. -/
import Derived.Test.YtkfgfbdalkifjaaDoorhPure
import Derived.Test.YtkfgfbdalkifjaaDoorvBase
namespace Go.Proofs.YtkfgfbdalkifjaaDoor
set_option linter.unusedVariables false
open Go.RowKit Go.ChangeShapes
/-- Bytes that lie where a slice points. -/
def BC (w : World) (ad : Option Addr) (n : Nat) (c : Nat → Int) : Prop := ∀ i, i < n → ∃ b off, ad = some ⟨b, off, none⟩ ∧ w.cell? ⟨b, off + i, none⟩ = some (.int .u8 (c i))
theorem BC.stay {w w' : World} {ad : Option Addr} {n : Nat} {c : Nat → Int} (h : BC w ad n c) (hb : Below w.heap.size w w') : BC w' ad n c := fun i hi => by
  obtain ⟨b, off, e, hc⟩ := h i hi
  exact ⟨b, off, e, cell_stay hc hb⟩
theorem BC.drew {w : World} {ad : Option Addr} {n : Nat} {c : Nat → Int} (h : BC w ad n c) : BC w.drew ad n c := h
/-- So many bytes; behind them there are none. -/
def Ch (c : Nat → Int) (n : Nat) : Prop := (∀ i, i < n → 0 ≤ c i ∧ c i < 256) ∧ ∀ i, n ≤ i → c i = -1
end Go.Proofs.YtkfgfbdalkifjaaDoor
