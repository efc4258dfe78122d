/- The law TrieHas. -/
import Derived.Test.YtfikkkodepfdkaaDoortHas1
import Derived.Deep.DeepCutAuto
import Derived.Deep.OwnRows
import Derived.Deep.Heap
namespace Go.Proofs.YtfikkkodepfdkaaDoor
set_option linter.unusedVariables false
open Go.RowKit Go.ChangeShapes
theorem u8_nat {x : Int} (h : (Lit.int .u8 x).wf = true) : ∃ n : Nat, x = (n : Int) ∧ n ≤ 255 := by
  have h2 : 0 ≤ x ∧ x ≤ 255 := by simpa [Lit.wf, IntKind.min, IntKind.max, IntKind.signed, IntKind.bits] using h
  exact ⟨x.toNat, by omega, by omega⟩
theorem Up.drewN {B : Nat} {a w : World} (h : Up B a w) : ∀ n, Up B a (w.drewN n)
  | 0 => h
  | n + 1 => by
    have := (Up.drewN h n).drew
    exact this
/-- A variable that a closure holds. -/
def Box (w : World) (X : Nat) (v : Value) : Prop := w.rowIs X 22 1 (fun _ => v)
theorem Box.cell {w : World} {X : Nat} {v : Value} (h : Box w X v) : w.cell? ⟨X, 0, none⟩ = some v := World.rowIs.cell h (i := 0) (by omega)
theorem Box.frozen {w : World} {X : Nat} {v : Value} (h : Box w X v) : w.frozen? ⟨X, 0, none⟩ = false := World.rowIs.frozen h 0
theorem Box.stay {w w' : World} {X : Nat} {v : Value} (h : Box w X v) (hb : Below w.heap.size w w') : Box w' X v := World.rowIs.of_block h (hb.block X (World.rowIs.lt h))
theorem Box.new (w : World) (v : Value) : Box (w.alloc (.cells #[v] 22)) w.heap.size v := World.rowIs_alloc w #[v] 22 (fun _ => v) (fun i hi => by
  have : i = 0 := by simpa using hi
  subst this
  rfl)
theorem Box.set {w : World} {X : Nat} {v : Value} (h : Box w X v) (u : Value) : Box (w.setCell ⟨X, 0, none⟩ u) X u := World.rowIs.congr (World.rowIs.set h 0 u) (fun i hi => by
  have : i = 0 := by omega
  simp [this])
theorem OS.far {w : World} {b X : Nat} {v u : Value} {L : List ByteArray} (h : OS w b v L) (hX : X < b) : OS (w.setCell ⟨X, 0, none⟩ u) b v L := own_of_blocks h (fun k hk => by
  have := own_base h k hk
  exact Go.Deep.blk_setCell_other w _ _ k (by show k ≠ X; omega))
end Go.Proofs.YtfikkkodepfdkaaDoor
