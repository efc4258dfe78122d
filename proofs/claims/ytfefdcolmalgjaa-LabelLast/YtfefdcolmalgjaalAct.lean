/- Calls that come in, in memory. -/
import Derived.Test.YtfefdcolmalgjaalBk
namespace Go.Proofs.Ytfefdcolmalgjaa
set_option linter.unusedVariables false
open Go.RowKit Go.ChangeShapes
structure Ac where
  k : Nat
  l : Nat
  f : Int
  t : Int
  N : Nat
def Ac.cs (a : Ac) : Array Value := #[.int .u8 (a.k : Int), .int .u8 (a.l : Int), .int .i64 a.f, .int .i64 a.t, .int .u8 (a.N : Int)]
structure Ac1 (w : World) (b o : Nat) (a : Ac) : Prop where
  c0 : w.cell? ⟨b, o, none⟩ = some (.int .u8 (a.k : Int))
  c1 : w.cell? ⟨b, o + 1, none⟩ = some (.int .u8 (a.l : Int))
  c2 : w.cell? ⟨b, o + 2, none⟩ = some (.int .i64 a.f)
  c3 : w.cell? ⟨b, o + 3, none⟩ = some (.int .i64 a.t)
  c4 : w.cell? ⟨b, o + 4, none⟩ = some (.int .u8 (a.N : Int))
  k : a.k < 256
  l : a.l < 256
  N : a.N < 256
theorem Ac1.stay {w w' : World} {b o : Nat} {a : Ac} (h : Ac1 w b o a) (hb : Below w.heap.size w w') : Ac1 w' b o a :=
  ⟨cell_stay h.c0 hb, cell_stay h.c1 hb, cell_stay h.c2 hb, cell_stay h.c3 hb, cell_stay h.c4 hb, h.k, h.l, h.N⟩
def ASl (w : World) (v : Value) (k : Nat) (A : Nat → Ac) : Prop := (∃ ad c, v = .slice ad 0 c ∧ k = 0) ∨ ∃ b off c, v = .slice (some ⟨b, off, none⟩) k c ∧ ∀ i, i < k → Ac1 w b (off + i * 5) (A i)
theorem ASl.stay {w w' : World} {v : Value} {k : Nat} {A : Nat → Ac} (h : ASl w v k A) (hb : Below w.heap.size w w') : ASl w' v k A := by
  rcases h with h | ⟨b, off, c, rfl, h⟩
  · exact Or.inl h
  · exact Or.inr ⟨b, off, c, rfl, fun i hi => (h i hi).stay hb⟩
theorem ASl.form {w : World} {v : Value} {k : Nat} {A : Nat → Ac} (h : ASl w v k A) : ∃ ad c, v = .slice ad k c := by
  rcases h with ⟨ad, c, rfl, rfl⟩ | ⟨b, off, c, rfl, _⟩
  · exact ⟨_, _, rfl⟩
  · exact ⟨_, _, rfl⟩
theorem ASl.at {w : World} {ad : Option Addr} {k c : Nat} {A : Nat → Ac} (h : ASl w (.slice ad k c) k A) (hk : 0 < k) : ∃ b off, ad = some ⟨b, off, none⟩ ∧ ∀ i, i < k → Ac1 w b (off + i * 5) (A i) := by
  rcases h with ⟨ad', c', e, e2⟩ | ⟨b, off, c', e, h⟩
  · omega
  · injection e with e1 e2 e3
    exact ⟨b, off, e1, h⟩
end Go.Proofs.Ytfefdcolmalgjaa
