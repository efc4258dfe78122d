/- What lies in memory: rows of signs and of numbers; no program's function in this text. -/
import Derived.Test.YtfikkkodepfdkaaDoorProg
import Derived.Test.YtfikkkodepfdkaaDoorzPure
import Derived.WalkKit
import Derived.Below
import Derived.WalkSmall
import Derived.Deep.QuietTactic
import Derived.BigQuiet
import Derived.Deep.LoopGhost
import Derived.Deep.DeepFit
import Derived.OwnWalk
import Derived.Deep.OwnRows
namespace Go.Proofs.YtfikkkodepfdkaaDoor.Qns
set_option linter.unusedVariables false
open Go.RowKit Go.ChangeShapes
/-- The world has grown from there on. -/
def Up (B : Nat) (a w : World) : Prop := Below B a w ∧ B ≤ w.heap.size
theorem Up.refl (w : World) : Up w.heap.size w w := ⟨Below.refl _ _, Nat.le_refl _⟩
theorem Up.stay {B : Nat} {a w w' : World} (h : Up B a w) (hb : Below w.heap.size w w') : Up B a w' := ⟨h.1.trans (hb.mono h.2), Nat.le_trans h.2 hb.size⟩
theorem Up.alloc {B : Nat} {a w : World} (h : Up B a w) (o : Obj) : Up B a (w.alloc o) := h.stay ((Below.refl _ _).alloc (Nat.le_refl _) o)
theorem Up.drew {B : Nat} {a w : World} (h : Up B a w) : Up B a w.drew := ⟨h.1.drew, h.2⟩
theorem Up.setCell {B : Nat} {a w : World} (h : Up B a w) {p : Addr} (hp : B ≤ p.block) (u : Value) : Up B a (w.setCell p u) :=
  ⟨h.1.setCell hp u, by simpa [World.setCell] using h.2⟩
theorem cell_stay {w w' : World} {a : Addr} {v : Value} (h : w.cell? a = some v) (hb : Below w.heap.size w w') : w'.cell? a = some v := (hb.cell (World.block_lt_of_cell? w _ h)).trans h
/-- A row of signs. -/
def Rs (w : World) (b off k : Nat) (R : Nat → Int) : Prop := ∀ i, i < k → w.cell? ⟨b, off + i, none⟩ = some (.int .i32 (R i))
theorem Rs.stay {w w' : World} {b off k : Nat} {R : Nat → Int} (h : Rs w b off k R) (hb : Below w.heap.size w w') : Rs w' b off k R :=
  fun j hj => (hb.cell (World.block_lt_of_cell? w _ (h j hj))).trans (h j hj)
def RSl (w : World) (v : Value) (k : Nat) (R : Nat → Int) : Prop := (∃ ad c, v = .slice ad 0 c ∧ k = 0) ∨ ∃ b off c, v = .slice (some ⟨b, off, none⟩) k c ∧ Rs w b off k R
theorem RSl.stay {w w' : World} {v : Value} {k : Nat} {R : Nat → Int} (h : RSl w v k R) (hb : Below w.heap.size w w') : RSl w' v k R := by
  rcases h with h | ⟨b, off, c, rfl, h⟩
  · exact Or.inl h
  · exact Or.inr ⟨b, off, c, rfl, h.stay hb⟩
theorem RSl.form {w : World} {v : Value} {k : Nat} {R : Nat → Int} (h : RSl w v k R) : ∃ ad c, v = .slice ad k c := by
  rcases h with ⟨ad, c, rfl, rfl⟩ | ⟨b, off, c, rfl, _⟩
  · exact ⟨_, _, rfl⟩
  · exact ⟨_, _, rfl⟩
theorem RSl.at {w : World} {ad : Option Addr} {k c : Nat} {R : Nat → Int} (h : RSl w (.slice ad k c) k R) (hk : 0 < k) : ∃ b off, ad = some ⟨b, off, none⟩ ∧ Rs w b off k R := by
  rcases h with ⟨ad', c', e, e2⟩ | ⟨b, off, c', e, h⟩
  · omega
  · injection e with e1 e2 e3
    exact ⟨b, off, e1, h⟩
/-- A row of numbers. -/
def Is (w : World) (b off k : Nat) (N : Nat → Int) : Prop := ∀ i, i < k → w.cell? ⟨b, off + i, none⟩ = some (.int .i64 (N i))
theorem Is.stay {w w' : World} {b off k : Nat} {N : Nat → Int} (h : Is w b off k N) (hb : Below w.heap.size w w') : Is w' b off k N :=
  fun j hj => (hb.cell (World.block_lt_of_cell? w _ (h j hj))).trans (h j hj)
def ISl (w : World) (v : Value) (k : Nat) (N : Nat → Int) : Prop := (∃ ad c, v = .slice ad 0 c ∧ k = 0) ∨ ∃ b off c, v = .slice (some ⟨b, off, none⟩) k c ∧ Is w b off k N
theorem ISl.stay {w w' : World} {v : Value} {k : Nat} {R : Nat → Int} (h : ISl w v k R) (hb : Below w.heap.size w w') : ISl w' v k R := by
  rcases h with h | ⟨b, off, c, rfl, h⟩
  · exact Or.inl h
  · exact Or.inr ⟨b, off, c, rfl, h.stay hb⟩
theorem ISl.form {w : World} {v : Value} {k : Nat} {R : Nat → Int} (h : ISl w v k R) : ∃ ad c, v = .slice ad k c := by
  rcases h with ⟨ad, c, rfl, rfl⟩ | ⟨b, off, c, rfl, _⟩
  · exact ⟨_, _, rfl⟩
  · exact ⟨_, _, rfl⟩
theorem ISl.at {w : World} {ad : Option Addr} {k c : Nat} {R : Nat → Int} (h : ISl w (.slice ad k c) k R) (hk : 0 < k) : ∃ b off, ad = some ⟨b, off, none⟩ ∧ Is w b off k R := by
  rcases h with ⟨ad', c', e, e2⟩ | ⟨b, off, c', e, h⟩
  · omega
  · injection e with e1 e2 e3
    exact ⟨b, off, e1, h⟩
theorem Is.congr {w : World} {b off k : Nat} {N M : Nat → Int} (h : Is w b off k N) (e : ∀ i, i < k → N i = M i) : Is w b off k M := fun i hi => by rw [← e i hi]; exact h i hi
theorem info3 : (Tryd.prog.info? 3).map (fun i => (i.zero, i.size, i.bytes)) = some (some (.int .i64 0), 1, 8) := by kernel_rfl
/-- One number is laid in its place. -/
def setN (N : Nat → Int) (i : Nat) (x : Int) : Nat → Int := fun j => if j = i then x else N j
/-- A row of numbers of its own. -/
def IR (w : World) (b n : Nat) (N : Nat → Int) : Prop := w.rowIs b 3 n (fun i => .int .i64 (N i))
theorem IR.cell {w : World} {b n : Nat} {N : Nat → Int} (h : IR w b n N) {i : Nat} (hi : i < n) : w.cell? ⟨b, i, none⟩ = some (.int .i64 (N i)) := World.rowIs.cell h hi
theorem IR.frozen {w : World} {b n : Nat} {N : Nat → Int} (h : IR w b n N) (i : Nat) : w.frozen? ⟨b, i, none⟩ = false := World.rowIs.frozen h i
theorem IR.set {w : World} {b n : Nat} {N : Nat → Int} (h : IR w b n N) (i : Nat) (x : Int) : IR (w.setCell ⟨b, i, none⟩ (.int .i64 x)) b n (setN N i x) := by
  refine World.rowIs.congr (World.rowIs.set h i _) fun j _ => ?_
  unfold setN
  by_cases e : j = i
  · simp only [e, if_true]
  · simp only [e, if_false]
theorem IR.is {w : World} {b n : Nat} {N : Nat → Int} (h : IR w b n N) : Is w b 0 n N := fun i hi => by rw [Nat.zero_add]; exact h.cell hi
theorem IR.drew {w : World} {b n : Nat} {N : Nat → Int} (h : IR w b n N) : IR w.drew b n N := h
theorem made_ir (w : World) (n : Nat) : IR (w.alloc (.cells (madeCells #[Value.int .i64 0] n) 3)) w.heap.size n (fun _ => 0) := World.rowIs_made w _ n 3
theorem made_ir0 (w : World) (n : Nat) (x : Int) : IR (w.alloc (.cells ((madeCells #[Value.int .i64 0] n).setIfInBounds 0 (.int .i64 x)) 3)) w.heap.size n (setN (fun _ => 0) 0 x) := by
  have hs : ((madeCells #[Value.int .i64 0] n).setIfInBounds 0 (.int .i64 x)).size = n := by simp [madeCells]
  have h := World.rowIs_alloc w ((madeCells #[Value.int .i64 0] n).setIfInBounds 0 (.int .i64 x)) 3 (fun i => .int .i64 (setN (fun _ => 0) 0 x i)) (fun i hi => by
    rw [hs] at hi
    rw [Array.getElem?_setIfInBounds]
    unfold setN
    by_cases e : i = 0
    · subst e
      simp [madeCells, hi]
    · rw [if_neg (fun h => e h.symm)]
      simp [madeCells, hi, e, Nat.mod_one])
  rw [hs] at h
  exact h
theorem lt_of_heap {w : World} {b : Nat} {o : Obj} (h : w.heap[b]? = some o) : b < w.heap.size := (Array.getElem?_eq_some_iff.1 h).1
theorem Is.drew {w : World} {b off k : Nat} {N : Nat → Int} (h : Is w b off k N) : Is w.drew b off k N := h
end Go.Proofs.YtfikkkodepfdkaaDoor.Qns
