/- What lies in memory: rows of labels, sheets; no program's function in this text. -/
import Derived.Test.YtgebmmbnpdhooaaProg
import Derived.WalkKit
import Derived.Below
import Derived.WalkSmall
import Derived.Deep.QuietTactic
import Derived.BigQuiet
import Derived.Deep.LoopGhost
import Derived.Deep.DeepFit
import Derived.OwnWalk
import Derived.Deep.OwnRows
import Derived.Lib.MinMax
namespace Go.Proofs.Ytgebmmbnpdhooaa
set_option linter.unusedVariables false
open Go.RowKit Go.ChangeShapes
/-- The world has grown from there on. -/
def Up (B : Nat) (a w : World) : Prop := Below B a w ∧ B ≤ w.heap.size
theorem Up.refl (w : World) : Up w.heap.size w w := ⟨Below.refl _ _, Nat.le_refl _⟩
theorem Up.stay {B : Nat} {a w w' : World} (h : Up B a w) (hb : Below w.heap.size w w') : Up B a w' := ⟨h.1.trans (hb.mono h.2), Nat.le_trans h.2 hb.size⟩
theorem Up.alloc {B : Nat} {a w : World} (h : Up B a w) (o : Obj) : Up B a (w.alloc o) := h.stay ((Below.refl _ _).alloc (Nat.le_refl _) o)
theorem Up.drew {B : Nat} {a w : World} (h : Up B a w) : Up B a w.drew := ⟨h.1.drew, h.2⟩
theorem Up.setCell {B : Nat} {a w : World} (h : Up B a w) {p : Addr} (hp : B ≤ p.block) (u : Value) : Up B a (w.setCell p u) :=
  ⟨h.1.setCell hp u, by simpa [World.setCell] using h.2⟩
theorem Up.grown {B : Nat} {a w w' : World} {row : Option Nat} (h : Up B a w) (hg : w.grownBy w' row) (hr : ∀ k, row = some k → B ≤ k) : Up B a w' := ⟨h.1.grown hg h.2 hr, Nat.le_trans h.2 hg.size⟩
theorem cell_stay {w w' : World} {a : Addr} {v : Value} (h : w.cell? a = some v) (hb : Below w.heap.size w w') : w'.cell? a = some v := (hb.cell (World.block_lt_of_cell? w _ h)).trans h
theorem lt_of_heap {w : World} {b : Nat} {o : Obj} (h : w.heap[b]? = some o) : b < w.heap.size := (Array.getElem?_eq_some_iff.1 h).1
theorem blk_stay {w w' : World} {b : Nat} {o : Obj} (h : w.heap[b]? = some o) (hb : Below w.heap.size w w') : w'.heap[b]? = some o := (hb.block b (lt_of_heap h)).trans h
theorem grown_of {w w' : World} (h : Below w.heap.size w w') (row : Option Nat) : w.grownBy w' row := ⟨h.os, h.tape, h.output, h.size, fun k hk _ => h.block k hk⟩
theorem grown_trans {a w w' : World} {row : Option Nat} (h : a.grownBy w row) (k : w.grownBy w' row) : a.grownBy w' row :=
  ⟨k.os.trans h.os, k.tape.trans h.tape, k.output.trans h.output, Nat.le_trans h.size k.size, fun j hj hne => (k.block j (Nat.lt_of_lt_of_le hj h.size) hne).trans (h.block j hj hne)⟩
theorem grown_set {a w : World} {b : Nat} (h : a.grownBy w (some b)) (i : Nat) (v : Value) : a.grownBy (w.setCell ⟨b, i, none⟩ v) (some b) :=
  ⟨h.os, h.tape, h.output, by simpa [World.setCell] using h.size, fun j hj hne => (heap_setCell_other w ⟨b, i, none⟩ j v (fun e => hne (by rw [e]))).trans (h.block j hj hne)⟩
theorem grown_drew {a w : World} {row : Option Nat} (h : a.grownBy w row) : a.grownBy w.drew row := ⟨h.os, h.tape, h.output, h.size, h.block⟩
theorem Up.drewN' {B : Nat} {a w : World} (h : Up B a w) : ∀ n, Up B a (w.drewN n)
  | 0 => h
  | n + 1 => by
    have := (Up.drewN' h n).drew
    exact this
theorem below_drewN {B : Nat} {a w : World} (h : Below B a w) : ∀ n, Below B a (w.drewN n)
  | 0 => h
  | n + 1 => by
    have := (below_drewN h n).drew
    exact this
/-- A row of labels. -/
def LR (w : World) (g n : Nat) (L : Nat → Int) : Prop := w.rowIs g 43 n (fun i => .int .u8 (L i))
theorem LR.cell {w : World} {b n : Nat} {N : Nat → Int} (h : LR w b n N) {i : Nat} (hi : i < n) : w.cell? ⟨b, i, none⟩ = some (.int .u8 (N i)) := World.rowIs.cell h hi
theorem LR.frozen {w : World} {b n : Nat} {N : Nat → Int} (h : LR w b n N) (i : Nat) : w.frozen? ⟨b, i, none⟩ = false := World.rowIs.frozen h i
theorem LR.lt {w : World} {b n : Nat} {N : Nat → Int} (h : LR w b n N) : b < w.heap.size := World.rowIs.lt h
theorem LR.congr {w : World} {b n : Nat} {N M : Nat → Int} (h : LR w b n N) (e : ∀ i, i < n → N i = M i) : LR w b n M := World.rowIs.congr h fun i hi => by rw [e i hi]
theorem LR.keep {w w' : World} {b n : Nat} {N : Nat → Int} (h : LR w b n N) (e : w'.heap[b]? = w.heap[b]?) : LR w' b n N := World.rowIs.of_block h e
theorem LR.stay {w w' : World} {b n : Nat} {N : Nat → Int} (h : LR w b n N) (hb : Below w.heap.size w w') : LR w' b n N := h.keep (hb.block b h.lt)
theorem LR.grown {w w' : World} {b n : Nat} {N : Nat → Int} {row : Option Nat} (h : LR w b n N) (hb : w.grownBy w' row) (hne : some b ≠ row) : LR w' b n N := h.keep (hb.block b h.lt hne)
theorem LR.drew {w : World} {b n : Nat} {N : Nat → Int} (h : LR w b n N) : LR w.drew b n N := h
/-- One label in its place. -/
def setN (N : Nat → Int) (i : Nat) (x : Int) : Nat → Int := fun j => if j = i then x else N j
theorem LR.set {w : World} {b n : Nat} {N : Nat → Int} (h : LR w b n N) (i : Nat) (x : Int) : LR (w.setCell ⟨b, i, none⟩ (.int .u8 x)) b n (setN N i x) := by
  refine World.rowIs.congr (World.rowIs.set h i _) fun j _ => ?_
  unfold setN
  by_cases e : j = i
  · simp only [e, if_true]
  · simp only [e, if_false]
theorem infoL : (Try.prog.info? 43).map (fun i => (i.zero, i.size, i.bytes)) = some (some (.int .u8 0), 1, 1) := by kernel_rfl
theorem made_lr (w : World) (n : Nat) : LR (w.alloc (.cells (madeCells #[Value.int .u8 0] n) 43)) w.heap.size n (fun _ => 0) := World.rowIs_made w _ n 43
/-- Labels set from a place up to another one. -/
def setL (L : Nat → Int) (l f t : Int) : Nat → Int := fun i => if f ≤ (i : Int) ∧ (i : Int) < t then l else L i
theorem setL_none (L : Nat → Int) (l f t : Int) (h : t ≤ f) (i : Nat) : setL L l f t i = L i := by
  unfold setL
  rw [if_neg (by omega)]
theorem setL_same {L : Nat → Int} {l f t f' t' : Int} {i : Nat} (h : (f ≤ (i : Int) ∧ (i : Int) < t) ↔ (f' ≤ (i : Int) ∧ (i : Int) < t')) : setL L l f t i = setL L l f' t' i := by
  unfold setL
  by_cases e : f ≤ (i : Int) ∧ (i : Int) < t
  · rw [if_pos e, if_pos (h.1 e)]
  · rw [if_neg e, if_neg (fun h' => e (h.2 h'))]
theorem setL_snoc (L : Nat → Int) (l f : Int) (k : Nat) (h : f ≤ (k : Int)) (i : Nat) : setN (setL L l f (k : Int)) k l i = setL L l f ((k : Int) + 1) i := by
  unfold setN setL
  by_cases e : i = k
  · subst e
    rw [if_pos rfl, if_pos (by omega)]
  · rw [if_neg e]
    by_cases e2 : f ≤ (i : Int) ∧ (i : Int) < (k : Int)
    · rw [if_pos e2, if_pos (by omega)]
    · rw [if_neg e2, if_neg (by omega)]
/-- A sheet in memory: its block and the row of its labels. -/
structure Sh (w : World) (T g n : Nat) (L : Nat → Int) : Prop where
  box : w.heap[T]? = some (.cells #[.slice (some ⟨g, 0, none⟩) n n] 74 (0, 0))
  row : LR w g n L
theorem Sh.ne {w : World} {T g n : Nat} {L : Nat → Int} (h : Sh w T g n L) : T ≠ g := by
  intro e
  subst e
  obtain ⟨c, hc, _⟩ := h.row
  rw [h.box] at hc
  injection hc with hc
  injection hc with _ e _
  exact absurd e (by decide)
theorem Sh.cell {w : World} {T g n : Nat} {L : Nat → Int} (h : Sh w T g n L) : w.cell? ⟨T, 0, none⟩ = some (.slice (some ⟨g, 0, none⟩) n n) := by
  simp [World.cell?, h.box]
theorem Sh.lt {w : World} {T g n : Nat} {L : Nat → Int} (h : Sh w T g n L) : T < w.heap.size := lt_of_heap h.box
theorem Sh.congr {w : World} {T g n : Nat} {L M : Nat → Int} (h : Sh w T g n L) (e : ∀ i, i < n → L i = M i) : Sh w T g n M := ⟨h.box, h.row.congr e⟩
theorem Sh.keep {w w' : World} {T g n : Nat} {L : Nat → Int} (h : Sh w T g n L) (e1 : w'.heap[T]? = w.heap[T]?) (e2 : w'.heap[g]? = w.heap[g]?) : Sh w' T g n L := ⟨e1.trans h.box, h.row.keep e2⟩
theorem Sh.stay {w w' : World} {T g n : Nat} {L : Nat → Int} (h : Sh w T g n L) (hb : Below w.heap.size w w') : Sh w' T g n L := h.keep (hb.block T h.lt) (hb.block g h.row.lt)
theorem Sh.grown {w w' : World} {T g n : Nat} {L : Nat → Int} {row : Option Nat} (h : Sh w T g n L) (hb : w.grownBy w' row) (h1 : some T ≠ row) (h2 : some g ≠ row) : Sh w' T g n L := h.keep (hb.block T h.lt h1) (hb.block g h.row.lt h2)
theorem Sh.drew {w : World} {T g n : Nat} {L : Nat → Int} (h : Sh w T g n L) : Sh w.drew T g n L := ⟨h.box, h.row⟩
theorem wrap_is (x : Int) : IntKind.i64.wrap x = wrap64 x := IntWalk.i64_left x
end Go.Proofs.Ytgebmmbnpdhooaa
