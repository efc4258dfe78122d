/- What lies in memory: worlds that grow, rows of the call's own; no program's function in this text. -/
import Derived.Test.YteeeekpeokgaeaaDoorProg
import Derived.WalkKit
import Derived.Below
import Derived.WalkSmall
import Derived.Deep.QuietTactic
import Derived.BigQuiet
import Derived.Deep.LoopGhost
import Derived.Deep.DeepFit
import Derived.OwnWalk
import Derived.Deep.OwnRows
import Derived.Lib.MinMax
import Derived.Deep.DeepCutAuto
import Derived.Deep.RegionHeld3
import Derived.Laws.OwnMore
import Derived.Laws.BytesArg
import Derived.Test.YteeeekpeokgaeaaDoorhPure
namespace Go.Proofs.YteeeekpeokgaeaaDoor
set_option linter.unusedVariables false
open Go.RowKit Go.ChangeShapes
/-- The world has grown from there on. -/
def Up (B : Nat) (a w : World) : Prop := Below B a w ∧ B ≤ w.heap.size
theorem Up.refl (w : World) : Up w.heap.size w w := ⟨Below.refl _ _, Nat.le_refl _⟩
theorem Up.stay {B : Nat} {a w w' : World} (h : Up B a w) (hb : Below w.heap.size w w') : Up B a w' := ⟨h.1.trans (hb.mono h.2), Nat.le_trans h.2 hb.size⟩
theorem Up.alloc {B : Nat} {a w : World} (h : Up B a w) (o : Obj) : Up B a (w.alloc o) := h.stay ((Below.refl _ _).alloc (Nat.le_refl _) o)
theorem Up.drew {B : Nat} {a w : World} (h : Up B a w) : Up B a w.drew := ⟨h.1.drew, h.2⟩
theorem Up.setCell {B : Nat} {a w : World} (h : Up B a w) {p : Addr} (hp : B ≤ p.block) (u : Value) : Up B a (w.setCell p u) :=
  ⟨h.1.setCell hp u, by simpa [World.setCell] using h.2⟩
theorem Up.grown {B : Nat} {a w w' : World} {row : Option Nat} (h : Up B a w) (hg : w.grownBy w' row) (hr : ∀ k, row = some k → B ≤ k) : Up B a w' := ⟨h.1.grown hg h.2 hr, Nat.le_trans h.2 hg.size⟩
theorem cell_stay {w w' : World} {a : Addr} {v : Value} (h : w.cell? a = some v) (hb : Below w.heap.size w w') : w'.cell? a = some v := (hb.cell (World.block_lt_of_cell? w _ h)).trans h
theorem lt_of_heap {w : World} {b : Nat} {o : Obj} (h : w.heap[b]? = some o) : b < w.heap.size := (Array.getElem?_eq_some_iff.1 h).1
theorem blk_stay {w w' : World} {b : Nat} {o : Obj} (h : w.heap[b]? = some o) (hb : Below w.heap.size w w') : w'.heap[b]? = some o := (hb.block b (lt_of_heap h)).trans h
theorem grown_of {w w' : World} (h : Below w.heap.size w w') (row : Option Nat) : w.grownBy w' row := ⟨h.os, h.tape, h.output, h.size, fun k hk _ => h.block k hk⟩
theorem grown_trans {a w w' : World} {row : Option Nat} (h : a.grownBy w row) (k : w.grownBy w' row) : a.grownBy w' row :=
  ⟨k.os.trans h.os, k.tape.trans h.tape, k.output.trans h.output, Nat.le_trans h.size k.size, fun j hj hne => (k.block j (Nat.lt_of_lt_of_le hj h.size) hne).trans (h.block j hj hne)⟩
theorem grown_set {a w : World} {b : Nat} (h : a.grownBy w (some b)) (i : Nat) (v : Value) : a.grownBy (w.setCell ⟨b, i, none⟩ v) (some b) :=
  ⟨h.os, h.tape, h.output, by simpa [World.setCell] using h.size, fun j hj hne => (heap_setCell_other w ⟨b, i, none⟩ j v (fun e => hne (by rw [e]))).trans (h.block j hj hne)⟩
theorem grown_drew {a w : World} {row : Option Nat} (h : a.grownBy w row) : a.grownBy w.drew row := ⟨h.os, h.tape, h.output, h.size, h.block⟩
theorem Up.drewN' {B : Nat} {a w : World} (h : Up B a w) : ∀ n, Up B a (w.drewN n)
  | 0 => h
  | n + 1 => by
    have := (Up.drewN' h n).drew
    exact this
theorem below_drewN {B : Nat} {a w : World} (h : Below B a w) : ∀ n, Below B a (w.drewN n)
  | 0 => h
  | n + 1 => by
    have := (below_drewN h n).drew
    exact this
theorem wrap_is (x : Int) : IntKind.i64.wrap x = wrap64 x := IntWalk.i64_left x
theorem own_stay {w w' : World} {base e size n : Nat} {v : Value} {xs : List Value} (h : w.ownsRow base e size v n xs) (hb : Below w.heap.size w w') : w'.ownsRow base e size v n xs := by
  obtain ⟨h1, h2 | ⟨g, cap, cur, rfl, hg, hh, h3⟩⟩ := h
  · exact ⟨h1, Or.inl h2⟩
  · refine ⟨h1, Or.inr ⟨g, cap, cur, rfl, hg, ?_, h3⟩⟩
    rw [hb.block g (Array.getElem?_eq_some_iff.1 hh).1]; exact hh
theorem own_base {w : World} {base e size n : Nat} {v : Value} {xs : List Value} (h : w.ownsRow base e size v n xs) : ∀ k, v.ownBlock = some k → base ≤ k := by
  obtain ⟨h1, ⟨rfl, _⟩ | ⟨g, cap, cur, rfl, hg, hh, h3⟩⟩ := h
  · intro k hk; cases hk
  · intro k hk; cases hk; exact hg
theorem own_mono {w : World} {base base' e size n : Nat} {v : Value} {xs : List Value} (h : w.ownsRow base e size v n xs) (hb : base' ≤ base) : w.ownsRow base' e size v n xs := by
  obtain ⟨h1, h2 | ⟨g, cap, cur, rfl, hg, hh, h3⟩⟩ := h
  · exact ⟨h1, Or.inl h2⟩
  · exact ⟨h1, Or.inr ⟨g, cap, cur, rfl, by omega, hh, h3⟩⟩
theorem own_form {w : World} {base e size n : Nat} {v : Value} {xs : List Value} (h : w.ownsRow base e size v n xs) : ∃ ad c, v = .slice ad n c := by
  obtain ⟨_, ⟨rfl, h2⟩ | ⟨g, cap, cur, rfl, _⟩⟩ := h
  · exact ⟨none, 0, by rw [h2]⟩
  · exact ⟨_, _, rfl⟩
theorem own_at {w : World} {base e size n c : Nat} {ad : Option Addr} {xs : List Value} (h : w.ownsRow base e size (.slice ad n c) n xs) (hn : 0 < n) : ∃ g, ad = some ⟨g, 0, none⟩ ∧ base ≤ g ∧ g < w.heap.size := by
  have h0 := h
  obtain ⟨_, ⟨e, h2⟩ | ⟨g, cap, cur, e, hg, _⟩⟩ := h
  · omega
  · injection e with e1 _ _
    subst e1
    exact ⟨g, rfl, (h0.lt g rfl)⟩
theorem own_frozen {w : World} {base e size g n c n' : Nat} {xs : List Value} (h : w.ownsRow base e size (.slice (some ⟨g, 0, none⟩) n' c) n xs) (i : Nat) : w.frozen? ⟨g, i, none⟩ = false := by
  obtain ⟨_, ⟨e, _⟩ | ⟨g', cap, cur, e, _, hh, _⟩⟩ := h
  · cases e
  · injection e with e1 _ _
    injection e1 with e1
    injection e1 with e1 _ _
    subst e1
    simp [World.frozen?, hh]
theorem info_parts {t : TypeId} {z : Value} {s b : Nat} (h : (Tryd.prog.info? t).map (fun i => (i.zero, i.size, i.bytes)) = some (some z, s, b)) : ∃ i, Tryd.prog.info? t = some i ∧ i.zero = some z ∧ i.size = s ∧ i.bytes = b := by
  obtain ⟨i, hi, hzz⟩ := Option.map_eq_some_iff.1 h
  simp only [Prod.mk.injEq] at hzz
  exact ⟨i, hi, hzz.1, hzz.2.1, hzz.2.2⟩

end Go.Proofs.YteeeekpeokgaeaaDoor
/- Bytes that lie where a slice points. -/
namespace Go.Proofs.YteeeekpeokgaeaaDoor
set_option linter.unusedVariables false
open Go.RowKit Go.ChangeShapes
/-- Bytes that lie where a slice points. -/
def BC (w : World) (ad : Option Addr) (n : Nat) (c : Nat → Int) : Prop := ∀ i, i < n → ∃ b off, ad = some ⟨b, off, none⟩ ∧ w.cell? ⟨b, off + i, none⟩ = some (.int .u8 (c i))
theorem BC.stay {w w' : World} {ad : Option Addr} {n : Nat} {c : Nat → Int} (h : BC w ad n c) (hb : Below w.heap.size w w') : BC w' ad n c := fun i hi => by
  obtain ⟨b, off, e, hc⟩ := h i hi
  exact ⟨b, off, e, cell_stay hc hb⟩
theorem BC.drew {w : World} {ad : Option Addr} {n : Nat} {c : Nat → Int} (h : BC w ad n c) : BC w.drew ad n c := h
/-- So many bytes; behind them there are none. -/
def Ch (c : Nat → Int) (n : Nat) : Prop := (∀ i, i < n → 0 ≤ c i ∧ c i < 256) ∧ ∀ i, n ≤ i → c i = -1
end Go.Proofs.YteeeekpeokgaeaaDoor
