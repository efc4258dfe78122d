/- What stays but for some blocks; the words that rules know, in a map. -/
import Derived.Test.YteeeekpeokgaeaaDoorPkKV2
import Derived.Maps.OwnSet
import Derived.Maps.AppendAt
import Derived.StringKeys
namespace Go.Proofs.YteeeekpeokgaeaaDoor
set_option linter.unusedVariables false
open Go.RowKit Go.ChangeShapes Go.Maps
/-- The first blocks are as they were, but for those told. -/
structure KpP (n : Nat) (p : Nat → Prop) (w w' : World) : Prop where
  os : w'.os = w.os
  tape : w'.tape = w.tape
  output : w'.output = w.output
  size : w.heap.size ≤ w'.heap.size
  block : ∀ k, k < n → ¬ p k → w'.heap[k]? = w.heap[k]?
theorem KpP.refl (n : Nat) (p : Nat → Prop) (w : World) : KpP n p w w := ⟨rfl, rfl, rfl, Nat.le_refl _, fun _ _ _ => rfl⟩
theorem KpP.trans {n : Nat} {p : Nat → Prop} {a b c : World} (h : KpP n p a b) (k : KpP n p b c) : KpP n p a c :=
  ⟨k.os.trans h.os, k.tape.trans h.tape, k.output.trans h.output, Nat.le_trans h.size k.size, fun i hi hn => (k.block i hi hn).trans (h.block i hi hn)⟩
theorem KpP.mono {n m : Nat} {p : Nat → Prop} {a b : World} (h : KpP n p a b) (hm : m ≤ n) : KpP m p a b := ⟨h.os, h.tape, h.output, h.size, fun k hk => h.block k (Nat.lt_of_lt_of_le hk hm)⟩
theorem KpP.wide {n : Nat} {p q : Nat → Prop} {a b : World} (h : KpP n p a b) (hq : ∀ k, p k → q k) : KpP n q a b := ⟨h.os, h.tape, h.output, h.size, fun k hk hn => h.block k hk (fun e => hn (hq k e))⟩
theorem KpP.of {n : Nat} {p : Nat → Prop} {a b : World} (h : Below n a b) : KpP n p a b := ⟨h.os, h.tape, h.output, h.size, fun k hk _ => h.block k hk⟩
theorem KpP.below {n B : Nat} {p : Nat → Prop} {a b : World} (h : KpP n p a b) (hB : B ≤ n) (hp : ∀ k, p k → B ≤ k) : Below B a b :=
  ⟨h.os, h.tape, h.output, h.size, fun k hk => h.block k (by omega) (fun e => by have := hp k e; omega)⟩
theorem KpP.cell {n : Nat} {p : Nat → Prop} {a b : World} {v : Value} (h : KpP n p a b) {q : Addr} (hc : a.cell? q = some v) (hq : q.block < n) (hp : ¬ p q.block) : b.cell? q = some v := (World.cell?_of_block (h.block _ hq hp)).trans hc
theorem KpP.setCell {n : Nat} {p : Nat → Prop} {a b : World} (h : KpP n p a b) {q : Addr} (hq : n ≤ q.block ∨ p q.block) (v : Value) : KpP n p a (b.setCell q v) :=
  ⟨h.os, h.tape, h.output, by have := h.size; simp only [World.setCell, Array.size_modify]; exact this, fun k hk hn => by
    rw [Below.heap_setCell b q v k (fun e => by subst e; rcases hq with h1 | h1 <;> first | omega | exact hn h1)]
    exact h.block k hk hn⟩
theorem KpP.grown {n : Nat} {p : Nat → Prop} {a b c : World} {g : Nat} (h : KpP n p a b) (hg : b.grownBy c (some g)) (hn : n ≤ b.heap.size) (hp : n ≤ g ∨ p g) : KpP n p a c :=
  h.trans ⟨hg.os, hg.tape, hg.output, hg.size, fun k hk hnk => hg.block k (by omega) (fun e => by cases e; rcases hp with h1 | h1 <;> first | omega | exact hnk h1)⟩
theorem KpP.up {p : Nat → Prop} {w0 a b : World} (h : KpP a.heap.size p a b) (hu : Up w0.heap.size w0 a) (hp : ∀ k, p k → w0.heap.size ≤ k) : Up w0.heap.size w0 b :=
  ⟨hu.1.trans (h.below hu.2 hp), Nat.le_trans hu.2 h.size⟩
/-- Words as they are known, in a map. -/
theorem bgK : Keyed Tryd.prog 9 := string_keyed Tryd.underlying9
theorem bgZ (w : World) : (zeroValue 56).run Tryd.prog w = .ok (.agg #[]) w := by kernel_rfl
def BgP (w : World) (b n : Nat) (L : List ByteArray) : Prop := ∃ D : DataW Unit, w.ownsMap Tryd.prog 9 unitElem b n D ∧ ∀ s : ByteArray, Maps.has D (.string s.data.toList) = true ↔ s ∈ L
theorem BgP.lt {w : World} {b n : Nat} {L : List ByteArray} (h : BgP w b n L) : b < w.heap.size := by obtain ⟨D, h, _⟩ := h; exact h.lt
theorem BgP.made (w : World) : BgP (w.alloc (.map #[] 0)) w.heap.size 0 [] := ⟨.map [], World.ownsMap_made w _ _ _, fun s => by simp [Maps.has]⟩
theorem BgP.block {w w' : World} {b n : Nat} {L : List ByteArray} (h : BgP w b n L) (e : w'.heap[b]? = w.heap[b]?) : BgP w' b n L := by
  obtain ⟨D, ⟨es, clock, hb, r⟩, hs⟩ := h
  exact ⟨D, ⟨es, clock, e.trans hb, r⟩, hs⟩
theorem BgP.stay {w w' : World} {b n : Nat} {L : List ByteArray} (h : BgP w b n L) (hb : Below w.heap.size w w') : BgP w' b n L := h.block (hb.block b h.lt)
theorem BgP.perm {w : World} {b n : Nat} {L M : List ByteArray} (h : BgP w b n L) (e : ∀ s, s ∈ L ↔ s ∈ M) : BgP w b n M := by
  obtain ⟨D, h1, h2⟩ := h
  exact ⟨D, h1, fun s => (h2 s).trans (e s)⟩
theorem BgP.setCell {w : World} {b n : Nat} {L : List ByteArray} (h : BgP w b n L) {a : Addr} (ha : b ≠ a.block) (u : Value) : BgP (w.setCell a u) b n L := h.block (Below.heap_setCell w a u b ha)
theorem bg_inj {s t : ByteArray} (h : (Lit.string s.data.toList) = .string t.data.toList) : s = t := by
  injection h with h
  have : s.data = t.data := Array.toList_inj.1 h
  cases s; cases t; simp_all
theorem bgS (s : ByteArray) (hs : s.size ≤ 9223372036854775807) : keyOf Tryd.prog 9 (.string s) = some (.string s.data.toList) := by
  exact WideMaps.keyOf_string_mk Tryd.underlying9 hs
theorem BgP.put {w w' : World} {b n : Nat} {L : List ByteArray} {D : DataW Unit} {s : ByteArray} (h0 : w.ownsMap Tryd.prog 9 unitElem b n D) (h1 : ∀ s : ByteArray, Maps.has D (.string s.data.toList) = true ↔ s ∈ L) (h : w'.ownsMap Tryd.prog 9 unitElem b (n + 1) (D.put (.string s.data.toList) (.agg []))) : BgP w' b (n + 1) (L ++ [s]) := by
  refine ⟨_, h, fun t => ?_⟩
  by_cases e : t = s
  · subst e
    rw [has_put_same h0.isMap (by show WideAt.IsKeyLit (.string _); trivial)]
    simp
  · rw [has_put_other (fun h => e (bg_inj h)), h1 t]
    simp [e]
/-- A word is put, as one step of a region that draws its order. -/
theorem wpo_bgput {w : World} {o : Oper} {a : Act} {K : Act → World → Prop} {Q : Exit → Act → World → Prop} (m x v : Operand) (t : TypeId) (hop : o.op = Op.mapUpdate t m x v)
    (ht : Tryd.prog.underlying t = some (.map 9 56)) {b n : Nat} {L : List ByteArray} (hm : a.eval m = .map (some b)) (h : BgP w b n L) (hn : n ≤ 1000000000) (s : ByteArray) (hs : s.size ≤ 9223372036854775807) (hx : a.eval x = .string s) (hv : a.eval v = .agg #[])
    (hK : ∀ w', BgP w' b (n + 1) (L ++ [s]) → w.grownBy w' (some b) → K (a.put o.dst undef) w') : o.wp Tryd.prog a w K Q := by
  obtain ⟨D, hown, h2⟩ := h
  obtain ⟨w', hrun, r1, r2⟩ := hown.store bgK ht (by unfold maxLen; omega) (bgS s hs) (unitElem_mk (H := Unit))
  unfold Oper.wp
  simp [execOp, hop, hm, hx, hv, hrun, Result.andThen]
  exact hK w' (BgP.put hown h2 r1) r2.grown
end Go.Proofs.YteeeekpeokgaeaaDoor
