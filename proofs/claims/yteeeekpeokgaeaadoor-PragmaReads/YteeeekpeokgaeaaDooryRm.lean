/- Rules in memory. -/
import Derived.Test.YteeeekpeokgaeaaDooryWd
import Derived.Test.YteeeekpeokgaeaaDoorkV
namespace Go.Proofs.YteeeekpeokgaeaaDoor
set_option linter.unusedVariables false
open Go.RowKit Go.ChangeShapes Tns
theorem tl_ne {A B : ByteArray} {l : List UInt8} (hB : B.toList = l) (h : ¬ A = B) : (A.toList == l) = false := by
  rw [← hB]
  exact beq_eq_false_iff_ne.2 (fun e => h (Lns.toList_inj e))
theorem tl_eq {A B : ByteArray} {l : List UInt8} (hB : B.toList = l) (h : A = B) : (A.toList == l) = true := by
  rw [h, hB]
  exact beq_self_eq_true _
theorem sMark_l : sMark.toList = [115, 112, 101, 108, 108, 58] := by unfold sMark; go_simp
theorem sOff_l : sOff.toList = [111, 102, 102] := by unfold sOff; go_simp
theorem sLine_l : sLine.toList = [108, 105, 110, 101] := by unfold sLine; go_simp
theorem sOn_l : sOn.toList = [111, 110] := by unfold sOn; go_simp
theorem sNext_l : sNext.toList = [110, 101, 120, 116] := by unfold sNext; go_simp
theorem sWords_l : sWords.toList = [119, 111, 114, 100, 115] := by unfold sWords; go_simp
theorem own_frm3 {w : World} {base e size n : Nat} {v : Value} {xs : List Value} (h : w.ownsRow base e size v n xs) : ∃ a m c, v = .slice a m c := by
  obtain ⟨_, ⟨rfl, _⟩ | ⟨g, c, u, rfl, _⟩⟩ := h
  · exact ⟨_, _, _, rfl⟩
  · exact ⟨_, _, _, rfl⟩
/-- Spans as cells. -/
def spC (l : List (Nat × Nat)) : List Value := l.flatMap fun p => [.int .i64 (p.1 : Int), .int .i64 (p.2 : Int)]
theorem spC_app (l m : List (Nat × Nat)) : spC (l ++ m) = spC l ++ spC m := by simp [spC]
theorem spC_len : ∀ l : List (Nat × Nat), (spC l).length = l.length * 2
  | [] => rfl
  | p :: l => by
    show (([.int .i64 (p.1 : Int), .int .i64 (p.2 : Int)] : List Value) ++ spC l).length = (l.length + 1) * 2
    rw [List.length_append, spC_len l]
    show 2 + _ = _
    omega
theorem spC_at : ∀ (l : List (Nat × Nat)) (i : Nat) (p : Nat × Nat), l[i]? = some p → (spC l)[i * 2]? = some (.int .i64 (p.1 : Int)) ∧ (spC l)[i * 2 + 1]? = some (.int .i64 (p.2 : Int))
  | [], i, p, h => by simp at h
  | x :: l, 0, p, h => by
    obtain rfl : x = p := by simpa using h
    exact ⟨rfl, rfl⟩
  | x :: l, i + 1, p, h => by
    have h' : l[i]? = some p := by simpa using h
    obtain ⟨h1, h2⟩ := spC_at l i p h'
    have e : ∀ j, (spC (x :: l))[(i * 2 + j) + 2]? = (spC l)[i * 2 + j]? := fun j => by
      show ([_, _] ++ spC l)[(i * 2 + j) + 2]? = _
      rw [List.getElem?_append_right (by show 2 ≤ _; omega)]
      congr 1
    exact ⟨by rw [← h1, show (i + 1) * 2 = i * 2 + 0 + 2 by omega, e 0]; rfl, by rw [← h2, show (i + 1) * 2 + 1 = i * 2 + 1 + 2 by omega, e 1]⟩
/-- Spans in a row of their own. -/
def SpR (w : World) (base : Nat) (v : Value) (l : List (Nat × Nat)) : Prop := w.ownsRow base 36 2 v l.length (spC l)
theorem infoSp : (Tryd.prog.info? 36).map (fun i => (i.zero, i.size, i.bytes)) = some (some (.agg #[.int .i64 0, .int .i64 0]), 2, 16) := by kernel_rfl
/-- Two rows of other kinds lie in other blocks. -/
theorem own_oth {w : World} {b1 b2 e1 e2 s1 s2 n1 n2 : Nat} {v1 v2 : Value} {x1 x2 : List Value} (h1 : w.ownsRow b1 e1 s1 v1 n1 x1) (h2 : w.ownsRow b2 e2 s2 v2 n2 x2) (he : e1 ≠ e2) : v1.ownBlock = none ∨ v1.ownBlock ≠ v2.ownBlock := by
  obtain ⟨_, ⟨rfl, _⟩ | ⟨g1, c1, u1, rfl, _, hh1, _⟩⟩ := h1
  · exact Or.inl rfl
  · obtain ⟨_, ⟨rfl, _⟩ | ⟨g2, c2, u2, rfl, _, hh2, _⟩⟩ := h2
    · exact Or.inr (by simp [Value.ownBlock])
    · refine Or.inr (fun e => ?_)
      simp only [Value.ownBlock, Option.some.injEq] at e
      subst e
      rw [hh1] at hh2
      cases hh2
      exact he rfl
/-- A row lies elsewhere than what is no row of its kind. -/
theorem own_ne {w : World} {R : Nat} {cs : Array Value} {T base e size n : Nat} {v : Value} {xs : List Value} (hR : w.heap[R]? = some (.cells cs T)) (h : w.ownsRow base e size v n xs) (hT : T ≠ e) : some R ≠ v.ownBlock := by
  obtain ⟨_, ⟨rfl, _⟩ | ⟨g, c, u, rfl, _, hh, _⟩⟩ := h
  · simp [Value.ownBlock]
  · intro e1
    simp only [Value.ownBlock, Option.some.injEq] at e1
    subst e1
    rw [hR] at hh
    cases hh
    exact hT rfl
theorem own_put {w : World} {R i : Nat} {u : Value} {base e size n : Nat} {v : Value} {xs : List Value} (h : w.ownsRow base e size v n xs) (hne : some R ≠ v.ownBlock) : (w.setCell ⟨R, i, none⟩ u).ownsRow base e size v n xs := by
  obtain ⟨hl, ⟨rfl, rfl⟩ | ⟨g, cap, cur, rfl, hg, hh, h3⟩⟩ := h
  · exact ⟨hl, Or.inl ⟨rfl, rfl⟩⟩
  · have hgR : g ≠ R := fun e1 => hne (by simp [Value.ownBlock, e1])
    exact ⟨hl, Or.inr ⟨g, cap, cur, rfl, hg, by rw [Below.heap_setCell w ⟨R, i, none⟩ u g hgR]; exact hh, h3⟩⟩
theorem cells_set {w : World} {b : Nat} {cs : Array Value} {T : TypeId} (h : w.heap[b]? = some (.cells cs T)) (i : Nat) (v : Value) : (w.setCell ⟨b, i, none⟩ v).heap[b]? = some (.cells (cs.setIfInBounds i v) T) := by
  obtain ⟨hlt, he⟩ := Array.getElem?_eq_some_iff.1 h
  show (w.heap.modify b _)[b]? = _
  rw [Array.getElem?_eq_getElem (by rw [Array.size_modify]; exact hlt), Array.getElem_modify_self, he]
  simp
theorem cells_oth {w : World} {b R i : Nat} {cs : Array Value} {T : TypeId} {u : Value} (h : w.heap[b]? = some (.cells cs T)) (hne : b ≠ R) : (w.setCell ⟨R, i, none⟩ u).heap[b]? = some (.cells cs T) := by
  rw [Below.heap_setCell w ⟨R, i, none⟩ u b hne]
  exact h
theorem up_set {a w : World} {B R i : Nat} {u : Value} (h : Up B a w) (hR : B ≤ R) : Up B a (w.setCell ⟨R, i, none⟩ u) :=
  ⟨h.1.setCell hR _, by have := h.2; simp only [World.setCell, Array.size_modify]; exact this⟩
/-- The reference's rules: where its two rows are named; what was there stays. -/
def RM (w0 w1 w : World) (R : Nat) (va vb : Value) (rows : List (Nat × Nat)) (ws : List ByteArray) : Prop :=
  (Up w0.heap.size w0 w ∧ w0.heap.size ≤ w1.heap.size ∧ w1.heap.size ≤ w.heap.size) ∧ (w0.heap.size ≤ R) ∧ (∀ k, k < w1.heap.size → k ≠ R → w.heap[k]? = w1.heap[k]?) ∧ w.heap[R]? = some (.cells #[va, vb] 32) ∧ SpR w w1.heap.size va rows ∧ SS w w1.heap.size vb ws
theorem RM.lt {w0 w1 w : World} {R : Nat} {va vb : Value} {rows : List (Nat × Nat)} {ws : List ByteArray} (h : RM w0 w1 w R va vb rows ws) : R < w.heap.size :=
  (Array.getElem?_eq_some_iff.1 h.2.2.2.1).1
theorem RM.stay {w0 w1 w w' : World} {R : Nat} {va vb : Value} {rows : List (Nat × Nat)} {ws : List ByteArray} (h : RM w0 w1 w R va vb rows ws) (hb : Below w.heap.size w w') : RM w0 w1 w' R va vb rows ws := by
  have hl := h.lt
  obtain ⟨⟨h1, h0, h7⟩, h2, h3, h4, h5, h6⟩ := h
  exact ⟨⟨h1.stay hb, h0, Nat.le_trans h7 hb.size⟩, h2, fun k hk hn => by rw [hb.block k (by omega)]; exact h3 k hk hn, by rw [hb.block R hl]; exact h4, own_stay h5 hb, own_stay h6 hb⟩
theorem RM.cells {w0 w1 w : World} {R : Nat} {va vb : Value} {rows : List (Nat × Nat)} {ws : List ByteArray} (h : RM w0 w1 w R va vb rows ws) : w.cell? ⟨R, 0, none⟩ = some va ∧ w.cell? ⟨R, 1, none⟩ = some vb ∧ w.frozen? ⟨R, 0, none⟩ = false ∧ w.frozen? ⟨R, 1, none⟩ = false := by
  have h4 := h.2.2.2.1
  refine ⟨?_, ?_, ?_, ?_⟩ <;> simp [World.cell?, World.frozen?, h4]
theorem RM.old {w0 w1 w : World} {R : Nat} {va vb : Value} {rows : List (Nat × Nat)} {ws : List ByteArray} (h : RM w0 w1 w R va vb rows ws) {a : Addr} {u : Value} (ha : w1.cell? a = some u) (hR : a.block ≠ R) : w.cell? a = some u := by
  have hl := World.block_lt_of_cell? w1 _ ha
  have e := h.2.2.1 a.block hl hR
  rw [← ha]
  exact World.cell?_of_block e
theorem grown_size {w w' : World} {row : Option Nat} (h : w.grownBy w' row) : w.heap.size ≤ w'.heap.size := h.size
/-- Behind an append to the lines. -/
theorem RM.rows {w0 w1 w w3 : World} {R : Nat} {va vb v' : Value} {rows rows' : List (Nat × Nat)} {ws : List ByteArray} (h : RM w0 w1 w R va vb rows ws) (hg : w.grownBy w3 va.ownBlock) (hr : SpR w3 w1.heap.size v' rows') : RM w0 w1 (w3.setCell ⟨R, 0, none⟩ v') R v' vb rows' ws := by
  have hl := h.lt
  obtain ⟨⟨h1, h0, h7⟩, h2, h3, h4, h5, h6⟩ := h
  have q1 := own_ne h4 h5 (by decide)
  have hb := own_base h5
  have e4 : w3.heap[R]? = some (.cells #[va, vb] 32) := by rw [hg.block R hl q1]; exact h4
  have e6 : SS w3 w1.heap.size vb ws := World.ownsRow.kept h6 hg (own_oth h6 h5 (by decide))
  refine ⟨⟨up_set (h1.grown hg (fun k hk => Nat.le_trans h0 (hb k hk))) h2, h0, ?_⟩, h2, fun k hk hn => ?_, ?_, own_put hr (own_ne e4 hr (by decide)), own_put e6 (own_ne e4 e6 (by decide))⟩
  · simp only [World.setCell, Array.size_modify]
    exact Nat.le_trans h7 hg.size
  · rw [Below.heap_setCell w3 ⟨R, 0, none⟩ v' k hn, hg.block k (by omega) (fun e => by have := hb k e.symm; omega)]
    exact h3 k hk hn
  · rw [cells_set e4]
    rfl
/-- Behind an append to the words. -/
theorem RM.words {w0 w1 w w3 : World} {R : Nat} {va vb v' : Value} {rows : List (Nat × Nat)} {ws ws' : List ByteArray} (h : RM w0 w1 w R va vb rows ws) (hg : w.grownBy w3 vb.ownBlock) (hr : SS w3 w1.heap.size v' ws') : RM w0 w1 (w3.setCell ⟨R, 1, none⟩ v') R va v' rows ws' := by
  have hl := h.lt
  obtain ⟨⟨h1, h0, h7⟩, h2, h3, h4, h5, h6⟩ := h
  have q1 := own_ne h4 h6 (by decide)
  have hb := own_base h6
  have e4 : w3.heap[R]? = some (.cells #[va, vb] 32) := by rw [hg.block R hl q1]; exact h4
  have e5 : SpR w3 w1.heap.size va rows := World.ownsRow.kept h5 hg (own_oth h5 h6 (by decide))
  refine ⟨⟨up_set (h1.grown hg (fun k hk => Nat.le_trans h0 (hb k hk))) h2, h0, ?_⟩, h2, fun k hk hn => ?_, ?_, own_put e5 (own_ne e4 e5 (by decide)), own_put hr (own_ne e4 hr (by decide))⟩
  · simp only [World.setCell, Array.size_modify]
    exact Nat.le_trans h7 hg.size
  · rw [Below.heap_setCell w3 ⟨R, 1, none⟩ v' k hn, hg.block k (by omega) (fun e => by have := hb k e.symm; omega)]
    exact h3 k hk hn
  · rw [cells_set e4]
    rfl
/-- The tables that all of it reads. -/
def PT (w : World) : Prop := Lns.Tabs w ∧ ∃ m : Int, w.cell? ⟨0, 0, none⟩ = some (.int .i64 m)
theorem PT.stay {w w' : World} (h : PT w) (hb : Below w.heap.size w w') : PT w' := by
  obtain ⟨h1, m, h2⟩ := h
  exact ⟨Lns.tabs_stay h1 hb, m, cell_stay h2 hb⟩
end Go.Proofs.YteeeekpeokgaeaaDoor
