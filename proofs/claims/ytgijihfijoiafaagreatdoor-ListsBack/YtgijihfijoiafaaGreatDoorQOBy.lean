/- Bytes in a row of the call's own. -/
import Derived.Test.YtgijihfijoiafaaGreatDoorQPSrcRPut
import Derived.Lib.AppendStr
import Derived.Laws.MakeOwn
namespace Go.Proofs.YtgijihfijoiafaaGreatDoor
set_option linter.unusedVariables false
open Go.RowKit Go.ChangeShapes
/-- A byte as a cell; bytes as a text. -/
def u8c (b : UInt8) : Value := .int .u8 (b.toNat : Int)
def bA (l : List UInt8) : ByteArray := ⟨l.toArray⟩
theorem bA_size (l : List UInt8) : (bA l).size = l.length := by simp [bA, ByteArray.size]
theorem bA_list (l : List UInt8) : (bA l).data.toList = l := by simp [bA]
theorem bA_of (s : ByteArray) : bA s.data.toList = s := by cases s; simp [bA]
/-- These bytes lie in a row of the call's own. -/
def OB (w : World) (base : Nat) (v : Value) (l : List UInt8) : Prop := w.ownsRow base 5 1 v l.length (l.map u8c)
theorem OB.nil (w : World) (base : Nat) : OB w base (.slice none 0 0) [] := World.ownsRow_nil _ _ _ _
theorem OB.stay {w w' : World} {base : Nat} {v : Value} {l : List UInt8} (h : OB w base v l) (hb : Below w.heap.size w w') : OB w' base v l := own_stay h hb
theorem OB.form {w : World} {base : Nat} {v : Value} {l : List UInt8} (h : OB w base v l) : ∃ ad c, v = .slice ad l.length c := by
  obtain ⟨h1, ⟨rfl, h2⟩ | ⟨g, cap, cur, rfl, hg, hh, h3⟩⟩ := h
  · exact ⟨_, _, by rw [h2]⟩
  · exact ⟨_, _, rfl⟩
theorem OB.bsl {w : World} {base : Nat} {v : Value} {l : List UInt8} (h : OB w base v l) : Lns.BSl w v (bA l) := by
  have h0 : w.ownsRow base 5 1 v l.length (l.map u8c) := h
  obtain ⟨h1, ⟨rfl, h2⟩ | ⟨g, cap, cur, rfl, hg, hh, hnc, hcm, h3⟩⟩ := h
  · exact Or.inl ⟨none, 0, rfl, by rw [bA_size]; exact h2⟩
  · by_cases hz : l.length = 0
    · exact Or.inl ⟨_, cap, by rw [hz], by rw [bA_size]; exact hz⟩
    · refine Or.inr ⟨g, 0, cap, by rw [bA_size], by rw [bA_size]; omega, by rw [bA_size]; exact hnc, fun j hj => ?_⟩
      rw [bA_size] at hj
      rw [Nat.zero_add, h0.cellAt j (by omega), List.getElem?_map, List.getElem?_eq_getElem hj]
      have e : (bA l).get! j = l[j] := by
        show (bA l).data[j]! = _
        have hj' : j < (bA l).data.size := by simpa [bA] using hj
        rw [getElem!_pos (bA l).data j hj']
        simp [bA]
      rw [e]
      rfl
theorem u8_one (l : List UInt8) : ∀ u ∈ l.map u8c, u.oneCell' = true := by
  intro u hu
  obtain ⟨x, _, rfl⟩ := List.mem_map.1 hu
  rfl
theorem app_text {P : Program} {w : World} {ops : Array Oper} {rest : List Oper} {o : Oper} {a : Act} {Q : Exit → Act → World → Prop} (hgd : o.guard = none) (sl x : Operand) (t u : TypeId)
    (ho : o.op = .call { callee := .builtin .append, args := #[sl, x], argTypes := #[t, u] })
    (base : Nat) (i : TypeInfo) (ht : P.underlying t = some (.slice 5)) (hu : P.underlying u = some .string) (hi : P.info? 5 = some i) (hz : i.zero = some (.int .u8 0))
    (hsize : i.size = 1) (hby : i.bytes = 1)
    (v : Value) (l : List UInt8) (hs : a.eval sl = v) (hown : OB w base v l) (s : ByteArray) (hx : a.eval x = .string s)
    (h63 : l.length + s.size ≤ 1000000) (hbase : base ≤ w.heap.size)
    (h : ∀ v' w', OB w' base v' (l ++ s.data.toList) → w.grownBy w' v.ownBlock → wpList P ops Q rest (a.put o.dst v') w') : wpList P ops Q (o :: rest) a w := by
  refine Lib.wpList_append_own_string w hgd sl x t u ho base 5 i ht hu hi hz hsize hby v l.length (l.map u8c) hs hown s hx (by unfold maxLen; omega) (by omega) hbase (fun v' w' h1 h2 _ => h v' w' ?_ h2)
  unfold OB
  rw [List.length_append, List.map_append]
  exact h1
theorem OB.one {w : World} {base : Nat} {v : Value} {l : List UInt8} {x : UInt8} (h : w.ownsRow base 5 1 v (l.length + 1) (l.map u8c ++ [u8c x])) : OB w base v (l ++ [x]) := by
  unfold OB
  rw [List.length_append, List.map_append]
  exact h
theorem OB.set {w : World} {base g cap n : Nat} {l : List UInt8} (h : OB w base (.slice (some ⟨g, 0, none⟩) n cap) l) (j : Nat) (x : UInt8) (hn : n = l.length) : OB (w.setCell ⟨g, j, none⟩ (u8c x)) base (.slice (some ⟨g, 0, none⟩) n cap) (l.set j x) ∧ w.grownBy (w.setCell ⟨g, j, none⟩ (u8c x)) (some g) := by
  have h' : w.ownsRow base 5 1 (.slice (some ⟨g, 0, none⟩) n cap) l.length (l.map u8c) := h
  subst hn
  have hs := h'.stored j (u8c x)
  refine ⟨?_, hs.2⟩
  unfold OB
  rw [List.length_set, List.map_set]
  exact hs.1
theorem ob_made (w : World) (base N : Nat) (hb : base ≤ w.heap.size) (hN : N ≤ maxLen) : OB (w.alloc (.cells (madeCells #[.int .u8 0] (N * 1)) 5)) base (.slice (some ⟨w.heap.size, 0, none⟩) N N) (List.replicate N 0) := by
  refine ⟨by simp, Or.inr ⟨w.heap.size, N, madeCells #[.int .u8 0] (N * 1), by simp, hb, World.alloc_heap_new w _, by simp, hN, by rw [size_madeCells], ?_⟩⟩
  apply List.ext_getElem
  · simp [madeCells]
  · intro j h1 h2
    simp [madeCells, u8c, Nat.mod_one]
end Go.Proofs.YtgijihfijoiafaaGreatDoor
