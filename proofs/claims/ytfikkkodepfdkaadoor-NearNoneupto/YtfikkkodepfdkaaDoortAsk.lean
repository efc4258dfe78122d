/- trie: Len, Size, Root, node. -/
import Derived.Test.YtfikkkodepfdkaaDoortMake
namespace Go.Proofs.YtfikkkodepfdkaaDoor
set_option linter.unusedVariables false
open Go.RowKit Go.ChangeShapes
theorem TrieM.words {w : World} {base T m : Nat} {vN : Value} {l : List Nd} (h : TrieM w base T m vN l) : w.cell? ⟨T, 0, none⟩ = some (.int .i64 (m : Int)) ∧ w.cell? ⟨T, 1, none⟩ = some vN ∧ ∃ ad c, vN = .slice ad l.length c := by
  refine ⟨?_, ?_, ?_⟩
  · rw [cell_of_row w T 0 _ _ _ h.blk]; rfl
  · rw [cell_of_row w T 1 _ _ _ h.blk]; rfl
  · obtain ⟨_, ⟨e, h0⟩ | ⟨g, cap, _, e, _⟩⟩ := h.nodes
    · exact ⟨_, _, by rw [h0]; exact e⟩
    · exact ⟨_, _, e⟩
theorem len_any {w : World} {base T m : Nat} {vN : Value} {l : List Nd} (h : TrieM w base T m vN l) :
    Calls Tryd.prog 12 #[.pointer (some ⟨T, 0, none⟩)] w fun e w' => e = .returned (.int .i64 (m : Int)) ∧ w' = w := by
  obtain ⟨c0, -, -⟩ := h.words
  clear h
  go_enter Tryd.func12, Tryd.ntmps12
  go_wp2
  go_ret
  exact ⟨rfl, rfl⟩
theorem root_any (v : Value) (w : World) : Calls Tryd.prog 22 #[v] w fun e w' => e = .returned (.int .i64 0) ∧ w' = w := by
  go_enter Tryd.func22, Tryd.ntmps22
  go_wp2
  go_ret
  exact ⟨rfl, rfl⟩
theorem size_any {w : World} {base T m : Nat} {vN : Value} {l : List Nd} (h : TrieM w base T m vN l) (h1 : 0 < l.length) (h2 : l.length ≤ 1000000) :
    Calls Tryd.prog 23 #[.pointer (some ⟨T, 0, none⟩)] w fun e w' => e = .returned (.int .i64 ((l.length - 1 : Nat) : Int)) ∧ w' = w := by
  obtain ⟨-, c1, ad, c, rfl⟩ := h.words
  clear h
  obtain ⟨q, hq⟩ : ∃ q, l.length = q + 1 := ⟨l.length - 1, by omega⟩
  rw [hq] at c1 h2 ⊢
  have z1 : ((q + 1 : Nat) : Int) - 1 = (q : Int) := by omega
  have z2 : (q + 1 - 1 : Nat) = q := by omega
  have z3 : (0 : Int) ≤ (q : Int) := by omega
  have z4 : max (0 : Int) (q : Int) = (q : Int) := by omega
  clear h1 hq
  go_enter Tryd.func23, Tryd.ntmps23
  go_wp2
  go_ret
  exact ⟨rfl, rfl⟩
theorem own_slice {w : World} {base e size n : Nat} {v : Value} {xs : List Value} (h : w.ownsRow base e size v n xs) : ∃ ad c, v = .slice ad n c := by
  obtain ⟨_, ⟨e, h0⟩ | ⟨g, cap, _, e, _⟩⟩ := h
  · exact ⟨_, _, by rw [h0]; exact e⟩
  · exact ⟨_, _, e⟩
theorem node_any {w : World} {base T m : Nat} {vN : Value} {l : List Nd} (h : TrieM w base T m vN l) {i : Nat} {nr nk : Value} {p : PN} (hn : l[i]? = some ⟨nr, nk, p⟩) (h2 : l.length ≤ 1000000) :
    Calls Tryd.prog 29 #[.pointer (some ⟨T, 0, none⟩), .int .i64 (i : Int)] w fun e w' => e = .returned (.agg #[nr, nk, .bool p.e]) ∧ Below w.heap.size w w' := by
  have hi : i < l.length := (List.getElem?_eq_some_iff.1 hn).1
  obtain ⟨g, cap, rfl, -⟩ := h.at hn
  obtain ⟨c0, c1, c2, c3, c4, -, -, -⟩ := h.cells2 hn
  dsimp only at c2 c3 c4
  have z1 : ((i : Nat) : Int) < (l.length : Int) := by omega
  have z2 : (0 : Int) ≤ (i : Int) := by omega
  have y1 := World.block_lt_of_cell? w _ c1
  have y2 := World.block_lt_of_cell? w _ c2
  obtain ⟨ar, cr, er⟩ := own_slice (h.rr i _ hn)
  obtain ⟨ak, ck, ek⟩ := own_slice (h.kk i _ hn)
  dsimp only at er ek
  clear h hn
  subst er ek
  have z3 : ¬ ((i : Nat) : Int) < 0 := by omega
  go_enter Tryd.func29, Tryd.ntmps29
  go_wp2
  refine bodyPost_ret (v := .agg #[.slice ar p.R.length cr, .slice ak p.K.length ck, .bool p.e]) (by simp [results, Tryd.results29, go_sem]) rfl ?_
  exact ⟨rfl, (Below.refl _ _).alloc (Nat.le_refl _) _⟩
end Go.Proofs.YtfikkkodepfdkaaDoor
