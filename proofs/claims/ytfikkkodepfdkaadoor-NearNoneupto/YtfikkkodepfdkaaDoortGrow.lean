/- A trie in memory: a node more; a word more. -/
import Derived.Test.YtfikkkodepfdkaaDoortPut
namespace Go.Proofs.YtfikkkodepfdkaaDoor
set_option linter.unusedVariables false
open Go.RowKit Go.ChangeShapes
def nd0 : Nd := ⟨.slice none 0 0, .slice none 0 0, ⟨[], [], false⟩⟩
theorem app_at {l : List Nd} {x a : Nd} {j : Nat} (h : (l ++ [x])[j]? = some a) : l[j]? = some a ∨ (j = l.length ∧ a = x) := by
  by_cases e : j < l.length
  · rw [List.getElem?_append_left e] at h; exact Or.inl h
  · rw [List.getElem?_append_right (by omega)] at h
    match hj : j - l.length, h with
    | 0, h => exact Or.inr ⟨by omega, by simpa using h.symm⟩
    | k + 1, h => simp at h
theorem TrieM.grow {w w1 : World} {base T m : Nat} {vN : Value} {l : List Nd} (h : TrieM w base T m vN l) {o : Obj} {g' c' q : Nat} (hq : q = l.length + 1)
    (ho : w1.ownsRow base 70 3 (.slice (some ⟨g', 0, none⟩) q c') q (ndC l ++ [.slice none 0 0, .slice none 0 0, .bool false])) (hg : (w.alloc o).grownBy w1 vN.ownBlock) (ha : vN.ownBlock = some g' ∨ g' = w.heap.size + 1) :
    TrieM (w1.setCell ⟨T, 1, none⟩ (.slice (some ⟨g', 0, none⟩) q c')) base T m (.slice (some ⟨g', 0, none⟩) q c') (l ++ [nd0]) ∧
      Went w (w1.setCell ⟨T, 1, none⟩ (.slice (some ⟨g', 0, none⟩) q c')) (Foot T vN l) (Foot T (.slice (some ⟨g', 0, none⟩) q c') (l ++ [nd0])) := by
  subst hq
  have hal : ∀ k, k < w.heap.size → (w.alloc o).heap[k]? = w.heap[k]? := fun k hk => (World.grownBy_alloc w o none).block k hk (by simp)
  have hsz : (w.alloc o).heap.size = w.heap.size + 1 := by simp
  have hold : ∀ k, k < w.heap.size → vN.ownBlock ≠ some k → w1.heap[k]? = w.heap[k]? := fun k hk hne => (hg.block k (by omega) (fun e => hne e.symm)).trans (hal k hk)
  have hT1 : w1.heap[T]? = some (.cells #[.int .i64 (m : Int), vN] 57 (0, 0)) := (hold T (lt_of_heap h.blk) (own_blk h.nodes h.blk (by decide))).trans h.blk
  have hne : g' ≠ T := fun e => own_blk ho hT1 (by decide) (by rw [← e]; rfl)
  have hset : ∀ k, k ≠ T → (w1.setCell ⟨T, 1, none⟩ (.slice (some ⟨g', 0, none⟩) (l.length + 1) c')).heap[k]? = w1.heap[k]? := fun k hk => heap_setCell_other w1 ⟨T, 1, none⟩ k _ (fun e => hk e)
  have hrk : ∀ (j : Nat) (a : Nd), l[j]? = some a → ∀ k, a.r.ownBlock = some k ∨ a.k.ownBlock = some k → (w1.setCell ⟨T, 1, none⟩ (.slice (some ⟨g', 0, none⟩) (l.length + 1) c')).heap[k]? = w.heap[k]? := by
    intro j a hj k hk
    rcases hk with hk | hk
    · rw [hset k (fun e => own_blk (h.rr j a hj) h.blk (by decide) (by rw [← e]; exact hk))]
      exact hold k ((h.rr j a hj).lt k hk).2 (own_type (h.rr j a hj) h.nodes (by decide) k hk)
    · rw [hset k (fun e => own_blk (h.kk j a hj) h.blk (by decide) (by rw [← e]; exact hk))]
      exact hold k ((h.kk j a hj).lt k hk).2 (own_type (h.kk j a hj) h.nodes (by decide) k hk)
  refine ⟨⟨h.bT, ?_, ?_, ?_, ?_, ?_, ?_⟩, ⟨hg.os, hg.tape, hg.output, ?_, ?_, ?_⟩⟩
  · exact heap_setCell_same w1 T 1 _ _ _ hT1
  · rw [List.length_append, ndC_app]
    exact own_of_blocks ho fun k hk => by
      have e : g' = k := by simpa [Value.ownBlock] using hk
      subst e
      exact hset _ hne
  · intro j a hj
    rcases app_at hj with hj | ⟨rfl, rfl⟩
    · exact own_of_blocks (h.rr j a hj) fun k hk => hrk j a hj k (Or.inl hk)
    · exact World.ownsRow_nil _ _ _ _
  · intro j a hj
    rcases app_at hj with hj | ⟨rfl, rfl⟩
    · exact own_of_blocks (h.kk j a hj) fun k hk => hrk j a hj k (Or.inr hk)
    · exact World.ownsRow_nil _ _ _ _
  · intro i j a b g hi hj hga hgb
    rcases app_at hi with hi | ⟨_, rfl⟩
    · rcases app_at hj with hj | ⟨_, rfl⟩
      · exact h.apR i j a b g hi hj hga hgb
      · cases hgb
    · cases hga
  · intro i j a b g hi hj hga hgb
    rcases app_at hi with hi | ⟨_, rfl⟩
    · rcases app_at hj with hj | ⟨_, rfl⟩
      · exact h.apK i j a b g hi hj hga hgb
      · cases hgb
    · cases hga
  · have := hg.size
    simp only [World.setCell]
    simp
    omega
  · intro k hk hF
    rw [hset k (fun e => hF (Or.inl e))]
    exact hold k hk (fun e => hF (Or.inr (Or.inl e)))
  · rintro k (rfl | hk | ⟨j, a, hj, hk⟩)
    · exact Or.inl (Or.inl rfl)
    · have e : g' = k := by simpa [Value.ownBlock] using hk
      subst e
      rcases ha with h5 | h5
      · exact Or.inl (Or.inr (Or.inl h5))
      · exact Or.inr (by omega)
    · rcases app_at hj with hj | ⟨_, rfl⟩
      · exact Or.inl (Or.inr (Or.inr ⟨j, a, hj, hk⟩))
      · rcases hk with hk | hk <;> cases hk
/-- A word ends at a node. -/
theorem TrieM.putE {w : World} {base T m g c z : Nat} {l : List Nd} (h : TrieM w base T m (.slice (some ⟨g, 0, none⟩) z c) l) {i : Nat} {n : Nd} (hn : l[i]? = some n) (b : Bool) :
    TrieM (w.setCell ⟨g, i * 3 + 2, none⟩ (.bool b)) base T m (.slice (some ⟨g, 0, none⟩) z c) (l.set i ⟨n.r, n.k, ⟨n.p.R, n.p.K, b⟩⟩) ∧
      Went w (w.setCell ⟨g, i * 3 + 2, none⟩ (.bool b)) (Foot T (.slice (some ⟨g, 0, none⟩) z c) l) (Foot T (.slice (some ⟨g, 0, none⟩) z c) (l.set i ⟨n.r, n.k, ⟨n.p.R, n.p.K, b⟩⟩)) := by
  have hz := h.len
  subst hz
  have hgT : g ≠ T := fun e => own_blk h.nodes h.blk (by decide) (by rw [← e]; rfl)
  have hset : ∀ k, k ≠ g → (w.setCell ⟨g, i * 3 + 2, none⟩ (.bool b)).heap[k]? = w.heap[k]? := fun k hk => heap_setCell_other w ⟨g, i * 3 + 2, none⟩ k _ (fun e => hk e)
  obtain ⟨hs, _⟩ := h.nodes.stored (i * 3 + 2) (.bool b)
  refine h.swap hn ⟨n.r, n.k, ⟨n.p.R, n.p.K, b⟩⟩ (hset T (fun e => hgT e.symm)) ?_ ?_ ?_ ?_ (fun k hk => Or.inl hk) (fun k hk => Or.inl hk) rfl rfl rfl ?_
  · rw [ndC_setE l i n ⟨n.p.R, n.p.K, b⟩ hn]; exact hs
  · exact own_of_blocks (h.rr i n hn) fun k hk => hset k (fun e => own_type (h.rr i n hn) h.nodes (by decide) k hk (by rw [e]; rfl))
  · exact own_of_blocks (h.kk i n hn) fun k hk => hset k (fun e => own_type (h.kk i n hn) h.nodes (by decide) k hk (by rw [e]; rfl))
  · exact fun k _ h5 _ _ => hset k (fun e => h5 (by rw [e]; rfl))
  · simp [World.setCell]
/-- One word more. -/
theorem TrieM.putW {w : World} {base T m : Nat} {vN : Value} {l : List Nd} (h : TrieM w base T m vN l) (m' : Nat) :
    TrieM (w.setCell ⟨T, 0, none⟩ (.int .i64 (m' : Int))) base T m' vN l ∧ Went w (w.setCell ⟨T, 0, none⟩ (.int .i64 (m' : Int))) (Foot T vN l) (Foot T vN l) := by
  have hset : ∀ k, k ≠ T → (w.setCell ⟨T, 0, none⟩ (.int .i64 (m' : Int))).heap[k]? = w.heap[k]? := fun k hk => heap_setCell_other w ⟨T, 0, none⟩ k _ (fun e => hk e)
  refine ⟨⟨h.bT, heap_setCell_same w T 0 _ _ _ h.blk, own_of_blocks h.nodes fun k hk => hset k (fun e => own_blk h.nodes h.blk (by decide) (by rw [← e]; exact hk)), ?_, ?_, h.apR, h.apK⟩, ⟨rfl, rfl, rfl, by simp [World.setCell], fun k _ hF => hset k (fun e => hF (Or.inl e)), fun k hk => Or.inl hk⟩⟩
  · exact fun j a hj => own_of_blocks (h.rr j a hj) fun k hk => hset k (fun e => own_blk (h.rr j a hj) h.blk (by decide) (by rw [← e]; exact hk))
  · exact fun j a hj => own_of_blocks (h.kk j a hj) fun k hk => hset k (fun e => own_blk (h.kk j a hj) h.blk (by decide) (by rw [← e]; exact hk))
end Go.Proofs.YtfikkkodepfdkaaDoor
