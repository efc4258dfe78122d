/- A trie in memory, changed. -/
import Derived.Test.YtfikkkodepfdkaaDoortMem
namespace Go.Proofs.YtfikkkodepfdkaaDoor
set_option linter.unusedVariables false
open Go.RowKit Go.ChangeShapes
theorem ndC_setR (l : List Nd) (i : Nat) (n : Nd) (v : Value) (p : PN) (h : l[i]? = some n) (hp : p.e = n.p.e) : ndC (l.set i ⟨v, n.k, p⟩) = (ndC l).set (i * 3) v := by
  induction l generalizing i with
  | nil => simp at h
  | cons y l ih =>
    match i, h with
    | 0, h =>
      simp at h; subst h
      show v :: y.k :: Value.bool p.e :: ndC l = _
      rw [hp]; rfl
    | i + 1, h =>
      have h' : l[i]? = some n := by simpa using h
      rw [show (i + 1) * 3 = i * 3 + 3 by omega]
      show y.r :: y.k :: Value.bool y.p.e :: ndC (l.set i _) = _
      rw [ih i h']; rfl
theorem ndC_setK (l : List Nd) (i : Nat) (n : Nd) (v : Value) (p : PN) (h : l[i]? = some n) (hp : p.e = n.p.e) : ndC (l.set i ⟨n.r, v, p⟩) = (ndC l).set (i * 3 + 1) v := by
  induction l generalizing i with
  | nil => simp at h
  | cons y l ih =>
    match i, h with
    | 0, h =>
      simp at h; subst h
      show y.r :: v :: Value.bool p.e :: ndC l = _
      rw [hp]; rfl
    | i + 1, h =>
      have h' : l[i]? = some n := by simpa using h
      rw [show (i + 1) * 3 + 1 = i * 3 + 1 + 3 by omega]
      show y.r :: y.k :: Value.bool y.p.e :: ndC (l.set i _) = _
      rw [ih i h']; rfl
theorem ndC_setE (l : List Nd) (i : Nat) (n : Nd) (p : PN) (h : l[i]? = some n) : ndC (l.set i ⟨n.r, n.k, p⟩) = (ndC l).set (i * 3 + 2) (.bool p.e) := by
  induction l generalizing i with
  | nil => simp at h
  | cons y l ih =>
    match i, h with
    | 0, h =>
      simp at h; subst h
      rfl
    | i + 1, h =>
      have h' : l[i]? = some n := by simpa using h
      rw [show (i + 1) * 3 + 2 = i * 3 + 2 + 3 by omega]
      show y.r :: y.k :: Value.bool y.p.e :: ndC (l.set i _) = _
      rw [ih i h']; rfl
theorem set_at {l : List Nd} {i j : Nat} {x a : Nd} (h : (l.set i x)[j]? = some a) : (j = i ∧ a = x) ∨ (j ≠ i ∧ l[j]? = some a) := by
  rw [List.getElem?_set] at h
  by_cases e : i = j
  · subst e
    rw [if_pos rfl] at h
    split at h
    · exact Or.inl ⟨rfl, (Option.some.inj h).symm⟩
    · cases h
  · rw [if_neg e] at h
    exact Or.inr ⟨fun h => e h.symm, h⟩
/-- One node is another now. -/
theorem TrieM.swap {w w2 : World} {base T m : Nat} {vN : Value} {l : List Nd} (h : TrieM w base T m vN l) {i : Nat} {n : Nd} (hn : l[i]? = some n) (x : Nd)
    (hT : w2.heap[T]? = w.heap[T]?) (hN : w2.ownsRow base 70 3 vN l.length (ndC (l.set i x)))
    (hr : w2.ownsRow base 21 1 x.r x.p.R.length (x.p.R.map i32c)) (hk : w2.ownsRow base 3 1 x.k x.p.K.length (x.p.K.map i64c))
    (hfar : ∀ k, k < w.heap.size → vN.ownBlock ≠ some k → n.r.ownBlock ≠ some k → n.k.ownBlock ≠ some k → w2.heap[k]? = w.heap[k]?)
    (hx : ∀ k, x.r.ownBlock = some k → n.r.ownBlock = some k ∨ w.heap.size ≤ k) (hy : ∀ k, x.k.ownBlock = some k → n.k.ownBlock = some k ∨ w.heap.size ≤ k)
    (h1 : w2.os = w.os) (h2 : w2.tape = w.tape) (h3 : w2.output = w.output) (h4 : w.heap.size ≤ w2.heap.size) :
    TrieM w2 base T m vN (l.set i x) ∧ Went w w2 (Foot T vN l) (Foot T vN (l.set i x)) := by
  have hl : (l.set i x).length = l.length := List.length_set
  refine ⟨⟨h.bT, hT.trans h.blk, by rw [hl]; exact hN, ?_, ?_, ?_, ?_⟩, ⟨h1, h2, h3, h4, ?_, ?_⟩⟩
  · intro j a ha
    rcases set_at ha with ⟨rfl, rfl⟩ | ⟨hj, ha⟩
    · exact hr
    · refine own_of_blocks (h.rr j a ha) fun k hk0 => hfar k ((h.rr j a ha).lt k hk0).2 ?_ ?_ ?_
      · exact own_type (h.rr j a ha) h.nodes (by decide) k hk0
      · exact fun hk1 => hj (h.apR j i a n k ha hn hk0 hk1)
      · exact own_type (h.rr j a ha) (h.kk i n hn) (by decide) k hk0
  · intro j a ha
    rcases set_at ha with ⟨rfl, rfl⟩ | ⟨hj, ha⟩
    · exact hk
    · refine own_of_blocks (h.kk j a ha) fun k hk0 => hfar k ((h.kk j a ha).lt k hk0).2 ?_ ?_ ?_
      · exact own_type (h.kk j a ha) h.nodes (by decide) k hk0
      · exact own_type (h.kk j a ha) (h.rr i n hn) (by decide) k hk0
      · exact fun hk1 => hj (h.apK j i a n k ha hn hk0 hk1)
  · intro j j' a b g ha hb hga hgb
    rcases set_at ha with ⟨rfl, rfl⟩ | ⟨hj, ha1⟩ <;> rcases set_at hb with ⟨rfl, rfl⟩ | ⟨hj', hb1⟩
    · rfl
    · rcases hx g hga with h5 | h5
      · exact h.apR _ _ _ _ g hn hb1 h5 hgb
      · exact absurd ((h.rr j' b hb1).lt g hgb).2 (by omega)
    · rcases hx g hgb with h5 | h5
      · exact h.apR _ _ _ _ g ha1 hn hga h5
      · exact absurd ((h.rr j a ha1).lt g hga).2 (by omega)
    · exact h.apR _ _ _ _ g ha1 hb1 hga hgb
  · intro j j' a b g ha hb hga hgb
    rcases set_at ha with ⟨rfl, rfl⟩ | ⟨hj, ha1⟩ <;> rcases set_at hb with ⟨rfl, rfl⟩ | ⟨hj', hb1⟩
    · rfl
    · rcases hy g hga with h5 | h5
      · exact h.apK _ _ _ _ g hn hb1 h5 hgb
      · exact absurd ((h.kk j' b hb1).lt g hgb).2 (by omega)
    · rcases hy g hgb with h5 | h5
      · exact h.apK _ _ _ _ g ha1 hn hga h5
      · exact absurd ((h.kk j a ha1).lt g hga).2 (by omega)
    · exact h.apK _ _ _ _ g ha1 hb1 hga hgb
  · intro k hk0 hF
    exact hfar k hk0 (fun e => hF (Or.inr (Or.inl e))) (fun e => hF (Or.inr (Or.inr ⟨i, n, hn, Or.inl e⟩))) (fun e => hF (Or.inr (Or.inr ⟨i, n, hn, Or.inr e⟩)))
  · rintro k (rfl | hk0 | ⟨j, a, ha, hk0⟩)
    · exact Or.inl (Or.inl rfl)
    · exact Or.inl (Or.inr (Or.inl hk0))
    · rcases set_at ha with ⟨rfl, rfl⟩ | ⟨hj, ha⟩
      · rcases hk0 with hk0 | hk0
        · rcases hx k hk0 with h5 | h5
          · exact Or.inl (Or.inr (Or.inr ⟨_, n, hn, Or.inl h5⟩))
          · exact Or.inr h5
        · rcases hy k hk0 with h5 | h5
          · exact Or.inl (Or.inr (Or.inr ⟨_, n, hn, Or.inr h5⟩))
          · exact Or.inr h5
      · exact Or.inl (Or.inr (Or.inr ⟨j, a, ha, hk0⟩))
theorem TrieM.len {w : World} {base T m g q c : Nat} {l : List Nd} (h : TrieM w base T m (.slice (some ⟨g, 0, none⟩) q c) l) : q = l.length := by
  obtain ⟨_, ⟨e, _⟩ | ⟨g', cap', cur, e, _⟩⟩ := h.nodes
  · cases e
  · injection e
/-- Behind an append onto the node's runes, stored there. -/
theorem TrieM.putR {w w1 : World} {base T m g c z : Nat} {l : List Nd} (h : TrieM w base T m (.slice (some ⟨g, 0, none⟩) z c) l) {i : Nat} {n : Nd} (hn : l[i]? = some n) {o : Obj} {g' q c' : Nat} {R : List Int} (hq : R.length = q)
    (ho : w1.ownsRow base 21 1 (.slice (some ⟨g', 0, none⟩) q c') q (R.map i32c)) (hg : (w.alloc o).grownBy w1 n.r.ownBlock) (ha : n.r.ownBlock = some g' ∨ g' = w.heap.size + 1) :
    TrieM (w1.setCell ⟨g, i * 3, none⟩ (.slice (some ⟨g', 0, none⟩) q c')) base T m (.slice (some ⟨g, 0, none⟩) z c) (l.set i ⟨.slice (some ⟨g', 0, none⟩) q c', n.k, ⟨R, n.p.K, n.p.e⟩⟩) ∧
      Went w (w1.setCell ⟨g, i * 3, none⟩ (.slice (some ⟨g', 0, none⟩) q c')) (Foot T (.slice (some ⟨g, 0, none⟩) z c) l) (Foot T (.slice (some ⟨g, 0, none⟩) z c) (l.set i ⟨.slice (some ⟨g', 0, none⟩) q c', n.k, ⟨R, n.p.K, n.p.e⟩⟩)) := by
  have hz := h.len
  subst hz
  subst hq
  have hal : ∀ k, k < w.heap.size → (w.alloc o).heap[k]? = w.heap[k]? := fun k hk => (World.grownBy_alloc w o none).block k hk (by simp)
  have hsz : (w.alloc o).heap.size = w.heap.size + 1 := by simp
  have hold : ∀ k, k < w.heap.size → n.r.ownBlock ≠ some k → w1.heap[k]? = w.heap[k]? := fun k hk hne => (hg.block k (by omega) (fun e => hne e.symm)).trans (hal k hk)
  have hN1 : w1.ownsRow base 70 3 (.slice (some ⟨g, 0, none⟩) l.length c) l.length (ndC l) := own_of_blocks h.nodes fun k hk => hold k (h.nodes.lt k hk).2 (own_type h.nodes (h.rr i n hn) (by decide) k hk)
  have hne : g' ≠ g := fun e => own_type ho hN1 (by decide) g' rfl (by rw [e]; rfl)
  have hgT : g ≠ T := fun e => own_blk h.nodes h.blk (by decide) (by rw [← e]; rfl)
  have hset : ∀ k, k ≠ g → (w1.setCell ⟨g, i * 3, none⟩ (.slice (some ⟨g', 0, none⟩) R.length c')).heap[k]? = w1.heap[k]? := fun k hk => heap_setCell_other w1 ⟨g, i * 3, none⟩ k _ (fun e => hk e)
  obtain ⟨hs, _⟩ := hN1.stored (i * 3) (.slice (some ⟨g', 0, none⟩) R.length c')
  refine h.swap hn ⟨.slice (some ⟨g', 0, none⟩) R.length c', n.k, ⟨R, n.p.K, n.p.e⟩⟩ ?_ ?_ ?_ ?_ ?_ ?_ ?_ ?_ ?_ ?_ ?_
  · rw [hset T (fun e => hgT e.symm)]
    exact hold T (lt_of_heap h.blk) (own_blk (h.rr i n hn) h.blk (by decide))
  · rw [ndC_setR l i n _ ⟨R, n.p.K, n.p.e⟩ hn rfl]; exact hs
  · exact own_of_blocks ho fun k hk => by cases hk; exact hset _ hne
  · refine own_of_blocks (h.kk i n hn) fun k hk => ?_
    rw [hset k (fun e => own_type (h.kk i n hn) h.nodes (by decide) k hk (by rw [e]; rfl))]
    exact hold k ((h.kk i n hn).lt k hk).2 (own_type (h.kk i n hn) (h.rr i n hn) (by decide) k hk)
  · intro k hk h5 h6 _
    rw [hset k (fun e => h5 (by rw [e]; rfl))]
    exact hold k hk h6
  · intro k hk
    have e : g' = k := by simpa [Value.ownBlock] using hk
    subst e
    rcases ha with h5 | h5
    · exact Or.inl h5
    · exact Or.inr (by omega)
  · exact fun k hk => Or.inl hk
  · exact hg.os
  · exact hg.tape
  · exact hg.output
  · have := hg.size
    simp only [World.setCell]
    simp
    omega
/-- Behind an append onto the node's kids, stored there. -/
theorem TrieM.putK {w w1 : World} {base T m g c z : Nat} {l : List Nd} (h : TrieM w base T m (.slice (some ⟨g, 0, none⟩) z c) l) {i : Nat} {n : Nd} (hn : l[i]? = some n) {o : Obj} {g' q c' : Nat} {K : List Nat} (hq : K.length = q)
    (ho : w1.ownsRow base 3 1 (.slice (some ⟨g', 0, none⟩) q c') q (K.map i64c)) (hg : (w.alloc o).grownBy w1 n.k.ownBlock) (ha : n.k.ownBlock = some g' ∨ g' = w.heap.size + 1) :
    TrieM (w1.setCell ⟨g, i * 3 + 1, none⟩ (.slice (some ⟨g', 0, none⟩) q c')) base T m (.slice (some ⟨g, 0, none⟩) z c) (l.set i ⟨n.r, .slice (some ⟨g', 0, none⟩) q c', ⟨n.p.R, K, n.p.e⟩⟩) ∧
      Went w (w1.setCell ⟨g, i * 3 + 1, none⟩ (.slice (some ⟨g', 0, none⟩) q c')) (Foot T (.slice (some ⟨g, 0, none⟩) z c) l) (Foot T (.slice (some ⟨g, 0, none⟩) z c) (l.set i ⟨n.r, .slice (some ⟨g', 0, none⟩) q c', ⟨n.p.R, K, n.p.e⟩⟩)) := by
  have hz := h.len
  subst hz
  subst hq
  have hal : ∀ k, k < w.heap.size → (w.alloc o).heap[k]? = w.heap[k]? := fun k hk => (World.grownBy_alloc w o none).block k hk (by simp)
  have hsz : (w.alloc o).heap.size = w.heap.size + 1 := by simp
  have hold : ∀ k, k < w.heap.size → n.k.ownBlock ≠ some k → w1.heap[k]? = w.heap[k]? := fun k hk hne => (hg.block k (by omega) (fun e => hne e.symm)).trans (hal k hk)
  have hN1 : w1.ownsRow base 70 3 (.slice (some ⟨g, 0, none⟩) l.length c) l.length (ndC l) := own_of_blocks h.nodes fun k hk => hold k (h.nodes.lt k hk).2 (own_type h.nodes (h.kk i n hn) (by decide) k hk)
  have hne : g' ≠ g := fun e => own_type ho hN1 (by decide) g' rfl (by rw [e]; rfl)
  have hgT : g ≠ T := fun e => own_blk h.nodes h.blk (by decide) (by rw [← e]; rfl)
  have hset : ∀ k, k ≠ g → (w1.setCell ⟨g, i * 3 + 1, none⟩ (.slice (some ⟨g', 0, none⟩) K.length c')).heap[k]? = w1.heap[k]? := fun k hk => heap_setCell_other w1 ⟨g, i * 3 + 1, none⟩ k _ (fun e => hk e)
  obtain ⟨hs, _⟩ := hN1.stored (i * 3 + 1) (.slice (some ⟨g', 0, none⟩) K.length c')
  refine h.swap hn ⟨n.r, .slice (some ⟨g', 0, none⟩) K.length c', ⟨n.p.R, K, n.p.e⟩⟩ ?_ ?_ ?_ ?_ ?_ ?_ ?_ ?_ ?_ ?_ ?_
  · rw [hset T (fun e => hgT e.symm)]
    exact hold T (lt_of_heap h.blk) (own_blk (h.kk i n hn) h.blk (by decide))
  · rw [ndC_setK l i n _ ⟨n.p.R, K, n.p.e⟩ hn rfl]; exact hs
  · refine own_of_blocks (h.rr i n hn) fun k hk => ?_
    rw [hset k (fun e => own_type (h.rr i n hn) h.nodes (by decide) k hk (by rw [e]; rfl))]
    exact hold k ((h.rr i n hn).lt k hk).2 (own_type (h.rr i n hn) (h.kk i n hn) (by decide) k hk)
  · exact own_of_blocks ho fun k hk => by cases hk; exact hset _ hne
  · intro k hk h5 _ h6
    rw [hset k (fun e => h5 (by rw [e]; rfl))]
    exact hold k hk h6
  · exact fun k hk => Or.inl hk
  · intro k hk
    have e : g' = k := by simpa [Value.ownBlock] using hk
    subst e
    rcases ha with h5 | h5
    · exact Or.inl h5
    · exact Or.inr (by omega)
  · exact hg.os
  · exact hg.tape
  · exact hg.output
  · have := hg.size
    simp only [World.setCell]
    simp
    omega
end Go.Proofs.YtfikkkodepfdkaaDoor
