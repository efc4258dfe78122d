/- A trie in memory: the Trie's block, the row of nodes, each node's two rows. -/
import Derived.Test.YtfikkkodepfdkaaDoortKitB
import Derived.Deep.AppendLies
import Derived.Laws.OwnMore
namespace Go.Proofs.YtfikkkodepfdkaaDoor
set_option linter.unusedVariables false
open Go.RowKit Go.ChangeShapes
/-- A node, plainly: its runes, its kids' numbers, whether a word ends there. -/
structure PN where
  R : List Int
  K : List Nat
  e : Bool
/-- A node in memory: its two slices besides. -/
structure Nd where
  r : Value
  k : Value
  p : PN
def Nd.cs (n : Nd) : List Value := [n.r, n.k, .bool n.p.e]
def ndC (l : List Nd) : List Value := l.flatMap Nd.cs
def i32c (x : Int) : Value := .int .i32 x
def i64c (x : Nat) : Value := .int .i64 (x : Int)
theorem ndC_len (l : List Nd) : (ndC l).length = l.length * 3 := by
  induction l with
  | nil => rfl
  | cons x l ih =>
    show (x.cs ++ ndC l).length = _
    rw [List.length_append, ih, List.length_cons]
    show 3 + _ = _
    omega
theorem ndC_app (l m : List Nd) : ndC (l ++ m) = ndC l ++ ndC m := by simp [ndC]
theorem ndC_at (l : List Nd) (i : Nat) (n : Nd) (h : l[i]? = some n) : (ndC l)[i * 3]? = some n.r ∧ (ndC l)[i * 3 + 1]? = some n.k ∧ (ndC l)[i * 3 + 2]? = some (.bool n.p.e) := by
  induction l generalizing i with
  | nil => simp at h
  | cons x l ih =>
    have hc : ndC (x :: l) = x.r :: x.k :: Value.bool x.p.e :: ndC l := rfl
    rw [hc]
    match i, h with
    | 0, h =>
      simp at h; subst h
      exact ⟨rfl, rfl, rfl⟩
    | i + 1, h =>
      have h' : l[i]? = some n := by simpa using h
      obtain ⟨a, b, c⟩ := ih i h'
      rw [show (i + 1) * 3 = i * 3 + 3 by omega]
      exact ⟨a, b, c⟩
theorem ndC_set (l : List Nd) (i : Nat) (n x : Nd) (h : l[i]? = some n) : ndC (l.set i x) = (((ndC l).set (i * 3) x.r).set (i * 3 + 1) x.k).set (i * 3 + 2) (.bool x.p.e) := by
  induction l generalizing i with
  | nil => simp at h
  | cons y l ih =>
    match i, h with
    | 0, h => rfl
    | i + 1, h =>
      have h' : l[i]? = some n := by simpa using h
      have e := ih i h'
      rw [show (i + 1) * 3 = i * 3 + 3 by omega]
      show y.r :: y.k :: Value.bool y.p.e :: ndC (l.set i x) = _
      rw [e]
      rfl
/-- The trie lies in memory. -/
structure TrieM (w : World) (base T : Nat) (m : Nat) (vN : Value) (l : List Nd) : Prop where
  bT : base ≤ T
  blk : w.heap[T]? = some (.cells #[.int .i64 (m : Int), vN] 57 (0, 0))
  nodes : w.ownsRow base 70 3 vN l.length (ndC l)
  rr : ∀ (i : Nat) (n : Nd), l[i]? = some n → w.ownsRow base 21 1 n.r n.p.R.length (n.p.R.map i32c)
  kk : ∀ (i : Nat) (n : Nd), l[i]? = some n → w.ownsRow base 3 1 n.k n.p.K.length (n.p.K.map i64c)
  apR : ∀ (i j : Nat) (a b : Nd) (g : Nat), l[i]? = some a → l[j]? = some b → a.r.ownBlock = some g → b.r.ownBlock = some g → i = j
  apK : ∀ (i j : Nat) (a b : Nd) (g : Nat), l[i]? = some a → l[j]? = some b → a.k.ownBlock = some g → b.k.ownBlock = some g → i = j
/-- The trie's blocks. -/
def Foot (T : Nat) (vN : Value) (l : List Nd) (k : Nat) : Prop := k = T ∨ vN.ownBlock = some k ∨ ∃ (i : Nat) (n : Nd), l[i]? = some n ∧ (n.r.ownBlock = some k ∨ n.k.ownBlock = some k)
/-- From a world to a later one: but for the trie's blocks all is as it was; what the trie has now it had, or it is new. -/
structure Went (w w' : World) (F F' : Nat → Prop) : Prop where
  os : w'.os = w.os
  tape : w'.tape = w.tape
  output : w'.output = w.output
  size : w.heap.size ≤ w'.heap.size
  far : ∀ k, k < w.heap.size → ¬ F k → w'.heap[k]? = w.heap[k]?
  new : ∀ k, F' k → F k ∨ w.heap.size ≤ k
theorem Went.refl (w : World) (F : Nat → Prop) : Went w w F F := ⟨rfl, rfl, rfl, Nat.le_refl _, fun _ _ _ => rfl, fun _ h => Or.inl h⟩
theorem Went.trans {a b c : World} {F G H : Nat → Prop} (h : Went a b F G) (k : Went b c G H) : Went a c F H := by
  refine ⟨k.os.trans h.os, k.tape.trans h.tape, k.output.trans h.output, Nat.le_trans h.size k.size, fun i hi hF => ?_, fun i hi => ?_⟩
  · refine (k.far i (Nat.lt_of_lt_of_le hi h.size) fun hG => ?_).trans (h.far i hi hF)
    rcases h.new i hG with h1 | h1
    · exact hF h1
    · omega
  · rcases k.new i hi with h1 | h1
    · exact h.new i h1
    · exact Or.inr (Nat.le_trans h.size h1)
theorem TrieM.lt {w : World} {base T m : Nat} {vN : Value} {l : List Nd} (h : TrieM w base T m vN l) : ∀ k, Foot T vN l k → base ≤ k ∧ k < w.heap.size := by
  rintro k (rfl | hk | ⟨i, n, hn, hk | hk⟩)
  · exact ⟨h.bT, lt_of_heap h.blk⟩
  · exact h.nodes.lt k hk
  · exact (h.rr i n hn).lt k hk
  · exact (h.kk i n hn).lt k hk
theorem own_of_blocks {w w' : World} {base e size n : Nat} {v : Value} {xs : List Value} (h : w.ownsRow base e size v n xs) (hb : ∀ k, v.ownBlock = some k → w'.heap[k]? = w.heap[k]?) : w'.ownsRow base e size v n xs := by
  obtain ⟨h1, h2 | ⟨g, cap, cur, rfl, hg, hh, h3⟩⟩ := h
  · exact ⟨h1, Or.inl h2⟩
  · exact ⟨h1, Or.inr ⟨g, cap, cur, rfl, hg, (hb g rfl).trans hh, h3⟩⟩
/-- The trie lies as it lay where its blocks are as they were. -/
theorem TrieM.keep {w w' : World} {base T m : Nat} {vN : Value} {l : List Nd} (h : TrieM w base T m vN l) (hb : ∀ k, Foot T vN l k → w'.heap[k]? = w.heap[k]?) : TrieM w' base T m vN l :=
  ⟨h.bT, (hb T (Or.inl rfl)).trans h.blk, own_of_blocks h.nodes fun k hk => hb k (Or.inr (Or.inl hk)),
   fun i n hn => own_of_blocks (h.rr i n hn) fun k hk => hb k (Or.inr (Or.inr ⟨i, n, hn, Or.inl hk⟩)),
   fun i n hn => own_of_blocks (h.kk i n hn) fun k hk => hb k (Or.inr (Or.inr ⟨i, n, hn, Or.inr hk⟩)), h.apR, h.apK⟩
theorem TrieM.stay {w w' : World} {base T m : Nat} {vN : Value} {l : List Nd} (h : TrieM w base T m vN l) (hb : Below w.heap.size w w') : TrieM w' base T m vN l :=
  h.keep fun k hk => hb.block k (h.lt k hk).2
/-- Rows of two types lie in two blocks. -/
theorem own_type {w : World} {b1 b2 e1 e2 s1 s2 n1 n2 : Nat} {v1 v2 : Value} {x1 x2 : List Value} (h1 : w.ownsRow b1 e1 s1 v1 n1 x1) (h2 : w.ownsRow b2 e2 s2 v2 n2 x2) (he : e1 ≠ e2) (k : Nat) (hk1 : v1.ownBlock = some k) : v2.ownBlock ≠ some k := by
  intro hk2
  obtain ⟨_, ⟨rfl, _⟩ | ⟨g, cap, cur, rfl, hg, hh, h3⟩⟩ := h1
  · cases hk1
  · obtain ⟨_, ⟨rfl, _⟩ | ⟨g', cap', cur', rfl, hg', hh', h3'⟩⟩ := h2
    · cases hk2
    · cases hk1; cases hk2
      rw [hh] at hh'
      injection hh' with hh'
      injection hh' with _ e _
      exact he e
theorem own_blk {w : World} {b1 e1 s1 n1 T : Nat} {v1 : Value} {x1 : List Value} {cs : Array Value} {e2 : Nat} {f : Nat × Nat} (h1 : w.ownsRow b1 e1 s1 v1 n1 x1) (hT : w.heap[T]? = some (.cells cs e2 f)) (he : e1 ≠ e2) : v1.ownBlock ≠ some T := by
  intro hk1
  obtain ⟨_, ⟨rfl, _⟩ | ⟨g, cap, cur, rfl, hg, hh, h3⟩⟩ := h1
  · cases hk1
  · cases hk1
    rw [hh] at hT
    injection hT with hT
    injection hT with _ e _
    exact he e
end Go.Proofs.YtfikkkodepfdkaaDoor
