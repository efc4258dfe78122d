/- The law TrieHas: its closure, its parts. -/
import Derived.Test.YtfikkkodepfdkaaDoortSrt
import Derived.Test.YtfikkkodepfdkaaDoortAwk
import Derived.Test.YtfikkkodepfdkaaDoortHas
namespace Go.Proofs.YtfikkkodepfdkaaDoor
set_option linter.unusedVariables false
open Go.RowKit Go.ChangeShapes
/-- It tells whether. -/
def Tells (e : Ending) (p : Prop) : Prop := ∃ b : Bool, e = .returned (.bool b) ∧ (b = true ↔ p)
theorem has_words {L : List ByteArray} (hg : ∀ s ∈ L, GoodW s) (x : ByteArray) : (decide (x.size ≤ 64) && decide (rs x ∈ L.map rs)) = true ↔ x ∈ L := by
  rw [Bool.and_eq_true, decide_eq_true_eq, decide_eq_true_eq]
  constructor
  · rintro ⟨_, h⟩
    obtain ⟨y, hy, e⟩ := List.mem_map.1 h
    have h2 := (hg y hy).2.2.1
    have h3 : (-1 : Int) ∉ rs x := by rw [← e]; exact h2
    rw [rs_inj h3 h2 e.symm]
    exact hy
  · intro h
    have := (hg x h).2.1
    exact ⟨by omega, List.mem_map_of_mem h⟩
/-- What Sorted's words make is a trie that tells them. -/
theorem made_has (w : World) (hT : Tabs w) (v : Value) (L : List ByteArray) (hv : TL w v L) (hr : RiseK id L) (hg : ∀ s ∈ L, GoodW s) (hL : L.length ≤ 200) :
    Calls Tryd.prog 10 #[v] w fun e w' => Below w.heap.size w w' ∧ ∃ vN l, e = .returned (.tuple #[.pointer (some ⟨w.heap.size + 1, 0, none⟩), .int .i64 0]) ∧ TrieM w' w.heap.size (w.heap.size + 1) L.length vN l ∧ l.map Nd.p = (makeP L).2 ∧ OkP (makeP L).2 ∧ (makeP L).2.length ≤ 300000 ∧ 0 < (makeP L).2.length := by
  have hz := makeP_zero hr hg (by omega)
  refine (make_any w hT v L hv (by omega) (fun s hs => by have := (hg s hs).2.1; omega)).mono ?_
  rintro e w' ⟨hb, ⟨h1, _⟩ | ⟨_, h2⟩⟩
  · exact absurd hz h1
  · exact ⟨hb, h2⟩
theorem has_made {w0 w : World} {T m : Nat} {vN : Value} {l : List Nd} {L : List ByteArray} (h : TrieM w w0.heap.size T m vN l) (hT : Tabs w) (hl : l.map Nd.p = (makeP L).2) (hok : OkP (makeP L).2) (h3 : (makeP L).2.length ≤ 300000) (h4 : 0 < (makeP L).2.length) (hr : RiseK id L) (hg : ∀ s ∈ L, GoodW s) (hL : L.length ≤ 200) (x : ByteArray) (hx : x.size ≤ 1000000) :
    Calls Tryd.prog 24 #[.pointer (some ⟨T, 0, none⟩), .string x] w fun e w' => Tells e (x ∈ L) ∧ Below w.heap.size w w' := by
  have hz := makeP_zero hr hg (by omega)
  obtain ⟨q1, q2, q3⟩ := makeP_has hz
  have hlen : l.length = (makeP L).2.length := by rw [← hl, List.length_map]
  refine (has_any h hT (by rw [hl]; exact hok) (by rw [hl]; exact q1) (by omega) (by omega) x hx).mono ?_
  rintro e w' ⟨rfl, hb⟩
  refine ⟨⟨_, rfl, ?_⟩, hb⟩
  rw [hl, q3]
  exact has_words hg x
end Go.Proofs.YtfikkkodepfdkaaDoor
