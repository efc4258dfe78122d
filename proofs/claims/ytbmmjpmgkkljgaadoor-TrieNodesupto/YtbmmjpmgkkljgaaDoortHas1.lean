/- The law TrieHas: its closure, its parts. -/
import Derived.Test.YtbmmjpmgkkljgaaDoortSrt
import Derived.Test.YtbmmjpmgkkljgaaDoortAwk
import Derived.Test.YtbmmjpmgkkljgaaDoortHas
namespace Go.Proofs.YtbmmjpmgkkljgaaDoor
set_option linter.unusedVariables false
open Go.RowKit Go.ChangeShapes
/-- It tells whether. -/
def Tells (e : Ending) (p : Prop) : Prop := ∃ b : Bool, e = .returned (.bool b) ∧ (b = true ↔ p)
theorem has1_any {w : World} {X : Nat} {v : Value} {L : List ByteArray} (hbox : w.cell? ⟨X, 0, none⟩ = some v) (hv : TL w v L) (hL : L.length ≤ 5000) (x : ByteArray) :
    Calls Tryd.prog 15 #[.string x, .pointer (some ⟨X, 0, none⟩)] w fun e w' => Tells e (x ∈ L) ∧ w' = w := by
  obtain ⟨ad, c, rfl, hc⟩ := hv
  have HC : Hid (∀ (j : Nat) (s : ByteArray), L[j]? = some s → ∃ b off, ad = some ⟨b, off, none⟩ ∧ w.cell? ⟨b, off + j, none⟩ = some (.string s)) := hc
  clear hc
  generalize en : L.length = n at *
  have EN : Hid (L.length = n) := en
  clear en
  go_enter Tryd.func15, Tryd.ntmps15
  go_wp2
  go_loopg [8] n (fun g iv wr => ∃ i : Nat, i ≤ n ∧ g = n - i ∧ iv = .int .i64 i ∧ wr = w ∧ Hid (∀ j y, L[j]? = some y → j < i → y ≠ x))
  case atStart => exact ⟨0, Nat.zero_le _, rfl, rfl, rfl, fun j y _ hj => absurd hj (Nat.not_lt_zero j)⟩
  case round =>
    obtain ⟨i, hin, hg, rfl, hw, HJ⟩ := hrel
    subst wr
    have z0 : (0 : Int) ≤ (i : Int) := by omega
    by_cases hlt : i < n
    · have z1 : (i : Int) < (n : Int) := by omega
      obtain ⟨y, hy⟩ : ∃ y, L[i]? = some y := ⟨_, List.getElem?_eq_getElem (by rw [EN.out]; exact hlt)⟩
      obtain ⟨b, off, rfl, hcy⟩ := HC.out i y hy
      have HY : Hid (L[i]? = some y) := hy
      have EQ := eq_str y x
      clear hy
      by_cases hyx : y = x
      · have hq : (y.toList == x.toList) = true := by rw [EQ]; simpa using hyx
        have HM : Hid (x ∈ L) := by show x ∈ L; rw [← hyx]; exact List.mem_of_getElem? HY.out
        clear EQ hyx
        go_wp2
        go_ret
        exact ⟨⟨true, rfl, ⟨fun _ => HM.out, fun _ => rfl⟩⟩, rfl⟩
      · have hq : (y.toList == x.toList) = false := by rw [EQ]; simpa using hyx
        have HJ2 : Hid (∀ j y, L[j]? = some y → j < i + 1 → y ≠ x) := fun j y' hj hl => by
          rcases Nat.lt_succ_iff_lt_or_eq.1 hl with h | h
          · exact HJ.out j y' hj h
          · subst h
            rw [HY.out] at hj
            injection hj with hj
            rw [← hj]; exact hyx
        clear EQ hyx
        go_wp2
        go_roundg (n - (i + 1))
        case measure => omega
        case rel => exact ⟨i + 1, by omega, rfl, by go_num, rfl, HJ2⟩
    · obtain rfl : i = n := by omega
      have z1 : ¬ (i : Int) < (i : Int) := by omega
      go_wp2
      go_ret
      refine ⟨⟨false, rfl, ⟨fun h => (by cases h), fun hm => ?_⟩⟩, rfl⟩
      obtain ⟨j, hj, e⟩ := List.getElem_of_mem hm
      exact absurd e (HJ.out j _ (List.getElem?_eq_getElem hj) (by rw [← EN.out]; exact hj))
/-- A word is there just if its signs are a word's signs. -/
theorem has_words {L : List ByteArray} (hg : ∀ s ∈ L, GoodW s) (x : ByteArray) : (decide (x.size ≤ 64) && decide (rs x ∈ L.map rs)) = true ↔ x ∈ L := by
  rw [Bool.and_eq_true, decide_eq_true_eq, decide_eq_true_eq]
  constructor
  · rintro ⟨_, h⟩
    obtain ⟨y, hy, e⟩ := List.mem_map.1 h
    have h2 := (hg y hy).2.2.1
    have h3 : (-1 : Int) ∉ rs x := by rw [← e]; exact h2
    rw [rs_inj h3 h2 e.symm]
    exact hy
  · intro h
    have := (hg x h).2.1
    exact ⟨by omega, List.mem_map_of_mem h⟩
/-- What Sorted's words make is a trie that tells them. -/
theorem made_has (w : World) (hT : Tabs w) (v : Value) (L : List ByteArray) (hv : TL w v L) (hr : RiseK id L) (hg : ∀ s ∈ L, GoodW s) (hL : L.length ≤ 200) :
    Calls Tryd.prog 10 #[v] w fun e w' => Below w.heap.size w w' ∧ ∃ vN l, e = .returned (.tuple #[.pointer (some ⟨w.heap.size + 1, 0, none⟩), .int .i64 0]) ∧ TrieM w' w.heap.size (w.heap.size + 1) L.length vN l ∧ l.map Nd.p = (makeP L).2 ∧ OkP (makeP L).2 ∧ (makeP L).2.length ≤ 300000 ∧ 0 < (makeP L).2.length := by
  have hz := makeP_zero hr hg (by omega)
  refine (make_any w hT v L hv (by omega) (fun s hs => by have := (hg s hs).2.1; omega)).mono ?_
  rintro e w' ⟨hb, ⟨h1, _⟩ | ⟨_, h2⟩⟩
  · exact absurd hz h1
  · exact ⟨hb, h2⟩
theorem has_made {w0 w : World} {T m : Nat} {vN : Value} {l : List Nd} {L : List ByteArray} (h : TrieM w w0.heap.size T m vN l) (hT : Tabs w) (hl : l.map Nd.p = (makeP L).2) (hok : OkP (makeP L).2) (h3 : (makeP L).2.length ≤ 300000) (h4 : 0 < (makeP L).2.length) (hr : RiseK id L) (hg : ∀ s ∈ L, GoodW s) (hL : L.length ≤ 200) (x : ByteArray) (hx : x.size ≤ 1000000) :
    Calls Tryd.prog 16 #[.pointer (some ⟨T, 0, none⟩), .string x] w fun e w' => Tells e (x ∈ L) ∧ Below w.heap.size w w' := by
  have hz := makeP_zero hr hg (by omega)
  obtain ⟨q1, q2, q3⟩ := makeP_has hz
  have hlen : l.length = (makeP L).2.length := by rw [← hl, List.length_map]
  refine (has_any h hT (by rw [hl]; exact hok) (by rw [hl]; exact q1) (by omega) (by omega) x hx).mono ?_
  rintro e w' ⟨rfl, hb⟩
  refine ⟨⟨_, rfl, ?_⟩, hb⟩
  rw [hl, q3]
  exact has_words hg x
end Go.Proofs.YtbmmjpmgkkljgaaDoor
