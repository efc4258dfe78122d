/- The law TrieNodes: what its closure meets. -/
import Derived.Test.YtbmmjpmgkkljgaaDoortBag
namespace Go.Proofs.YtbmmjpmgkkljgaaDoor
set_option linter.unusedVariables false
open Go.RowKit Go.ChangeShapes
/-- A beginning, as a text. -/
def tx (p : List Int) : ByteArray := strOfNums (p.flatMap enc)
theorem tx_app (p : List Int) (r : Int) : tx p ++ tx [r] = tx (p ++ [r]) := by
  apply ByteArray.ext
  apply Array.ext'
  rw [ByteArray.data_append]
  unfold tx
  simp [strOfNums, List.flatMap_append]
theorem tx_size (p : List Int) : (tx p).size ≤ 4 * p.length := by
  unfold tx
  rw [strOfNums_size]
  induction p with
  | nil => simp
  | cons a p ih =>
    have := enc_le a
    simp only [List.flatMap_cons, List.length_append, List.length_cons]
    omega
/-- The nodes of a trie, and their beginnings. -/
structure NP (L : List ByteArray) (P : List PN) (B : List (List Int)) : Prop where
  inv : Inv ((L.map rs).reverse ++ []) P B
  ends : EndI ((L.map rs).reverse ++ []) P B
  nod : B.Nodup
  good : ∀ s ∈ L, GoodW s
theorem NP.of {L : List ByteArray} (h : (makeP L).1 = 0) (hg : ∀ s ∈ L, GoodW s) : ∃ B, NP L (makeP L).2 B := by
  have he : (-1 : Int) ∉ rs ⟨#[]⟩ := by
    have h0 : rs ⟨#[]⟩ = [] := sm_rs [] (fun b hb => by cases hb)
    rw [h0]; exact List.not_mem_nil
  obtain ⟨B, hI, hE, _⟩ := make_inv L 0 ⟨#[]⟩ [pn0] [[]] [] h inv0 end0 he (fun x hx => by cases hx)
  refine ⟨B, hI, hE, ?_, hg⟩
  unfold List.Nodup
  rw [List.pairwise_iff_getElem]
  intro i j hi hj hij e
  have := hI.uniq i j B[i] (List.getElem?_eq_getElem hi) (by rw [e]; exact List.getElem?_eq_getElem hj)
  omega
theorem NP.pre {L : List ByteArray} {P : List PN} {B : List (List Int)} (h : NP L P B) {i : Nat} {p : List Int} (hp : B[i]? = some p) : p = [] ∨ ∃ s ∈ L, p <+: rs s := by
  rcases h.inv.pre i p hp with e | ⟨u, hu, e⟩
  · exact Or.inl e
  · right
    simp only [List.append_nil, List.mem_reverse, List.mem_map] at hu
    obtain ⟨s, hs, rfl⟩ := hu
    exact ⟨s, hs, e⟩
theorem NP.ok {L : List ByteArray} {P : List PN} {B : List (List Int)} (h : NP L P B) {i : Nat} {p : List Int} (hp : B[i]? = some p) : (∀ r ∈ p, okR r = true) ∧ p.length ≤ 12 := by
  rcases h.pre hp with rfl | ⟨s, hs, e⟩
  · exact ⟨(fun r hr => by cases hr), Nat.zero_le _⟩
  · obtain ⟨_, _, g3, g4⟩ := h.good s hs
    exact ⟨fun r hr => rs_ok g3 r (e.subset hr), Nat.le_trans e.length_le g4⟩
theorem NP.tx_in {L : List ByteArray} {P : List PN} {B : List (List Int)} (h : NP L P B) {i : Nat} {p : List Int} (hp : B[i]? = some p) : tx p ∈ L ↔ p ∈ L.map rs := by
  have hr : rs (tx p) = p := rs_text p (h.ok hp).1
  constructor
  · intro hm
    rw [← hr]
    exact List.mem_map_of_mem hm
  · intro hm
    obtain ⟨s, hs, e⟩ := List.mem_map.1 hm
    have hb := rs_back (h.good s hs).2.2.1
    rw [e] at hb
    unfold tx
    rw [hb]
    exact hs
theorem NP.e_is {L : List ByteArray} {P : List PN} {B : List (List Int)} (h : NP L P B) {i : Nat} {p : List Int} {n : PN} (hp : B[i]? = some p) (hn : P[i]? = some n) : n.e = true ↔ tx p ∈ L := by
  rw [h.tx_in hp, h.ends.iff i n p hn hp]
  simp
theorem NP.sum {L : List ByteArray} {P : List PN} {B : List (List Int)} (h : NP L P B) {i : Nat} {p : List Int} {n : PN} (hp : B[i]? = some p) (hn : P[i]? = some n) : (n.R.map fun r => onP B (p ++ [r])).sum = below B p := by
  have hR : n.R.Nodup := (h.inv.rise i n hn).imp (fun h => by omega)
  refine sum_on p n.R hR B fun q hq hpq hne => ?_
  obtain ⟨t, rfl⟩ := hpq
  cases t with
  | nil => simp at hne
  | cons r t =>
    obtain ⟨c, hc⟩ := List.getElem?_of_mem hq
    have hc' : B[c]? = some ((p ++ [r]) ++ t) := by rw [hc]; simp
    obtain ⟨j, hj⟩ := h.inv.closed (p ++ [r]) t.length t c (Nat.le_refl _) hc'
    obtain ⟨i', n', j', h1, h2, h3, h4⟩ := h.inv.up j p r hj
    obtain rfl := h.inv.uniq i' i p h2 hp
    rw [hn] at h1
    cases h1
    exact ⟨r, List.mem_of_getElem? h3, ⟨t, by simp⟩⟩
theorem NP.kid {L : List ByteArray} {P : List PN} {B : List (List Int)} (h : NP L P B) {i j : Nat} {p : List Int} {n : PN} {r : Int} (hp : B[i]? = some p) (hn : P[i]? = some n) (hr : n.R[j]? = some r) : ∃ c, n.K[j]? = some c ∧ B[c]? = some (p ++ [r]) ∧ onP B (p ++ [r]) = below B (p ++ [r]) + 1 := by
  have hl := (h.inv.ok n (List.mem_of_getElem? hn)).1
  have hj : j < n.K.length := by rw [← hl]; exact (List.getElem?_eq_some_iff.1 hr).1
  have hc : n.K[j]? = some n.K[j] := List.getElem?_eq_getElem hj
  have hb := h.inv.kid i n j r _ p hn hp hr hc
  exact ⟨_, hc, hb, on_below h.nod (List.mem_of_getElem? hb)⟩
end Go.Proofs.YtbmmjpmgkkljgaaDoor
