/- The law TrieNodes: what its closure meets. -/
import Derived.Test.YtfikkkodepfdkaaDoortEnd
namespace Go.Proofs.YtfikkkodepfdkaaDoor
set_option linter.unusedVariables false
open Go.RowKit Go.ChangeShapes
/-- A word that Make takes. -/
def GoodX (s : ByteArray) : Prop := 0 < s.size ∧ s.size ≤ 64 ∧ (-1 : Int) ∉ rs s ∧ (rs s).length ≤ 64
theorem GoodX.of {s : ByteArray} (h : GoodW s) : GoodX s := ⟨h.1, by have := h.2.1; omega, h.2.2.1, by have := h.2.2.2; omega⟩
theorem chkP_good {i : Nat} {s a : ByteArray} (h : chkP i s a (rs s) = 0) : GoodX s := by
  have h2 := (chkP_facts h).2
  have h3 := (chkP_zero h).1
  refine ⟨?_, h3, h2, ?_⟩
  · rcases Nat.eq_zero_or_pos s.size with e | e
    · unfold chkP at h
      rw [if_pos e] at h
      cases h
    · exact e
  · rw [rs_len]
    have := kS_le s
    omega
theorem makeG_good : ∀ (L : List ByteArray) (i : Nat) (a : ByteArray) (P : List PN), (makeG i a P L).1 = 0 → (-1 : Int) ∉ rs a → (∀ s ∈ L, GoodX s) ∧ (∀ s ∈ L, rs a < rs s) ∧ (L.map rs).Pairwise (· < ·)
  | [], i, a, P, _, _ => ⟨fun s hs => absurd hs List.not_mem_nil, fun s hs => absurd hs List.not_mem_nil, List.Pairwise.nil⟩
  | s :: L, i, a, P, hc, ha => by
    simp only [makeG] at hc
    by_cases h0 : chkP i s a (rs s) = 0
    · rw [if_pos h0] at hc
      obtain ⟨h1, h2⟩ := chkP_facts h0
      have hlt := rs_lt ha h2 h1
      obtain ⟨g1, g2, g3⟩ := makeG_good L (i + 1) s (addP P (rs s)) hc h2
      refine ⟨fun x hx => ?_, fun x hx => ?_, ?_⟩
      · rcases List.mem_cons.1 hx with rfl | hx
        · exact chkP_good h0
        · exact g1 x hx
      · rcases List.mem_cons.1 hx with rfl | hx
        · exact hlt
        · exact List.lt_trans hlt (g2 x hx)
      · rw [List.map_cons, List.pairwise_cons]
        refine ⟨fun y hy => ?_, g3⟩
        obtain ⟨x, hx, rfl⟩ := List.mem_map.1 hy
        exact g2 x hx
    · rw [if_neg h0] at hc
      exact absurd hc h0
theorem rs_none : rs ⟨#[]⟩ = [] := sm_rs [] (fun b hb => by cases hb)
theorem makeP_good {L : List ByteArray} (h : (makeP L).1 = 0) : (∀ s ∈ L, GoodX s) ∧ (L.map rs).Pairwise (· < ·) := by
  obtain ⟨g1, _, g3⟩ := makeG_good L 0 ⟨#[]⟩ [pn0] h (by rw [rs_none]; exact List.not_mem_nil)
  exact ⟨g1, g3⟩
/-- A beginning, as a text. -/
def tx (p : List Int) : ByteArray := strOfNums (p.flatMap enc)
theorem tx_app (p : List Int) (r : Int) : tx p ++ tx [r] = tx (p ++ [r]) := by
  apply ByteArray.ext
  apply Array.ext'
  rw [ByteArray.data_append]
  unfold tx
  simp [strOfNums, List.flatMap_append]
theorem tx_size (p : List Int) : (tx p).size ≤ 4 * p.length := by
  unfold tx
  rw [strOfNums_size]
  induction p with
  | nil => simp
  | cons a p ih =>
    have := enc_le a
    simp only [List.flatMap_cons, List.length_append, List.length_cons]
    omega
/-- The nodes of a trie, and their beginnings. -/
structure NP (L : List ByteArray) (P : List PN) (B : List (List Int)) : Prop where
  inv : Inv ((L.map rs).reverse ++ []) P B
  ends : EndI ((L.map rs).reverse ++ []) P B
  nod : B.Nodup
  good : ∀ s ∈ L, GoodX s
theorem NP.of {L : List ByteArray} (h : (makeP L).1 = 0) (hg : ∀ s ∈ L, GoodX s) : ∃ B, NP L (makeP L).2 B := by
  have he : (-1 : Int) ∉ rs ⟨#[]⟩ := by
    have h0 : rs ⟨#[]⟩ = [] := sm_rs [] (fun b hb => by cases hb)
    rw [h0]; exact List.not_mem_nil
  obtain ⟨B, hI, hE, _⟩ := make_inv L 0 ⟨#[]⟩ [pn0] [[]] [] h inv0 end0 he (fun x hx => by cases hx)
  refine ⟨B, hI, hE, ?_, hg⟩
  unfold List.Nodup
  rw [List.pairwise_iff_getElem]
  intro i j hi hj hij e
  have := hI.uniq i j B[i] (List.getElem?_eq_getElem hi) (by rw [e]; exact List.getElem?_eq_getElem hj)
  omega
theorem NP.pre {L : List ByteArray} {P : List PN} {B : List (List Int)} (h : NP L P B) {i : Nat} {p : List Int} (hp : B[i]? = some p) : p = [] ∨ ∃ s ∈ L, p <+: rs s := by
  rcases h.inv.pre i p hp with e | ⟨u, hu, e⟩
  · exact Or.inl e
  · right
    simp only [List.append_nil, List.mem_reverse, List.mem_map] at hu
    obtain ⟨s, hs, rfl⟩ := hu
    exact ⟨s, hs, e⟩
theorem NP.ok {L : List ByteArray} {P : List PN} {B : List (List Int)} (h : NP L P B) {i : Nat} {p : List Int} (hp : B[i]? = some p) : (∀ r ∈ p, okR r = true) ∧ p.length ≤ 64 := by
  rcases h.pre hp with rfl | ⟨s, hs, e⟩
  · exact ⟨(fun r hr => by cases hr), Nat.zero_le _⟩
  · obtain ⟨_, _, g3, g4⟩ := h.good s hs
    exact ⟨fun r hr => rs_ok g3 r (e.subset hr), Nat.le_trans e.length_le g4⟩
theorem NP.tx_in {L : List ByteArray} {P : List PN} {B : List (List Int)} (h : NP L P B) {i : Nat} {p : List Int} (hp : B[i]? = some p) : tx p ∈ L ↔ p ∈ L.map rs := by
  have hr : rs (tx p) = p := rs_text p (h.ok hp).1
  constructor
  · intro hm
    rw [← hr]
    exact List.mem_map_of_mem hm
  · intro hm
    obtain ⟨s, hs, e⟩ := List.mem_map.1 hm
    have hb := rs_back (h.good s hs).2.2.1
    rw [e] at hb
    unfold tx
    rw [hb]
    exact hs
theorem NP.e_is {L : List ByteArray} {P : List PN} {B : List (List Int)} (h : NP L P B) {i : Nat} {p : List Int} {n : PN} (hp : B[i]? = some p) (hn : P[i]? = some n) : n.e = true ↔ tx p ∈ L := by
  rw [h.tx_in hp, h.ends.iff i n p hn hp]
  simp
theorem NP.sum {L : List ByteArray} {P : List PN} {B : List (List Int)} (h : NP L P B) {i : Nat} {p : List Int} {n : PN} (hp : B[i]? = some p) (hn : P[i]? = some n) : (n.R.map fun r => onP B (p ++ [r])).sum = below B p := by
  have hR : n.R.Nodup := (h.inv.rise i n hn).imp (fun h => by omega)
  refine sum_on p n.R hR B fun q hq hpq hne => ?_
  obtain ⟨t, rfl⟩ := hpq
  cases t with
  | nil => simp at hne
  | cons r t =>
    obtain ⟨c, hc⟩ := List.getElem?_of_mem hq
    have hc' : B[c]? = some ((p ++ [r]) ++ t) := by rw [hc]; simp
    obtain ⟨j, hj⟩ := h.inv.closed (p ++ [r]) t.length t c (Nat.le_refl _) hc'
    obtain ⟨i', n', j', h1, h2, h3, h4⟩ := h.inv.up j p r hj
    obtain rfl := h.inv.uniq i' i p h2 hp
    rw [hn] at h1
    cases h1
    exact ⟨r, List.mem_of_getElem? h3, ⟨t, by simp⟩⟩
theorem NP.kid {L : List ByteArray} {P : List PN} {B : List (List Int)} (h : NP L P B) {i j : Nat} {p : List Int} {n : PN} {r : Int} (hp : B[i]? = some p) (hn : P[i]? = some n) (hr : n.R[j]? = some r) : ∃ c, n.K[j]? = some c ∧ B[c]? = some (p ++ [r]) ∧ onP B (p ++ [r]) = below B (p ++ [r]) + 1 := by
  have hl := (h.inv.ok n (List.mem_of_getElem? hn)).1
  have hj : j < n.K.length := by rw [← hl]; exact (List.getElem?_eq_some_iff.1 hr).1
  have hc : n.K[j]? = some n.K[j] := List.getElem?_eq_getElem hj
  have hb := h.inv.kid i n j r _ p hn hp hr hc
  exact ⟨_, hc, hb, on_below h.nod (List.mem_of_getElem? hb)⟩
end Go.Proofs.YtfikkkodepfdkaaDoor
