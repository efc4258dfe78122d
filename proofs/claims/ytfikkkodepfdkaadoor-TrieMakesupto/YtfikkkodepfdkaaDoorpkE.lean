/- The law TrieNodes: what its closure meets. Words, in plain words: a stack of beginnings tells the words in their order. Suggestions, in plain words: which words lie near, in which order. A search in memory: its block, the row of what was found, the beginning's row. near.final. -/
import Derived.ArgAppend
import Derived.OwnWalk
import Derived.Deep.AppendLies
import Derived.Deep.DeepCutAuto
import Derived.Deep.CutBlock
import Derived.Deep.RegionHeld3
import Derived.Test.YtfikkkodepfdkaaDoorpkC
import Derived.Test.YtfikkkodepfdkaaDoorpkD2
import Derived.Test.YtfikkkodepfdkaaDoorpkB
namespace Go.Proofs.YtfikkkodepfdkaaDoor
set_option linter.unusedVariables false
open Go.RowKit Go.ChangeShapes
/-- A word that Make takes. -/
def GoodX (s : ByteArray) : Prop := 0 < s.size ∧ s.size ≤ 64 ∧ (-1 : Int) ∉ rs s ∧ (rs s).length ≤ 64
theorem GoodX.of {s : ByteArray} (h : GoodW s) : GoodX s := ⟨h.1, by have := h.2.1; omega, h.2.2.1, by have := h.2.2.2; omega⟩
theorem chkP_good {i : Nat} {s a : ByteArray} (h : chkP i s a (rs s) = 0) : GoodX s := by
  have h2 := (chkP_facts h).2
  have h3 := (chkP_zero h).1
  refine ⟨?_, h3, h2, ?_⟩
  · rcases Nat.eq_zero_or_pos s.size with e | e
    · unfold chkP at h
      rw [if_pos e] at h
      cases h
    · exact e
  · rw [rs_len]
    have := kS_le s
    omega
theorem makeG_good : ∀ (L : List ByteArray) (i : Nat) (a : ByteArray) (P : List PN), (makeG i a P L).1 = 0 → (-1 : Int) ∉ rs a → (∀ s ∈ L, GoodX s) ∧ (∀ s ∈ L, rs a < rs s) ∧ (L.map rs).Pairwise (· < ·)
  | [], i, a, P, _, _ => ⟨fun s hs => absurd hs List.not_mem_nil, fun s hs => absurd hs List.not_mem_nil, List.Pairwise.nil⟩
  | s :: L, i, a, P, hc, ha => by
    simp only [makeG] at hc
    by_cases h0 : chkP i s a (rs s) = 0
    · rw [if_pos h0] at hc
      obtain ⟨h1, h2⟩ := chkP_facts h0
      have hlt := rs_lt ha h2 h1
      obtain ⟨g1, g2, g3⟩ := makeG_good L (i + 1) s (addP P (rs s)) hc h2
      refine ⟨fun x hx => ?_, fun x hx => ?_, ?_⟩
      · rcases List.mem_cons.1 hx with rfl | hx
        · exact chkP_good h0
        · exact g1 x hx
      · rcases List.mem_cons.1 hx with rfl | hx
        · exact hlt
        · exact List.lt_trans hlt (g2 x hx)
      · rw [List.map_cons, List.pairwise_cons]
        refine ⟨fun y hy => ?_, g3⟩
        obtain ⟨x, hx, rfl⟩ := List.mem_map.1 hy
        exact g2 x hx
    · rw [if_neg h0] at hc
      exact absurd hc h0
theorem rs_none : rs ⟨#[]⟩ = [] := sm_rs [] (fun b hb => by cases hb)
theorem makeP_good {L : List ByteArray} (h : (makeP L).1 = 0) : (∀ s ∈ L, GoodX s) ∧ (L.map rs).Pairwise (· < ·) := by
  obtain ⟨g1, _, g3⟩ := makeG_good L 0 ⟨#[]⟩ [pn0] h (by rw [rs_none]; exact List.not_mem_nil)
  exact ⟨g1, g3⟩
/-- A beginning, as a text. -/
def tx (p : List Int) : ByteArray := strOfNums (p.flatMap enc)
theorem tx_app (p : List Int) (r : Int) : tx p ++ tx [r] = tx (p ++ [r]) := by
  apply ByteArray.ext
  apply Array.ext'
  rw [ByteArray.data_append]
  unfold tx
  simp [strOfNums, List.flatMap_append]
theorem tx_size (p : List Int) : (tx p).size ≤ 4 * p.length := by
  unfold tx
  rw [strOfNums_size]
  induction p with
  | nil => simp
  | cons a p ih =>
    have := enc_le a
    simp only [List.flatMap_cons, List.length_append, List.length_cons]
    omega
/-- The nodes of a trie, and their beginnings. -/
structure NP (L : List ByteArray) (P : List PN) (B : List (List Int)) : Prop where
  inv : Inv ((L.map rs).reverse ++ []) P B
  ends : EndI ((L.map rs).reverse ++ []) P B
  nod : B.Nodup
  good : ∀ s ∈ L, GoodX s
theorem NP.of {L : List ByteArray} (h : (makeP L).1 = 0) (hg : ∀ s ∈ L, GoodX s) : ∃ B, NP L (makeP L).2 B := by
  have he : (-1 : Int) ∉ rs ⟨#[]⟩ := by
    have h0 : rs ⟨#[]⟩ = [] := sm_rs [] (fun b hb => by cases hb)
    rw [h0]; exact List.not_mem_nil
  obtain ⟨B, hI, hE, _⟩ := make_inv L 0 ⟨#[]⟩ [pn0] [[]] [] h inv0 end0 he (fun x hx => by cases hx)
  refine ⟨B, hI, hE, ?_, hg⟩
  unfold List.Nodup
  rw [List.pairwise_iff_getElem]
  intro i j hi hj hij e
  have := hI.uniq i j B[i] (List.getElem?_eq_getElem hi) (by rw [e]; exact List.getElem?_eq_getElem hj)
  omega
theorem NP.pre {L : List ByteArray} {P : List PN} {B : List (List Int)} (h : NP L P B) {i : Nat} {p : List Int} (hp : B[i]? = some p) : p = [] ∨ ∃ s ∈ L, p <+: rs s := by
  rcases h.inv.pre i p hp with e | ⟨u, hu, e⟩
  · exact Or.inl e
  · right
    simp only [List.append_nil, List.mem_reverse, List.mem_map] at hu
    obtain ⟨s, hs, rfl⟩ := hu
    exact ⟨s, hs, e⟩
theorem NP.ok {L : List ByteArray} {P : List PN} {B : List (List Int)} (h : NP L P B) {i : Nat} {p : List Int} (hp : B[i]? = some p) : (∀ r ∈ p, okR r = true) ∧ p.length ≤ 64 := by
  rcases h.pre hp with rfl | ⟨s, hs, e⟩
  · exact ⟨(fun r hr => by cases hr), Nat.zero_le _⟩
  · obtain ⟨_, _, g3, g4⟩ := h.good s hs
    exact ⟨fun r hr => rs_ok g3 r (e.subset hr), Nat.le_trans e.length_le g4⟩
theorem NP.tx_in {L : List ByteArray} {P : List PN} {B : List (List Int)} (h : NP L P B) {i : Nat} {p : List Int} (hp : B[i]? = some p) : tx p ∈ L ↔ p ∈ L.map rs := by
  have hr : rs (tx p) = p := rs_text p (h.ok hp).1
  constructor
  · intro hm
    rw [← hr]
    exact List.mem_map_of_mem hm
  · intro hm
    obtain ⟨s, hs, e⟩ := List.mem_map.1 hm
    have hb := rs_back (h.good s hs).2.2.1
    rw [e] at hb
    unfold tx
    rw [hb]
    exact hs
theorem NP.e_is {L : List ByteArray} {P : List PN} {B : List (List Int)} (h : NP L P B) {i : Nat} {p : List Int} {n : PN} (hp : B[i]? = some p) (hn : P[i]? = some n) : n.e = true ↔ tx p ∈ L := by
  rw [h.tx_in hp, h.ends.iff i n p hn hp]
  simp
theorem NP.sum {L : List ByteArray} {P : List PN} {B : List (List Int)} (h : NP L P B) {i : Nat} {p : List Int} {n : PN} (hp : B[i]? = some p) (hn : P[i]? = some n) : (n.R.map fun r => onP B (p ++ [r])).sum = below B p := by
  have hR : n.R.Nodup := (h.inv.rise i n hn).imp (fun h => by omega)
  refine sum_on p n.R hR B fun q hq hpq hne => ?_
  obtain ⟨t, rfl⟩ := hpq
  cases t with
  | nil => simp at hne
  | cons r t =>
    obtain ⟨c, hc⟩ := List.getElem?_of_mem hq
    have hc' : B[c]? = some ((p ++ [r]) ++ t) := by rw [hc]; simp
    obtain ⟨j, hj⟩ := h.inv.closed (p ++ [r]) t.length t c (Nat.le_refl _) hc'
    obtain ⟨i', n', j', h1, h2, h3, h4⟩ := h.inv.up j p r hj
    obtain rfl := h.inv.uniq i' i p h2 hp
    rw [hn] at h1
    cases h1
    exact ⟨r, List.mem_of_getElem? h3, ⟨t, by simp⟩⟩
theorem NP.kid {L : List ByteArray} {P : List PN} {B : List (List Int)} (h : NP L P B) {i j : Nat} {p : List Int} {n : PN} {r : Int} (hp : B[i]? = some p) (hn : P[i]? = some n) (hr : n.R[j]? = some r) : ∃ c, n.K[j]? = some c ∧ B[c]? = some (p ++ [r]) ∧ onP B (p ++ [r]) = below B (p ++ [r]) + 1 := by
  have hl := (h.inv.ok n (List.mem_of_getElem? hn)).1
  have hj : j < n.K.length := by rw [← hl]; exact (List.getElem?_eq_some_iff.1 hr).1
  have hc : n.K[j]? = some n.K[j] := List.getElem?_eq_getElem hj
  have hb := h.inv.kid i n j r _ p hn hp hr hc
  exact ⟨_, hc, hb, on_below h.nod (List.mem_of_getElem? hb)⟩
end Go.Proofs.YtfikkkodepfdkaaDoor
namespace Go.Proofs.YtfikkkodepfdkaaDoor
set_option linter.unusedVariables false
/-- Lists that rise and have the same members are the same. -/
theorem rise_ext : ∀ (A C : List (List Int)), A.Pairwise (· < ·) → C.Pairwise (· < ·) → (∀ x, x ∈ A ↔ x ∈ C) → A = C
  | [], [], _, _, _ => rfl
  | [], c :: C, _, _, h => absurd ((h c).2 (List.mem_cons_self ..)) List.not_mem_nil
  | a :: A, [], _, _, h => absurd ((h a).1 (List.mem_cons_self ..)) List.not_mem_nil
  | a :: A, c :: C, hA, hC, h => by
    rw [List.pairwise_cons] at hA hC
    have e : a = c := by
      rcases List.mem_cons.1 ((h a).1 (List.mem_cons_self ..)) with e | e
      · exact e
      · rcases List.mem_cons.1 ((h c).2 (List.mem_cons_self ..)) with e' | e'
        · exact e'.symm
        · exact absurd (List.lt_trans (hA.1 c e') (hC.1 a e)) (List.lt_irrefl a)
    subst e
    rw [rise_ext A C hA.2 hC.2 fun x => ?_]
    constructor
    · intro hx
      rcases List.mem_cons.1 ((h x).1 (List.mem_cons_of_mem _ hx)) with e | e
      · exact absurd (hA.1 x hx) (by rw [e]; exact List.lt_irrefl a)
      · exact e
    · intro hx
      rcases List.mem_cons.1 ((h x).2 (List.mem_cons_of_mem _ hx)) with e | e
      · exact absurd (hC.1 x hx) (by rw [e]; exact List.lt_irrefl a)
      · exact e
/-- The words that go on from a beginning. -/
def subW (D : List (List Int)) (p : List Int) : List (List Int) := D.filter fun u => decide (p <+: u)
theorem subW_nil (D : List (List Int)) : subW D [] = D := by
  unfold subW
  rw [List.filter_eq_self]
  intro u _
  simp
theorem lt_next (p : List Int) (r r' : Int) (a b : List Int) (h : r < r') : p ++ [r] ++ a < p ++ [r'] ++ b := by
  rw [List.append_assoc, List.append_assoc]
  exact app_lt p _ _ (cons_lt h)
theorem lt_longer (p : List Int) (r : Int) (a : List Int) : p < p ++ [r] ++ a := by
  have h : p ++ [] < p ++ ([r] ++ a) := app_lt p _ _ (by simp)
  rw [List.append_nil, ← List.append_assoc] at h
  exact h
/-- First the beginning itself, if it is a word; then by the next sign. -/
theorem subW_step (D : List (List Int)) (hD : D.Pairwise (· < ·)) (p : List Int) (R : List Int) (hR : R.Pairwise (· < ·)) (hall : ∀ u ∈ D, p <+: u → u ≠ p → ∃ r ∈ R, p ++ [r] <+: u) :
    subW D p = (if p ∈ D then [p] else []) ++ R.flatMap fun r => subW D (p ++ [r]) := by
  have hsub : ∀ q, (subW D q).Pairwise (· < ·) := fun q => hD.sublist List.filter_sublist
  have hmem : ∀ q x, x ∈ subW D q ↔ x ∈ D ∧ q <+: x := fun q x => by simp [subW, List.mem_filter]
  apply rise_ext _ _ (hsub p)
  · rw [List.pairwise_append]
    refine ⟨by split <;> simp, ?_, ?_⟩
    · rw [List.flatMap_def, List.pairwise_flatten]
      refine ⟨fun l hl => ?_, ?_⟩
      · obtain ⟨r, _, rfl⟩ := List.mem_map.1 hl
        exact hsub _
      · rw [List.pairwise_map]
        refine hR.imp ?_
        intro r r' hrr x hx y hy
        obtain ⟨a, rfl⟩ := ((hmem _ x).1 hx).2
        obtain ⟨b, rfl⟩ := ((hmem _ y).1 hy).2
        exact lt_next p r r' a b hrr
    · intro x hx y hy
      split at hx
      · obtain rfl : x = p := by simpa using hx
        obtain ⟨r, _, hy⟩ := List.mem_flatMap.1 hy
        obtain ⟨b, rfl⟩ := ((hmem _ y).1 hy).2
        exact lt_longer x r b
      · cases hx
  · intro x
    rw [hmem, List.mem_append, List.mem_flatMap]
    constructor
    · rintro ⟨h1, h2⟩
      by_cases e : x = p
      · subst e
        rw [if_pos h1]
        exact Or.inl (by simp)
      · obtain ⟨r, hr, h3⟩ := hall x h1 h2 e
        exact Or.inr ⟨r, hr, (hmem _ x).2 ⟨h1, h3⟩⟩
    · rintro (h | ⟨r, hr, h⟩)
      · split at h
        · rename_i hp
          obtain rfl : x = p := by simpa using h
          exact ⟨hp, List.prefix_refl _⟩
        · cases h
      · have h2 := (hmem _ x).1 h
        exact ⟨h2.1, (List.prefix_append p [r]).trans h2.2⟩
/-- What a node's words are. -/
theorem NP.words {L : List ByteArray} {P : List PN} {B : List (List Int)} (h : NP L P B) (hD : (L.map rs).Pairwise (· < ·)) {i : Nat} {p : List Int} {n : PN} (hp : B[i]? = some p) (hn : P[i]? = some n) :
    subW (L.map rs) p = (if n.e = true then [p] else []) ++ n.R.flatMap fun r => subW (L.map rs) (p ++ [r]) := by
  have he : n.e = true ↔ p ∈ L.map rs := by
    rw [h.ends.iff i n p hn hp]
    simp
  have hs := subW_step (L.map rs) hD p n.R (h.inv.rise i n hn) (fun u hu hpu hne => by
    obtain ⟨t, rfl⟩ := hpu
    cases t with
    | nil => simp at hne
    | cons r t =>
      obtain ⟨c, hc⟩ := h.ends.has _ (by simp only [List.append_nil, List.mem_reverse]; exact hu)
      have hc' : B[c]? = some ((p ++ [r]) ++ t) := by rw [hc]; simp
      obtain ⟨j, hj⟩ := h.inv.closed (p ++ [r]) t.length t c (Nat.le_refl _) hc'
      obtain ⟨i', n', j', h1, h2, h3, h4⟩ := h.inv.up j p r hj
      obtain rfl := h.inv.uniq i' i p h2 hp
      rw [hn] at h1
      cases h1
      exact ⟨r, List.mem_of_getElem? h3, ⟨t, by simp⟩⟩)
  rw [hs]
  congr 1
  by_cases hb : p ∈ L.map rs
  · rw [if_pos hb, if_pos (he.2 hb)]
  · rw [if_neg hb, if_neg (fun e => hb (he.1 e))]
end Go.Proofs.YtfikkkodepfdkaaDoor
namespace Go.Proofs.YtfikkkodepfdkaaDoor
set_option linter.unusedVariables false
open Qns (dd far at_)
theorem lst_le (N : Nat → Int) : ∀ k j, j ≤ k → Qns.lst N k ≤ N j
  | 0, j, h => by
    obtain rfl : j = 0 := by omega
    exact Int.le_refl _
  | k + 1, j, h => by
    show min (Qns.lst N k) (N (k + 1)) ≤ N j
    rcases Nat.lt_or_ge j (k + 1) with e | e
    · have := lst_le N k j (by omega)
      omega
    · obtain rfl : j = k + 1 := by omega
      omega
/-- What stands in a row is never above the next one's least. -/
theorem row_next (A B : Nat → Int) (k n m : Nat) (h : ∀ j, j ≤ k → m ≤ dd A B j n) : ∀ j, j ≤ k → m ≤ dd A B j (n + 1)
  | 0, hj => by
    have := h 0 hj
    rw [Qns.dd_0] at this ⊢
    omega
  | j + 1, hj => by
    have h1 := row_next A B k n m h j (by omega)
    have h2 := h (j + 1) hj
    have h3 := h j (by omega)
    have h4 : 1 ≤ n → m ≤ dd A B (j - 1) (n - 1) + 1 := fun hn => by
      have := h (j - 1) (by omega)
      have h5 := Qns.dd_up2 A B (j - 1) (n - 1)
      rw [show n - 1 + 1 = n by omega] at h5
      omega
    rw [Qns.dd_s]
    split
    · rename_i hc
      have := h4 hc.2.1
      have h6 : dd A B j n ≤ dd A B j n + if A j = B n then 0 else 1 := Nat.le_add_right _ _
      omega
    · have h6 : dd A B j n ≤ dd A B j n + if A j = B n then 0 else 1 := Nat.le_add_right _ _
      omega
theorem row_on (A B : Nat → Int) (k n m : Nat) (h : ∀ j, j ≤ k → m ≤ dd A B j n) : ∀ q j, j ≤ k → m ≤ dd A B j (n + q)
  | 0, j, hj => h j hj
  | q + 1, j, hj => row_next A B k (n + q) m (row_on A B k n m h q) j hj
/-- The row of a beginning. -/
def rowN (W p : List Int) : Nat → Int := fun j => (dd (at_ W) (at_ p) j p.length : Int)
/-- Words that go on from a beginning are no nearer than its row's least. -/
theorem far_least (W p u : List Int) (h : p <+: u) : Qns.lst (rowN W p) W.length ≤ (far W u : Int) := by
  obtain ⟨t, rfl⟩ := h
  obtain ⟨m, hm⟩ : ∃ m : Nat, Qns.lst (rowN W p) W.length = (m : Int) := by
    have : 0 ≤ Qns.lst (rowN W p) W.length := by
      have key : ∀ k, 0 ≤ Qns.lst (rowN W p) k := fun k => by
        induction k with
        | zero => exact Int.natCast_nonneg _
        | succ k ih =>
          show 0 ≤ min _ _
          have : 0 ≤ rowN W p (k + 1) := Int.natCast_nonneg _
          omega
      exact key _
    exact ⟨_, (Int.toNat_of_nonneg this).symm⟩
  rw [hm]
  have h1 : ∀ j, j ≤ W.length → m ≤ dd (at_ W) (at_ (p ++ t)) j p.length := fun j hj => by
    have h2 := lst_le (rowN W p) W.length j hj
    rw [hm] at h2
    have h3 : dd (at_ W) (at_ p) j p.length = dd (at_ W) (at_ (p ++ t)) j p.length := Qns.dd_congr _ _ _ _ _ j p.length (Nat.le_refl _) (fun _ _ => rfl) (fun i hi => (Qns.at_left p t i hi).symm)
    unfold rowN at h2
    rw [h3] at h2
    omega
  have := row_on (at_ W) (at_ (p ++ t)) W.length p.length m h1 t.length W.length (Nat.le_refl _)
  unfold far
  rw [List.length_append]
  omega
/-- A suggestion. -/
structure Nr where
  s : ByteArray
  d : Nat
theorem Nr.ext' {x y : Nr} (h1 : x.s = y.s) (h2 : x.d = y.d) : x = y := by
  cases x; cases y; simp at h1 h2; simp [h1, h2]
def nrOf (W u : List Int) : Nr := ⟨tx u, far W u⟩
/-- Those of some words that are near enough. -/
def witP (W : List Int) (f : Nat) (D : List (List Int)) : List Nr := (D.filter fun u => decide (far W u ≤ f)).map (nrOf W)
theorem witP_app (W : List Int) (f : Nat) (C D : List (List Int)) : witP W f (C ++ D) = witP W f C ++ witP W f D := by
  unfold witP
  rw [List.filter_append, List.map_append]
theorem witP_flat (W : List Int) (f : Nat) (R : List Int) (g : Int → List (List Int)) : witP W f (R.flatMap g) = R.flatMap fun r => witP W f (g r) := by
  induction R with
  | nil => rfl
  | cons r R ih => rw [List.flatMap_cons, List.flatMap_cons, witP_app, ih]
theorem witP_len (W : List Int) (f : Nat) (D : List (List Int)) : (witP W f D).length ≤ D.length := by
  unfold witP
  rw [List.length_map]
  exact List.length_filter_le _ _
/-- None is near enough, if the row's least is not. -/
theorem wit_none (W p : List Int) (f : Nat) (D : List (List Int)) (h : (f : Int) < Qns.lst (rowN W p) W.length) : witP W f (subW D p) = [] := by
  unfold witP
  rw [List.map_eq_nil_iff, List.filter_eq_nil_iff]
  intro u hu
  have hp : p <+: u := by
    have := (List.mem_filter.1 hu).2
    simpa using this
  have := far_least W p u hp
  simp
  omega
/-- What a node adds: itself, if a word ends there that is near enough, then its children's. -/
theorem NP.wit {L : List ByteArray} {P : List PN} {B : List (List Int)} (h : NP L P B) (hD : (L.map rs).Pairwise (· < ·)) {i : Nat} {p : List Int} {n : PN} (hp : B[i]? = some p) (hn : P[i]? = some n) (W : List Int) (f : Nat) :
    witP W f (subW (L.map rs) p) = (if far W p ≤ f ∧ n.e = true then [nrOf W p] else []) ++ n.R.flatMap fun r => witP W f (subW (L.map rs) (p ++ [r])) := by
  rw [h.words hD hp hn, witP_app, witP_flat]
  congr 1
  unfold witP
  by_cases he : n.e = true
  · rw [if_pos he]
    by_cases hf : far W p ≤ f
    · rw [if_pos ⟨hf, he⟩]
      simp [hf]
    · rw [if_neg (fun e => hf e.1)]
      simp [hf]
  · rw [if_neg he, if_neg (fun e => he e.2)]
    rfl
/-- The next row. -/
theorem row_grow (W p : List Int) (r q : Int) (F : Nat → Int) (b : Bool) (hW : W.length ≤ 100) (hp : p.length ≤ 100) (hb : b = true ↔ 1 ≤ p.length) (hq : 1 ≤ p.length → q = at_ p (p.length - 1)) (hF : 1 ≤ p.length → ∀ j, j ≤ W.length → F j = rowN W (p.take (p.length - 1)) j) :
    ∀ j, j ≤ W.length → Qns.nx (at_ W) (rowN W p) F b q r j = rowN W (p ++ [r]) j := by
  intro j hj
  have hr : at_ (p ++ [r]) p.length = r := by
    have := Qns.at_right p [r] 0
    rw [Nat.add_zero] at this
    rw [this]
    rfl
  have hc : ∀ j n, n ≤ p.length → dd (at_ W) (at_ p) j n = dd (at_ W) (at_ (p ++ [r])) j n := fun j n hn => Qns.dd_congr _ _ _ _ _ j n (Nat.le_refl _) (fun _ _ => rfl) (fun i hi => (Qns.at_left p [r] i (by omega)).symm)
  have key := Qns.nx_dd (at_ W) (at_ (p ++ [r])) (rowN W p) F b q W.length p.length hW hp (fun j _ => by
      unfold rowN
      rw [hc j p.length (Nat.le_refl _)]) hb (fun h1 => by
      rw [hq h1]
      exact (Qns.at_left p [r] _ (by omega)).symm) (fun h1 j hj => by
      rw [hF h1 j hj]
      unfold rowN
      have e : (p.take (p.length - 1)).length = p.length - 1 := by rw [List.length_take]; omega
      rw [e]
      congr 1
      refine Qns.dd_congr _ _ _ _ _ j _ (Nat.le_refl _) (fun _ _ => rfl) (fun i hi => ?_)
      unfold at_
      rw [List.getD_eq_getElem?_getD, List.getD_eq_getElem?_getD, List.getElem?_take, if_pos hi, List.getElem?_append_left (by omega)]) j hj
  rw [hr] at key
  rw [key]
  unfold rowN
  rw [List.length_append]
  rfl
theorem row_0 (W : List Int) (j : Nat) : rowN W [] j = (j : Int) := by
  unfold rowN
  rw [show ([] : List Int).length = 0 from rfl, Qns.dd_i]
theorem row_last (W p : List Int) : rowN W p W.length = (far W p : Int) := rfl
theorem take_snoc (p : List Int) (r : Int) : (p ++ [r]).take ((p ++ [r]).length - 1) = p := by simp
theorem at_snoc (p : List Int) (r : Int) : at_ (p ++ [r]) ((p ++ [r]).length - 1) = r := by
  have := Qns.at_right p [r] 0
  rw [Nat.add_zero] at this
  rw [List.length_append, List.length_singleton, Nat.add_sub_cancel, this]
  rfl
end Go.Proofs.YtfikkkodepfdkaaDoor
namespace Go.Proofs.YtfikkkodepfdkaaDoor
set_option linter.unusedVariables false
open Go.RowKit Go.ChangeShapes
open Qns (dd far at_)
/-- append onto a row of one's own: within its room, or in a new one. -/
theorem wp_append_on {P : Program} {w : World} {o : Oper} {a : Act} {K : Act → World → Prop} {Q : Exit → Act → World → Prop} (s x : Operand) (t : TypeId)
    (ho : o.op = .call { callee := .builtin .append, args := #[s, x], argTypes := #[t, t] })
    (base : Nat) (e : TypeId) (i : TypeInfo) (z : Value) (size bytes : Nat) (ht : P.underlying t = some (.slice e)) (hi : P.info? e = some i) (hz : i.zero = some z)
    (hsize : i.size = size) (hby : i.bytes = bytes) (hzs : z.cells.size = size) (hsz : 0 < size)
    (v : Value) (n : Nat) (xs : List Value) (hs : a.eval s = v) (hown : w.ownsRow base e size v n xs)
    (ad : Addr) (m c : Nat) (news : List Value) (hx : a.eval x = .slice (some ad) m c) (hl : news.length = m * size) (hnews : ∀ j u, news[j]? = some u → w.cell? (ad.add j) = some u) (h1 : ∀ u ∈ news, u.oneCell' = true)
    (hm : 0 < m) (h63 : n + m ≤ maxLen) (hbytes : (n + m) * bytes ≤ 140737488355328) (hbase : base ≤ w.heap.size)
    (h : ∀ g cap w', w'.ownsRow base e size (.slice (some ⟨g, 0, none⟩) (n + m) cap) (n + m) (xs ++ news) → ((v = .slice (some ⟨g, 0, none⟩) n cap ∧ w.grownBy w' (some g)) ∨ (w.heap.size ≤ g ∧ w.grownBy w' none)) → g < w'.heap.size → K (a.put o.dst (.slice (some ⟨g, 0, none⟩) (n + m) cap)) w') : o.wp P a w K Q := by
  have hown0 := hown
  obtain ⟨hxl, ⟨rfl, rfl⟩ | ⟨g, cap, cur, rfl, hg, hh, h3⟩⟩ := hown
  · refine wp_append_lies w s x t ho base e i z size bytes ht hi hz hsize hby hzs hsz _ 0 xs hs hown0 ad m c news hx hl hnews h1 hm h63 hbytes hbase w.heap.size rfl ?_
    intro g cap w' h2 h3 h4 h5
    refine h g cap w' h2 (Or.inr ⟨?_, h3⟩) h5
    rcases h4 with h4 | h4
    · cases h4
    · omega
  · by_cases hr : n + m ≤ cap
    · obtain ⟨w', hrun, r1, r2⟩ := run_append_fits (P := P) w base t o.type e i size ht hi hsize g n cap xs hown0 ad m c news hl hnews h1 hr
      unfold Oper.wp
      simp [execOp, ho, resolve, invoke, builtin, hs, hx, hrun, Result.andThen]
      refine h g cap w' r1 (Or.inl ⟨rfl, r2⟩) ?_
      exact (r1.lt g rfl).2
    · obtain ⟨v', w', hrun, r1, r2⟩ := run_append_arg_grows (P := P) w t o.type e i z size bytes ht hi hz hsize hby hzs hsz ⟨g, 0, none⟩ n cap xs hxl (fun j u hj => World.ownsRow.cells hown0 rfl j u hj) ad m c news hl hnews (by omega) h63 hbytes
      obtain ⟨g', cap', rfl⟩ : ∃ g' cap', v' = .slice (some ⟨g', 0, none⟩) (n + m) cap' := by
        obtain ⟨_, ⟨_, h0⟩ | ⟨g', cap', _, e, _⟩⟩ := r1
        · omega
        · exact ⟨g', cap', e⟩
      have hlt := r1.lt g' rfl
      unfold Oper.wp
      simp [execOp, ho, resolve, invoke, builtin, hs, hx, hrun, Result.andThen]
      exact h g' cap' w' (own_mono r1 hbase) (Or.inr ⟨hlt.1, r2⟩) hlt.2
/-- A row without its last cell. -/
theorem own_cut {w : World} {b e g n cap : Nat} {xs : List Value} {x : Value} (h : w.ownsRow b e 1 (.slice (some ⟨g, 0, none⟩) (n + 1) cap) (n + 1) (xs ++ [x])) (hx : xs.length = n) : w.ownsRow b e 1 (.slice (some ⟨g, 0, none⟩) n cap) n xs := by
  obtain ⟨_, ⟨e0, _⟩ | ⟨g', cap', cur, e1, hg, hh, h1, h2, h3, h4⟩⟩ := h
  · cases e0
  · injection e1 with e1 e2 e3
    injection e1 with e1
    injection e1 with e1 _ _
    subst e1 e3
    refine ⟨by rw [Nat.mul_one]; exact hx, Or.inr ⟨_, _, cur, rfl, hg, hh, by omega, h2, h3, ?_⟩⟩
    have h5 := congrArg (List.take n) h4
    rw [List.take_take, Nat.mul_one, Nat.min_eq_left (Nat.le_succ n), List.take_append_of_le_length (by omega), List.take_of_length_le (l := xs) (by omega)] at h5
    rw [Nat.mul_one]
    exact h5
def nrC (F : List Nr) : List Value := F.flatMap fun x => [.string x.s, .int .i64 (x.d : Int)]
theorem nrC_app (F G : List Nr) : nrC (F ++ G) = nrC F ++ nrC G := by simp [nrC]
theorem nrC_len (F : List Nr) : (nrC F).length = F.length * 2 := by
  induction F with
  | nil => rfl
  | cons x F ih =>
    show (_ :: _ :: nrC F).length = _
    rw [List.length_cons, List.length_cons, ih, List.length_cons]
    omega
/-- The blocks that a search writes. -/
def FS (S : Nat) (vf vb : Value) (k : Nat) : Prop := k = S ∨ vf.ownBlock = some k ∨ vb.ownBlock = some k
/-- A search in memory. -/
structure SR (w0 w : World) (S : Nat) (tv vW : Value) (f : Nat) (vf : Value) (F : List Nr) : Prop where
  up : Up w0.heap.size w0 w
  bS : w0.heap.size ≤ S
  blk : w.heap[S]? = some (.cells #[tv, vW, .int .i64 (f : Int), vf] 112 (0, 0))
  fnd : w.ownsRow w0.heap.size 47 2 vf F.length (nrC F)
theorem SR.stay {w0 w w' : World} {S f : Nat} {tv vW vf : Value} {F : List Nr} (h : SR w0 w S tv vW f vf F) (hb : Below w.heap.size w w') : SR w0 w' S tv vW f vf F :=
  ⟨h.up.stay hb, h.bS, (hb.block S (lt_of_heap h.blk)).trans h.blk, own_stay h.fnd hb⟩
theorem SR.drew {w0 w : World} {S f : Nat} {tv vW vf : Value} {F : List Nr} (h : SR w0 w S tv vW f vf F) : SR w0 w.drew S tv vW f vf F := ⟨h.up.drew, h.bS, h.blk, h.fnd⟩
theorem SR.cells {w0 w : World} {S f : Nat} {tv vW vf : Value} {F : List Nr} (h : SR w0 w S tv vW f vf F) : w.cell? ⟨S, 0, none⟩ = some tv ∧ w.cell? ⟨S, 1, none⟩ = some vW ∧ w.cell? ⟨S, 2, none⟩ = some (.int .i64 (f : Int)) ∧ w.cell? ⟨S, 3, none⟩ = some vf ∧ w.frozen? ⟨S, 3, none⟩ = false := by
  refine ⟨?_, ?_, ?_, ?_, ?_⟩
  · rw [cell_of_row w S 0 _ _ _ h.blk]; rfl
  · rw [cell_of_row w S 1 _ _ _ h.blk]; rfl
  · rw [cell_of_row w S 2 _ _ _ h.blk]; rfl
  · rw [cell_of_row w S 3 _ _ _ h.blk]; rfl
  · simp [World.frozen?, h.blk]
theorem SR.S_lt {w0 w : World} {S f : Nat} {tv vW vf : Value} {F : List Nr} (h : SR w0 w S tv vW f vf F) : S < w.heap.size := lt_of_heap h.blk
/-- A row that a search keeps. -/
def RowAt (w : World) (k : Nat) (N : Nat → Int) (F : Nat → Prop) (v : Value) : Prop := ∃ b o c, v = .slice (some ⟨b, o, none⟩) (k + 1) c ∧ Qns.Is w b o (k + 1) N ∧ ¬ F b ∧ b < w.heap.size
theorem is_went {w w' : World} {F F' : Nat → Prop} {b o k : Nat} {N : Nat → Int} (h : Qns.Is w b o k N) (hw : Went w w' F F') (hF : ¬ F b) : Qns.Is w' b o k N := fun j hj => by
  have h1 := h j hj
  exact (World.cell?_of_block (hw.far b (World.block_lt_of_cell? w _ h1) hF)).trans h1
theorem RowAt.went {w w' : World} {F F' : Nat → Prop} {k : Nat} {N : Nat → Int} {v : Value} (h : RowAt w k N F v) (hw : Went w w' F F') : RowAt w' k N F' v := by
  obtain ⟨b, o, c, rfl, h1, h2, h3⟩ := h
  refine ⟨b, o, c, rfl, is_went h1 hw h2, fun hF => ?_, Nat.lt_of_lt_of_le h3 hw.size⟩
  rcases hw.new b hF with h4 | h4
  · exact h2 h4
  · omega
theorem RowAt.stay {w w' : World} {F : Nat → Prop} {k : Nat} {N : Nat → Int} {v : Value} (h : RowAt w k N F v) (hb : Below w.heap.size w w') : RowAt w' k N F v := h.went (Went.of_below hb)
theorem RowAt.form {w : World} {F : Nat → Prop} {k : Nat} {N : Nat → Int} {v : Value} (h : RowAt w k N F v) : ∃ b o c, v = .slice (some ⟨b, o, none⟩) (k + 1) c := by
  obtain ⟨b, o, c, e, _⟩ := h
  exact ⟨b, o, c, e⟩
theorem own_wentF {w w' : World} {F F' : Nat → Prop} {base e size n : Nat} {v : Value} {xs : List Value} (h : w.ownsRow base e size v n xs) (hw : Went w w' F F') (hn : ∀ k, v.ownBlock = some k → ¬ F k) : w'.ownsRow base e size v n xs :=
  own_of_blocks h fun k hk => hw.far k (h.lt k hk).2 (hn k hk)
/-- The row ahead of a beginning's: none at the root. -/
def Ahead (w : World) (W p : List Int) (F : Nat → Prop) (v : Value) : Prop := (p = [] ∧ v = .slice none 0 0) ∨ (p ≠ [] ∧ RowAt w W.length (rowN W (p.take (p.length - 1))) F v)
theorem Ahead.went {w w' : World} {F F' : Nat → Prop} {W p : List Int} {v : Value} (h : Ahead w W p F v) (hw : Went w w' F F') : Ahead w' W p F' v := by
  rcases h with h | ⟨h1, h2⟩
  · exact Or.inl h
  · exact Or.inr ⟨h1, h2.went hw⟩
theorem Ahead.isl {w : World} {F : Nat → Prop} {W p : List Int} {v : Value} (h : Ahead w W p F v) : ∃ m N, Qns.ISl w v m N ∧ m ≤ W.length + 1 ∧ (m = W.length + 1 ↔ 1 ≤ p.length) ∧ (1 ≤ p.length → N = rowN W (p.take (p.length - 1))) := by
  rcases h with ⟨rfl, rfl⟩ | ⟨h1, b, o, c, rfl, h2, _⟩
  · exact ⟨0, fun _ => 0, Or.inl ⟨none, 0, rfl, rfl⟩, by omega, by simp, fun h => by simp at h⟩
  · have : 1 ≤ p.length := by
      cases p with
      | nil => exact absurd rfl h1
      | cons a p => simp
    exact ⟨W.length + 1, _, Or.inr ⟨b, o, c, rfl, h2⟩, by omega, by simp [this], fun _ => rfl⟩
/-- What a search asks of its words. -/
def TrV (w0 : World) (tv : Value) (P : List PN) : Prop := ∀ w, Up w0.heap.size w0 w → ∀ (i : Nat) (n : PN), P[i]? = some n →
  (Calls Tryd.prog 72 #[tv, .int .i64 (i : Int)] w fun e w' => e = .returned (.bool n.e) ∧ Below w.heap.size w w') ∧
  (Calls Tryd.prog 21 #[tv, .int .i64 (i : Int)] w fun e w' => ∃ vr vk, e = .returned (.tuple #[vr, vk]) ∧ w'.ownsRow w.heap.size 21 1 vr n.R.length (n.R.map i32c) ∧ w'.ownsRow w.heap.size 3 1 vk n.K.length (n.K.map i64c) ∧ Below w.heap.size w w')
theorem TrV.of {w0 : World} {base T m : Nat} {vN : Value} {l : List Nd} (h : TrieM w0 base T m vN l) (hok : OkP (l.map Nd.p)) (hl : l.length ≤ 300000) : TrV w0 (.pointer (some ⟨T, 0, none⟩)) (l.map Nd.p) := by
  intro w hu i n hn
  rw [List.getElem?_map] at hn
  cases hd : l[i]? with
  | none => rw [hd] at hn; cases hn
  | some x =>
    rw [hd] at hn
    simp at hn
    subst hn
    have h1 := h.stay hu.1
    have h2 := hok x.p (List.mem_map.2 ⟨x, List.mem_of_getElem? hd, rfl⟩)
    rw [List.length_map] at h2
    exact ⟨ends_any h1 hd (by omega), kids_any h1 hd (by omega) (by omega) (by omega)⟩
theorem TrV.stay {w0 w1 : World} {tv : Value} {P : List PN} (h : TrV w0 tv P) (hu : Up w0.heap.size w0 w1) : TrV w1 tv P := fun w hw => h w (hu.stay hw.1)
theorem infoNr : (Tryd.prog.info? 47).map (fun i => (i.zero, i.size, i.bytes)) = some (some (.agg #[.string ByteArray.empty, .int .i64 0]), 2, 24) := by kernel_rfl
/-- One more is found. -/
theorem SR.put {w0 w w1 : World} {S f : Nat} {tv vW vf : Value} {F : List Nr} (h : SR w0 w S tv vW f vf F) (vb : Value) (x : Nr) {g cap q : Nat} (hq : q = F.length + 1)
    (ho : w1.ownsRow w0.heap.size 47 2 (.slice (some ⟨g, 0, none⟩) q cap) q (nrC F ++ [.string x.s, .int .i64 (x.d : Int)])) (hg : w.grownBy w1 vf.ownBlock) (hgg : vf.ownBlock = some g ∨ w.heap.size ≤ g) :
    SR w0 (w1.setCell ⟨S, 3, none⟩ (.slice (some ⟨g, 0, none⟩) q cap)) S tv vW f (.slice (some ⟨g, 0, none⟩) q cap) (F ++ [x]) ∧ Went w (w1.setCell ⟨S, 3, none⟩ (.slice (some ⟨g, 0, none⟩) q cap)) (FS S vf vb) (FS S (.slice (some ⟨g, 0, none⟩) q cap) vb) := by
  have hS0 := lt_of_heap h.blk
  have hvS : vf.ownBlock ≠ some S := own_blk h.fnd h.blk (by decide)
  have hS1 : w1.heap[S]? = some (.cells #[tv, vW, .int .i64 (f : Int), vf] 112 (0, 0)) := (hg.block S hS0 (fun e => hvS e.symm)).trans h.blk
  have hgS : g ≠ S := fun e => own_blk ho hS1 (by decide) (by rw [e]; rfl)
  have hset : ∀ k, k ≠ S → (w1.setCell ⟨S, 3, none⟩ (.slice (some ⟨g, 0, none⟩) q cap)).heap[k]? = w1.heap[k]? := fun k hk => heap_setCell_other w1 ⟨S, 3, none⟩ k _ (fun e => hk e)
  refine ⟨⟨?_, h.bS, ?_, ?_⟩, ⟨hg.os, hg.tape, hg.output, ?_, fun k hk hF => ?_, fun k hk => ?_⟩⟩
  · exact (h.up.grown hg (own_base h.fnd)).setCell h.bS _
  · exact heap_setCell_same w1 S 3 _ _ _ hS1
  · have e : (F ++ [x]).length = q := by simp [hq]
    rw [e, nrC_app]
    exact own_of_blocks ho (fun k hk => by
      obtain rfl : g = k := Option.some.inj hk
      exact hset g hgS)
  · simpa [World.setCell] using hg.size
  · rw [hset k (fun e => hF (Or.inl e))]
    exact hg.block k hk (fun e => hF (Or.inr (Or.inl e.symm)))
  · rcases hk with hk | hk | hk
    · exact Or.inl (Or.inl hk)
    · obtain rfl : g = k := Option.some.inj hk
      rcases hgg with e | e
      · exact Or.inl (Or.inr (Or.inl e))
      · exact Or.inr e
    · exact Or.inl (Or.inr (Or.inr hk))
/-- The beginning, with a sign behind it. -/
def OnTo (w w1 : World) (vb : Value) (g n cap : Nat) : Prop := (vb = .slice (some ⟨g, 0, none⟩) n cap ∧ w.grownBy w1 (some g)) ∨ (w.heap.size ≤ g ∧ w.grownBy w1 none)
theorem OnTo.grown {w w1 : World} {vb : Value} {g n cap : Nat} (h : OnTo w w1 vb g n cap) : w.grownBy w1 vb.ownBlock ∧ (vb.ownBlock = some g ∨ w.heap.size ≤ g) := by
  rcases h with ⟨rfl, h⟩ | ⟨h1, h⟩
  · exact ⟨h, Or.inl rfl⟩
  · exact ⟨⟨h.os, h.tape, h.output, h.size, fun k hk _ => h.block k hk (by simp)⟩, Or.inr h1⟩
theorem SR.on {w0 w w1 : World} {S f : Nat} {tv vW vf : Value} {F : List Nr} (h : SR w0 w S tv vW f vf F) {vb : Value} {n : Nat} {xs ys : List Value} (hb : w.ownsRow w0.heap.size 21 1 vb n xs) {g cap : Nat} (hg : OnTo w w1 vb g n cap) :
    SR w0 w1 S tv vW f vf F ∧ Went w w1 (FS S vf vb) (FS S vf (.slice (some ⟨g, 0, none⟩) (n + 1) cap)) := by
  obtain ⟨hgr, hgg⟩ := hg.grown
  have hbS : vb.ownBlock ≠ some S := own_blk hb h.blk (by decide)
  have hS1 := (hgr.block S (lt_of_heap h.blk) (fun e => hbS e.symm)).trans h.blk
  refine ⟨⟨h.up.grown hgr (own_base hb), h.bS, hS1, ?_⟩, ⟨hgr.os, hgr.tape, hgr.output, hgr.size, fun k hk hF => ?_, fun k hk => ?_⟩⟩
  · exact own_of_blocks h.fnd (fun k hk => hgr.block k (h.fnd.lt k hk).2 (fun e => own_type h.fnd hb (by decide) k hk e.symm))
  · exact hgr.block k hk (fun e => hF (Or.inr (Or.inr e.symm)))
  · rcases hk with hk | hk | hk
    · exact Or.inl (Or.inl hk)
    · exact Or.inl (Or.inr (Or.inl hk))
    · obtain rfl : g = k := Option.some.inj hk
      rcases hgg with e | e
      · exact Or.inl (Or.inr (Or.inr e))
      · exact Or.inr e
/-- Behind the longer beginning's walk the beginning is as it was. -/
theorem own_back {w0 w w1 w2 : World} {S f : Nat} {tv vW vf vf' : Value} {F : List Nr} (h : SR w0 w S tv vW f vf F) {vb : Value} {n : Nat} {xs : List Value} {x : Value} (hb : w.ownsRow w0.heap.size 21 1 vb n xs) {g cap : Nat} (hg : OnTo w w1 vb g n cap)
    (hw : Went w1 w2 (FS S vf (.slice (some ⟨g, 0, none⟩) (n + 1) cap)) (FS S vf' (.slice (some ⟨g, 0, none⟩) (n + 1) cap))) (ho : w2.ownsRow w0.heap.size 21 1 (.slice (some ⟨g, 0, none⟩) (n + 1) cap) (n + 1) (xs ++ [x])) : w2.ownsRow w0.heap.size 21 1 vb n xs := by
  have hxs : xs.length = n := by have := hb.1; omega
  have hbS : vb.ownBlock ≠ some S := own_blk hb h.blk (by decide)
  rcases hg with ⟨rfl, hg⟩ | ⟨h1, hg⟩
  · exact own_cut ho hxs
  · have hb1 : w1.ownsRow w0.heap.size 21 1 vb n xs := own_of_blocks hb (fun k hk => hg.block k (hb.lt k hk).2 (by simp))
    refine own_wentF hb1 hw (fun k hk hF => ?_)
    rcases hF with e | e | e
    · exact hbS (by rw [← e]; exact hk)
    · exact own_type h.fnd hb (by decide) k e hk
    · obtain rfl : g = k := Option.some.inj e
      have := (hb.lt g hk).2
      omega
theorem went_back {w w2 : World} {S : Nat} {vf vf' vb v' : Value} (h : Went w w2 (FS S vf vb) (FS S vf' v')) : Went w w2 (FS S vf vb) (FS S vf' vb) :=
  ⟨h.os, h.tape, h.output, h.size, h.far, fun k hk => by
    rcases hk with hk | hk | hk
    · exact h.new k (Or.inl hk)
    · exact h.new k (Or.inr (Or.inl hk))
    · exact Or.inl (Or.inr (Or.inr hk))⟩
/-- A row is kept though the beginning's moves. -/
theorem RowAt.on {w w1 : World} {S n g cap k : Nat} {vf vb v : Value} {N : Nat → Int} (h : RowAt w k N (FS S vf vb) v) (hg : OnTo w w1 vb g n cap) : RowAt w1 k N (FS S vf (.slice (some ⟨g, 0, none⟩) (n + 1) cap)) v := by
  obtain ⟨hgr, hgg⟩ := hg.grown
  obtain ⟨b, o, c, rfl, h1, h2, h3⟩ := h
  refine ⟨b, o, c, rfl, fun j hj => ?_, fun hF => ?_, Nat.lt_of_lt_of_le h3 hgr.size⟩
  · have := h1 j hj
    exact (World.cell?_of_block (hgr.block b h3 (fun e => h2 (Or.inr (Or.inr e.symm))))).trans this
  · rcases hF with e | e | e
    · exact h2 (Or.inl e)
    · exact h2 (Or.inr (Or.inl e))
    · obtain rfl : g = b := Option.some.inj e
      rcases hgg with e | e
      · exact h2 (Or.inr (Or.inr e))
      · omega
/-- What a search's blocks are not: a row that was made behind them. -/
theorem SR.new {w0 w : World} {S f : Nat} {tv vW vf : Value} {F : List Nr} (h : SR w0 w S tv vW f vf F) {vb : Value} {n : Nat} {xs : List Value} (hb : w.ownsRow w0.heap.size 21 1 vb n xs) {k : Nat} (hk : w.heap.size ≤ k) : ¬ FS S vf vb k := by
  intro hF
  rcases hF with e | e | e
  · have := lt_of_heap h.blk
    omega
  · have := (h.fnd.lt k e).2
    omega
  · have := (hb.lt k e).2
    omega
/-- What a walk leaves. -/
def WPost (w0 w w' : World) (S : Nat) (tv vW : Value) (f : Nat) (vf vb : Value) (F : List Nr) (p : List Int) : Prop := ∃ vf', SR w0 w' S tv vW f vf' F ∧ w'.ownsRow w0.heap.size 21 1 vb p.length (p.map i32c) ∧ Went w w' (FS S vf vb) (FS S vf' vb)
end Go.Proofs.YtfikkkodepfdkaaDoor
namespace Go.Proofs.YtfikkkodepfdkaaDoor
set_option linter.unusedVariables false
open Go.RowKit Go.ChangeShapes
open Qns (dd far at_)
theorem final_any {w : World} {b : Nat} {ad : Option Addr} {c : Nat} (p : List Int) (h : w.ownsRow b 21 1 (.slice ad p.length c) p.length (p.map i32c)) (hp : p.length ≤ 100) :
    Calls Tryd.prog 74 #[.slice ad p.length c] w fun e w' => e = .returned (.int .i32 (at_ p (p.length - 1))) ∧ w' = w := by
  cases hl : p.length with
  | zero =>
    have hz : p = [] := List.eq_nil_of_length_eq_zero hl
    subst hz
    have e : at_ [] (0 - 1) = 0 := rfl
    rw [e]
    clear h hl
    go_enter Tryd.func74, Tryd.ntmps74
    go_wp2
    go_ret
    exact ⟨rfl, rfl⟩
  | succ n =>
    obtain ⟨g, rfl⟩ : ∃ g, ad = some ⟨g, 0, none⟩ := by
      obtain ⟨_, ⟨e1, e2⟩ | ⟨g', cap, _, e1, _⟩⟩ := h
      · omega
      · injection e1 with e1 _ _; exact ⟨g', e1⟩
    have hc : w.cell? ⟨g, n, none⟩ = some (.int .i32 (at_ p n)) := by
      rw [h.cellAt n (by omega), List.getElem?_map]
      unfold at_
      rw [List.getD_eq_getElem?_getD]
      have : n < p.length := by omega
      rw [List.getElem?_eq_getElem this]
      rfl
    have e : n + 1 - 1 = n := rfl
    rw [e]
    generalize at_ p n = q at *
    have z1 : ((n + 1 : Nat) : Int) - 1 = (n : Int) := by omega
    have z2 : (n : Int) < ((n + 1 : Nat) : Int) := by omega
    have z3 : (0 : Int) ≤ (n : Int) := by omega
    have z4 : ¬ ((n + 1 : Nat) : Int) = 0 := by omega
    have z5 : n + 1 ≤ 100 := by omega
    clear h hl hp e
    go_enter Tryd.func74, Tryd.ntmps74
    go_wp2
    go_ret
    exact ⟨rfl, rfl⟩
theorem tx_own {w : World} {b : Nat} {v : Value} (p : List Int) (h : w.ownsRow b 21 1 v p.length (p.map i32c)) (hp : p.length ≤ 100) :
    Calls Tryd.prog 25 #[v] w fun e w' => e = .returned (.string (tx p)) ∧ Below w.heap.size w w' := by
  have e : strOfNums (txt (at_ p) p.length) = tx p := by
    have key : ∀ k, k ≤ p.length → txt (at_ p) k = (p.take k).flatMap enc := fun k => by
      induction k with
      | zero => intro _; simp [txt]
      | succ k ih =>
        intro hk
        have h1 : p.take (k + 1) = p.take k ++ [at_ p k] := by
          rw [List.take_add_one, List.getElem?_eq_getElem (by omega : k < p.length)]
          unfold at_
          rw [List.getD_eq_getElem?_getD, List.getElem?_eq_getElem (by omega : k < p.length)]
          rfl
        rw [h1, List.flatMap_append, ← ih (by omega)]
        simp [txt, List.range_succ]
    rw [key _ (Nat.le_refl _), List.take_length]
    rfl
  rw [← e]
  refine text_any (at_ p) p.length v w (by omega) ?_
  have h0 := h
  obtain ⟨hl, ⟨rfl, h1⟩ | ⟨g, cap, cur, rfl, hg, hh, h3⟩⟩ := h
  · exact Or.inl ⟨none, 0, rfl, h1⟩
  · refine Or.inr ⟨g, 0, cap, rfl, fun q hq => ?_⟩
    rw [Nat.zero_add, h0.cellAt q (by omega), List.getElem?_map]
    unfold at_
    rw [List.getD_eq_getElem?_getD, List.getElem?_eq_getElem hq]
    rfl
end Go.Proofs.YtfikkkodepfdkaaDoor
