/- Suggestions, in plain words: which words lie near, in which order. -/
import Derived.Test.YtfikkkodepfdkaaDoornWdP
import Derived.Test.YtfikkkodepfdkaaDoorzOf
namespace Go.Proofs.YtfikkkodepfdkaaDoor
set_option linter.unusedVariables false
open Qns (dd far at_)
theorem lst_le (N : Nat → Int) : ∀ k j, j ≤ k → Qns.lst N k ≤ N j
  | 0, j, h => by
    obtain rfl : j = 0 := by omega
    exact Int.le_refl _
  | k + 1, j, h => by
    show min (Qns.lst N k) (N (k + 1)) ≤ N j
    rcases Nat.lt_or_ge j (k + 1) with e | e
    · have := lst_le N k j (by omega)
      omega
    · obtain rfl : j = k + 1 := by omega
      omega
/-- What stands in a row is never above the next one's least. -/
theorem row_next (A B : Nat → Int) (k n m : Nat) (h : ∀ j, j ≤ k → m ≤ dd A B j n) : ∀ j, j ≤ k → m ≤ dd A B j (n + 1)
  | 0, hj => by
    have := h 0 hj
    rw [Qns.dd_0] at this ⊢
    omega
  | j + 1, hj => by
    have h1 := row_next A B k n m h j (by omega)
    have h2 := h (j + 1) hj
    have h3 := h j (by omega)
    have h4 : 1 ≤ n → m ≤ dd A B (j - 1) (n - 1) + 1 := fun hn => by
      have := h (j - 1) (by omega)
      have h5 := Qns.dd_up2 A B (j - 1) (n - 1)
      rw [show n - 1 + 1 = n by omega] at h5
      omega
    rw [Qns.dd_s]
    split
    · rename_i hc
      have := h4 hc.2.1
      have h6 : dd A B j n ≤ dd A B j n + if A j = B n then 0 else 1 := Nat.le_add_right _ _
      omega
    · have h6 : dd A B j n ≤ dd A B j n + if A j = B n then 0 else 1 := Nat.le_add_right _ _
      omega
theorem row_on (A B : Nat → Int) (k n m : Nat) (h : ∀ j, j ≤ k → m ≤ dd A B j n) : ∀ q j, j ≤ k → m ≤ dd A B j (n + q)
  | 0, j, hj => h j hj
  | q + 1, j, hj => row_next A B k (n + q) m (row_on A B k n m h q) j hj
/-- The row of a beginning. -/
def rowN (W p : List Int) : Nat → Int := fun j => (dd (at_ W) (at_ p) j p.length : Int)
/-- Words that go on from a beginning are no nearer than its row's least. -/
theorem far_least (W p u : List Int) (h : p <+: u) : Qns.lst (rowN W p) W.length ≤ (far W u : Int) := by
  obtain ⟨t, rfl⟩ := h
  obtain ⟨m, hm⟩ : ∃ m : Nat, Qns.lst (rowN W p) W.length = (m : Int) := by
    have : 0 ≤ Qns.lst (rowN W p) W.length := by
      have key : ∀ k, 0 ≤ Qns.lst (rowN W p) k := fun k => by
        induction k with
        | zero => exact Int.natCast_nonneg _
        | succ k ih =>
          show 0 ≤ min _ _
          have : 0 ≤ rowN W p (k + 1) := Int.natCast_nonneg _
          omega
      exact key _
    exact ⟨_, (Int.toNat_of_nonneg this).symm⟩
  rw [hm]
  have h1 : ∀ j, j ≤ W.length → m ≤ dd (at_ W) (at_ (p ++ t)) j p.length := fun j hj => by
    have h2 := lst_le (rowN W p) W.length j hj
    rw [hm] at h2
    have h3 : dd (at_ W) (at_ p) j p.length = dd (at_ W) (at_ (p ++ t)) j p.length := Qns.dd_congr _ _ _ _ _ j p.length (Nat.le_refl _) (fun _ _ => rfl) (fun i hi => (Qns.at_left p t i hi).symm)
    unfold rowN at h2
    rw [h3] at h2
    omega
  have := row_on (at_ W) (at_ (p ++ t)) W.length p.length m h1 t.length W.length (Nat.le_refl _)
  unfold far
  rw [List.length_append]
  omega
/-- A suggestion. -/
structure Nr where
  s : ByteArray
  d : Nat
theorem Nr.ext' {x y : Nr} (h1 : x.s = y.s) (h2 : x.d = y.d) : x = y := by
  cases x; cases y; simp at h1 h2; simp [h1, h2]
def nrOf (W u : List Int) : Nr := ⟨tx u, far W u⟩
/-- Those of some words that are near enough. -/
def witP (W : List Int) (f : Nat) (D : List (List Int)) : List Nr := (D.filter fun u => decide (far W u ≤ f)).map (nrOf W)
theorem witP_app (W : List Int) (f : Nat) (C D : List (List Int)) : witP W f (C ++ D) = witP W f C ++ witP W f D := by
  unfold witP
  rw [List.filter_append, List.map_append]
theorem witP_flat (W : List Int) (f : Nat) (R : List Int) (g : Int → List (List Int)) : witP W f (R.flatMap g) = R.flatMap fun r => witP W f (g r) := by
  induction R with
  | nil => rfl
  | cons r R ih => rw [List.flatMap_cons, List.flatMap_cons, witP_app, ih]
theorem witP_len (W : List Int) (f : Nat) (D : List (List Int)) : (witP W f D).length ≤ D.length := by
  unfold witP
  rw [List.length_map]
  exact List.length_filter_le _ _
/-- None is near enough, if the row's least is not. -/
theorem wit_none (W p : List Int) (f : Nat) (D : List (List Int)) (h : (f : Int) < Qns.lst (rowN W p) W.length) : witP W f (subW D p) = [] := by
  unfold witP
  rw [List.map_eq_nil_iff, List.filter_eq_nil_iff]
  intro u hu
  have hp : p <+: u := by
    have := (List.mem_filter.1 hu).2
    simpa using this
  have := far_least W p u hp
  simp
  omega
/-- What a node adds: itself, if a word ends there that is near enough, then its children's. -/
theorem NP.wit {L : List ByteArray} {P : List PN} {B : List (List Int)} (h : NP L P B) (hD : (L.map rs).Pairwise (· < ·)) {i : Nat} {p : List Int} {n : PN} (hp : B[i]? = some p) (hn : P[i]? = some n) (W : List Int) (f : Nat) :
    witP W f (subW (L.map rs) p) = (if far W p ≤ f ∧ n.e = true then [nrOf W p] else []) ++ n.R.flatMap fun r => witP W f (subW (L.map rs) (p ++ [r])) := by
  rw [h.words hD hp hn, witP_app, witP_flat]
  congr 1
  unfold witP
  by_cases he : n.e = true
  · rw [if_pos he]
    by_cases hf : far W p ≤ f
    · rw [if_pos ⟨hf, he⟩]
      simp [hf]
    · rw [if_neg (fun e => hf e.1)]
      simp [hf]
  · rw [if_neg he, if_neg (fun e => he e.2)]
    rfl
/-- The next row. -/
theorem row_grow (W p : List Int) (r q : Int) (F : Nat → Int) (b : Bool) (hW : W.length ≤ 100) (hp : p.length ≤ 100) (hb : b = true ↔ 1 ≤ p.length) (hq : 1 ≤ p.length → q = at_ p (p.length - 1)) (hF : 1 ≤ p.length → ∀ j, j ≤ W.length → F j = rowN W (p.take (p.length - 1)) j) :
    ∀ j, j ≤ W.length → Qns.nx (at_ W) (rowN W p) F b q r j = rowN W (p ++ [r]) j := by
  intro j hj
  have hr : at_ (p ++ [r]) p.length = r := by
    have := Qns.at_right p [r] 0
    rw [Nat.add_zero] at this
    rw [this]
    rfl
  have hc : ∀ j n, n ≤ p.length → dd (at_ W) (at_ p) j n = dd (at_ W) (at_ (p ++ [r])) j n := fun j n hn => Qns.dd_congr _ _ _ _ _ j n (Nat.le_refl _) (fun _ _ => rfl) (fun i hi => (Qns.at_left p [r] i (by omega)).symm)
  have key := Qns.nx_dd (at_ W) (at_ (p ++ [r])) (rowN W p) F b q W.length p.length hW hp (fun j _ => by
      unfold rowN
      rw [hc j p.length (Nat.le_refl _)]) hb (fun h1 => by
      rw [hq h1]
      exact (Qns.at_left p [r] _ (by omega)).symm) (fun h1 j hj => by
      rw [hF h1 j hj]
      unfold rowN
      have e : (p.take (p.length - 1)).length = p.length - 1 := by rw [List.length_take]; omega
      rw [e]
      congr 1
      refine Qns.dd_congr _ _ _ _ _ j _ (Nat.le_refl _) (fun _ _ => rfl) (fun i hi => ?_)
      unfold at_
      rw [List.getD_eq_getElem?_getD, List.getD_eq_getElem?_getD, List.getElem?_take, if_pos hi, List.getElem?_append_left (by omega)]) j hj
  rw [hr] at key
  rw [key]
  unfold rowN
  rw [List.length_append]
  rfl
theorem row_0 (W : List Int) (j : Nat) : rowN W [] j = (j : Int) := by
  unfold rowN
  rw [show ([] : List Int).length = 0 from rfl, Qns.dd_i]
theorem row_last (W p : List Int) : rowN W p W.length = (far W p : Int) := rfl
theorem take_snoc (p : List Int) (r : Int) : (p ++ [r]).take ((p ++ [r]).length - 1) = p := by simp
theorem at_snoc (p : List Int) (r : Int) : at_ (p ++ [r]) ((p ++ [r]).length - 1) = r := by
  have := Qns.at_right p [r] 0
  rw [Nat.add_zero] at this
  rw [List.length_append, List.length_singleton, Nat.add_sub_cancel, this]
  rfl
end Go.Proofs.YtfikkkodepfdkaaDoor
