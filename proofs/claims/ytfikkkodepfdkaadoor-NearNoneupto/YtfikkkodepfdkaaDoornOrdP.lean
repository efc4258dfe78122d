/- The order of suggestions, in plain words. -/
import Derived.Test.YtfikkkodepfdkaaDoornPure
import Derived.Lib.Small
import Derived.Lib.Bytealg
import Derived.Sort.LotA
namespace Go.Proofs.YtfikkkodepfdkaaDoor
set_option linter.unusedVariables false
open Qns (dd far at_)
open Classical in
/-- Preferred words stand ahead. -/
noncomputable def rk (Pf : List ByteArray) (s : ByteArray) : Int := if s ∈ Pf then -1 else 0
/-- One suggestion stands ahead of another. -/
def LtN (Pf : List ByteArray) (x y : Nr) : Prop := x.d < y.d ∨ (x.d = y.d ∧ (rk Pf x.s < rk Pf y.s ∨ (rk Pf x.s = rk Pf y.s ∧ lw x.s y.s = true)))
theorem lw_irr (s : ByteArray) : lw s s = false := Sort.swo_ltStr.irrefl _
theorem lw_tr {a b c : ByteArray} (h : lw a b = true) (k : lw b c = true) : lw a c = true := Sort.swo_ltStr.trans _ _ _ h k
theorem lw_ntr {a b c : ByteArray} (h : lw a b = false) (k : lw b c = false) : lw a c = false := Sort.swo_ltStr.ntrans _ _ _ h k
theorem lw_tot {a b : ByteArray} (h : lw a b = false) (k : lw b a = false) : a = b := by
  have h1 : ¬ a.data.toList < b.data.toList := by simpa [lw, Sort.ltStr] using h
  have h2 : ¬ b.data.toList < a.data.toList := by simpa [lw, Sort.ltStr] using k
  have h3 : a.data.toList = b.data.toList := List.le_antisymm (List.not_lt.1 h2) (List.not_lt.1 h1)
  apply ByteArray.ext
  exact Array.ext' h3
theorem ltN_irr (Pf : List ByteArray) (x : Nr) : ¬ LtN Pf x x := by
  rintro (h | ⟨_, h | ⟨_, h⟩⟩)
  · omega
  · omega
  · rw [lw_irr] at h; cases h
theorem ltN_tr {Pf : List ByteArray} {x y z : Nr} (h : LtN Pf x y) (k : LtN Pf y z) : LtN Pf x z := by
  rcases h with h | ⟨h, h2⟩
  · rcases k with k | ⟨k, _⟩
    · exact Or.inl (by omega)
    · exact Or.inl (by omega)
  · rcases k with k | ⟨k, k2⟩
    · exact Or.inl (by omega)
    · refine Or.inr ⟨by omega, ?_⟩
      rcases h2 with h2 | ⟨h2, h3⟩
      · rcases k2 with k2 | ⟨k2, _⟩
        · exact Or.inl (by omega)
        · exact Or.inl (by omega)
      · rcases k2 with k2 | ⟨k2, k3⟩
        · exact Or.inl (by omega)
        · exact Or.inr ⟨by omega, lw_tr h3 k3⟩
theorem ltN_not {Pf : List ByteArray} {x y : Nr} : ¬ LtN Pf x y ↔ (y.d < x.d ∨ (y.d = x.d ∧ (rk Pf y.s < rk Pf x.s ∨ (rk Pf y.s = rk Pf x.s ∧ lw x.s y.s = false)))) := by
  unfold LtN
  constructor
  · intro h
    rcases Nat.lt_trichotomy x.d y.d with e | e | e
    · exact absurd (Or.inl e) h
    · refine Or.inr ⟨e.symm, ?_⟩
      rcases Int.lt_trichotomy (rk Pf x.s) (rk Pf y.s) with f | f | f
      · exact absurd (Or.inr ⟨e, Or.inl f⟩) h
      · refine Or.inr ⟨f.symm, ?_⟩
        cases hl : lw x.s y.s with
        | false => rfl
        | true => exact absurd (Or.inr ⟨e, Or.inr ⟨f, hl⟩⟩) h
      · exact Or.inl f
    · exact Or.inl e
  · rintro (h | ⟨h, h2 | ⟨h2, h3⟩⟩) (k | ⟨k, k2 | ⟨k2, k3⟩⟩)
    all_goals first | omega | (rw [h3] at k3; cases k3)
theorem ltN_ntr {Pf : List ByteArray} {x y z : Nr} (h : ¬ LtN Pf x y) (k : ¬ LtN Pf y z) : ¬ LtN Pf x z := by
  rw [ltN_not] at h k ⊢
  rcases h with h | ⟨h, h2⟩
  · rcases k with k | ⟨k, _⟩
    · exact Or.inl (by omega)
    · exact Or.inl (by omega)
  · rcases k with k | ⟨k, k2⟩
    · exact Or.inl (by omega)
    · refine Or.inr ⟨by omega, ?_⟩
      rcases h2 with h2 | ⟨h2, h3⟩
      · rcases k2 with k2 | ⟨k2, _⟩
        · exact Or.inl (by omega)
        · exact Or.inl (by omega)
      · rcases k2 with k2 | ⟨k2, k3⟩
        · exact Or.inl (by omega)
        · exact Or.inr ⟨by omega, lw_ntr h3 k3⟩
/-- Of two words one stands ahead. -/
theorem ltN_tot {Pf : List ByteArray} {x y : Nr} (hne : x.s ≠ y.s) (h : ¬ LtN Pf y x) : LtN Pf x y := by
  rw [ltN_not] at h
  rcases h with h | ⟨h, h2 | ⟨h2, h3⟩⟩
  · exact Or.inl h
  · exact Or.inr ⟨h, Or.inl h2⟩
  · refine Or.inr ⟨h, Or.inr ⟨h2, ?_⟩⟩
    cases hl : lw x.s y.s with
    | true => rfl
    | false => exact absurd (lw_tot hl h3) hne
/-- The number that the comparison tells. -/
noncomputable def cN (Pf : List ByteArray) (x y : Nr) : Int :=
  if Lib.compareInt x.d y.d ≠ 0 then Lib.compareInt x.d y.d else if Lib.compareInt (rk Pf x.s) (rk Pf y.s) ≠ 0 then Lib.compareInt (rk Pf x.s) (rk Pf y.s) else Lib.compareBytes x.s.data.toList y.s.data.toList
theorem cb_lt : ∀ (a b : List UInt8), Lib.compareBytes a b < 0 ↔ a < b
  | [], [] => by simp [Lib.compareBytes]
  | [], _ :: _ => by simp [Lib.compareBytes]
  | _ :: _, [] => by simp [Lib.compareBytes]
  | x :: a, y :: b => by
    rw [List.cons_lt_cons_iff]
    unfold Lib.compareBytes
    by_cases h : x < y
    · rw [if_pos h]
      simp [h]
    · rw [if_neg h]
      by_cases k : y < x
      · rw [if_pos k]
        have : x ≠ y := fun e => by subst e; exact absurd k h
        simp [h, this]
      · rw [if_neg k, cb_lt a b]
        have e : x = y := UInt8.le_antisymm (UInt8.not_lt.1 k) (UInt8.not_lt.1 h)
        simp [e]
theorem ci_lt (x y : Int) : Lib.compareInt x y < 0 ↔ x < y := by
  unfold Lib.compareInt
  by_cases h : x < y
  · simp [h]
  · rw [if_neg h]
    split <;> omega
theorem ci_ne (x y : Int) : Lib.compareInt x y ≠ 0 ↔ x ≠ y := by
  unfold Lib.compareInt
  by_cases h : x < y
  · rw [if_pos h]
    simp
    omega
  · rw [if_neg h]
    split
    · simp
      omega
    · simp
      omega
theorem cN_lt (Pf : List ByteArray) (x y : Nr) : cN Pf x y < 0 ↔ LtN Pf x y := by
  unfold cN LtN
  by_cases h : Lib.compareInt x.d y.d ≠ 0
  · rw [if_pos h, ci_lt]
    rw [ci_ne] at h
    constructor
    · intro k
      exact Or.inl (by omega)
    · rintro (k | ⟨k, _⟩)
      · omega
      · omega
  · rw [if_neg h]
    rw [ci_ne] at h
    have hd : x.d = y.d := by omega
    by_cases h2 : Lib.compareInt (rk Pf x.s) (rk Pf y.s) ≠ 0
    · rw [if_pos h2, ci_lt]
      rw [ci_ne] at h2
      constructor
      · intro k
        exact Or.inr ⟨hd, Or.inl k⟩
      · rintro (k | ⟨_, k | ⟨k, _⟩⟩)
        · omega
        · exact k
        · exact absurd k h2
    · rw [if_neg h2, cb_lt]
      rw [ci_ne] at h2
      have hr : rk Pf x.s = rk Pf y.s := by omega
      have hl : lw x.s y.s = true ↔ x.s.data.toList < y.s.data.toList := by simp [lw, Sort.ltStr]
      rw [← hl]
      constructor
      · intro k
        exact Or.inr ⟨hd, Or.inr ⟨hr, k⟩⟩
      · rintro (k | ⟨_, k | ⟨_, k⟩⟩)
        · omega
        · omega
        · exact k
/-- Lists that rise by such an order and have the same members are the same. -/
theorem strict_ext (Pf : List ByteArray) : ∀ (A C : List Nr), A.Pairwise (LtN Pf) → C.Pairwise (LtN Pf) → (∀ x, x ∈ A ↔ x ∈ C) → A = C
  | [], [], _, _, _ => rfl
  | [], c :: C, _, _, h => absurd ((h c).2 (List.mem_cons_self ..)) List.not_mem_nil
  | a :: A, [], _, _, h => absurd ((h a).1 (List.mem_cons_self ..)) List.not_mem_nil
  | a :: A, c :: C, hA, hC, h => by
    rw [List.pairwise_cons] at hA hC
    have e : a = c := by
      rcases List.mem_cons.1 ((h a).1 (List.mem_cons_self ..)) with e | e
      · exact e
      · rcases List.mem_cons.1 ((h c).2 (List.mem_cons_self ..)) with e' | e'
        · exact e'.symm
        · exact absurd (ltN_tr (hA.1 c e') (hC.1 a e)) (ltN_irr Pf a)
    subst e
    rw [strict_ext Pf A C hA.2 hC.2 fun x => ?_]
    constructor
    · intro hx
      rcases List.mem_cons.1 ((h x).1 (List.mem_cons_of_mem _ hx)) with e | e
      · exact absurd (hA.1 x hx) (by rw [e]; exact ltN_irr Pf a)
      · exact e
    · intro hx
      rcases List.mem_cons.1 ((h x).2 (List.mem_cons_of_mem _ hx)) with e | e
      · exact absurd (hC.1 x hx) (by rw [e]; exact ltN_irr Pf a)
      · exact e
/-- Sorted, none twice: it rises. -/
theorem strict_of {Pf : List ByteArray} {ys : List Nr} (h : ys.Pairwise fun x y => ¬ LtN Pf y x) (hn : (ys.map Nr.s).Nodup) : ys.Pairwise (LtN Pf) := by
  unfold List.Nodup at hn
  rw [List.pairwise_map] at hn
  exact (h.and hn).imp fun ⟨h1, h2⟩ => ltN_tot h2 h1
/-- Put in its place. -/
def insN (p : Nr → Bool) (out : List Nr) (x : Nr) : List Nr := out.takeWhile p ++ x :: out.dropWhile p
open Classical in
/-- The document's list, word by word. -/
noncomputable def nearsG (Pf : List ByteArray) (W : List Int) (most : Nat) : List Nr → List ByteArray → List Nr
  | out, [] => out
  | out, s :: L => nearsG Pf W most (if far W (rs s) ≤ most then insN (fun y => decide (LtN Pf y ⟨s, far W (rs s)⟩)) out ⟨s, far W (rs s)⟩ else out) L
open Classical in
theorem insN_strict {Pf : List ByteArray} {out : List Nr} {x : Nr} (h : out.Pairwise (LtN Pf)) (hx : ∀ y ∈ out, y.s ≠ x.s) : (insN (fun y => decide (LtN Pf y x)) out x).Pairwise (LtN Pf) ∧ ∀ y, y ∈ insN (fun y => decide (LtN Pf y x)) out x ↔ y = x ∨ y ∈ out := by
  induction out with
  | nil => simp [insN]
  | cons a out ih =>
    rw [List.pairwise_cons] at h
    obtain ⟨i1, i2⟩ := ih h.2 (fun y hy => hx y (List.mem_cons_of_mem _ hy))
    by_cases e : LtN Pf a x
    · have hi : insN (fun y => decide (LtN Pf y x)) (a :: out) x = a :: insN (fun y => decide (LtN Pf y x)) out x := by
        unfold insN
        rw [List.takeWhile_cons_of_pos (by simpa using e), List.dropWhile_cons_of_pos (by simpa using e)]
        rfl
      rw [hi]
      refine ⟨?_, fun y => ?_⟩
      · rw [List.pairwise_cons]
        refine ⟨fun y hy => ?_, i1⟩
        rcases (i2 y).1 hy with rfl | hy
        · exact e
        · exact h.1 y hy
      · rw [List.mem_cons, i2, List.mem_cons]
        constructor
        · rintro (h | h | h)
          · exact Or.inr (Or.inl h)
          · exact Or.inl h
          · exact Or.inr (Or.inr h)
        · rintro (h | h | h)
          · exact Or.inr (Or.inl h)
          · exact Or.inl h
          · exact Or.inr (Or.inr h)
    · have hi : insN (fun y => decide (LtN Pf y x)) (a :: out) x = x :: a :: out := by
        unfold insN
        rw [List.takeWhile_cons_of_neg (by simpa using e), List.dropWhile_cons_of_neg (by simpa using e)]
        rfl
      rw [hi]
      have hxa : LtN Pf x a := ltN_tot (fun e' => hx a (List.mem_cons_self ..) e'.symm) e
      refine ⟨?_, fun y => by rw [List.mem_cons]⟩
      rw [List.pairwise_cons]
      refine ⟨fun y hy => ?_, ?_⟩
      · rcases List.mem_cons.1 hy with rfl | hy
        · exact hxa
        · exact ltN_tr hxa (h.1 y hy)
      · rw [List.pairwise_cons]
        exact h
theorem nearsG_is (Pf : List ByteArray) (W : List Int) (most : Nat) : ∀ (L : List ByteArray) (out : List Nr), out.Pairwise (LtN Pf) → L.Nodup → (∀ y ∈ out, y.s ∉ L) →
    (nearsG Pf W most out L).Pairwise (LtN Pf) ∧ ∀ y, y ∈ nearsG Pf W most out L ↔ y ∈ out ∨ ∃ s ∈ L, far W (rs s) ≤ most ∧ y = ⟨s, far W (rs s)⟩
  | [], out, h, _, _ => ⟨h, fun y => by simp [nearsG]⟩
  | s :: L, out, h, hn, ho => by
    rw [List.nodup_cons] at hn
    unfold nearsG
    by_cases hd : far W (rs s) ≤ most
    · rw [if_pos hd]
      obtain ⟨i1, i2⟩ := insN_strict (x := ⟨s, far W (rs s)⟩) h (fun y hy e => ho y hy (by rw [e]; exact List.mem_cons_self ..))
      obtain ⟨g1, g2⟩ := nearsG_is Pf W most L _ i1 hn.2 (fun y hy hm => by
        rcases (i2 y).1 hy with rfl | hy
        · exact hn.1 hm
        · exact ho y hy (List.mem_cons_of_mem _ hm))
      refine ⟨g1, fun y => ?_⟩
      rw [g2, i2]
      constructor
      · rintro ((rfl | h) | ⟨t, h1, h2⟩)
        · exact Or.inr ⟨s, List.mem_cons_self .., hd, rfl⟩
        · exact Or.inl h
        · exact Or.inr ⟨t, List.mem_cons_of_mem _ h1, h2⟩
      · rintro (h | ⟨t, h1, h2, h3⟩)
        · exact Or.inl (Or.inr h)
        · rcases List.mem_cons.1 h1 with rfl | h1
          · exact Or.inl (Or.inl h3)
          · exact Or.inr ⟨t, h1, h2, h3⟩
    · rw [if_neg hd]
      obtain ⟨g1, g2⟩ := nearsG_is Pf W most L out h hn.2 (fun y hy hm => ho y hy (List.mem_cons_of_mem _ hm))
      refine ⟨g1, fun y => ?_⟩
      rw [g2]
      constructor
      · rintro (h | ⟨t, h1, h2⟩)
        · exact Or.inl h
        · exact Or.inr ⟨t, List.mem_cons_of_mem _ h1, h2⟩
      · rintro (h | ⟨t, h1, h2, h3⟩)
        · exact Or.inl h
        · rcases List.mem_cons.1 h1 with rfl | h1
          · exact absurd h2 hd
          · exact Or.inr ⟨t, h1, h2, h3⟩
noncomputable def nearsP (Pf : List ByteArray) (W : List Int) (most : Nat) (L : List ByteArray) : List Nr := nearsG Pf W most [] L
theorem nearsP_is (Pf : List ByteArray) (W : List Int) (most : Nat) {L : List ByteArray} (hn : L.Nodup) : (nearsP Pf W most L).Pairwise (LtN Pf) ∧ ∀ y, y ∈ nearsP Pf W most L ↔ ∃ s ∈ L, far W (rs s) ≤ most ∧ y = ⟨s, far W (rs s)⟩ := by
  obtain ⟨h1, h2⟩ := nearsG_is Pf W most L [] List.Pairwise.nil hn (fun y hy => by cases hy)
  exact ⟨h1, fun y => by rw [nearsP, h2]; simp⟩
open Classical in
theorem nearsG_len (Pf : List ByteArray) (W : List Int) (most : Nat) : ∀ (L : List ByteArray) (out : List Nr), (nearsG Pf W most out L).length ≤ out.length + L.length
  | [], out => by simp [nearsG]
  | s :: L, out => by
    unfold nearsG
    have h := nearsG_len Pf W most L
    split
    · refine Nat.le_trans (h _) ?_
      have : (insN (fun y => decide (LtN Pf y ⟨s, far W (rs s)⟩)) out ⟨s, far W (rs s)⟩).length = out.length + 1 := by
        unfold insN
        have e := congrArg List.length (List.takeWhile_append_dropWhile (p := fun y => decide (LtN Pf y ⟨s, far W (rs s)⟩)) (l := out))
        rw [List.length_append] at e
        rw [List.length_append, List.length_cons]
        omega
      rw [this, List.length_cons]
      omega
    · refine Nat.le_trans (h _) ?_
      rw [List.length_cons]
      omega
/-- What rises has its nearest first. -/
theorem cut_near (f : Nat) : ∀ (R : List Nr), R.Pairwise (fun x y => x.d ≤ y.d) → R = R.filter (fun x => decide (x.d ≤ f)) ++ R.filter (fun x => !decide (x.d ≤ f))
  | [], _ => rfl
  | a :: R, h => by
    rw [List.pairwise_cons] at h
    by_cases e : a.d ≤ f
    · rw [List.filter_cons_of_pos (by simpa using e), List.filter_cons_of_neg (by simpa using e), List.cons_append, ← cut_near f R h.2]
    · have hnone : (a :: R).filter (fun x => decide (x.d ≤ f)) = [] := by
        rw [List.filter_eq_nil_iff]
        intro y hy
        rcases List.mem_cons.1 hy with rfl | hy
        · simpa using e
        · have := h.1 y hy
          simp
          omega
      rw [hnone, List.nil_append, List.filter_eq_self.2]
      intro y hy
      rcases List.mem_cons.1 hy with rfl | hy
      · simpa using e
      · have := h.1 y hy
        simp
        omega
/-- The words that a search tells are the list's. -/
theorem wit_mem {L : List ByteArray} (hg : ∀ s ∈ L, GoodX s) (W : List Int) (f : Nat) (y : Nr) : y ∈ witP W f (L.map rs) ↔ ∃ s ∈ L, far W (rs s) ≤ f ∧ y = ⟨s, far W (rs s)⟩ := by
  unfold witP
  rw [List.mem_map]
  constructor
  · rintro ⟨u, hu, rfl⟩
    obtain ⟨h1, h2⟩ := List.mem_filter.1 hu
    obtain ⟨s, hs, rfl⟩ := List.mem_map.1 h1
    refine ⟨s, hs, by simpa using h2, ?_⟩
    unfold nrOf tx
    rw [rs_back (hg s hs).2.2.1]
  · rintro ⟨s, hs, h1, rfl⟩
    refine ⟨rs s, List.mem_filter.2 ⟨List.mem_map_of_mem hs, by simpa using h1⟩, ?_⟩
    unfold nrOf tx
    rw [rs_back (hg s hs).2.2.1]
theorem wit_nodup {L : List ByteArray} (hg : ∀ s ∈ L, GoodX s) (hr : (L.map rs).Pairwise (· < ·)) (W : List Int) (f : Nat) : ((witP W f (L.map rs)).map Nr.s).Nodup := by
  unfold witP List.Nodup
  rw [List.map_map, List.pairwise_map]
  have h1 : ((L.map rs).filter fun u => decide (far W u ≤ f)).Pairwise (· < ·) := hr.sublist List.filter_sublist
  refine List.Pairwise.imp_of_mem ?_ h1
  intro a b ha hb hab e
  obtain ⟨s, hs, rfl⟩ := List.mem_map.1 (List.mem_filter.1 ha).1
  obtain ⟨t, ht, rfl⟩ := List.mem_map.1 (List.mem_filter.1 hb).1
  have e' : tx (rs s) = tx (rs t) := e
  unfold tx at e'
  rw [rs_back (hg s hs).2.2.1, rs_back (hg t ht).2.2.1] at e'
  subst e'
  exact List.lt_irrefl _ hab
theorem nodup_of {L : List ByteArray} (hr : (L.map rs).Pairwise (· < ·)) : L.Nodup := by
  unfold List.Nodup
  rw [List.pairwise_map] at hr
  refine hr.imp ?_
  intro a b h e
  subst e
  exact List.lt_irrefl _ h
/-- The first ones are the same, however far one went, if one went far enough. -/
theorem near_same {L : List ByteArray} (hg : ∀ s ∈ L, GoodX s) (hr : (L.map rs).Pairwise (· < ·)) (Pf : List ByteArray) (W : List Int) (most k fs : Nat) (hf : fs ≤ most ∧ (fs = most ∨ k ≤ (witP W fs (L.map rs)).length)) {ys : List Nr} (hp : ys.Perm (witP W fs (L.map rs))) (hs : ys.Pairwise fun x y => ¬ LtN Pf y x) :
    ys.take k = (nearsP Pf W most L).take k := by
  have hst : ys.Pairwise (LtN Pf) := strict_of hs ((hp.map Nr.s).nodup_iff.2 (wit_nodup hg hr W fs))
  obtain ⟨g1, g2⟩ := nearsP_is Pf W most (nodup_of hr)
  have hsame : ys = (nearsP Pf W most L).filter (fun x => decide (x.d ≤ fs)) := by
    refine strict_ext Pf _ _ hst (g1.sublist List.filter_sublist) (fun x => ?_)
    rw [hp.mem_iff, wit_mem hg, List.mem_filter, g2]
    constructor
    · rintro ⟨s, h1, h2, rfl⟩
      exact ⟨⟨s, h1, by have := hf.1; omega, rfl⟩, by simpa using h2⟩
    · rintro ⟨⟨s, h1, h2, rfl⟩, h3⟩
      exact ⟨s, h1, by simpa using h3, rfl⟩
  have hcut := cut_near fs (nearsP Pf W most L) (g1.imp fun h => by
    rcases h with h | ⟨h, _⟩
    · omega
    · omega)
  rcases hf.2 with e | e
  · subst e
    have : (nearsP Pf W fs L).filter (fun x => decide (x.d ≤ fs)) = nearsP Pf W fs L := by
      rw [List.filter_eq_self]
      intro x hx
      obtain ⟨s, _, h2, rfl⟩ := (g2 x).1 hx
      simpa using h2
    rw [hsame, this]
  · rw [← hp.length_eq] at e
    rw [hcut, ← hsame, List.take_append_of_le_length e]
end Go.Proofs.YtfikkkodepfdkaaDoor
