/- Sorted, in plain words: what its words are. -/
import Derived.Test.YtbmmjpmgkkljgaaDoortSrc
import Derived.Test.YtbmmjpmgkkljgaaDoortLim
namespace Go.Proofs.YtbmmjpmgkkljgaaDoor
set_option linter.unusedVariables false
open Go.RowKit Go.ChangeShapes
theorem put_sign (l : List Int) (hl : ∀ r, r ∈ l → okR r = true) (j : Nat) (hj : j < l.length) : Sign (strOfNums (l.flatMap enc)) (pos (strOfNums (l.flatMap enc)) j) l[j] := by
  have hok := hl l[j] (List.getElem_mem hj)
  rw [(put_all l hl j (Nat.le_of_lt hj)).1]
  have := sign_in ((l.take j).flatMap enc) ((l.drop (j + 1)).flatMap enc) hok
  have he : l.flatMap enc = (l.take j).flatMap enc ++ enc l[j] ++ (l.drop (j + 1)).flatMap enc := by
    rw [List.append_assoc, ← List.flatMap_cons, ← List.flatMap_append, ← List.drop_eq_getElem_cons hj, List.take_append_drop]
  rw [he]
  exact this
/-- Signs as a text are read as these signs. -/
theorem rs_text (l : List Int) (hl : ∀ r, r ∈ l → okR r = true) : rs (strOfNums (l.flatMap enc)) = l := by
  have hp := put_all l hl l.length (Nat.le_refl _)
  have hE : Ends (strOfNums (l.flatMap enc)) l.length := by
    refine ⟨?_, fun j hj => ?_⟩
    · rw [hp.1, List.take_length]
      simp [strOfNums_size]
    · rw [(put_all l hl j (Nat.le_of_lt hj)).1]
      have := flat_lt l hl j hj
      simpa [strOfNums_size] using this
  unfold rs
  rw [kS_is hE]
  apply List.ext_getElem
  · simp [rl]
  · intro i h1 h2
    simp only [rl, List.getElem_map, List.getElem_range]
    exact (put_sign l hl i h2).rn
/-- The signs that are signs. -/
def gr (s : ByteArray) : List Int := (rs s).filter fun r => decide (0 ≤ r)
/-- The word that Sorted makes of a text. -/
def wd12 (s : ByteArray) : ByteArray := strOfNums (((gr s).take 12).flatMap enc)
def insP (L : List ByteArray) (s : ByteArray) : List ByteArray :=
  haveI : ∀ (s : ByteArray) (L : List ByteArray), Decidable (s ∈ L) := memDec
  if s.size = 0 ∨ s ∈ L then L else putK id L s
def srtG (Ls : List ByteArray) : List ByteArray := Ls.foldl (fun L t => insP L (wd12 t)) []
def srtL (Ls : List ByteArray) : List ByteArray := srtG (Ls.take 61)
def GoodW (s : ByteArray) : Prop := 0 < s.size ∧ s.size ≤ 48 ∧ (-1 : Int) ∉ rs s ∧ (rs s).length ≤ 12
theorem rs_range (s : ByteArray) : ∀ r ∈ rs s, r = -1 ∨ okR r = true := by
  intro r hr
  unfold rs rl at hr
  obtain ⟨j, hj, rfl⟩ := List.mem_map.1 hr
  exact rn_range s _ ((kS_ends s).2 j (by simpa using hj))
theorem gr_ok (s : ByteArray) : ∀ r ∈ gr s, okR r = true := by
  intro r hr
  obtain ⟨h1, h2⟩ := List.mem_filter.1 hr
  rcases rs_range s r h1 with h | h
  · rw [h] at h2; simp at h2
  · exact h
theorem wd12_rs (s : ByteArray) : rs (wd12 s) = (gr s).take 12 := rs_text _ (fun r hr => gr_ok s r (List.mem_of_mem_take hr))
theorem wd12_good (s : ByteArray) (h : (wd12 s).size ≠ 0) : GoodW (wd12 s) := by
  refine ⟨by omega, ?_, ?_, ?_⟩
  · have h1 : ∀ l : List Int, (l.flatMap enc).length ≤ 4 * l.length := fun l => by
      induction l with
      | nil => simp
      | cons a l ih =>
        have := enc_le a
        simp only [List.flatMap_cons, List.length_append, List.length_cons]
        omega
    have h2 := h1 ((gr s).take 12)
    have h3 : ((gr s).take 12).length ≤ 12 := by rw [List.length_take]; omega
    have h4 : (wd12 s).size = (((gr s).take 12).flatMap enc).length := by unfold wd12; simp [strOfNums_size]
    omega
  · rw [wd12_rs]
    intro hm
    have := gr_ok s _ (List.mem_of_mem_take hm)
    simp [okR] at this
  · rw [wd12_rs, List.length_take]; omega
theorem ins_good {L : List ByteArray} {s : ByteArray} (h : RiseK id L ∧ ∀ x ∈ L, GoodW x) (hs : s.size ≠ 0 → GoodW s) : (RiseK id (insP L s) ∧ ∀ x ∈ insP L s, GoodW x) ∧ (insP L s).length ≤ L.length + 1 := by
  unfold insP
  split
  · exact ⟨h, Nat.le_succ _⟩
  · rename_i hn
    simp only [not_or] at hn
    refine ⟨⟨putK_rise id L s h.1 (by simpa using hn.2), fun x hx => ?_⟩, by rw [putK_len]; exact Nat.le_refl _⟩
    rcases List.mem_cons.1 ((putK_perm id L s).mem_iff.1 hx) with e | e
    · rw [e]; exact hs hn.1
    · exact h.2 x e
theorem srtG_good (Ls : List ByteArray) : ∀ L : List ByteArray, (RiseK id L ∧ ∀ x ∈ L, GoodW x) → (RiseK id (Ls.foldl (fun L t => insP L (wd12 t)) L) ∧ ∀ x ∈ Ls.foldl (fun L t => insP L (wd12 t)) L, GoodW x) ∧ (Ls.foldl (fun L t => insP L (wd12 t)) L).length ≤ L.length + Ls.length := by
  induction Ls with
  | nil => intro L h; exact ⟨h, Nat.le_refl _⟩
  | cons t Ls ih =>
    intro L h
    have h1 := ins_good h (wd12_good t)
    have h2 := ih _ h1.1
    refine ⟨h2.1, ?_⟩
    have := h1.2
    have := h2.2
    simp only [List.foldl_cons, List.length_cons]
    omega
theorem srtL_good (Ls : List ByteArray) : RiseK id (srtL Ls) ∧ (∀ x ∈ srtL Ls, GoodW x) ∧ (srtL Ls).length ≤ 61 := by
  have h := srtG_good (Ls.take 61) [] ⟨List.Pairwise.nil, fun x hx => by cases hx⟩
  refine ⟨h.1.1, h.1.2, ?_⟩
  have h2 := h.2
  have : (Ls.take 61).length ≤ 61 := by rw [List.length_take]; omega
  have h3 : (srtL Ls).length ≤ ([] : List ByteArray).length + (Ls.take 61).length := h2
  simp at h3
  omega
theorem makeG_zero : ∀ (L : List ByteArray) (i : Nat) (a : ByteArray) (P : List PN), L.Pairwise (fun x y => lw x y = true) → (∀ s ∈ L, lw a s = true) → (∀ s ∈ L, 0 < s.size ∧ s.size ≤ 64 ∧ (-1 : Int) ∉ rs s) → i + L.length ≤ 4096 → (makeG i a P L).1 = 0
  | [], i, a, P, _, _, _, _ => rfl
  | s :: L, i, a, P, hr, ha, hg, hl => by
    obtain ⟨g1, g2, g3⟩ := hg s (List.mem_cons_self ..)
    have hc : chkP i s a (rs s) = 0 := by
      unfold chkP
      rw [if_neg (by omega), if_neg (by rw [ha s (List.mem_cons_self ..)]; simp), if_neg (by omega), if_neg (by simp at hl; omega), if_neg g3]
    unfold makeG
    rw [if_pos hc]
    rw [List.pairwise_cons] at hr
    exact makeG_zero L (i + 1) s _ hr.2 hr.1 (fun x hx => hg x (List.mem_cons_of_mem _ hx)) (by simp at hl; omega)
theorem makeP_zero {L : List ByteArray} (hr : RiseK id L) (hg : ∀ s ∈ L, GoodW s) (hl : L.length ≤ 4096) : (makeP L).1 = 0 :=
  makeG_zero L 0 _ _ hr (fun s hs => lw_empty s (hg s hs).1) (fun s hs => ⟨(hg s hs).1, by have := (hg s hs).2.1; omega, (hg s hs).2.2.1⟩) (by omega)
end Go.Proofs.YtbmmjpmgkkljgaaDoor
