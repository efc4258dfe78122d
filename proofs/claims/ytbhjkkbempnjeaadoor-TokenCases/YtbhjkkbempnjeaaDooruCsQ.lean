/- Words put together: the words of their text, plainly. -/
import Derived.Test.YtbhjkkbempnjeaaDoorPkUCsP3
import Derived.Test.YtbhjkkbempnjeaaDooruLLen
namespace Go.Proofs.YtbhjkkbempnjeaaDoor
set_option linter.unusedVariables false
open Go.RowKit
/-- ASCII letters alone. -/
def AsL (A : List Int) : Prop := ∀ x ∈ A, 0 ≤ x ∧ x < 128
theorem as_flat : ∀ {A : List Int}, AsL A → A.flatMap enc = A
  | [], _ => rfl
  | x :: A, h => by
    have hx := h x (List.mem_cons_self ..)
    rw [List.flatMap_cons, enc_one hx.1 hx.2, as_flat (fun y hy => h y (List.mem_cons_of_mem _ hy))]
    rfl
theorem as_tx {A : List Int} (h : AsL A) : tx A = strOfNums A := by unfold tx; rw [as_flat h]
theorem as_Ok {A : List Int} (h : AsL A) : Ok A := fun x hx => by
  have := h x hx
  rw [okR_iff]
  omega
theorem as_ends {A : List Int} (h : AsL A) : Ends (strOfNums A) A.length := by
  rw [← as_tx h]
  exact tx_ends A (as_Ok h)
theorem as_RU {A : List Int} (h : AsL A) {j : Nat} (hj : j < A.length) : RU (unS (strOfNums A) A.length) j = A[j] := by
  rw [RU_at (unS_at (strOfNums A) A.length j hj)]
  show rn (strOfNums A) (pos (strOfNums A) j) = _
  rw [← as_tx h]
  exact put_rn A (as_Ok h) j hj
theorem as_map {A : List Int} (h : AsL A) : (unS (strOfNums A) A.length).map (·.r) = A := by
  apply List.ext_getElem
  · rw [List.length_map, unS_len]
  · intro j h1 h2
    have h3 := as_RU h h2
    rw [RU_at (unS_at (strOfNums A) A.length j h2)] at h3
    rw [List.getElem_map]
    have h4 := List.getElem?_eq_getElem (show j < (unS (strOfNums A) A.length).length by rw [unS_len]; exact h2)
    rw [unS_at (strOfNums A) A.length j h2] at h4
    rw [← Option.some.inj h4]
    exact h3
/-- The text of a part. -/
theorem as_part {A : List Int} (h : AsL A) (a b : Nat) : tU (sub (unS (strOfNums A) A.length) a b) = (A.drop a).take (b - a) := by
  unfold tU sub
  rw [show (((unS (strOfNums A) A.length).drop a).take (b - a)).flatMap (fun u => enc u.r) = ((((unS (strOfNums A) A.length).drop a).take (b - a)).map (·.r)).flatMap enc by rw [List.flatMap_map], List.map_take, List.map_drop, as_map h]
  exact as_flat fun x hx => h x (List.mem_of_mem_drop (List.mem_of_mem_take hx))
theorem as_fst {W : List (List Int)} (hW : ∀ w ∈ W, SmL w) : AsL (fstL W) := by
  intro x hx
  obtain ⟨w, hw, hx⟩ := List.mem_flatMap.1 hx
  obtain ⟨i, hi⟩ := List.mem_iff_getElem?.1 hx
  have hil := (List.getElem?_eq_some_iff.1 hi).1
  rw [wrL_len] at hil
  rw [List.getElem?_eq_getElem (by rw [wrL_len]; exact hil), wr_first (hW w hw) i hil] at hi
  have hi := Option.some.inj hi
  have h1 := hW w hw _ (List.getElem_mem hil)
  rw [← hi]
  split <;> omega
theorem spans_take : ∀ (W : List (List Int)) (P : List Int), (spans P.length (W.map List.length)).map (fun p => ((P ++ fstL W).drop p.1).take (p.2 - p.1)) = W.map (wrL 2)
  | [], P => rfl
  | w :: W, P => by
    have hf : fstL (w :: W) = wrL 2 w ++ fstL W := rfl
    rw [hf, List.map_cons, List.map_cons]
    show (((P ++ (wrL 2 w ++ fstL W)).drop P.length).take (P.length + w.length - P.length)) :: (spans (P.length + w.length) (W.map List.length)).map _ = _
    have ih := spans_take W (P ++ wrL 2 w)
    rw [List.length_append, wrL_len, List.append_assoc] at ih
    rw [ih, List.drop_left, Nat.add_sub_cancel_left]
    congr 1
    rw [← wrL_len 2 w, List.take_left]
theorem spans_len : ∀ (ls : List Nat) (i : Nat), (spans i ls).length = ls.length
  | [], _ => rfl
  | l :: t, i => by
    show (spans (i + l) t).length + 1 = _
    rw [spans_len t, List.length_cons]
theorem spans_kp : ∀ (ls : List Nat) (i : Nat), (∀ l ∈ ls, 2 ≤ l ∧ l ≤ 7) → ∀ p ∈ spans i ls, kpB 1 1000 p = true
  | [], _, _, p, hp => by cases hp
  | l :: t, i, h, p, hp => by
    rcases List.mem_cons.1 hp with rfl | hp
    · have := h l (List.mem_cons_self ..)
      unfold kpB
      simp
      omega
    · exact spans_kp t (i + l) (fun x hx => h x (List.mem_cons_of_mem _ hx)) p hp
/-- The words of words with a great first letter, put together: as many, each its own. -/
theorem words_fst {W : List (List Int)} (hW : ∀ w ∈ W, SmL w ∧ 2 ≤ w.length ∧ w.length ≤ 7) (h0 : W ≠ []) {c : Nat → Int} {n : Nat} :
    (wordsL c n (unS (strOfNums (fstL W)) (fstL W).length) 1 1000).map W4.t = W.map fun w => strOfNums (wrL 2 w) := by
  have hA := as_fst (W := W) (fun w hw => (hW w hw).1)
  have hlen := fstL_len W
  have hk : 0 < (fstL W).length := by
    cases W with
    | nil => exact absurd rfl h0
    | cons w W =>
      have := (hW w (List.mem_cons_self ..)).2.1
      rw [hlen, List.map_cons, List.sum_cons]
      omega
  have hR : ∀ j x, (fstL W)[j]? = some x → RU (unS (strOfNums (fstL W)) (fstL W).length) j = x := fun j x hx => by
    obtain ⟨h1, h2⟩ := List.getElem?_eq_some_iff.1 hx
    rw [as_RU hA h1, h2]
  have hp := pts_spans (R := RU (unS (strOfNums (fstL W)) (fstL W).length)) (k := (fstL W).length) (ls := W.map List.length) hk hlen.symm (fun l hl => by
      obtain ⟨w, hw, rfl⟩ := List.mem_map.1 hl
      exact (hW w hw).2.1)
    (patG_of W 0 (fun w hw => ⟨(hW w hw).1, (hW w hw).2.1⟩) (fun j x hx => by rw [Nat.zero_add]; exact hR j x hx))
    (fun j hj => by
      rw [as_RU hA hj]
      exact fstL_letters (fun w hw => (hW w hw).1) _ (List.getElem_mem hj))
  unfold wordsL wordsP
  rw [unS_len, hp, List.filter_eq_self.2 (fun p hp => spans_kp _ _ (fun l hl => by
    obtain ⟨w, hw, rfl⟩ := List.mem_map.1 hl
    exact (hW w hw).2) p hp), List.map_map]
  have hs := spans_take W []
  rw [List.nil_append, List.length_nil] at hs
  have hs2 := congrArg (List.map strOfNums) hs
  rw [List.map_map, List.map_map] at hs2
  rw [show (W.map fun w => strOfNums (wrL 2 w)) = W.map (strOfNums ∘ wrL 2) from rfl, ← hs2]
  apply List.map_congr_left
  intro p _
  show strOfNums (tU (sub _ p.1 p.2)) = strOfNums _
  rw [as_part hA]
/-- The word of letters that are all small, or all great. -/
theorem words_one {A : List Int} (hA : AsL A) (h0 : A ≠ []) (hl : A.length ≤ 1000) (hc : (∀ x ∈ A, sB x = true) ∨ ∀ x ∈ A, gB x = true) {c : Nat → Int} {n : Nat} :
    (wordsL c n (unS (strOfNums A) A.length) 1 1000).map W4.t = [strOfNums A] := by
  have hk : 0 < A.length := List.length_pos_iff.2 h0
  have hp : ptsL (RU (unS (strOfNums A) A.length)) (runsL (RU (unS (strOfNums A) A.length)) A.length 0) = [(0, A.length)] := by
    rcases hc with hc | hc
    · exact pts_small hk (fun j hj => by rw [as_RU hA hj]; exact hc _ (List.getElem_mem hj)) (fun j hj => by rw [as_RU hA hj]; exact lB_small (hc _ (List.getElem_mem hj)))
    · exact pts_great hk (fun j hj => by rw [as_RU hA hj]; exact hc _ (List.getElem_mem hj)) (fun j hj => by rw [as_RU hA hj]; exact lB_great (hc _ (List.getElem_mem hj)))
  unfold wordsL wordsP
  rw [unS_len, hp, List.filter_eq_self.2 (fun p hp => by
    rw [List.mem_singleton] at hp
    subst hp
    unfold kpB
    simp
    omega)]
  show [strOfNums (tU (sub (unS (strOfNums A) A.length) 0 A.length))] = _
  rw [as_part hA, List.drop_zero, Nat.sub_zero, List.take_length]
end Go.Proofs.YtbhjkkbempnjeaaDoor
