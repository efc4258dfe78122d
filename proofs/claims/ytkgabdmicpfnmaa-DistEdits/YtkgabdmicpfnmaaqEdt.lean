/- The law DistEdits. -/
import Derived.Test.YtkgabdmicpfnmaaqSrc
import Derived.Deep.RegionHeld3
import Derived.BigRegion
namespace Go.Proofs.Ytkgabdmicpfnmaa
set_option linter.unusedVariables false
open Go.RowKit Go.ChangeShapes
theorem takeH {P : Program} {ops : Array Oper} {Q : Exit → Act → World → Prop} {md : Region.Mode} {S : World → Prop} {i : Nat} {oi : Oper} {v : Value} {d : Option Tmp} {fuel : Nat} {listed : Array Bool} {a : Act} {w : World} (hi : ops[i]? = some oi)
    (hs : Region.noSelect ops = true) (hf : Region.free md ops listed i = true) (hr : (Region.ready md ops listed).contains i = true) (hd : oi.dst = d)
    (hQ : ∀ c a w, Q (.panic c) (a.put d v) w → Q (.panic c) a w) (hy : YieldsIf P ops S oi v a) (hS : S w)
    (h : wpAnyH P md ops Q S fuel (listed.setIfInBounds i true) (a.put d v) w) : wpAnyH P md ops Q S (fuel + 1) listed a w := by
  subst hd
  exact wpAnyH_take hi hs hf hr hQ hy hS h
theorem RSl.grown {w w' : World} {m g c off : Nat} {R : Nat → Int} {row : Option Nat} (h : RSl w (.slice (some ⟨g, off, none⟩) m c) m R) (hg : w.grownBy w' row) (hr : row ≠ some g) : RSl w' (.slice (some ⟨g, off, none⟩) m c) m R := by
  rcases h with h | ⟨b, off', c', he, h2⟩
  · exact Or.inl h
  · refine Or.inr ⟨b, off', c', he, fun j hj => ?_⟩
    have hc := h2 j hj
    have hl := World.block_lt_of_cell? w _ hc
    cases he
    exact (World.cell?_of_block (hg.block g hl (fun e => hr e.symm))).trans hc
theorem RSl.take {w : World} {b off k c i : Nat} {l : List Int} (h : Rs w b off k (at_ l)) (hk : l.length = k) (hi : i ≤ k) : RSl w (.slice (some ⟨b, off, none⟩) i c) (l.take i).length (at_ (l.take i)) := by
  have e : (l.take i).length = i := by rw [List.length_take]; omega
  rw [e]
  refine Or.inr ⟨b, off, c, rfl, fun j hj => ?_⟩
  rw [h j (by omega)]
  simp [at_, List.getD, hj]
theorem RSl.drop {w : World} {b off k c i m : Nat} {ad : Option Addr} {l : List Int} (h : Rs w b off k (at_ l)) (hk : l.length = k) (hi : i ≤ k) (hm : m = k - i) (hd : i < k → ad = some ⟨b, off + i, none⟩) : RSl w (.slice ad m c) (l.drop i).length (at_ (l.drop i)) := by
  have e : (l.drop i).length = m := by rw [List.length_drop]; omega
  rw [e]
  rcases Nat.eq_zero_or_pos m with h0 | h0
  · exact Or.inl ⟨ad, c, by rw [h0], h0⟩
  · rw [hd (by omega)]
    refine Or.inr ⟨b, off + i, c, rfl, fun j hj => ?_⟩
    rw [Nat.add_assoc, h (i + j) (by omega)]
    simp [at_, List.getD]
theorem u8_nat {x : Int} (h : (Lit.int .u8 x).wf = true) : ∃ n : Nat, x = (n : Int) ∧ n ≤ 255 := by
  have h2 : 0 ≤ x ∧ x ≤ 255 := by simpa [Lit.wf, IntKind.min, IntKind.max, IntKind.signed, IntKind.bits] using h
  exact ⟨x.toNat, by omega, by omega⟩
theorem far_cut (A : List Int) (i : Nat) (hi : i < A.length) : far A (A.take i ++ A.drop (i + 1)) ≤ 1 := by
  have h := far_put (A.take i) (A.drop (i + 1)) (A[i])
  rw [← List.drop_eq_getElem_cons hi, List.take_append_drop] at h
  rw [far_comm]
  exact h
theorem far_ins (A : List Int) (i : Nat) (r : Int) : far A ([] ++ A.take i ++ [r] ++ A.drop i) ≤ 1 := by
  have h := far_put (A.take i) (A.drop i) r
  rw [List.take_append_drop] at h
  simpa using h
theorem far_at (A : List Int) (i : Nat) (hi : i < A.length) (r : Int) : far A (A.set i r) ≤ 1 := by
  have h := far_set (A.take i) (A.drop (i + 1)) (A[i]) r
  rw [← List.drop_eq_getElem_cons hi, List.take_append_drop] at h
  rw [List.set_eq_take_append_cons_drop, if_pos hi]
  exact h
theorem far_swap (A : List Int) (i : Nat) (hi : i + 1 < A.length) : far A ((A.set i (at_ A (i + 1))).set (i + 1) (at_ A i)) ≤ 1 := by
  have e1 : at_ A (i + 1) = A[i + 1] := by simp [at_, List.getD, hi]
  have e2 : at_ A i = A[i]'(by omega) := by simp [at_, List.getD, show i < A.length by omega]
  have h := far_turn (A.take i) (A.drop (i + 2)) (A[i]'(by omega)) (A[i + 1])
  have h3 : A = A.take i ++ A[i]'(by omega) :: A[i + 1] :: A.drop (i + 2) := by
    rw [← List.drop_eq_getElem_cons hi, ← List.drop_eq_getElem_cons (show i < A.length by omega), List.take_append_drop]
  have h4 : (A.set i (at_ A (i + 1))).set (i + 1) (at_ A i) = A.take i ++ A[i + 1] :: A[i]'(by omega) :: A.drop (i + 2) := by
    rw [e1, e2]
    apply List.ext_getElem
    · simp; omega
    · intro j h5 h6
      rw [List.getElem_set, List.getElem_set]
      by_cases q1 : i + 1 = j
      · subst q1
        rw [if_pos rfl, List.getElem_append_right (by simp; omega)]
        simp [show min i A.length = i by omega]
      · rw [if_neg q1]
        by_cases q2 : i = j
        · subst q2
          rw [if_pos rfl, List.getElem_append_right (by simp; omega)]
          simp [show min i A.length = i by omega]
        · rw [if_neg q2]
          have hj : j < A.length := by simpa using h5
          rcases Nat.lt_or_ge j i with q3 | q3
          · rw [List.getElem_append_left (by simp; omega), List.getElem_take]
          · rw [List.getElem_append_right (by simp; omega)]
            obtain ⟨m, rfl⟩ : ∃ m, j = i + 2 + m := ⟨j - (i + 2), by omega⟩
            simp [show i + 2 + m - min i A.length = m + 1 + 1 by omega]
  rw [h4]
  rw [← h3] at h
  exact h
theorem OR.put {w : World} {base g cap n : Nat} {l : List Int} (h : OR w base (.slice (some ⟨g, 0, none⟩) n cap) l) (j : Nat) (x : Int) (hn : n = l.length) : OR (w.setCell ⟨g, j, none⟩ (.int .i32 x)) base (.slice (some ⟨g, 0, none⟩) n cap) (l.set j x) ∧ w.grownBy (w.setCell ⟨g, j, none⟩ (.int .i32 x)) (some g) := by
  have h' : w.ownsRow base 21 1 (.slice (some ⟨g, 0, none⟩) n cap) l.length (l.map i32c) := h
  subst hn
  have hs := h'.stored j (i32c x)
  refine ⟨?_, hs.2⟩
  unfold OR
  rw [List.length_set, List.map_set]
  exact hs.1
theorem OR.drew {w : World} {base : Nat} {v : Value} {l : List Int} (h : OR w base v l) : OR w.drew base v l := h
end Go.Proofs.Ytkgabdmicpfnmaa
