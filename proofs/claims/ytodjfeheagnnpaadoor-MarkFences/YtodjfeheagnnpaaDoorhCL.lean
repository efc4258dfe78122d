/- Lists of bytes; bytes of the call's own. -/
import Derived.Test.YtodjfeheagnnpaaDoorhSml
import Derived.Test.YtodjfeheagnnpaaDoorlSegP
namespace Go.Proofs.YtodjfeheagnnpaaDoor
set_option linter.unusedVariables false
open Go.RowKit Go.ChangeShapes
/-- A list's bytes. -/
def cL (l : List Int) (i : Nat) : Int := l.getD i (-1)
theorem cL_in {l : List Int} {i : Nat} {x : Int} (h : l[i]? = some x) : cL l i = x := by simp [cL, h]
theorem cL_out {l : List Int} {i : Nat} (h : l.length ≤ i) : cL l i = -1 := by simp [cL, List.getElem?_eq_none h]
theorem cL_ch {l : List Int} (h : Byt l) : Ch (cL l) l.length := ⟨fun i hi => by
  rw [cL_in (List.getElem?_eq_getElem hi)]
  exact h _ (List.getElem_mem hi), fun i hi => cL_out hi⟩
theorem cL_left (a b : List Int) {i : Nat} (h : i < a.length) : cL (a ++ b) i = cL a i := by
  rw [cL_in (List.getElem?_eq_getElem (l := a ++ b) (by rw [List.length_append]; omega)), cL_in (List.getElem?_eq_getElem h), List.getElem_append_left h]
theorem cL_right (a b : List Int) (i : Nat) : cL (a ++ b) (a.length + i) = cL b i := by
  rcases Nat.lt_or_ge i b.length with h | h
  · rw [cL_in (List.getElem?_eq_getElem h), cL_in (x := b[i]) (by rw [List.getElem?_append_right (by omega), show a.length + i - a.length = i by omega, List.getElem?_eq_getElem h])]
  · rw [cL_out h, cL_out (by rw [List.length_append]; omega)]
theorem cl_cL (l : List Int) : cl (cL l) l.length = l := by
  apply List.ext_getElem?
  intro i
  rcases Nat.lt_or_ge i l.length with h | h
  · rw [cl_at _ _ _ h, List.getElem?_eq_getElem h, cL_in (List.getElem?_eq_getElem h)]
  · rw [List.getElem?_eq_none (by rw [cl_len]; exact h), List.getElem?_eq_none h]
/-- Bytes that lie in a row of their own. -/
def OB (w : World) (base : Nat) (v : Value) (l : List Int) : Prop := w.ownsRow base 5 1 v l.length (u8L l)
theorem OB.form {w : World} {base : Nat} {v : Value} {l : List Int} (h : OB w base v l) : ∃ ad c, v = .slice ad l.length c ∧ l.length ≤ c := by
  unfold OB at h
  obtain ⟨_, ⟨rfl, h2⟩ | ⟨g, cap, cur, rfl, _, _, h3, _⟩⟩ := h
  · exact ⟨none, 0, by rw [h2], by omega⟩
  · exact ⟨_, _, rfl, h3⟩
theorem OB.stay {w w' : World} {base : Nat} {v : Value} {l : List Int} (h : OB w base v l) (hb : Below w.heap.size w w') : OB w' base v l := own_stay h hb
theorem OB.bc {w : World} {base c : Nat} {ad : Option Addr} {l : List Int} (h : OB w base (.slice ad l.length c) l) : BC w ad l.length (cL l) := fun i hi => by
  unfold OB at h
  obtain ⟨g, rfl, -, -⟩ := own_at h (by omega)
  refine ⟨g, 0, rfl, ?_⟩
  rw [Nat.zero_add, h.cellAt i (by omega)]
  simp [u8L, cL, List.getElem?_eq_getElem hi]
theorem cL_cons (x : Int) (l : List Int) (j : Nat) : cL (x :: l) (j + 1) = cL l j := by simp [cL]
theorem cL_zero (x : Int) (l : List Int) : cL (x :: l) 0 = x := by simp [cL]
theorem cL_mem {l : List Int} {i : Nat} (h : i < l.length) : cL l i ∈ l := by
  rw [cL_in (List.getElem?_eq_getElem h)]
  exact List.getElem_mem h
end Go.Proofs.YtodjfeheagnnpaaDoor
