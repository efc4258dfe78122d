/- Bytes of the call's own; Awake. -/
import Derived.Test.YtjieonldmckheaaDoorhLex
import Derived.Test.YtjieonldmckheaaDoorlSegs
namespace Go.Proofs.YtjieonldmckheaaDoor
set_option linter.unusedVariables false
open Go.RowKit Go.ChangeShapes
/-- A list's bytes. -/
def cL (l : List Int) (i : Nat) : Int := l.getD i (-1)
theorem cL_in {l : List Int} {i : Nat} {x : Int} (h : l[i]? = some x) : cL l i = x := by simp [cL, h]
theorem cL_out {l : List Int} {i : Nat} (h : l.length ≤ i) : cL l i = -1 := by simp [cL, List.getElem?_eq_none h]
theorem cL_ch {l : List Int} (h : Byt l) : Ch (cL l) l.length := ⟨fun i hi => by
  rw [cL_in (List.getElem?_eq_getElem hi)]
  exact h _ (List.getElem_mem hi), fun i hi => cL_out hi⟩
theorem cL_left (a b : List Int) {i : Nat} (h : i < a.length) : cL (a ++ b) i = cL a i := by
  rw [cL_in (List.getElem?_eq_getElem (l := a ++ b) (by rw [List.length_append]; omega)), cL_in (List.getElem?_eq_getElem h), List.getElem_append_left h]
theorem cL_right (a b : List Int) (i : Nat) : cL (a ++ b) (a.length + i) = cL b i := by
  rcases Nat.lt_or_ge i b.length with h | h
  · rw [cL_in (List.getElem?_eq_getElem h), cL_in (x := b[i]) (by rw [List.getElem?_append_right (by omega), show a.length + i - a.length = i by omega, List.getElem?_eq_getElem h])]
  · rw [cL_out h, cL_out (by rw [List.length_append]; omega)]
theorem cl_cL (l : List Int) : cl (cL l) l.length = l := by
  apply List.ext_getElem?
  intro i
  rcases Nat.lt_or_ge i l.length with h | h
  · rw [cl_at _ _ _ h, List.getElem?_eq_getElem h, cL_in (List.getElem?_eq_getElem h)]
  · rw [List.getElem?_eq_none (by rw [cl_len]; exact h), List.getElem?_eq_none h]
/-- Bytes that lie in a row of their own. -/
def OB (w : World) (base : Nat) (v : Value) (l : List Int) : Prop := w.ownsRow base 5 1 v l.length (u8L l)
theorem OB.form {w : World} {base : Nat} {v : Value} {l : List Int} (h : OB w base v l) : ∃ ad c, v = .slice ad l.length c ∧ l.length ≤ c := by
  unfold OB at h
  obtain ⟨_, ⟨rfl, h2⟩ | ⟨g, cap, cur, rfl, _, _, h3, _⟩⟩ := h
  · exact ⟨none, 0, by rw [h2], by omega⟩
  · exact ⟨_, _, rfl, h3⟩
theorem OB.stay {w w' : World} {base : Nat} {v : Value} {l : List Int} (h : OB w base v l) (hb : Below w.heap.size w w') : OB w' base v l := own_stay h hb
theorem OB.bc {w : World} {base c : Nat} {ad : Option Addr} {l : List Int} (h : OB w base (.slice ad l.length c) l) : BC w ad l.length (cL l) := fun i hi => by
  unfold OB at h
  obtain ⟨g, rfl, -, -⟩ := own_at h (by omega)
  refine ⟨g, 0, rfl, ?_⟩
  rw [Nat.zero_add, h.cellAt i (by omega)]
  simp [u8L, cL, List.getElem?_eq_getElem hi]
def exL : List Int := [60, 98, 32, 116, 105, 116, 108, 101, 61, 34, 120, 34, 62, 121, 60, 47, 98, 62]
theorem ex_segs : sg (lxA (cL exL) 18) 18 = [⟨2, 0, 10⟩, ⟨1, 10, 1⟩, ⟨2, 11, 2⟩, ⟨1, 13, 1⟩, ⟨2, 14, 4⟩] := by kernel_rfl
set_option maxRecDepth 100000 in
theorem awake_any (w : World) (hG : Glo w) : Calls Tryd.prog 9 #[] w fun e w' => e = .returned (.bool true) ∧ Below w.heap.size w w' := by
  have hcA := fun (w' : World) => Go.Lib.run_convert_bytes_const (P := Tryd.prog) w' 22 5 #[.int .u8 60, .int .u8 98, .int .u8 32, .int .u8 116, .int .u8 105, .int .u8 116, .int .u8 108, .int .u8 101, .int .u8 61, .int .u8 34, .int .u8 120, .int .u8 34, .int .u8 62, .int .u8 121, .int .u8 60, .int .u8 47, .int .u8 98, .int .u8 62] 18 18 Tryd.underlying22 Tryd.underlying5
  obtain ⟨W, hW⟩ : ∃ W, w.alloc (.cells #[.int .u8 60, .int .u8 98, .int .u8 32, .int .u8 116, .int .u8 105, .int .u8 116, .int .u8 108, .int .u8 101, .int .u8 61, .int .u8 34, .int .u8 120, .int .u8 34, .int .u8 62, .int .u8 121, .int .u8 60, .int .u8 47, .int .u8 98, .int .u8 62] 5 (18, 19)) = W := ⟨_, rfl⟩
  have hL1 : BC W (some ⟨w.heap.size, 0, none⟩) 18 (cL exL) := by
    rw [← hW]
    exact (lit_bc w exL (18, 19)).congr fun i hi => by
      have hi' : i < exL.length := hi
      simp [cL, List.getElem?_eq_getElem hi']
  have hB1 : Below w.heap.size w W := by rw [← hW]; exact below_alloc w _
  have HB1 : Hid (Below w.heap.size w W) := hB1
  have cx := lex_any (cap := 18) (cL_ch (byt_lit exL rfl)) hL1 (by decide) (by decide) (hG.stay hB1)
  change Calls _ _ #[.slice _ 18 18] _ _ at cx
  clear hL1 hB1
  go_enter Tryd.func9, Tryd.ntmps9
  go_wp2_with fail
  refine cx.mono ?_
  rintro e w1 ⟨T, g, rfl, hT, hg, hS, hU⟩
  have HU1 : Hid (Below w.heap.size w w1) := HB1.out.trans (hU.1.mono HB1.out.size)
  have c3 := segs_any hS (by decide)
  clear cx hS hU hT hg hW hcA
  go_wp2_with fail
  refine c3.mono ?_
  rintro e w3 ⟨v, rfl, hR, hU⟩
  have HU3 : Hid (Below w.heap.size w w3) := HU1.out.trans (hU.1.mono HU1.out.size)
  rw [show exL.length = 18 from rfl, ex_segs] at hR
  obtain ⟨ad, c, rfl⟩ := hR.form
  obtain ⟨gp, rfl, -, -⟩ := own_at (n := 5) hR (by omega)
  obtain ⟨a1, -, -⟩ := hR.cells rfl (i := 0) (s := ⟨2, 0, 10⟩) rfl
  obtain ⟨b1, b2, b3⟩ := hR.cells rfl (i := 1) (s := ⟨1, 10, 1⟩) rfl
  dsimp only at a1 b1 b2 b3
  clear c3 hR hU
  go_wp2
  go_ret
  exact ⟨rfl, HU3.out⟩
end Go.Proofs.YtjieonldmckheaaDoor
