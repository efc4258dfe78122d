/- Lists of bytes; bytes of the call's own; texts. -/
import Derived.Test.YteeeekpeokgaeaaDoorvByt
import Derived.Lib.ConvBytes
namespace Go.Proofs.YteeeekpeokgaeaaDoor
set_option linter.unusedVariables false
open Go.RowKit Go.ChangeShapes
theorem conv_bc (w : World) (t : List Int) (ht : Byt t) : BC (Lib.bytesWorld w 5 (strOfNums t)) (some ⟨w.heap.size, 0, none⟩) t.length (fun j => t.getD j 0) := fun i hi => by
  refine ⟨_, _, rfl, ?_⟩
  rw [Nat.zero_add, Lib.bytesWorld_cell w 5 (strOfNums t) i (by rw [strOfNums_size]; exact hi), strOfNums_data]
  have hx := ht t[i] (List.getElem_mem hi)
  simp [List.getD, List.getElem?_eq_getElem hi]
  omega
theorem conv_below (w : World) (s : ByteArray) : Below w.heap.size w (Lib.bytesWorld w 5 s) :=
  ⟨rfl, rfl, rfl, by rw [Lib.bytesWorld_size]; omega, fun k hk => Lib.bytesWorld_at_old w 5 s k hk⟩
def u8L (l : List Int) : List Value := l.map fun x => .int .u8 x
theorem u8L_one (l : List Int) : ∀ u ∈ u8L l, u.oneCell' = true := by
  intro u hu
  obtain ⟨x, _, rfl⟩ := List.mem_map.1 hu
  rfl
theorem own_text {w : World} {base n : Nat} {v : Value} {l : List Int} (h : w.ownsRow base 5 1 v n (u8L l)) : (convert 22 9 v).run Tryd.prog w = .ok (.string (strOfNums l)) w := by
  have h0 := h
  obtain ⟨hl, ⟨rfl, rfl⟩ | ⟨g, cap, cur, rfl, hg, hh, h3⟩⟩ := h
  · obtain rfl : l = [] := by
      have : l.length = 0 := by simpa [u8L] using hl
      exact List.eq_nil_of_length_eq_zero this
    exact run_convert_bytes_nil w 22 5 Tryd.underlying22 Tryd.underlying5 0 0 9 Tryd.underlying9
  · have hln : l.length = n := by simpa [u8L] using hl
    refine run_convert_bytes_arg w 22 5 Tryd.underlying22 Tryd.underlying5 g 0 n cap l hln (fun i hi => ?_) 9 Tryd.underlying9
    rw [Nat.zero_add, h0.cellAt i (by omega)]
    simp [u8L, List.getD, List.getElem?_eq_getElem (show i < l.length by omega)]
/-- A list's bytes. -/
def cL (l : List Int) (i : Nat) : Int := l.getD i (-1)
theorem cL_in {l : List Int} {i : Nat} {x : Int} (h : l[i]? = some x) : cL l i = x := by simp [cL, h]
theorem cL_out {l : List Int} {i : Nat} (h : l.length ≤ i) : cL l i = -1 := by simp [cL, List.getElem?_eq_none h]
theorem cL_ch {l : List Int} (h : Byt l) : Ch (cL l) l.length := ⟨fun i hi => by
  rw [cL_in (List.getElem?_eq_getElem hi)]
  exact h _ (List.getElem_mem hi), fun i hi => cL_out hi⟩
theorem cL_left (a b : List Int) {i : Nat} (h : i < a.length) : cL (a ++ b) i = cL a i := by
  rw [cL_in (List.getElem?_eq_getElem (l := a ++ b) (by rw [List.length_append]; omega)), cL_in (List.getElem?_eq_getElem h), List.getElem_append_left h]
theorem cL_right (a b : List Int) (i : Nat) : cL (a ++ b) (a.length + i) = cL b i := by
  rcases Nat.lt_or_ge i b.length with h | h
  · rw [cL_in (List.getElem?_eq_getElem h), cL_in (x := b[i]) (by rw [List.getElem?_append_right (by omega), show a.length + i - a.length = i by omega, List.getElem?_eq_getElem h])]
  · rw [cL_out h, cL_out (by rw [List.length_append]; omega)]
theorem cl_cL (l : List Int) : cl (cL l) l.length = l := by
  apply List.ext_getElem?
  intro i
  rcases Nat.lt_or_ge i l.length with h | h
  · rw [cl_at _ _ _ h, List.getElem?_eq_getElem h, cL_in (List.getElem?_eq_getElem h)]
  · rw [List.getElem?_eq_none (by rw [cl_len]; exact h), List.getElem?_eq_none h]
/-- Bytes that lie in a row of their own. -/
def OB (w : World) (base : Nat) (v : Value) (l : List Int) : Prop := w.ownsRow base 5 1 v l.length (u8L l)
theorem OB.form {w : World} {base : Nat} {v : Value} {l : List Int} (h : OB w base v l) : ∃ ad c, v = .slice ad l.length c ∧ l.length ≤ c := by
  unfold OB at h
  obtain ⟨_, ⟨rfl, h2⟩ | ⟨g, cap, cur, rfl, _, _, h3, _⟩⟩ := h
  · exact ⟨none, 0, by rw [h2], by omega⟩
  · exact ⟨_, _, rfl, h3⟩
theorem OB.stay {w w' : World} {base : Nat} {v : Value} {l : List Int} (h : OB w base v l) (hb : Below w.heap.size w w') : OB w' base v l := own_stay h hb
theorem OB.bc {w : World} {base c : Nat} {ad : Option Addr} {l : List Int} (h : OB w base (.slice ad l.length c) l) : BC w ad l.length (cL l) := fun i hi => by
  unfold OB at h
  obtain ⟨g, rfl, -, -⟩ := own_at h (by omega)
  refine ⟨g, 0, rfl, ?_⟩
  rw [Nat.zero_add, h.cellAt i (by omega)]
  simp [u8L, cL, List.getElem?_eq_getElem hi]
theorem cL_cons (x : Int) (l : List Int) (j : Nat) : cL (x :: l) (j + 1) = cL l j := by simp [cL]
theorem cL_zero (x : Int) (l : List Int) : cL (x :: l) 0 = x := by simp [cL]
theorem cL_mem {l : List Int} {i : Nat} (h : i < l.length) : cL l i ∈ l := by
  rw [cL_in (List.getElem?_eq_getElem h)]
  exact List.getElem_mem h
theorem str_bc {w : World} {ad : Option Addr} {n cap : Nat} {c : Nat → Int} (h : BC w ad n c) : (convert 22 9 (.slice ad n cap)).run Tryd.prog w = .ok (.string (strOfNums (cl c n))) w := by
  rcases Nat.eq_zero_or_pos n with h0 | h0
  · subst h0
    exact run_convert_bytes_zero w 22 5 Tryd.underlying22 Tryd.underlying5 ad cap 9 Tryd.underlying9
  · obtain ⟨b, off, rfl, hc⟩ := h.at h0
    exact run_convert_bytes_arg w 22 5 Tryd.underlying22 Tryd.underlying5 b off n cap (cl c n) (cl_len c n) (fun i hi => by rw [cl_getD c n i hi]; exact hc i hi) 9 Tryd.underlying9
/-- Texts in a row. -/
def PS (w : World) (gp : Nat) (ps : List (List Int)) : Prop := ∀ (k : Nat) (t : List Int), ps[k]? = some t → w.cell? ⟨gp, k, none⟩ = some (.string (strOfNums t))
theorem lit_ps (w : World) (l : List (List Int)) : PS (w.alloc (.cells (l.map fun t => Value.string (strOfNums t)).toArray 9)) w.heap.size l := fun k t ht => by
  have hh : (w.alloc (.cells (l.map fun t => Value.string (strOfNums t)).toArray 9)).heap[w.heap.size]? = some (.cells (l.map fun t => Value.string (strOfNums t)).toArray 9) := heap_alloc_new _ _
  simp only [World.cell?, hh]
  simp [ht]
theorem nat_mod (a b : Nat) : Int.tmod (a : Int) (b : Int) = ((a % b : Nat) : Int) := rfl
theorem nums_app (l m : List Int) : strOfNums (l ++ m) = strOfNums l ++ strOfNums m := by
  apply ByteArray.ext
  apply Array.ext'
  rw [ByteArray.data_append, Array.toList_append, strOfNums_data, strOfNums_data, strOfNums_data, List.map_append]
/-- A text as bytes of its own. -/
theorem conv_cl {w : World} {t : List Int} (ht : Byt t) : BC (Lib.bytesWorld w 5 (strOfNums t)) (some ⟨w.heap.size, 0, none⟩) t.length (cL t) :=
  (conv_bc w t ht).congr fun i hi => by simp [cL, List.getElem?_eq_getElem hi]
theorem BC.grown {w w' : World} {b off n g : Nat} {c : Nat → Int} (h : BC w (some ⟨b, off, none⟩) n c) (hg : w.grownBy w' (some g)) (hne : b ≠ g) : BC w' (some ⟨b, off, none⟩) n c := fun i hi => by
  obtain ⟨b', off', e, hc⟩ := h i hi
  injection e with e
  injection e with e1 e2 _
  subst e1 e2
  refine ⟨b, off, rfl, ?_⟩
  have hlt := World.block_lt_of_cell? w _ hc
  rw [← hc]
  simp only [World.cell?]
  rw [hg.block b hlt (fun e => hne (Option.some.inj e))]
theorem cell_grown {w w' : World} {a : Addr} {g : Nat} {v : Value} (h : w.cell? a = some v) (hg : w.grownBy w' (some g)) (hne : a.block ≠ g) : w'.cell? a = some v := by
  have hlt := World.block_lt_of_cell? w _ h
  rw [← h]
  simp only [World.cell?]
  rw [hg.block a.block hlt (fun e => hne (Option.some.inj e))]
theorem takeH {P : Program} {ops : Array Oper} {Q : Exit → Act → World → Prop} {md : Region.Mode} {S : World → Prop} {i : Nat} {oi : Oper} {v : Value} {d : Option Tmp} {fuel : Nat} {listed : Array Bool} {a : Act} {w : World} (hi : ops[i]? = some oi)
    (hs : Region.noSelect ops = true) (hf : Region.free md ops listed i = true) (hr : (Region.ready md ops listed).contains i = true) (hd : oi.dst = d)
    (hQ : ∀ c a w, Q (.panic c) (a.put d v) w → Q (.panic c) a w) (hy : YieldsIf P ops S oi v a) (hS : S w)
    (h : wpAnyH P md ops Q S fuel (listed.setIfInBounds i true) (a.put d v) w) : wpAnyH P md ops Q S (fuel + 1) listed a w := by
  subst hd
  exact wpAnyH_take hi hs hf hr hQ hy hS h
theorem stay_grown {a w w' : World} {g : Nat} (h : a.grownBy w (some g)) (hb : Below w.heap.size w w') : a.grownBy w' (some g) := grown_trans h (grown_of hb (some g))
end Go.Proofs.YteeeekpeokgaeaaDoor
