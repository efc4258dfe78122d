/- Bytes put behind a marked row. -/
import Derived.Test.YteeeekpeokgaeaaDoorPkYAwk2
import Derived.ArgAppend
import Derived.Deep.MidRow
import Derived.Deep.Upon
namespace Go.Proofs.YteeeekpeokgaeaaDoor
set_option linter.unusedVariables false
open Go.RowKit Go.ChangeShapes
structure OMg (w : World) (base g cap : Nat) (l : List Int) : Prop where
  lo : base ≤ g
  hi : g < w.heap.size
  len : l.length ≤ cap
  there : ∀ j, j < cap → (w.cell? ⟨g, j, none⟩).isSome = true ∧ w.frozen? ⟨g, j, none⟩ = false
  cells : ∀ j x, l[j]? = some x → w.cell? ⟨g, j, none⟩ = some (.int .u8 x)
  big : cap ≤ maxLen
theorem OMg.stay {w w' : World} {base g cap : Nat} {l : List Int} (h : OMg w base g cap l) (hb : Below w.heap.size w w') : OMg w' base g cap l := by
  have e : w'.heap[g]? = w.heap[g]? := hb.block g h.hi
  have e1 : ∀ j, w'.cell? ⟨g, j, none⟩ = w.cell? ⟨g, j, none⟩ := fun j => by simp only [World.cell?, e]
  have e2 : ∀ j, w'.frozen? ⟨g, j, none⟩ = w.frozen? ⟨g, j, none⟩ := fun j => by simp only [World.frozen?, e]
  exact ⟨h.lo, Nat.lt_of_lt_of_le h.hi hb.size, h.len, fun j hj => by rw [e1, e2]; exact h.there j hj, fun j x hx => by rw [e1]; exact h.cells j x hx, h.big⟩
theorem OMg.bc {w : World} {base g cap : Nat} {l : List Int} (h : OMg w base g cap l) : BC w (some ⟨g, 0, none⟩) l.length (cL l) := fun i hi => by
  refine ⟨g, 0, rfl, ?_⟩
  rw [Nat.zero_add, h.cells i l[i] (List.getElem?_eq_getElem hi), cL_in (List.getElem?_eq_getElem hi)]
theorem om_own {w : World} {base g n cap : Nat} {l : List Int} (h : w.ownsRow base 5 1 (.slice (some ⟨g, 0, none⟩) n cap) n (u8L l)) (hn : n = l.length) : OMg w base g cap l := by
  subst hn
  have h0 := h
  have hlt := h.lt g rfl
  obtain ⟨_, ⟨e, _⟩ | ⟨g', cap', cur, e, hg, hh, h3, h4, h5, h6⟩⟩ := h
  · cases e
  · injection e with e1 _ e3
    injection e1 with e1
    injection e1 with e1 _ _
    subst e1 e3
    refine ⟨hg, hlt.2, h3, fun j hj => ⟨?_, own_frozen h0 j⟩, fun j x hx => ?_, h4⟩
    · have : j < cur.size := by omega
      simp only [World.cell?, hh]
      simp [this]
    · have hj := (List.getElem?_eq_some_iff.1 hx).1
      rw [h0.cellAt j (by omega)]
      simp [u8L, hx]
theorem tape_setCells (g : Nat) : ∀ (vs : List Value) (o : Nat) (w : World), (w.setCells g o vs).tape = w.tape
  | [], _, _ => rfl
  | v :: r, o, w => by rw [World.setCells, tape_setCells g r]; rfl
theorem size_setCells (g : Nat) : ∀ (vs : List Value) (o : Nat) (w : World), (w.setCells g o vs).heap.size = w.heap.size
  | [], _, _ => rfl
  | v :: r, o, w => by rw [World.setCells, size_setCells g r]; simp
theorem grown_setCells (w : World) (g o : Nat) (vs : List Value) : w.grownBy (w.setCells g o vs) (some g) :=
  ⟨World.os_setCells w g o vs, tape_setCells g vs o w, World.output_setCells w g o vs, Nat.le_of_eq (size_setCells g vs o w).symm, fun j hj hne => World.heap_setCells_other w g o vs hj (fun e => hne (by rw [e]))⟩
theorem om_set {w : World} {base g cap : Nat} {l m : List Int} (h : OMg w base g cap l) (hf : l.length + m.length ≤ cap) : OMg (w.setCells g l.length (u8L m)) base g cap (l ++ m) := by
  have hsz := (grown_setCells w g l.length (u8L m)).size
  refine ⟨h.lo, Nat.lt_of_lt_of_le h.hi hsz, by rw [List.length_append]; exact hf, fun j hj => ⟨World.isSome_setCells g _ _ w _ (h.there j hj).1, by rw [World.frozen?_setCells]; exact (h.there j hj).2⟩, fun j x hx => ?_, h.big⟩
  rcases Nat.lt_or_ge j l.length with hj | hj
  · rw [World.cell?_setCells_out g _ _ _ _ (fun _ _ => Or.inl hj)]
    rw [List.getElem?_append_left hj] at hx
    exact h.cells j x hx
  · rw [List.getElem?_append_right hj] at hx
    have hjm := (List.getElem?_eq_some_iff.1 hx).1
    have := World.cell?_setCells_in g (u8L m) l.length w (fun k hk => (h.there _ (by rw [u8L_len] at hk; omega)).1) (j - l.length) (by rw [u8L_len]; exact hjm)
    rw [show l.length + (j - l.length) = j by omega] at this
    rw [this]
    obtain ⟨_, rfl⟩ := List.getElem?_eq_some_iff.1 hx
    simp [u8L]
theorem grown_some {w w' : World} (h : w.grownBy w' none) (g : Nat) : w.grownBy w' (some g) := ⟨h.os, h.tape, h.output, h.size, fun j hj _ => h.block j hj (by simp)⟩
theorem om_app_wp {w : World} {o : Oper} {a : Act} {K : Act → World → Prop} {Q : Exit → Act → World → Prop} (s x : Operand)
    (ho : o.op = .call { callee := .builtin .append, args := #[s, x], argTypes := #[22, 22] })
    (base g cp : Nat) (l : List Int) (n : Nat) (hn : l.length = n) (hs : a.eval s = .slice (some ⟨g, 0, none⟩) n cp) (hown : OMg w base g cp l) (h0 : 0 < n) (ad : Option Addr) (m cap : Nat) (c : Nat → Int) (hx : a.eval x = .slice ad m cap) (hb : BC w ad m c)
    (h63 : n + m ≤ 100000000) (hbase : base ≤ w.heap.size)
    (h : ∀ g' cp' w', OMg w' base g' cp' (l ++ cl c m) → w.grownBy w' (some g) → K (a.put o.dst (.slice (some ⟨g', 0, none⟩) (n + m) cp')) w') : o.wp Tryd.prog a w K Q := by
  obtain ⟨i, hi, hz, hsize, hby⟩ := info_parts info5
  subst hn
  have hl : (u8L (cl c m)).length = m * 1 := by simp [u8L, cl_len]
  rcases Nat.eq_zero_or_pos m with hm | hm
  · subst hm
    have hrun : (Builtin.append_ #[22, 22] o.type #[.slice (some ⟨g, 0, none⟩) l.length cp, .slice ad 0 cap]).run Tryd.prog w = .ok (.slice (some ⟨g, 0, none⟩) l.length cp) w := by
      have hle := hown.len
      cases ad with
      | none => simp [Builtin.append_, run_underlying Tryd.underlying22, sizeOf, typeInfo, hi, Builtin.lenOf, Builtin.firstCells, hle, storeCells]
      | some ad =>
        have hf := run_firstCells_some (P := Tryd.prog) w i.size 0 ad 0 cap [] (by simp) (fun j u hu => by simp at hu)
        simp [Builtin.append_, run_underlying Tryd.underlying22, sizeOf, typeInfo, hi, Builtin.lenOf, hle, hf, storeCells]
    unfold Oper.wp
    simp [execOp, ho, resolve, invoke, builtin, hs, hx, hrun, Result.andThen]
    exact h g cp w (by rw [show cl c 0 = [] from rfl, List.append_nil]; exact hown) (World.grownBy.refl _ _)
  · obtain ⟨b, off, rfl, hc⟩ := hb.at hm
    have hnews : ∀ j u, (u8L (cl c m))[j]? = some u → w.cell? ((⟨b, off, none⟩ : Addr).add j) = some u := fun j u hu => by
      have hj : j < m := by
        have := (List.getElem?_eq_some_iff.1 hu).1
        rw [hl] at this; omega
      rw [hb.add rfl j hj, ← hu]
      simp [u8L, cl_at c m j hj]
    by_cases hr : l.length + m ≤ cp
    · have hrun := run_append_room_cells (P := Tryd.prog) w 22 o.type 5 i Tryd.underlying22 hi g 0 l.length cp ⟨b, off, none⟩ m cap (u8L (cl c m)) (by rw [hsize]; exact hl) hnews (u8L_one _) hr
        (fun j hj => by rw [hsize, Nat.mul_one, Nat.zero_add]; exact (hown.there _ (by rw [hl] at hj; omega)).1) (fun j hj => by rw [hsize, Nat.mul_one, Nat.zero_add]; exact (hown.there _ (by rw [hl] at hj; omega)).2)
      rw [hsize, Nat.mul_one, Nat.zero_add] at hrun
      unfold Oper.wp
      simp [execOp, ho, resolve, invoke, builtin, hs, hx, hrun, Result.andThen]
      exact h g cp _ (om_set hown (by rw [cl_len]; exact hr)) (grown_setCells w g _ _)
    · obtain ⟨v', w', hrun, r1, r2⟩ := run_append_arg_grows (P := Tryd.prog) w 22 o.type 5 i (.int .u8 0) 1 1 Tryd.underlying22 hi hz hsize hby rfl (by decide) ⟨g, 0, none⟩ l.length cp (u8L l) (by simp [u8L]) (fun j u hj => by
          have hjl : j < l.length := by have := (List.getElem?_eq_some_iff.1 hj).1; rw [u8L_len] at this; exact this
          have hadd : (⟨g, 0, none⟩ : Addr).add j = ⟨g, 0 + j, none⟩ := by unfold Addr.add; split <;> simp_all
          rw [hadd, Nat.zero_add, hown.cells j l[j] (List.getElem?_eq_getElem hjl), ← hj]
          simp [u8L, List.getElem?_eq_getElem hjl]) ⟨b, off, none⟩ m cap (u8L (cl c m)) hl hnews (by omega) (by unfold maxLen; omega) (by omega)
      obtain ⟨g', cap', rfl⟩ : ∃ g' cap', v' = .slice (some ⟨g', 0, none⟩) (l.length + m) cap' := by
        obtain ⟨_, ⟨_, e0⟩ | ⟨g', cap', _, e, _⟩⟩ := r1
        · omega
        · exact ⟨g', cap', e⟩
      unfold Oper.wp
      simp [execOp, ho, resolve, invoke, builtin, hs, hx, hrun, Result.andThen]
      refine h g' cap' w' ?_ (grown_some r2 g)
      rw [← u8L_app] at r1
      exact om_own (own_mono r1 hbase) (by rw [List.length_append, cl_len])
theorem om_app {w : World} {ops : Array Oper} {rest : List Oper} {o : Oper} {a : Act} {Q : Exit → Act → World → Prop} (hgd : o.guard = none) (s x : Operand)
    (ho : o.op = .call { callee := .builtin .append, args := #[s, x], argTypes := #[22, 22] })
    (base g cp : Nat) (l : List Int) (n : Nat) (hn : l.length = n) (hs : a.eval s = .slice (some ⟨g, 0, none⟩) n cp) (hown : OMg w base g cp l) (h0 : 0 < n) (ad : Option Addr) (m cap : Nat) (c : Nat → Int) (hx : a.eval x = .slice ad m cap) (hb : BC w ad m c)
    (h63 : n + m ≤ 100000000) (hbase : base ≤ w.heap.size)
    (h : ∀ g' cp' w', OMg w' base g' cp' (l ++ cl c m) → w.grownBy w' (some g) → wpList Tryd.prog ops Q rest (a.put o.dst (.slice (some ⟨g', 0, none⟩) (n + m) cp')) w') : wpList Tryd.prog ops Q (o :: rest) a w :=
  wpList_plain hgd fun _ hK => om_app_wp s x ho base g cp l n hn hs hown h0 ad m cap c hx hb h63 hbase fun g' cp' w' h2 h3 => hK _ _ (h g' cp' w' h2 h3)
theorem om_str {w : World} {ops : Array Oper} {rest : List Oper} {o : Oper} {a : Act} {Q : Exit → Act → World → Prop} (hgd : o.guard = none) (sl x : Operand)
    (ho : o.op = .call { callee := .builtin .append, args := #[sl, x], argTypes := #[22, 9] })
    (base g cp : Nat) (l : List Int) (n : Nat) (hn : l.length = n) (hs : a.eval sl = .slice (some ⟨g, 0, none⟩) n cp) (hown : OMg w base g cp l) (h0 : 0 < n) (s : ByteArray) (t : List Int) (ht : Byt t) (hst : strOfNums t = s) (hx : a.eval x = .string s)
    (h63 : n + t.length ≤ 100000000) (hbase : base ≤ w.heap.size)
    (h : ∀ g' cp' w', OMg w' base g' cp' (l ++ t) → w.grownBy w' (some g) → wpList Tryd.prog ops Q rest (a.put o.dst (.slice (some ⟨g', 0, none⟩) (n + t.length) cp')) w') : wpList Tryd.prog ops Q (o :: rest) a w := by
  refine wpList_plain hgd fun K hK => ?_
  obtain ⟨i, hi, hz, hsize, hby⟩ := info_parts info5
  subst hn hst
  have hsz := strOfNums_size t
  have hsc := str_cells ht
  by_cases hr : l.length + t.length ≤ cp
  · have hrun : (Builtin.append_ #[22, 9] o.type #[.slice (some ⟨g, 0, none⟩) l.length cp, .string (strOfNums t)]).run Tryd.prog w = .ok (.slice (some ⟨g, 0, none⟩) (l.length + t.length) cp) (w.setCells g l.length (u8L t)) := by
      have hf := Lib.run_firstCells_string (P := Tryd.prog) w 1 (strOfNums t)
      have hst := run_storeCells_cells (P := Tryd.prog) g l.length (u8L t) 0 w (fun j hj => by simpa using (hown.there (l.length + j) (by rw [u8L_len] at hj; omega)).1) (fun j hj => by simpa using (hown.there (l.length + j) (by rw [u8L_len] at hj; omega)).2) (u8L_one _)
      simp only [Nat.add_zero] at hst
      rw [hsc, hsz] at hf
      simp [Builtin.append_, run_underlying Tryd.underlying22, run_underlying Tryd.underlying9, sizeOf, typeInfo, hi, hsize, Builtin.lenOf, hsz, hr, hf, Addr.add_lit, hst]
    unfold Oper.wp execOp
    simp only [ho, resolve, invoke, builtin, Sem.run_bind, Sem.run_pure, Result.andThen_ok, List.map_toArray, List.map_cons, List.map_nil, hs, hx, hrun]
    exact hK _ _ (h g cp _ (om_set hown hr) (grown_setCells w g _ _))
  · have hgr := Lib.run_append_grow_string (P := Tryd.prog) w 22 9 o.type 5 i (.int .u8 0) Tryd.underlying22 Tryd.underlying9 hi hz ⟨g, 0, none⟩ l.length cp (u8L l) (by rw [hsize]; simp [u8L]) (fun j u hj => by
          have hjl : j < l.length := by have := (List.getElem?_eq_some_iff.1 hj).1; rw [u8L_len] at this; exact this
          have hadd : (⟨g, 0, none⟩ : Addr).add j = ⟨g, 0 + j, none⟩ := by unfold Addr.add; split <;> simp_all
          rw [hadd, Nat.zero_add, hown.cells j l[j] (List.getElem?_eq_getElem hjl), ← hj]
          simp [u8L, List.getElem?_eq_getElem hjl]) (strOfNums t) (by rw [hsz]; omega) (by rw [hsz]; omega) (by rw [hby]; exact growslice_fits (by rw [hsz]; omega) (by rw [hsz]; omega))
    rw [hsz, hsc] at hgr
    unfold Oper.wp execOp
    simp only [ho, resolve, invoke, builtin, Sem.run_bind, Sem.run_pure, Result.andThen_ok, List.map_toArray, List.map_cons, List.map_nil, hs, hx, hgr]
    have hge := grownCap_ge w (l.length + t.length) cp 5
    have hcm := grownCap_le_maxLen w (l.length + t.length) cp 5 (by unfold maxLen; omega)
    refine hK _ _ (h _ _ _ ?_ ⟨rfl, rfl, rfl, by simp, fun k hk _ => heap_alloc_old w.drew _ hk⟩)
    refine om_own (n := l.length + t.length) ⟨by rw [u8L_len, List.length_append, Nat.mul_one], Or.inr ⟨w.heap.size, _, _, rfl, hbase, heap_alloc_new w.drew _, hge, hcm, ?_, ?_⟩⟩ (by rw [List.length_append])
    · simp only [Array.size_append, List.size_toArray, size_zeroCells, u8L_len]
      show l.length + t.length + (grownCap w (l.length + t.length) cp 5 - (l.length + t.length)) * 1 = _
      omega
    · simp only [Array.toList_append, List.append_assoc]
      rw [← List.append_assoc, ← u8L_app, show (l.length + t.length) * 1 = (u8L (l ++ t)).length by rw [u8L_len, List.length_append, Nat.mul_one]]
      exact List.take_left
/-- A literal's bytes, with a conversion's mark. -/
theorem om_lit (w : World) (base : Nat) (hb : base ≤ w.heap.size) (l : List Int) (hl : l.length ≤ maxLen) : OMg (w.alloc (.cells (u8L l).toArray 5 (l.length, l.length + 1))) base w.heap.size l.length l := by
  have hh : (w.alloc (.cells (u8L l).toArray 5 (l.length, l.length + 1))).heap[w.heap.size]? = some (.cells (u8L l).toArray 5 (l.length, l.length + 1)) := heap_alloc_new _ _
  have hsz : w.heap.size < (w.alloc (.cells (u8L l).toArray 5 (l.length, l.length + 1))).heap.size := by rw [World.size_alloc]; omega
  obtain ⟨W, hW⟩ : ∃ W, w.alloc (.cells (u8L l).toArray 5 (l.length, l.length + 1)) = W := ⟨_, rfl⟩
  rw [hW] at hh hsz ⊢
  clear hW
  refine ⟨hb, hsz, Nat.le_refl _, fun j hj => ⟨?_, ?_⟩, fun j x hx => ?_, hl⟩
  · simp only [World.cell?, hh]
    simp [u8L, hj]
  · simp only [World.frozen?, hh]
    simp
    omega
  · simp only [World.cell?, hh]
    simp [u8L, hx]
end Go.Proofs.YteeeekpeokgaeaaDoor
