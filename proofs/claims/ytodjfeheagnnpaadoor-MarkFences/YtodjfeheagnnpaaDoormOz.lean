/- Append onto bytes of the call's own. Bytes as a text; bytes without one. Bytes of the call's own, in a row that may bear a mark behind it. -/
import Derived.Test.YtodjfeheagnnpaaDoorhCL
import Derived.Lib.AppendStr
import Derived.Laws.AppendOwnNone
import Derived.Laws.AppendOwn
import Derived.Test.YtodjfeheagnnpaaDoormStr
import Derived.ArgAppend
import Derived.Deep.MidRow
import Derived.Deep.Upon
namespace Go.Proofs.YtodjfeheagnnpaaDoor
set_option linter.unusedVariables false
open Go.RowKit Go.ChangeShapes
theorem info5 : (Tryd.prog.info? 5).map (fun i => (i.zero, i.size, i.bytes)) = some (some (.int .u8 0), 1, 1) := by kernel_rfl
theorem u8L_len (l : List Int) : (u8L l).length = l.length := by simp [u8L]
theorem u8L_app (l m : List Int) : u8L (l ++ m) = u8L l ++ u8L m := by simp [u8L]
theorem OB.nil (w : World) (base : Nat) : OB w base (.slice none 0 0) [] := World.ownsRow_nil _ _ _ _
theorem OB.snoc {w : World} {base n : Nat} {v : Value} {l m : List Int} (hn : n = l.length + m.length) (h : w.ownsRow base 5 1 v n (u8L l ++ u8L m)) : OB w base v (l ++ m) := by
  subst hn
  unfold OB
  rw [List.length_append, u8L_app]
  exact h
theorem append_none (P : Program) (w : World) (base : Nat) (t ty e : TypeId) (i : TypeInfo) (size : Nat) (ht : P.underlying t = some (.slice e)) (hi : P.info? e = some i)
    (v : Value) (n c : Nat) (xs : List Value) (hown : w.ownsRow base e size v n xs) :
    (Builtin.append_ #[t, t] ty #[v, .slice none 0 c]).run P w = .ok v w := by
  rcases hown.2 with ⟨rfl, rfl⟩ | ⟨g, cap, cur, rfl, _, _, hnc, _⟩
  · simp [Builtin.append_, run_underlying ht, sizeOf, typeInfo, hi, Builtin.lenOf, Builtin.firstCells]
  · simp [Builtin.append_, run_underlying ht, sizeOf, typeInfo, hi, Builtin.lenOf, Builtin.firstCells, hnc, storeCells]
theorem app_ob_wp {w : World} {o : Oper} {a : Act} {K : Act → World → Prop} {Q : Exit → Act → World → Prop} (s x : Operand)
    (ho : o.op = .call { callee := .builtin .append, args := #[s, x], argTypes := #[22, 22] })
    (base : Nat) (v : Value) (l : List Int) (hs : a.eval s = v) (hown : OB w base v l) (ad : Option Addr) (m cap : Nat) (c : Nat → Int) (hx : a.eval x = .slice ad m cap) (hb : BC w ad m c)
    (h63 : l.length + m ≤ 100000000) (hbase : base ≤ w.heap.size)
    (h : ∀ v' w', OB w' base v' (l ++ cl c m) → w.grownBy w' v.ownBlock → K (a.put o.dst v') w') : o.wp Tryd.prog a w K Q := by
  obtain ⟨i, hi, hz, hsize, hby⟩ := info_parts info5
  have hl : (u8L (cl c m)).length = m * 1 := by simp [u8L, cl_len]
  cases ad with
  | none =>
    have hm : m = 0 := by
      rcases Nat.eq_zero_or_pos m with e | e
      · exact e
      · obtain ⟨b, off, e2, _⟩ := hb 0 e; cases e2
    subst hm
    have hrun := append_none Tryd.prog w base 22 o.type 5 i 1 Tryd.underlying22 hi v l.length cap (u8L l) hown
    unfold Oper.wp
    simp [execOp, ho, resolve, invoke, builtin, hs, hx, hrun, Result.andThen]
    exact h v w (by rw [show cl c 0 = [] from rfl, List.append_nil]; exact hown) (World.grownBy.refl _ _)
  | some ad =>
    refine wp_append_own w s x 22 ho base 5 i (.int .u8 0) 1 1 Tryd.underlying22 hi hz hsize hby rfl (by decide) v l.length (u8L l) hs hown ad m cap (u8L (cl c m)) hx hl (fun j u hu => ?_) (u8L_one _) (by unfold maxLen; omega) (by omega) hbase (fun v' w' h2 h3 _ => h v' w' (OB.snoc (by rw [cl_len]) h2) h3)
    have hj : j < m := by
      have := (List.getElem?_eq_some_iff.1 hu).1
      rw [hl] at this; omega
    rw [hb.add rfl j hj, ← hu]
    simp [u8L, cl_at c m j hj]
theorem app_ob {w : World} {ops : Array Oper} {rest : List Oper} {o : Oper} {a : Act} {Q : Exit → Act → World → Prop} (hgd : o.guard = none) (s x : Operand)
    (ho : o.op = .call { callee := .builtin .append, args := #[s, x], argTypes := #[22, 22] })
    (base : Nat) (v : Value) (l : List Int) (hs : a.eval s = v) (hown : OB w base v l) (ad : Option Addr) (m cap : Nat) (c : Nat → Int) (hx : a.eval x = .slice ad m cap) (hb : BC w ad m c)
    (h63 : l.length + m ≤ 100000000) (hbase : base ≤ w.heap.size)
    (h : ∀ v' w', OB w' base v' (l ++ cl c m) → w.grownBy w' v.ownBlock → wpList Tryd.prog ops Q rest (a.put o.dst v') w') : wpList Tryd.prog ops Q (o :: rest) a w :=
  wpList_plain hgd fun _ hK => app_ob_wp s x ho base v l hs hown ad m cap c hx hb h63 hbase fun v' w' h2 h3 => hK _ _ (h v' w' h2 h3)
theorem str_cells {t : List Int} (ht : Byt t) : Lib.strCells (strOfNums t) = u8L t := by
  unfold Lib.strCells u8L
  rw [strOfNums_data, List.map_map]
  refine List.map_congr_left fun x hx => ?_
  have := ht x hx
  simp only [Function.comp_apply, UInt8.toNat_ofNat']
  rw [Nat.mod_eq_of_lt (by omega)]
  congr 1
  omega
theorem app_str_wp {w : World} {o : Oper} {a : Act} {K : Act → World → Prop} {Q : Exit → Act → World → Prop} (sl x : Operand)
    (ho : o.op = .call { callee := .builtin .append, args := #[sl, x], argTypes := #[22, 9] })
    (base : Nat) (v : Value) (l : List Int) (hs : a.eval sl = v) (hown : OB w base v l) (s : ByteArray) (t : List Int) (ht : Byt t) (hst : strOfNums t = s) (hx : a.eval x = .string s)
    (h63 : l.length + t.length ≤ 100000000) (hbase : base ≤ w.heap.size)
    (h : ∀ v' w', OB w' base v' (l ++ t) → w.grownBy w' v.ownBlock → K (a.put o.dst v') w') : o.wp Tryd.prog a w K Q := by
  obtain ⟨i, hi, hz, hsize, hby⟩ := info_parts info5
  subst hst
  have hsz := strOfNums_size t
  obtain ⟨v', w', hr, h2, h3, h4⟩ := Lib.run_append_own_string (P := Tryd.prog) w base 22 9 o.type 5 i Tryd.underlying22 Tryd.underlying9 hi hz hsize hby v l.length (u8L l) hown (strOfNums t) (by unfold maxLen; omega) (by omega) hbase
  unfold Oper.wp execOp
  simp only [ho, resolve, invoke, builtin, Sem.run_bind, Sem.run_pure, Result.andThen_ok, List.map_toArray, List.map_cons, List.map_nil, hs, hx, hr]
  refine h v' w' (OB.snoc rfl ?_) h3
  rw [str_cells ht, hsz] at h2
  exact h2
theorem app_str {w : World} {ops : Array Oper} {rest : List Oper} {o : Oper} {a : Act} {Q : Exit → Act → World → Prop} (hgd : o.guard = none) (sl x : Operand)
    (ho : o.op = .call { callee := .builtin .append, args := #[sl, x], argTypes := #[22, 9] })
    (base : Nat) (v : Value) (l : List Int) (hs : a.eval sl = v) (hown : OB w base v l) (s : ByteArray) (t : List Int) (ht : Byt t) (hst : strOfNums t = s) (hx : a.eval x = .string s)
    (h63 : l.length + t.length ≤ 100000000) (hbase : base ≤ w.heap.size)
    (h : ∀ v' w', OB w' base v' (l ++ t) → w.grownBy w' v.ownBlock → wpList Tryd.prog ops Q rest (a.put o.dst v') w') : wpList Tryd.prog ops Q (o :: rest) a w :=
  wpList_plain hgd fun _ hK => app_str_wp sl x ho base v l hs hown s t ht hst hx h63 hbase fun v' w' h2 h3 => hK _ _ (h v' w' h2 h3)
/-- One byte that was laid out for it. -/
theorem one_bc (w : World) (x : Int) : BC (w.alloc (.cells #[.int .u8 x] 5)) (some ⟨w.heap.size, 0, none⟩) 1 (cL [x]) := fun i hi => by
  obtain rfl : i = 0 := by omega
  refine ⟨_, _, rfl, ?_⟩
  have := heap_alloc_new w (.cells #[.int .u8 x] 5)
  simp only [World.cell?, this]
  rfl
theorem cl_one (x : Int) : cl (cL [x]) 1 = [x] := rfl
/-- Pieces of a text. -/
def bit (ps : List (List Int)) (raw : Nat → Int) (rn : Nat) (x : Nat) : List Int := match ps[x]? with
  | some t => t
  | none => if 0 < rn then [raw (x % rn)] else []
def bts (ps : List (List Int)) (raw : Nat → Int) (rn : Nat) (l : List Nat) : List Int := (l.take 60).flatMap (bit ps raw rn)
theorem bit_len {ps : List (List Int)} (hp : ∀ t ∈ ps, t.length ≤ 100) (raw : Nat → Int) (rn x : Nat) : (bit ps raw rn x).length ≤ 100 := by
  unfold bit
  split
  · rename_i t h
    exact hp t (List.mem_of_getElem? h)
  · split <;> simp
theorem flat_len {α : Type} {f : α → List Int} {k : Nat} (h : ∀ x, (f x).length ≤ k) : ∀ l : List α, (l.flatMap f).length ≤ l.length * k
  | [] => by simp
  | x :: l => by
    rw [List.flatMap_cons, List.length_append, List.length_cons, Nat.add_mul]
    have := flat_len h l
    have := h x
    omega
theorem bts_len {ps : List (List Int)} (hp : ∀ t ∈ ps, t.length ≤ 100) (raw : Nat → Int) (rn : Nat) (l : List Nat) : (bts ps raw rn l).length ≤ 6000 := by
  unfold bts
  have h1 := flat_len (bit_len hp raw rn) (l.take 60)
  have h2 : (l.take 60).length ≤ 60 := by rw [List.length_take]; omega
  have h3 := Nat.mul_le_mul_right 100 h2
  omega
theorem bts_byt {ps : List (List Int)} (hp : ∀ t ∈ ps, Byt t) {raw : Nat → Int} {rn : Nat} (hr : Ch raw rn) (l : List Nat) : Byt (bts ps raw rn l) := fun y hy => by
  unfold bts at hy
  obtain ⟨x, _, hx⟩ := List.mem_flatMap.1 hy
  unfold bit at hx
  split at hx
  · rename_i t h
    exact hp t (List.mem_of_getElem? h) y hx
  · split at hx
    · rename_i h
      rw [List.mem_singleton] at hx
      rw [hx]
      exact hr.1 _ (Nat.mod_lt _ h)
    · cases hx
end Go.Proofs.YtodjfeheagnnpaaDoor
namespace Go.Proofs.YtodjfeheagnnpaaDoor
set_option linter.unusedVariables false
open Go.RowKit Go.ChangeShapes
/-- Without a byte. -/
def wo (bad : Int) (l : List Int) : List Int := l.filter fun x => x != bad
theorem wo_mem {bad : Int} {l : List Int} {x : Int} (h : x ∈ wo bad l) : x ∈ l ∧ x ≠ bad := by
  have := List.mem_filter.1 h
  exact ⟨this.1, by simpa using this.2⟩
theorem wo_len (bad : Int) (l : List Int) : (wo bad l).length ≤ l.length := List.length_filter_le _ _
theorem cl_take (c : Nat → Int) (n i : Nat) (h : i < n) : (cl c n).take (i + 1) = (cl c n).take i ++ [c i] := by rw [List.take_add_one, cl_at c n i h]; rfl
theorem wo_snoc_yes {bad x : Int} {l : List Int} (h : x ≠ bad) : wo bad (l ++ [x]) = wo bad l ++ [x] := by
  unfold wo
  rw [List.filter_append]
  simp [h]
theorem wo_snoc_no {bad : Int} {l : List Int} : wo bad (l ++ [bad]) = wo bad l := by
  unfold wo
  rw [List.filter_append]
  simp
theorem cl_byt {c : Nat → Int} {n : Nat} (h : Ch c n) : Byt (cl c n) := fun x hx => by
  obtain ⟨j, hj, rfl⟩ := List.mem_map.1 hx
  exact h.1 j (List.mem_range.1 hj)
theorem wo_byt {bad : Int} {l : List Int} (h : Byt l) : Byt (wo bad l) := fun x hx => h x (wo_mem hx).1
end Go.Proofs.YtodjfeheagnnpaaDoor
namespace Go.Proofs.YtodjfeheagnnpaaDoor
set_option linter.unusedVariables false
open Go.RowKit Go.ChangeShapes
structure OMg (w : World) (base g cap : Nat) (l : List Int) : Prop where
  lo : base ≤ g
  hi : g < w.heap.size
  len : l.length ≤ cap
  there : ∀ j, j < cap → (w.cell? ⟨g, j, none⟩).isSome = true ∧ w.frozen? ⟨g, j, none⟩ = false
  cells : ∀ j x, l[j]? = some x → w.cell? ⟨g, j, none⟩ = some (.int .u8 x)
  big : cap ≤ maxLen
theorem OMg.stay {w w' : World} {base g cap : Nat} {l : List Int} (h : OMg w base g cap l) (hb : Below w.heap.size w w') : OMg w' base g cap l := by
  have e : w'.heap[g]? = w.heap[g]? := hb.block g h.hi
  have e1 : ∀ j, w'.cell? ⟨g, j, none⟩ = w.cell? ⟨g, j, none⟩ := fun j => by simp only [World.cell?, e]
  have e2 : ∀ j, w'.frozen? ⟨g, j, none⟩ = w.frozen? ⟨g, j, none⟩ := fun j => by simp only [World.frozen?, e]
  exact ⟨h.lo, Nat.lt_of_lt_of_le h.hi hb.size, h.len, fun j hj => by rw [e1, e2]; exact h.there j hj, fun j x hx => by rw [e1]; exact h.cells j x hx, h.big⟩
theorem OMg.bc {w : World} {base g cap : Nat} {l : List Int} (h : OMg w base g cap l) : BC w (some ⟨g, 0, none⟩) l.length (cL l) := fun i hi => by
  refine ⟨g, 0, rfl, ?_⟩
  rw [Nat.zero_add, h.cells i l[i] (List.getElem?_eq_getElem hi), cL_in (List.getElem?_eq_getElem hi)]
theorem om_own {w : World} {base g n cap : Nat} {l : List Int} (h : w.ownsRow base 5 1 (.slice (some ⟨g, 0, none⟩) n cap) n (u8L l)) (hn : n = l.length) : OMg w base g cap l := by
  subst hn
  have h0 := h
  have hlt := h.lt g rfl
  obtain ⟨_, ⟨e, _⟩ | ⟨g', cap', cur, e, hg, hh, h3, h4, h5, h6⟩⟩ := h
  · cases e
  · injection e with e1 _ e3
    injection e1 with e1
    injection e1 with e1 _ _
    subst e1 e3
    refine ⟨hg, hlt.2, h3, fun j hj => ⟨?_, own_frozen h0 j⟩, fun j x hx => ?_, h4⟩
    · have : j < cur.size := by omega
      simp only [World.cell?, hh]
      simp [this]
    · have hj := (List.getElem?_eq_some_iff.1 hx).1
      rw [h0.cellAt j (by omega)]
      simp [u8L, hx]
theorem tape_setCells (g : Nat) : ∀ (vs : List Value) (o : Nat) (w : World), (w.setCells g o vs).tape = w.tape
  | [], _, _ => rfl
  | v :: r, o, w => by rw [World.setCells, tape_setCells g r]; rfl
theorem size_setCells (g : Nat) : ∀ (vs : List Value) (o : Nat) (w : World), (w.setCells g o vs).heap.size = w.heap.size
  | [], _, _ => rfl
  | v :: r, o, w => by rw [World.setCells, size_setCells g r]; simp
theorem grown_setCells (w : World) (g o : Nat) (vs : List Value) : w.grownBy (w.setCells g o vs) (some g) :=
  ⟨World.os_setCells w g o vs, tape_setCells g vs o w, World.output_setCells w g o vs, Nat.le_of_eq (size_setCells g vs o w).symm, fun j hj hne => World.heap_setCells_other w g o vs hj (fun e => hne (by rw [e]))⟩
theorem om_set {w : World} {base g cap : Nat} {l m : List Int} (h : OMg w base g cap l) (hf : l.length + m.length ≤ cap) : OMg (w.setCells g l.length (u8L m)) base g cap (l ++ m) := by
  have hsz := (grown_setCells w g l.length (u8L m)).size
  refine ⟨h.lo, Nat.lt_of_lt_of_le h.hi hsz, by rw [List.length_append]; exact hf, fun j hj => ⟨World.isSome_setCells g _ _ w _ (h.there j hj).1, by rw [World.frozen?_setCells]; exact (h.there j hj).2⟩, fun j x hx => ?_, h.big⟩
  rcases Nat.lt_or_ge j l.length with hj | hj
  · rw [World.cell?_setCells_out g _ _ _ _ (fun _ _ => Or.inl hj)]
    rw [List.getElem?_append_left hj] at hx
    exact h.cells j x hx
  · rw [List.getElem?_append_right hj] at hx
    have hjm := (List.getElem?_eq_some_iff.1 hx).1
    have := World.cell?_setCells_in g (u8L m) l.length w (fun k hk => (h.there _ (by rw [u8L_len] at hk; omega)).1) (j - l.length) (by rw [u8L_len]; exact hjm)
    rw [show l.length + (j - l.length) = j by omega] at this
    rw [this]
    obtain ⟨_, rfl⟩ := List.getElem?_eq_some_iff.1 hx
    simp [u8L]
theorem grown_some {w w' : World} (h : w.grownBy w' none) (g : Nat) : w.grownBy w' (some g) := ⟨h.os, h.tape, h.output, h.size, fun j hj _ => h.block j hj (by simp)⟩
theorem om_app_wp {w : World} {o : Oper} {a : Act} {K : Act → World → Prop} {Q : Exit → Act → World → Prop} (s x : Operand)
    (ho : o.op = .call { callee := .builtin .append, args := #[s, x], argTypes := #[22, 22] })
    (base g cp : Nat) (l : List Int) (n : Nat) (hn : l.length = n) (hs : a.eval s = .slice (some ⟨g, 0, none⟩) n cp) (hown : OMg w base g cp l) (h0 : 0 < n) (ad : Option Addr) (m cap : Nat) (c : Nat → Int) (hx : a.eval x = .slice ad m cap) (hb : BC w ad m c)
    (h63 : n + m ≤ 100000000) (hbase : base ≤ w.heap.size)
    (h : ∀ g' cp' w', OMg w' base g' cp' (l ++ cl c m) → w.grownBy w' (some g) → K (a.put o.dst (.slice (some ⟨g', 0, none⟩) (n + m) cp')) w') : o.wp Tryd.prog a w K Q := by
  obtain ⟨i, hi, hz, hsize, hby⟩ := info_parts info5
  subst hn
  have hl : (u8L (cl c m)).length = m * 1 := by simp [u8L, cl_len]
  rcases Nat.eq_zero_or_pos m with hm | hm
  · subst hm
    have hrun : (Builtin.append_ #[22, 22] o.type #[.slice (some ⟨g, 0, none⟩) l.length cp, .slice ad 0 cap]).run Tryd.prog w = .ok (.slice (some ⟨g, 0, none⟩) l.length cp) w := by
      have hle := hown.len
      cases ad with
      | none => simp [Builtin.append_, run_underlying Tryd.underlying22, sizeOf, typeInfo, hi, Builtin.lenOf, Builtin.firstCells, hle, storeCells]
      | some ad =>
        have hf := run_firstCells_some (P := Tryd.prog) w i.size 0 ad 0 cap [] (by simp) (fun j u hu => by simp at hu)
        simp [Builtin.append_, run_underlying Tryd.underlying22, sizeOf, typeInfo, hi, Builtin.lenOf, hle, hf, storeCells]
    unfold Oper.wp
    simp [execOp, ho, resolve, invoke, builtin, hs, hx, hrun, Result.andThen]
    exact h g cp w (by rw [show cl c 0 = [] from rfl, List.append_nil]; exact hown) (World.grownBy.refl _ _)
  · obtain ⟨b, off, rfl, hc⟩ := hb.at hm
    have hnews : ∀ j u, (u8L (cl c m))[j]? = some u → w.cell? ((⟨b, off, none⟩ : Addr).add j) = some u := fun j u hu => by
      have hj : j < m := by
        have := (List.getElem?_eq_some_iff.1 hu).1
        rw [hl] at this; omega
      rw [hb.add rfl j hj, ← hu]
      simp [u8L, cl_at c m j hj]
    by_cases hr : l.length + m ≤ cp
    · have hrun := run_append_room_cells (P := Tryd.prog) w 22 o.type 5 i Tryd.underlying22 hi g 0 l.length cp ⟨b, off, none⟩ m cap (u8L (cl c m)) (by rw [hsize]; exact hl) hnews (u8L_one _) hr
        (fun j hj => by rw [hsize, Nat.mul_one, Nat.zero_add]; exact (hown.there _ (by rw [hl] at hj; omega)).1) (fun j hj => by rw [hsize, Nat.mul_one, Nat.zero_add]; exact (hown.there _ (by rw [hl] at hj; omega)).2)
      rw [hsize, Nat.mul_one, Nat.zero_add] at hrun
      unfold Oper.wp
      simp [execOp, ho, resolve, invoke, builtin, hs, hx, hrun, Result.andThen]
      exact h g cp _ (om_set hown (by rw [cl_len]; exact hr)) (grown_setCells w g _ _)
    · obtain ⟨v', w', hrun, r1, r2⟩ := run_append_arg_grows (P := Tryd.prog) w 22 o.type 5 i (.int .u8 0) 1 1 Tryd.underlying22 hi hz hsize hby rfl (by decide) ⟨g, 0, none⟩ l.length cp (u8L l) (by simp [u8L]) (fun j u hj => by
          have hjl : j < l.length := by have := (List.getElem?_eq_some_iff.1 hj).1; rw [u8L_len] at this; exact this
          have hadd : (⟨g, 0, none⟩ : Addr).add j = ⟨g, 0 + j, none⟩ := by unfold Addr.add; split <;> simp_all
          rw [hadd, Nat.zero_add, hown.cells j l[j] (List.getElem?_eq_getElem hjl), ← hj]
          simp [u8L, List.getElem?_eq_getElem hjl]) ⟨b, off, none⟩ m cap (u8L (cl c m)) hl hnews (by omega) (by unfold maxLen; omega) (by omega)
      obtain ⟨g', cap', rfl⟩ : ∃ g' cap', v' = .slice (some ⟨g', 0, none⟩) (l.length + m) cap' := by
        obtain ⟨_, ⟨_, e0⟩ | ⟨g', cap', _, e, _⟩⟩ := r1
        · omega
        · exact ⟨g', cap', e⟩
      unfold Oper.wp
      simp [execOp, ho, resolve, invoke, builtin, hs, hx, hrun, Result.andThen]
      refine h g' cap' w' ?_ (grown_some r2 g)
      rw [← u8L_app] at r1
      exact om_own (own_mono r1 hbase) (by rw [List.length_append, cl_len])
theorem om_app {w : World} {ops : Array Oper} {rest : List Oper} {o : Oper} {a : Act} {Q : Exit → Act → World → Prop} (hgd : o.guard = none) (s x : Operand)
    (ho : o.op = .call { callee := .builtin .append, args := #[s, x], argTypes := #[22, 22] })
    (base g cp : Nat) (l : List Int) (n : Nat) (hn : l.length = n) (hs : a.eval s = .slice (some ⟨g, 0, none⟩) n cp) (hown : OMg w base g cp l) (h0 : 0 < n) (ad : Option Addr) (m cap : Nat) (c : Nat → Int) (hx : a.eval x = .slice ad m cap) (hb : BC w ad m c)
    (h63 : n + m ≤ 100000000) (hbase : base ≤ w.heap.size)
    (h : ∀ g' cp' w', OMg w' base g' cp' (l ++ cl c m) → w.grownBy w' (some g) → wpList Tryd.prog ops Q rest (a.put o.dst (.slice (some ⟨g', 0, none⟩) (n + m) cp')) w') : wpList Tryd.prog ops Q (o :: rest) a w :=
  wpList_plain hgd fun _ hK => om_app_wp s x ho base g cp l n hn hs hown h0 ad m cap c hx hb h63 hbase fun g' cp' w' h2 h3 => hK _ _ (h g' cp' w' h2 h3)
theorem om_str {w : World} {ops : Array Oper} {rest : List Oper} {o : Oper} {a : Act} {Q : Exit → Act → World → Prop} (hgd : o.guard = none) (sl x : Operand)
    (ho : o.op = .call { callee := .builtin .append, args := #[sl, x], argTypes := #[22, 9] })
    (base g cp : Nat) (l : List Int) (n : Nat) (hn : l.length = n) (hs : a.eval sl = .slice (some ⟨g, 0, none⟩) n cp) (hown : OMg w base g cp l) (h0 : 0 < n) (s : ByteArray) (t : List Int) (ht : Byt t) (hst : strOfNums t = s) (hx : a.eval x = .string s)
    (h63 : n + t.length ≤ 100000000) (hbase : base ≤ w.heap.size)
    (h : ∀ g' cp' w', OMg w' base g' cp' (l ++ t) → w.grownBy w' (some g) → wpList Tryd.prog ops Q rest (a.put o.dst (.slice (some ⟨g', 0, none⟩) (n + t.length) cp')) w') : wpList Tryd.prog ops Q (o :: rest) a w := by
  refine wpList_plain hgd fun K hK => ?_
  obtain ⟨i, hi, hz, hsize, hby⟩ := info_parts info5
  subst hn hst
  have hsz := strOfNums_size t
  have hsc := str_cells ht
  by_cases hr : l.length + t.length ≤ cp
  · have hrun : (Builtin.append_ #[22, 9] o.type #[.slice (some ⟨g, 0, none⟩) l.length cp, .string (strOfNums t)]).run Tryd.prog w = .ok (.slice (some ⟨g, 0, none⟩) (l.length + t.length) cp) (w.setCells g l.length (u8L t)) := by
      have hf := Lib.run_firstCells_string (P := Tryd.prog) w 1 (strOfNums t)
      have hst := run_storeCells_cells (P := Tryd.prog) g l.length (u8L t) 0 w (fun j hj => by simpa using (hown.there (l.length + j) (by rw [u8L_len] at hj; omega)).1) (fun j hj => by simpa using (hown.there (l.length + j) (by rw [u8L_len] at hj; omega)).2) (u8L_one _)
      simp only [Nat.add_zero] at hst
      rw [hsc, hsz] at hf
      simp [Builtin.append_, run_underlying Tryd.underlying22, run_underlying Tryd.underlying9, sizeOf, typeInfo, hi, hsize, Builtin.lenOf, hsz, hr, hf, Addr.add_lit, hst]
    unfold Oper.wp execOp
    simp only [ho, resolve, invoke, builtin, Sem.run_bind, Sem.run_pure, Result.andThen_ok, List.map_toArray, List.map_cons, List.map_nil, hs, hx, hrun]
    exact hK _ _ (h g cp _ (om_set hown hr) (grown_setCells w g _ _))
  · have hgr := Lib.run_append_grow_string (P := Tryd.prog) w 22 9 o.type 5 i (.int .u8 0) Tryd.underlying22 Tryd.underlying9 hi hz ⟨g, 0, none⟩ l.length cp (u8L l) (by rw [hsize]; simp [u8L]) (fun j u hj => by
          have hjl : j < l.length := by have := (List.getElem?_eq_some_iff.1 hj).1; rw [u8L_len] at this; exact this
          have hadd : (⟨g, 0, none⟩ : Addr).add j = ⟨g, 0 + j, none⟩ := by unfold Addr.add; split <;> simp_all
          rw [hadd, Nat.zero_add, hown.cells j l[j] (List.getElem?_eq_getElem hjl), ← hj]
          simp [u8L, List.getElem?_eq_getElem hjl]) (strOfNums t) (by rw [hsz]; omega) (by rw [hsz]; omega) (by rw [hby]; exact growslice_fits (by rw [hsz]; omega) (by rw [hsz]; omega))
    rw [hsz, hsc] at hgr
    unfold Oper.wp execOp
    simp only [ho, resolve, invoke, builtin, Sem.run_bind, Sem.run_pure, Result.andThen_ok, List.map_toArray, List.map_cons, List.map_nil, hs, hx, hgr]
    have hge := grownCap_ge w (l.length + t.length) cp 5
    have hcm := grownCap_le_maxLen w (l.length + t.length) cp 5 (by unfold maxLen; omega)
    refine hK _ _ (h _ _ _ ?_ ⟨rfl, rfl, rfl, by simp, fun k hk _ => heap_alloc_old w.drew _ hk⟩)
    refine om_own (n := l.length + t.length) ⟨by rw [u8L_len, List.length_append, Nat.mul_one], Or.inr ⟨w.heap.size, _, _, rfl, hbase, heap_alloc_new w.drew _, hge, hcm, ?_, ?_⟩⟩ (by rw [List.length_append])
    · simp only [Array.size_append, List.size_toArray, size_zeroCells, u8L_len]
      show l.length + t.length + (grownCap w (l.length + t.length) cp 5 - (l.length + t.length)) * 1 = _
      omega
    · simp only [Array.toList_append, List.append_assoc]
      rw [← List.append_assoc, ← u8L_app, show (l.length + t.length) * 1 = (u8L (l ++ t)).length by rw [u8L_len, List.length_append, Nat.mul_one]]
      exact List.take_left
/-- A literal's bytes, with a conversion's mark. -/
theorem om_two (w : World) (base : Nat) (hb : base ≤ w.heap.size) (x y : Int) : OMg (w.alloc (.cells #[.int .u8 x, .int .u8 y] 5 (2, 3))) base w.heap.size 2 [x, y] := by
  have hh : (w.alloc (.cells #[.int .u8 x, .int .u8 y] 5 (2, 3))).heap[w.heap.size]? = some (.cells #[.int .u8 x, .int .u8 y] 5 (2, 3)) := heap_alloc_new _ _
  refine ⟨hb, lt_of_heap hh, Nat.le_refl _, fun j hj => ?_, fun j z hz => ?_, by decide⟩
  · rcases (show j = 0 ∨ j = 1 by omega) with rfl | rfl
    · exact ⟨by simp only [World.cell?, hh]; rfl, by simp only [World.frozen?, hh]; rfl⟩
    · exact ⟨by simp only [World.cell?, hh]; rfl, by simp only [World.frozen?, hh]; rfl⟩
  · match j, hz with
    | 0, hz => simp at hz; subst hz; simp only [World.cell?, hh]; rfl
    | 1, hz => simp at hz; subst hz; simp only [World.cell?, hh]; rfl
    | j + 2, hz => simp at hz
end Go.Proofs.YtodjfeheagnnpaaDoor
