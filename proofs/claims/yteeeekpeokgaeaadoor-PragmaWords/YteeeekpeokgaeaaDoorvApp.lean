/- Bytes put behind bytes of the call's own. -/
import Derived.Test.YteeeekpeokgaeaaDoorPkVRa3
import Derived.Lib.AppendStr
import Derived.Laws.AppendOwnNone
import Derived.Laws.AppendOwn
namespace Go.Proofs.YteeeekpeokgaeaaDoor
set_option linter.unusedVariables false
open Go.RowKit Go.ChangeShapes
theorem info5 : (Tryd.prog.info? 5).map (fun i => (i.zero, i.size, i.bytes)) = some (some (.int .u8 0), 1, 1) := by kernel_rfl
theorem u8L_len (l : List Int) : (u8L l).length = l.length := by simp [u8L]
theorem u8L_app (l m : List Int) : u8L (l ++ m) = u8L l ++ u8L m := by simp [u8L]
theorem OB.nil (w : World) (base : Nat) : OB w base (.slice none 0 0) [] := World.ownsRow_nil _ _ _ _
theorem OB.snoc {w : World} {base n : Nat} {v : Value} {l m : List Int} (hn : n = l.length + m.length) (h : w.ownsRow base 5 1 v n (u8L l ++ u8L m)) : OB w base v (l ++ m) := by
  subst hn
  unfold OB
  rw [List.length_append, u8L_app]
  exact h
theorem append_none (P : Program) (w : World) (base : Nat) (t ty e : TypeId) (i : TypeInfo) (size : Nat) (ht : P.underlying t = some (.slice e)) (hi : P.info? e = some i)
    (v : Value) (n c : Nat) (xs : List Value) (hown : w.ownsRow base e size v n xs) :
    (Builtin.append_ #[t, t] ty #[v, .slice none 0 c]).run P w = .ok v w := by
  rcases hown.2 with ⟨rfl, rfl⟩ | ⟨g, cap, cur, rfl, _, _, hnc, _⟩
  · simp [Builtin.append_, run_underlying ht, sizeOf, typeInfo, hi, Builtin.lenOf, Builtin.firstCells]
  · simp [Builtin.append_, run_underlying ht, sizeOf, typeInfo, hi, Builtin.lenOf, Builtin.firstCells, hnc, storeCells]
theorem app_ob_wp {w : World} {o : Oper} {a : Act} {K : Act → World → Prop} {Q : Exit → Act → World → Prop} (s x : Operand)
    (ho : o.op = .call { callee := .builtin .append, args := #[s, x], argTypes := #[22, 22] })
    (base : Nat) (v : Value) (l : List Int) (hs : a.eval s = v) (hown : OB w base v l) (ad : Option Addr) (m cap : Nat) (c : Nat → Int) (hx : a.eval x = .slice ad m cap) (hb : BC w ad m c)
    (h63 : l.length + m ≤ 100000000) (hbase : base ≤ w.heap.size)
    (h : ∀ v' w', OB w' base v' (l ++ cl c m) → w.grownBy w' v.ownBlock → K (a.put o.dst v') w') : o.wp Tryd.prog a w K Q := by
  obtain ⟨i, hi, hz, hsize, hby⟩ := info_parts info5
  have hl : (u8L (cl c m)).length = m * 1 := by simp [u8L, cl_len]
  cases ad with
  | none =>
    have hm : m = 0 := by
      rcases Nat.eq_zero_or_pos m with e | e
      · exact e
      · obtain ⟨b, off, e2, _⟩ := hb 0 e; cases e2
    subst hm
    have hrun := append_none Tryd.prog w base 22 o.type 5 i 1 Tryd.underlying22 hi v l.length cap (u8L l) hown
    unfold Oper.wp
    simp [execOp, ho, resolve, invoke, builtin, hs, hx, hrun, Result.andThen]
    exact h v w (by rw [show cl c 0 = [] from rfl, List.append_nil]; exact hown) (World.grownBy.refl _ _)
  | some ad =>
    refine wp_append_own w s x 22 ho base 5 i (.int .u8 0) 1 1 Tryd.underlying22 hi hz hsize hby rfl (by decide) v l.length (u8L l) hs hown ad m cap (u8L (cl c m)) hx hl (fun j u hu => ?_) (u8L_one _) (by unfold maxLen; omega) (by omega) hbase (fun v' w' h2 h3 _ => h v' w' (OB.snoc (by rw [cl_len]) h2) h3)
    have hj : j < m := by
      have := (List.getElem?_eq_some_iff.1 hu).1
      rw [hl] at this; omega
    rw [hb.add rfl j hj, ← hu]
    simp [u8L, cl_at c m j hj]
theorem app_ob {w : World} {ops : Array Oper} {rest : List Oper} {o : Oper} {a : Act} {Q : Exit → Act → World → Prop} (hgd : o.guard = none) (s x : Operand)
    (ho : o.op = .call { callee := .builtin .append, args := #[s, x], argTypes := #[22, 22] })
    (base : Nat) (v : Value) (l : List Int) (hs : a.eval s = v) (hown : OB w base v l) (ad : Option Addr) (m cap : Nat) (c : Nat → Int) (hx : a.eval x = .slice ad m cap) (hb : BC w ad m c)
    (h63 : l.length + m ≤ 100000000) (hbase : base ≤ w.heap.size)
    (h : ∀ v' w', OB w' base v' (l ++ cl c m) → w.grownBy w' v.ownBlock → wpList Tryd.prog ops Q rest (a.put o.dst v') w') : wpList Tryd.prog ops Q (o :: rest) a w :=
  wpList_plain hgd fun _ hK => app_ob_wp s x ho base v l hs hown ad m cap c hx hb h63 hbase fun v' w' h2 h3 => hK _ _ (h v' w' h2 h3)
theorem str_cells {t : List Int} (ht : Byt t) : Lib.strCells (strOfNums t) = u8L t := by
  unfold Lib.strCells u8L
  rw [strOfNums_data, List.map_map]
  refine List.map_congr_left fun x hx => ?_
  have := ht x hx
  simp only [Function.comp_apply, UInt8.toNat_ofNat']
  rw [Nat.mod_eq_of_lt (by omega)]
  congr 1
  omega
theorem app_str_wp {w : World} {o : Oper} {a : Act} {K : Act → World → Prop} {Q : Exit → Act → World → Prop} (sl x : Operand)
    (ho : o.op = .call { callee := .builtin .append, args := #[sl, x], argTypes := #[22, 9] })
    (base : Nat) (v : Value) (l : List Int) (hs : a.eval sl = v) (hown : OB w base v l) (s : ByteArray) (t : List Int) (ht : Byt t) (hst : strOfNums t = s) (hx : a.eval x = .string s)
    (h63 : l.length + t.length ≤ 100000000) (hbase : base ≤ w.heap.size)
    (h : ∀ v' w', OB w' base v' (l ++ t) → w.grownBy w' v.ownBlock → K (a.put o.dst v') w') : o.wp Tryd.prog a w K Q := by
  obtain ⟨i, hi, hz, hsize, hby⟩ := info_parts info5
  subst hst
  have hsz := strOfNums_size t
  obtain ⟨v', w', hr, h2, h3, h4⟩ := Lib.run_append_own_string (P := Tryd.prog) w base 22 9 o.type 5 i Tryd.underlying22 Tryd.underlying9 hi hz hsize hby v l.length (u8L l) hown (strOfNums t) (by unfold maxLen; omega) (by omega) hbase
  unfold Oper.wp execOp
  simp only [ho, resolve, invoke, builtin, Sem.run_bind, Sem.run_pure, Result.andThen_ok, List.map_toArray, List.map_cons, List.map_nil, hs, hx, hr]
  refine h v' w' (OB.snoc rfl ?_) h3
  rw [str_cells ht, hsz] at h2
  exact h2
theorem app_str {w : World} {ops : Array Oper} {rest : List Oper} {o : Oper} {a : Act} {Q : Exit → Act → World → Prop} (hgd : o.guard = none) (sl x : Operand)
    (ho : o.op = .call { callee := .builtin .append, args := #[sl, x], argTypes := #[22, 9] })
    (base : Nat) (v : Value) (l : List Int) (hs : a.eval sl = v) (hown : OB w base v l) (s : ByteArray) (t : List Int) (ht : Byt t) (hst : strOfNums t = s) (hx : a.eval x = .string s)
    (h63 : l.length + t.length ≤ 100000000) (hbase : base ≤ w.heap.size)
    (h : ∀ v' w', OB w' base v' (l ++ t) → w.grownBy w' v.ownBlock → wpList Tryd.prog ops Q rest (a.put o.dst v') w') : wpList Tryd.prog ops Q (o :: rest) a w :=
  wpList_plain hgd fun _ hK => app_str_wp sl x ho base v l hs hown s t ht hst hx h63 hbase fun v' w' h2 h3 => hK _ _ (h v' w' h2 h3)
theorem cl_take (c : Nat → Int) (n i : Nat) (h : i < n) : (cl c n).take (i + 1) = (cl c n).take i ++ [c i] := by rw [List.take_add_one, cl_at c n i h]; rfl
theorem cl_byt {c : Nat → Int} {n : Nat} (h : Ch c n) : Byt (cl c n) := fun x hx => by
  obtain ⟨j, hj, rfl⟩ := List.mem_map.1 hx
  exact h.1 j (List.mem_range.1 hj)
/-- A row that was laid out for it. -/
theorem ob_lit (w : World) (base : Nat) (hb : base ≤ w.heap.size) (l : List Int) (h0 : l.length ≤ 1000) {A : Array Value} (hA : (u8L l).toArray = A) : OB (w.alloc (.cells A 5)) base (.slice (some ⟨w.heap.size, 0, none⟩) l.length l.length) l := by
  subst hA
  have := World.ownsRow_lit (base := base) (e := 5) (size := 1) w (u8L l).toArray l.length hb (by unfold maxLen; omega) (by simp [u8L])
  simpa [OB] using this
theorem ob_form {w : World} {base : Nat} {v : Value} {l : List Int} (h : OB w base v l) : ∃ ad c, v = .slice ad l.length c ∧ l.length ≤ c ∧ c ≤ 9223372036854775807 := by
  have hml : maxLen ≤ 9223372036854775807 := by unfold maxLen; omega
  unfold OB at h
  obtain ⟨_, ⟨rfl, h2⟩ | ⟨g, cap, cur, rfl, _, _, h3, h4, _⟩⟩ := h
  · exact ⟨none, 0, by rw [h2], by omega, by omega⟩
  · exact ⟨_, _, rfl, h3, by omega⟩
/-- One byte that was laid out for it. -/
theorem one_bc (w : World) (x : Int) : BC (w.alloc (.cells #[.int .u8 x] 5)) (some ⟨w.heap.size, 0, none⟩) 1 (cL [x]) := fun i hi => by
  obtain rfl : i = 0 := by omega
  refine ⟨_, _, rfl, ?_⟩
  have := heap_alloc_new w (.cells #[.int .u8 x] 5)
  simp only [World.cell?, this]
  rfl
theorem cl_one (x : Int) : cl (cL [x]) 1 = [x] := rfl
end Go.Proofs.YteeeekpeokgaeaaDoor
