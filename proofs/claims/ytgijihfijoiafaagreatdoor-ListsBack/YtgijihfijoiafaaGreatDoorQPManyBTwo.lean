/- ListsMany: its lists' rows. -/
import Derived.Test.YtgijihfijoiafaaGreatDoorQPSmAMany
import Derived.Test.YtgijihfijoiafaaGreatDoorQOBy
import Derived.Deep.AppendLies
namespace Go.Proofs.YtgijihfijoiafaaGreatDoor
set_option linter.unusedVariables false
open Go.RowKit Go.ChangeShapes
theorem wM_ten (i : Nat) (h : i ≤ 4096) : (10 : UInt8) ∉ wM i := sm_not (wM_sm i h) (by decide)
theorem wM_row (i : Nat) (h : i ≤ 4096) : rowB (bA (wM i ++ [10])) = bA (wM i) := by
  rw [rowB_bA, row_nl _ (sm_not (wM_sm i h) (by decide)), sm_trim (wM_sm i h) _ (by decide)]
theorem spl_in (f : Nat → List UInt8) : ∀ is : List Nat, (∀ i ∈ is, (10 : UInt8) ∉ f i) → spl (is.flatMap fun i => f i ++ [10]) = is.map fun i => f i ++ [10]
  | [], _ => rfl
  | i :: is, h => by
    rw [List.flatMap_cons, List.append_assoc, List.map_cons, ← spl_in f is (fun j hj => h j (List.mem_cons_of_mem _ hj))]
    exact spl_line (f i) _ (h i (by simp))
theorem spl_in2 (f : Nat → List UInt8) : ∀ is : List Nat, (∀ i ∈ is, (10 : UInt8) ∉ f i) → spl (is.flatMap fun i => f i ++ [10, 10]) = is.flatMap fun i => [f i ++ [10], [10]]
  | [], _ => rfl
  | i :: is, h => by
    rw [List.flatMap_cons, List.flatMap_cons, ← spl_in2 f is (fun j hj => h j (List.mem_cons_of_mem _ hj))]
    show spl (f i ++ [10, 10] ++ _) = (f i ++ [10]) :: [10] :: _
    rw [List.append_assoc]
    show spl (f i ++ 10 :: (10 :: _)) = _
    rw [spl_line (f i) _ (h i (by simp))]
    rfl
theorem sm_a : SmA [97] := fun b hb => by simp at hb; subst hb; decide
theorem many_words (same : Bool) (n : Nat) (h1 : 1 ≤ n) (h2 : n ≤ 4097) : longL (linesL (bA (bM same n))) 0 = 0 ∧ ∃ st : WSt,
    (n ≤ 4096 → runR wstep (linesL (bA (bM same n))) 0 ⟨0, []⟩ = (st, 0, 0) ∧ st.L.length = (bif same then 1 else n)) ∧ (n = 4097 → runR wstep (linesL (bA (bM same n))) 0 ⟨0, []⟩ = (st, 4, 4097)) := by
  have hten : ∀ i ∈ List.range n, (10 : UInt8) ∉ (bif same then [97] else wM i) := fun i hi => by
    have := List.mem_range.1 hi
    cases same
    · exact wM_ten i (by omega)
    · exact (by decide : (10 : UInt8) ∉ [97])
  have hl : linesL (bA (bM same n)) = (List.range n).map fun i => bA ((bif same then [97] else wM i) ++ [10]) := by
    rw [linesL_bA]
    unfold bM
    rw [spl_in (fun i => bif same then [97] else wM i) (List.range n) hten, List.map_map]
    rfl
  rw [hl]
  refine ⟨longL_none _ _ (fun t ht => ?_), ?_⟩
  · obtain ⟨i, _, rfl⟩ := List.mem_map.1 ht
    rw [bA_size]
    cases same <;> simp [wM]
  · rw [List.range_eq_range']
    cases same
    · have h := runW_many (fun i => bA (wM i)) (fun i => bA (wM i ++ [10])) wM_row (fun i hi => by rw [bA_size]; simp [wM]) (fun i hi => sm_chk (wM_sm i hi) (by simp [wM]) (by simp [wM])) (fun i hi => sm_fld (wM_sm i hi)) wM_inj n 0 (by omega) (by omega)
      by_cases hn : n ≤ 4096
      · exact ⟨_, fun _ => ⟨h.1 (by omega), by simp⟩, fun e => by omega⟩
      · exact ⟨_, fun e => absurd e hn, fun _ => h.2 (by omega)⟩
    · have h := runW_same (bA [97]) (bA ([97] ++ [10])) (by rw [rowB_bA, row_nl _ (by decide), sm_trim sm_a _ (by decide)]) (by decide) (sm_chk sm_a (by simp) (by decide)) (sm_fld sm_a) n 0 (by omega) (by omega)
      by_cases hn : n ≤ 4096
      · refine ⟨_, fun _ => ⟨h.1 (by omega), ?_⟩, fun e => by omega⟩
        rw [if_neg (by omega)]
        rfl
      · exact ⟨_, fun e => absurd e hn, fun _ => h.2 (by omega)⟩
theorem wM_arrow (i : Nat) (h : i ≤ 4096) : rowB (bA (wM i ++ [45, 62, 98] ++ [10])) = bA (wM i ++ [45, 62, 98]) := by
  have hs := wM_sm i h
  have h35 : (35 : UInt8) ∉ wM i ++ [45, 62, 98] := fun hm => (List.mem_append.1 hm).elim (sm_not hs (by decide)) (by decide)
  rw [rowB_bA, row_nl _ h35]
  congr 1
  have hd : ∀ m : List UInt8, (∀ b ∈ m, b ≠ 32 ∧ b ≠ 9 ∧ b ≠ 13 ∧ b ≠ 10) → m.dropWhile (fun b => [32, 9, 13, 10].contains b) = m := fun m hm => by
    cases m with
    | nil => rfl
    | cons b m =>
      rw [List.dropWhile_cons_of_neg]
      have := hm b (by simp)
      simp
      exact ⟨this.1, this.2.1, this.2.2.1, this.2.2.2⟩
  have ha : ∀ b ∈ wM i ++ [45, 62, 98], b ≠ 32 ∧ b ≠ 9 ∧ b ≠ 13 ∧ b ≠ 10 := fun b hb => by
    rcases List.mem_append.1 hb with hb | hb
    · exact ⟨fun e => sm_not hs (c := 32) (by decide) (by rw [← e]; exact hb), fun e => sm_not hs (c := 9) (by decide) (by rw [← e]; exact hb), fun e => sm_not hs (c := 13) (by decide) (by rw [← e]; exact hb), fun e => sm_not hs (c := 10) (by decide) (by rw [← e]; exact hb)⟩
    · simp at hb
      rcases hb with rfl | rfl | rfl <;> decide
  unfold Lib.trimS Lib.trimLeftS Lib.trimRightS
  have h1 := hd ((wM i ++ [45, 62, 98]).reverse) (fun b hb => ha b (List.mem_reverse.1 hb))
  have h2 := hd (wM i ++ [45, 62, 98]) ha
  rw [h1, List.reverse_reverse, h2]
theorem many_fixes (n : Nat) (h2 : n ≤ 4097) : longL (linesL (bA (cM n))) 0 = 0 ∧ ∃ st : FSt,
    (n ≤ 4096 → runR fstep (linesL (bA (cM n))) 0 ([], false) = (st, 0, 0) ∧ st.1.length = n) ∧ (n = 4097 → runR fstep (linesL (bA (cM n))) 0 ([], false) = (st, 4, 8193)) := by
  have hten : ∀ i ∈ List.range n, (10 : UInt8) ∉ wM i ++ [45, 62, 98] := fun i hi hm => by
    have := List.mem_range.1 hi
    exact (List.mem_append.1 hm).elim (wM_ten i (by omega)) (by decide)
  have hl : linesL (bA (cM n)) = (List.range n).flatMap fun i => [bA (wM i ++ [45, 62, 98] ++ [10]), bA [10]] := by
    rw [linesL_bA]
    unfold cM
    rw [spl_in2 (fun i => wM i ++ [45, 62, 98]) (List.range n) hten, List.map_flatMap]
    rfl
  rw [hl]
  refine ⟨longL_none _ _ (fun t ht => ?_), ?_⟩
  · obtain ⟨i, _, ht⟩ := List.mem_flatMap.1 ht
    simp only [List.mem_cons, List.not_mem_nil, or_false] at ht
    rcases ht with rfl | rfl
    · rw [bA_size]; simp [wM]
    · decide
  · rw [List.range_eq_range']
    have h := runF_many (fun i => bA (wM i)) (fun i => bA (wM i ++ [45, 62, 98] ++ [10])) (bA [10]) [bA [98]] (by rw [rowB_bA]; decide) (fun i hi => by rw [wM_arrow i hi, bA_size]; simp [wM]) (fun i hi => by rw [wM_arrow i hi]; exact entry_arrow (wM i) (wM_sm i hi) (by simp [wM]) (by simp [wM])) wM_inj n 0 (by omega) (by omega)
    by_cases hn : n ≤ 4096
    · exact ⟨_, fun _ => ⟨h.1 (by omega), by simp⟩, fun e => by omega⟩
    · exact ⟨_, fun e => absurd e hn, fun _ => h.2 (by omega)⟩
theorem u8c_of (k : Nat) (z : Int) (h : k < 256) (e : (k : Int) = z) : u8c (UInt8.ofNat k) = .int .u8 z := by
  unfold u8c
  rw [UInt8.toNat_ofNat', Nat.mod_eq_of_lt (by omega), e]
theorem wM_cells (i : Nat) (h : i ≤ 4096) : (wM i).map u8c = [.int .u8 (97 + (i : Int) % 26), .int .u8 (97 + (i : Int) / 26 % 26), .int .u8 (97 + (i : Int) / 676)] := by
  unfold wM
  rw [List.map_cons, List.map_cons, List.map_cons, List.map_nil, u8c_of _ (97 + (i : Int) % 26) (by omega) (by omega), u8c_of _ (97 + (i : Int) / 26 % 26) (by omega) (by omega), u8c_of _ (97 + (i : Int) / 676) (by omega) (by omega)]
end Go.Proofs.YtgijihfijoiafaaGreatDoor
/- Two rows of bytes, each of the call's own; where append puts them. -/
namespace Go.Proofs.YtgijihfijoiafaaGreatDoor
set_option linter.unusedVariables false
open Go.RowKit Go.ChangeShapes
theorem run_text_at {P : Program} (w : World) (base : Nat) (t u ty : TypeId) (i : TypeInfo) (ht : P.underlying t = some (.slice 5)) (hu : P.underlying u = some .string) (hi : P.info? 5 = some i) (hz : i.zero = some (.int .u8 0))
    (hsize : i.size = 1) (hby : i.bytes = 1) (v : Value) (l : List UInt8) (hown : OB w base v l) (s : ByteArray) (h0 : 0 < s.size) (h63 : l.length + s.size ≤ 1000000) (hbase : base ≤ w.heap.size) :
    ∃ g cap w', (Builtin.append_ #[t, u] ty #[v, .string s]).run P w = .ok (.slice (some ⟨g, 0, none⟩) (l.length + s.size) cap) w' ∧ OB w' base (.slice (some ⟨g, 0, none⟩) (l.length + s.size) cap) (l ++ s.data.toList) ∧ w.grownBy w' v.ownBlock ∧ (v.ownBlock = some g ∨ g = w.heap.size) := by
  have hown0 : w.ownsRow base 5 1 v l.length (l.map u8c) := hown
  obtain ⟨v', w', hr, h2, h3, _⟩ := Lib.run_append_own_string (P := P) w base t u ty 5 i ht hu hi hz hsize hby v l.length (l.map u8c) hown0 s (by unfold maxLen; omega) (by omega) hbase
  obtain ⟨g, cap, rfl, _, _⟩ := h2.form (by omega)
  have hob : OB w' base (.slice (some ⟨g, 0, none⟩) (l.length + s.size) cap) (l ++ s.data.toList) := by
    unfold OB
    rw [List.length_append, List.map_append]
    exact h2
  refine ⟨g, cap, w', hr, hob, h3, ?_⟩
  obtain ⟨hl, ⟨rfl, hn⟩ | ⟨g0, c0, cur, rfl, hg, hh, hnc, hcm, hcs, htk⟩⟩ := hown0
  · have hr2 := run_append_nil_string (P := P) w t u ty 5 i (.int .u8 0) ht hu hi hz s h0 (by omega) (by rw [hby]; omega)
    rw [hr] at hr2
    injection hr2 with e1 _
    injection e1 with e1 _ _
    injection e1 with e1
    injection e1 with e1 _ _
    exact Or.inr e1
  · by_cases hroom : l.length + s.size ≤ c0
    · have hr2 := Lib.run_append_room_string (P := P) w t u ty 5 i ht hu hi hsize g0 l.length c0 cur hh s hroom (by omega)
      rw [hr] at hr2
      injection hr2 with e1 _
      injection e1 with e1 _ _
      injection e1 with e1
      injection e1 with e1 _ _
      exact Or.inl (by rw [e1]; rfl)
    · have hown1 : w.ownsRow base 5 1 (.slice (some ⟨g0, 0, none⟩) l.length c0) l.length (l.map u8c) := ⟨hl, .inr ⟨g0, c0, cur, rfl, hg, hh, hnc, hcm, hcs, htk⟩⟩
      have hr2 := Lib.run_append_grow_string (P := P) w t u ty 5 i (.int .u8 0) ht hu hi hz ⟨g0, 0, none⟩ l.length c0 (l.map u8c) (by rw [hsize]; simp) (hown1.cells (g := g0) rfl) s (by omega) (by omega) (by rw [hby]; exact growslice_fits (by omega) (by omega))
      rw [hr] at hr2
      injection hr2 with e1 _
      injection e1 with e1 _ _
      injection e1 with e1
      injection e1 with e1 _ _
      exact Or.inr e1
theorem app_text2 {P : Program} {w : World} {ops : Array Oper} {rest : List Oper} {o : Oper} {a : Act} {Q : Exit → Act → World → Prop} (hgd : o.guard = none) (sl x : Operand) (t u : TypeId)
    (ho : o.op = .call { callee := .builtin .append, args := #[sl, x], argTypes := #[t, u] })
    (base : Nat) (i : TypeInfo) (ht : P.underlying t = some (.slice 5)) (hu : P.underlying u = some .string) (hi : P.info? 5 = some i) (hz : i.zero = some (.int .u8 0))
    (hsize : i.size = 1) (hby : i.bytes = 1)
    (v : Value) (l : List UInt8) (hs : a.eval sl = v) (hown : OB w base v l) (s : ByteArray) (hx : a.eval x = .string s) (h0 : 0 < s.size)
    (h63 : l.length + s.size ≤ 1000000) (hbase : base ≤ w.heap.size)
    (h : ∀ g cap w', OB w' base (.slice (some ⟨g, 0, none⟩) (l.length + s.size) cap) (l ++ s.data.toList) → w.grownBy w' v.ownBlock → (v.ownBlock = some g ∨ g = w.heap.size) → wpList P ops Q rest (a.put o.dst (.slice (some ⟨g, 0, none⟩) (l.length + s.size) cap)) w') : wpList P ops Q (o :: rest) a w := by
  refine wpList_plain hgd fun K hK => ?_
  obtain ⟨g, cap, w', hr, h2, h3, h4⟩ := run_text_at (P := P) w base t u o.type i ht hu hi hz hsize hby v l hown s h0 h63 hbase
  unfold Oper.wp execOp
  simp only [ho, resolve, invoke, builtin, Sem.run_bind, Sem.run_pure, Result.andThen_ok, List.map_toArray, List.map_cons, List.map_nil, hs, hx, hr]
  exact hK _ _ (h g cap w' h2 h3 h4)
/-- Append of bytes that lie elsewhere. -/
theorem app_bytes2 {P : Program} {w : World} {ops : Array Oper} {rest : List Oper} {o : Oper} {a : Act} {Q : Exit → Act → World → Prop} (hgd : o.guard = none) (sl x : Operand) (t : TypeId)
    (ho : o.op = .call { callee := .builtin .append, args := #[sl, x], argTypes := #[t, t] })
    (base : Nat) (i : TypeInfo) (ht : P.underlying t = some (.slice 5)) (hi : P.info? 5 = some i) (hz : i.zero = some (.int .u8 0))
    (hsize : i.size = 1) (hby : i.bytes = 1)
    (v : Value) (l : List UInt8) (hs : a.eval sl = v) (hown : OB w base v l) (p c : Nat) (l2 : List UInt8) (m : Nat) (hm : l2.length = m) (hx : a.eval x = .slice (some ⟨p, 0, none⟩) m c) (hsrc : Srcs w (.slice (some ⟨p, 0, none⟩) m c) m 1 (l2.map u8c)) (h0 : 0 < m)
    (h63 : l.length + m ≤ 1000000) (hbase : base ≤ w.heap.size)
    (h : ∀ g cap w', OB w' base (.slice (some ⟨g, 0, none⟩) (l.length + m) cap) (l ++ l2) → w.grownBy w' v.ownBlock → (v.ownBlock = some g ∨ g = w.heap.size) → wpList P ops Q rest (a.put o.dst (.slice (some ⟨g, 0, none⟩) (l.length + m) cap)) w') : wpList P ops Q (o :: rest) a w := by
  obtain ⟨hl, hc | ⟨b, off, c', he, hc⟩⟩ := hsrc
  · obtain ⟨_, _, he, hz⟩ := hc
    omega
  · cases he
    refine wpList_append_lies w hgd sl x t ho base 5 i (.int .u8 0) 1 1 ht hi hz hsize hby rfl (by decide) v l.length (l.map u8c) hs hown ⟨p, 0, none⟩ m c (l2.map u8c) hx hl (fun j u hu => by rw [addr_plus]; exact hc j u hu) (u8_one l2) h0 (by unfold maxLen; omega) (by omega) hbase w.heap.size rfl (fun g cap w' h2 h3 h4 _ => h g cap w' ?_ h3 h4)
    unfold OB
    rw [List.length_append, List.map_append, hm]
    exact h2
/-- Two rows of bytes that lie apart. -/
structure TwoR (w1 w : World) (vb vc : Value) (lb lc : List UInt8) : Prop where
  b : OB w w1.heap.size vb lb
  c : OB w w1.heap.size vc lc
  d : ∀ k, vb.ownBlock = some k → vc.ownBlock = some k → False
  u : Up w1.heap.size w1 w
theorem OB.lt {w : World} {base : Nat} {v : Value} {l : List UInt8} (h : OB w base v l) : ∀ k, v.ownBlock = some k → k < w.heap.size := fun k hk => (World.ownsRow.lt h k hk).2
theorem ob_kept {w w' : World} {base : Nat} {v v2 : Value} {l : List UInt8} (h : OB w base v l) (hg : w.grownBy w' v2.ownBlock) (hd : ∀ k, v.ownBlock = some k → v2.ownBlock = some k → False) : OB w' base v l := by
  refine World.ownsRow.kept h hg ?_
  cases hv : v.ownBlock with
  | none => exact Or.inl rfl
  | some k => exact Or.inr (fun e => hd k hv e.symm)
theorem TwoR.alloc {w1 w : World} {vb vc : Value} {lb lc : List UInt8} (h : TwoR w1 w vb vc lb lc) (o : Obj) : TwoR w1 (w.alloc o) vb vc lb lc :=
  ⟨World.ownsRow.alloc h.b o, World.ownsRow.alloc h.c o, h.d, h.u.alloc o⟩
theorem TwoR.growC {w1 w w' : World} {vb vc : Value} {lb lc lc' : List UInt8} {g n cap : Nat} (h : TwoR w1 w vb vc lb lc) (hg : w.grownBy w' vc.ownBlock) (ho : OB w' w1.heap.size (.slice (some ⟨g, 0, none⟩) n cap) lc') (ha : vc.ownBlock = some g ∨ g = w.heap.size) : TwoR w1 w' vb (.slice (some ⟨g, 0, none⟩) n cap) lb lc' := by
  refine ⟨ob_kept h.b hg h.d, ho, fun k h1 h2 => ?_, h.u.grown hg (own_base h.c)⟩
  have hk : g = k := by simpa [Value.ownBlock] using h2
  subst hk
  rcases ha with ha | ha
  · exact h.d g h1 ha
  · have := h.b.lt g h1
    omega
theorem TwoR.growB {w1 w w' : World} {vb vc : Value} {lb lc lb' : List UInt8} {g n cap : Nat} (h : TwoR w1 w vb vc lb lc) (hg : w.grownBy w' vb.ownBlock) (ho : OB w' w1.heap.size (.slice (some ⟨g, 0, none⟩) n cap) lb') (ha : vb.ownBlock = some g ∨ g = w.heap.size) : TwoR w1 w' (.slice (some ⟨g, 0, none⟩) n cap) vc lb' lc := by
  refine ⟨ho, ob_kept h.c hg (fun k h1 h2 => h.d k h2 h1), fun k h1 h2 => ?_, h.u.grown hg (own_base h.b)⟩
  have hk : g = k := by simpa [Value.ownBlock] using h1
  subst hk
  rcases ha with ha | ha
  · exact h.d g ha h2
  · have := h.c.lt g h2
    omega
end Go.Proofs.YtgijihfijoiafaaGreatDoor
