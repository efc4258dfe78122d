/- UtfPuts. -/
import Derived.Test.YtlmpohihbdlefaaDoorLawJoins
import Derived.Test.YtlmpohihbdlefaaDoorLawBack
namespace Go.Proofs.YtlmpohihbdlefaaDoor
set_option linter.unusedVariables false
open Go.RowKit Go.ChangeShapes
theorem append_none (P : Program) (w : World) (base : Nat) (t ty e : TypeId) (i : TypeInfo) (size : Nat) (ht : P.underlying t = some (.slice e)) (hi : P.info? e = some i)
    (v : Value) (n c : Nat) (xs : List Value) (hown : w.ownsRow base e size v n xs) :
    (Builtin.append_ #[t, t] ty #[v, .slice none 0 c]).run P w = .ok v w := by
  rcases hown.2 with ⟨rfl, rfl⟩ | ⟨g, cap, cur, rfl, _, _, hnc, _⟩
  · simp [Builtin.append_, run_underlying ht, sizeOf, typeInfo, hi, Builtin.lenOf, Builtin.firstCells]
  · simp [Builtin.append_, run_underlying ht, sizeOf, typeInfo, hi, Builtin.lenOf, Builtin.firstCells, hnc, storeCells]
/-- append(own, b...), b any bytes. -/
theorem app_bsl {P : Program} {w : World} {ops : Array Oper} {rest : List Oper} {o : Oper} {a : Act} {Q : Exit → Act → World → Prop} (hgd : o.guard = none) (s x : Operand) (t : TypeId)
    (ho : o.op = .call { callee := .builtin .append, args := #[s, x], argTypes := #[t, t] })
    (base : Nat) (i : TypeInfo) (z : Value) (ht : P.underlying t = some (.slice 5)) (hi : P.info? 5 = some i) (hz : i.zero = some z)
    (hsize : i.size = 1) (hby : i.bytes = 1) (hzs : z.cells.size = 1)
    (v : Value) (n : Nat) (xs : List Value) (hs : a.eval s = v) (hown : w.ownsRow base 5 1 v n xs)
    (v2 : Value) (b : ByteArray) (hx : a.eval x = v2) (hb : BSl w v2 b)
    (h63 : n + b.size ≤ maxLen) (hbytes : (n + b.size) * 1 ≤ 140737488355328) (hbase : base ≤ w.heap.size)
    (h : ∀ v' w', w'.ownsRow base 5 1 v' (n + b.size) (xs ++ cellsOf (numsOf b)) → w.grownBy w' v.ownBlock → wpList P ops Q rest (a.put o.dst v') w') : wpList P ops Q (o :: rest) a w := by
  have hl : (cellsOf (numsOf b)).length = b.size * 1 := by simp [cellsOf, numsOf_len]
  rcases hb with ⟨ad, c, rfl, h0⟩ | ⟨g, off, c, rfl, h1, h2, hb⟩
  · have hnil : cellsOf (numsOf b) = [] := List.eq_nil_of_length_eq_zero (by rw [hl, h0])
    cases ad with
    | none =>
      refine wpList_plain hgd fun K hK => ?_
      have hrun := append_none P w base t o.type 5 i 1 ht hi v n c xs hown
      unfold Oper.wp
      simp [execOp, ho, resolve, invoke, builtin, hs, hx, hrun, Result.andThen]
      exact hK _ _ (h v w (by rw [hnil, List.append_nil, h0]; exact hown) (World.grownBy.refl _ _))
    | some ad =>
      refine wpList_append_own w hgd s x t ho base 5 i z 1 1 ht hi hz hsize hby hzs (by decide) v n xs hs hown ad 0 c [] hx rfl (fun j u hj => by simp at hj) (fun u hu => by simp at hu) (by omega) (by omega) hbase (fun v' w' h2 h3 _ => h v' w' (by rw [hnil, h0]; exact h2) h3)
  · exact wpList_append_own w hgd s x t ho base 5 i z 1 1 ht hi hz hsize hby hzs (by decide) v n xs hs hown ⟨g, off, none⟩ b.size c _ hx hl (fun j u hu => numsOf_cell hb j u hu) (cellsOf_one _) h63 hbytes hbase (fun v' w' h2 h3 _ => h v' w' h2 h3)
theorem lit5_own (w : World) : (w.alloc (.cells #[] 5)).ownsRow w.heap.size 5 1 (.slice (some ⟨w.heap.size, 0, none⟩) 0 0) 0 [] := World.ownsRow_lit w #[] 0 (Nat.le_refl _) (Nat.zero_le _) rfl
/-- The bytes at the beginning of a block of the call's own. -/
theorem bsl_part {w : World} {base n g cap : Nat} {s : ByteArray} {ys : List Value} (h : w.ownsRow base 5 1 (.slice (some ⟨g, 0, none⟩) n cap) n (cellsOf (numsOf s) ++ ys)) (hn : s.size ≤ n) (hc : n ≤ cap) : BSl w (.slice (some ⟨g, 0, none⟩) s.size cap) s := by
  by_cases h0 : s.size = 0
  · exact Or.inl ⟨_, cap, by rw [h0], h0⟩
  · refine Or.inr ⟨g, 0, cap, rfl, by omega, by omega, fun j hj => ?_⟩
    rw [Nat.zero_add, h.cellAt j (by omega), List.getElem?_append_left (by simp [cellsOf, numsOf_len]; exact hj)]
    simp only [cellsOf, List.getElem?_map, numsOf_at s j hj, Option.map_some]
    rfl
theorem nums_join (s : ByteArray) (l : List Int) : strOfNums (numsOf s ++ l) = s ++ strOfNums l := by
  apply ByteArray.ext
  apply Array.ext'
  have h := congrArg (fun x : ByteArray => x.data.toList) (nums_of s)
  simp only [strOfNums_data] at h
  rw [ByteArray.data_append, Array.toList_append, strOfNums_data, strOfNums_data, List.map_append]
  congr 1
theorem puts_big (s : ByteArray) (v : Value) (r : Int) (v2 : Value) (k : Nat) (R : Nat → Int) (w : World) (m0 : s.size ≤ maxLen) (m2 : k ≤ maxLen) (hk : 1000 < s.size ∨ 1000 < k) (hT : Tabs w) (h0 : BSl w v s) (h2 : RSl w v2 k R) :
    Calls Tryd.prog 4 #[v, .int .i32 r, v2] w fun e w' => e = .returned (.bool true) ∧ Below w.heap.size w w' := by
  obtain ⟨ad, c, rfl⟩ := h0.form
  obtain ⟨ad1, c1, rfl⟩ := h2.form
  clear h0 h2
  by_cases h5 : 1000 < s.size
  · have h5' : (1000 : Int) < (s.size : Int) := by omega
    go_enter Tryd.func4, Tryd.ntmps4
    go_wp2_with fail
    refine (awake_any _ hT).mono ?_
    rintro e w1 ⟨rfl, hb1⟩
    go_wp2
    go_ret
    exact ⟨rfl, hb1⟩
  · have h5' : ¬ (1000 : Int) < (s.size : Int) := by omega
    have h6' : (1000 : Int) < (k : Int) := by omega
    go_enter Tryd.func4, Tryd.ntmps4
    go_wp2_with fail
    refine (awake_any _ hT).mono ?_
    rintro e w1 ⟨rfl, hb1⟩
    go_wp2
    go_ret
    exact ⟨rfl, hb1⟩

set_option maxRecDepth 100000 in
set_option maxHeartbeats 4000000 in
theorem puts_no (s : ByteArray) (v : Value) (r : Int) (v2 : Value) (k : Nat) (R : Nat → Int) (w : World) (hs : s.size ≤ 1000) (hk : k ≤ 1000) (ho : okR r = false) (hT : Tabs w) (h0 : BSl w v s) (h2 : RSl w v2 k R) :
    Calls Tryd.prog 4 #[v, .int .i32 r, v2] w fun e w' => e = .returned (.bool true) ∧ Below w.heap.size w w' := by
  obtain ⟨ad, c, rfl⟩ := h0.form
  obtain ⟨ad1, c1, rfl⟩ := h2.form
  have HB : Hid (BSl w (.slice ad s.size c) s) := h0
  have HR : Hid (RSl w (.slice ad1 k c1) k R) := h2
  have HT : Hid (Tabs w) := hT
  have hs' : ¬ (1000 : Int) < (s.size : Int) := by omega
  have hk' : ¬ (1000 : Int) < (k : Int) := by omega
  have HN : Hid ((cellsOf (numsOf s)).length = s.size) := by show (cellsOf (numsOf s)).length = s.size; simp [cellsOf, numsOf_len]
  clear h0 h2 hT
  obtain ⟨i0, hi, hz0, hz1, hz2⟩ := info_parts info5
  go_enter Tryd.func4, Tryd.ntmps4
  go_wp2_with fail
  refine (awake_any _ HT.out).mono ?_
  rintro e w1 ⟨rfl, hb1⟩
  have HU1 : Hid (Up w.heap.size w w1) := (Up.refl w).stay hb1
  have HB1 : Hid (BSl w1 (.slice ad s.size c) s) := HB.out.stay hb1
  clear hb1
  go_wp2_with (at_builtin; refine app_bsl rfl _ _ 22 rfl w1.heap.size i0 _ Tryd.underlying22 hi hz0 hz1 hz2 rfl _ _ _ rfl (lit5_own _) _ s rfl (HB1.out.stay ((Below.refl _ _).alloc (Nat.le_refl _) _)) ?c3 ?c4 ?c5 ?_)
  case c3 => unfold maxLen; omega
  case c4 => omega
  case c5 => simp only [World.size_alloc]; omega
  intro v3 w3 hown3 hgr3
  have HO3 : Hid (w3.ownsRow w1.heap.size 5 1 v3 s.size (cellsOf (numsOf s))) := hown3
  have HV3 : Hid (Up w1.heap.size w1 w3) := ((Up.refl w1).alloc _).grown hgr3 (fun k hk => by cases hk; exact Nat.le_refl _)
  clear hown3 hgr3
  go_wp2_with (at_builtin; refine wpList_append_own _ rfl _ _ 22 rfl w1.heap.size 5 i0 _ 1 1 Tryd.underlying22 hi hz0 hz1 hz2 rfl (by decide) _ _ _ rfl (HO3.out.alloc _) ⟨w3.heap.size, 0, none⟩ 4 4 [.int .u8 7, .int .u8 7, .int .u8 7, .int .u8 7] rfl rfl ?c1 ?c2 ?c3 ?c4 ?c5 ?_)
  case c1 =>
    intro j u hj
    match j, hj with
    | 0, hj => simp at hj; subst hj; simp [Addr.add]
    | 1, hj => simp at hj; subst hj; simp [Addr.add]
    | 2, hj => simp at hj; subst hj; simp [Addr.add]
    | 3, hj => simp at hj; subst hj; simp [Addr.add]
    | (j + 4), hj => simp at hj
  case c2 => intro u hu; simp at hu; rcases hu with rfl; rfl
  case c3 => unfold maxLen; omega
  case c4 => omega
  case c5 => have := HV3.out.2; simp only [World.size_alloc]; omega
  intro v4 w4 hown4 hgr4 hnil4
  have HV4 : Hid (Up w1.heap.size w1 w4) := (HV3.out.alloc _).grown hgr4 (own_base HO3.out)
  obtain ⟨g, cap, hcap, rfl⟩ : ∃ g cap, s.size + 4 ≤ cap ∧ v4 = .slice (some ⟨g, 0, none⟩) (s.size + 4) cap := by
    obtain ⟨_, ⟨_, h⟩ | ⟨g, cap, cur, rfl, _, _, h, _⟩⟩ := hown4
    · omega
    · exact ⟨g, cap, h, rfl⟩
  have HO4 : Hid (w4.ownsRow w1.heap.size 5 1 (.slice (some ⟨g, 0, none⟩) (s.size + 4) cap) (s.size + 4) (cellsOf (numsOf s) ++ [.int .u8 7, .int .u8 7, .int .u8 7, .int .u8 7])) := hown4
  have HU4 : Hid (Up w.heap.size w w4) := HU1.out.stay HV4.out.1
  clear hown4 hgr4 hnil4 HO3 HV3 HV4
  have q0 : ((s.size : Nat) : Int) ≤ (cap : Int) := by omega
  have q1 : (s.size : Int) + 1 ≤ (cap : Int) := by omega
  have q2 : (s.size : Int) < (s.size : Int) + 1 := by omega
  have q3 : (0 : Int) ≤ (s.size : Int) := by omega
  go_wp2_with fail
  refine (put_no _ r _ ho).mono ?_
  rintro e w5 ⟨rfl, rfl⟩
  have HO5 := HO4
  have HU5 := HU4
  clear HO4 HU4
  go_wp2_with fail
  refine (bytes_any r _).mono ?_
  rintro e w6 ⟨vw, rfl, how, hb6⟩
  obtain ⟨a6, c6, rfl⟩ : ∃ a6 c6, vw = .slice a6 0 c6 := by
    rw [enc_bad r ho] at how
    obtain ⟨_, ⟨rfl, h0⟩ | ⟨g, cap, cur, rfl, _⟩⟩ := how
    · exact ⟨none, 0, rfl⟩
    · exact ⟨_, cap, rfl⟩
  clear how
  have HO6 : Hid (w6.ownsRow w1.heap.size 5 1 (.slice (some ⟨g, 0, none⟩) (s.size + 4) cap) (s.size + 4) (cellsOf (numsOf s) ++ [.int .u8 7, .int .u8 7, .int .u8 7, .int .u8 7])) := own_stay HO5.out hb6
  have HU6 : Hid (Up w.heap.size w w6) := HU5.out.stay hb6
  clear hb6 HO5 HU5
  have c7 : w6.cell? ⟨g, s.size, none⟩ = some (.int .u8 7) := by
    rw [HO6.out.cellAt s.size (by omega), List.getElem?_append_right (by rw [HN.out]; omega), HN.out, Nat.sub_self]
    rfl
  have c7' : w6.cell? ⟨g, 0 + s.size, none⟩ = some (.int .u8 7) := by rw [Nat.zero_add]; exact c7
  go_wp2_with fail
  refine (text_any R k _ _ (by omega) (HR.out.stay HU6.out.1)).mono ?_
  rintro e w7 ⟨rfl, hb7⟩
  have HU7 : Hid (Up w.heap.size w w7) := HU6.out.stay hb7
  clear hb7 HU6 HO6 c7 c7'
  go_wp2_with fail
  refine (rtext_any R k _ _ (by omega) (HR.out.stay HU7.out.1)).mono ?_
  rintro e w8 ⟨rfl, hb8⟩
  have HU8 : Hid (Up w.heap.size w w8) := HU7.out.stay hb8
  clear hb8 HU7
  generalize strOfNums (txt R k) = X
  go_wp2
  go_ret
  exact ⟨rfl, HU8.out.1⟩

set_option maxRecDepth 100000 in
set_option maxHeartbeats 4000000 in
theorem puts_ok (s : ByteArray) (v : Value) (r : Int) (v2 : Value) (k : Nat) (R : Nat → Int) (w : World) (hs : s.size ≤ 1000) (hk : k ≤ 1000) (ho : okR r = true) (hT : Tabs w) (h0 : BSl w v s) (h2 : RSl w v2 k R) :
    Calls Tryd.prog 4 #[v, .int .i32 r, v2] w fun e w' => e = .returned (.bool true) ∧ Below w.heap.size w w' := by
  obtain ⟨ad, c, rfl⟩ := h0.form
  obtain ⟨ad1, c1, rfl⟩ := h2.form
  have HB : Hid (BSl w (.slice ad s.size c) s) := h0
  have HR : Hid (RSl w (.slice ad1 k c1) k R) := h2
  have HT : Hid (Tabs w) := hT
  have hs' : ¬ (1000 : Int) < (s.size : Int) := by omega
  have hk' : ¬ (1000 : Int) < (k : Int) := by omega
  have HN : Hid ((cellsOf (numsOf s)).length = s.size) := by show (cellsOf (numsOf s)).length = s.size; simp [cellsOf, numsOf_len]
  clear h0 h2 hT
  obtain ⟨i0, hi, hz0, hz1, hz2⟩ := info_parts info5
  go_enter Tryd.func4, Tryd.ntmps4
  go_wp2_with fail
  refine (awake_any _ HT.out).mono ?_
  rintro e w1 ⟨rfl, hb1⟩
  have HU1 : Hid (Up w.heap.size w w1) := (Up.refl w).stay hb1
  have HB1 : Hid (BSl w1 (.slice ad s.size c) s) := HB.out.stay hb1
  clear hb1
  go_wp2_with (at_builtin; refine app_bsl rfl _ _ 22 rfl w1.heap.size i0 _ Tryd.underlying22 hi hz0 hz1 hz2 rfl _ _ _ rfl (lit5_own _) _ s rfl (HB1.out.stay ((Below.refl _ _).alloc (Nat.le_refl _) _)) ?c3 ?c4 ?c5 ?_)
  case c3 => unfold maxLen; omega
  case c4 => omega
  case c5 => simp only [World.size_alloc]; omega
  intro v3 w3 hown3 hgr3
  have HO3 : Hid (w3.ownsRow w1.heap.size 5 1 v3 s.size (cellsOf (numsOf s))) := hown3
  have HV3 : Hid (Up w1.heap.size w1 w3) := ((Up.refl w1).alloc _).grown hgr3 (fun k hk => by cases hk; exact Nat.le_refl _)
  clear hown3 hgr3
  go_wp2_with (at_builtin; refine wpList_append_own _ rfl _ _ 22 rfl w1.heap.size 5 i0 _ 1 1 Tryd.underlying22 hi hz0 hz1 hz2 rfl (by decide) _ _ _ rfl (HO3.out.alloc _) ⟨w3.heap.size, 0, none⟩ 4 4 [.int .u8 7, .int .u8 7, .int .u8 7, .int .u8 7] rfl rfl ?c1 ?c2 ?c3 ?c4 ?c5 ?_)
  case c1 =>
    intro j u hj
    match j, hj with
    | 0, hj => simp at hj; subst hj; simp [Addr.add]
    | 1, hj => simp at hj; subst hj; simp [Addr.add]
    | 2, hj => simp at hj; subst hj; simp [Addr.add]
    | 3, hj => simp at hj; subst hj; simp [Addr.add]
    | (j + 4), hj => simp at hj
  case c2 => intro u hu; simp at hu; rcases hu with rfl; rfl
  case c3 => unfold maxLen; omega
  case c4 => omega
  case c5 => have := HV3.out.2; simp only [World.size_alloc]; omega
  intro v4 w4 hown4 hgr4 hnil4
  have HV4 : Hid (Up w1.heap.size w1 w4) := (HV3.out.alloc _).grown hgr4 (own_base HO3.out)
  obtain ⟨g, cap, hcap, rfl⟩ : ∃ g cap, s.size + 4 ≤ cap ∧ v4 = .slice (some ⟨g, 0, none⟩) (s.size + 4) cap := by
    obtain ⟨_, ⟨_, h⟩ | ⟨g, cap, cur, rfl, _, _, h, _⟩⟩ := hown4
    · omega
    · exact ⟨g, cap, h, rfl⟩
  have HO4 : Hid (w4.ownsRow w1.heap.size 5 1 (.slice (some ⟨g, 0, none⟩) (s.size + 4) cap) (s.size + 4) (cellsOf (numsOf s) ++ [.int .u8 7, .int .u8 7, .int .u8 7, .int .u8 7])) := hown4
  have HU4 : Hid (Up w.heap.size w w4) := HU1.out.stay HV4.out.1
  clear hown4 hgr4 hnil4 HO3 HV3 HV4
  have q0 : ((s.size : Nat) : Int) ≤ (cap : Int) := by omega
  have q1 : (s.size : Int) + 1 ≤ (cap : Int) := by omega
  have q2 : (s.size : Int) < (s.size : Int) + 1 := by omega
  have q3 : (0 : Int) ≤ (s.size : Int) := by omega
  go_wp2_with fail
  refine (put_ok s _ r _ (by omega) ho (bsl_part HO4.out (by omega) (by omega))).mono ?_
  rintro e w5 ⟨vc, rfl, hoc, hb5⟩
  have hl4 := lenR_pos r
  have hel := enc_len r ho
  have hcl : (numsOf s ++ enc r).length = s.size + lenR r := by rw [List.length_append, numsOf_len, hel]
  obtain ⟨a5, c5, rfl⟩ : ∃ a5 c5, vc = .slice a5 (s.size + lenR r) c5 := by
    obtain ⟨_, ⟨rfl, h0⟩ | ⟨g, cap, cur, rfl, _⟩⟩ := hoc
    · omega
    · exact ⟨_, cap, by rw [hcl]⟩
  have HOC : Hid (w5.ownsRow w4.heap.size 5 1 (.slice a5 (s.size + lenR r) c5) (numsOf s ++ enc r).length (cellsOf (numsOf s ++ enc r))) := hoc
  clear hoc hcl
  have HO5 : Hid (w5.ownsRow w1.heap.size 5 1 (.slice (some ⟨g, 0, none⟩) (s.size + 4) cap) (s.size + 4) (cellsOf (numsOf s) ++ [.int .u8 7, .int .u8 7, .int .u8 7, .int .u8 7])) := own_stay HO4.out hb5
  have HU5 : Hid (Up w.heap.size w w5) := HU4.out.stay hb5
  clear hb5 HO4 HU4
  go_wp2_with fail
  refine (bytes_any r _).mono ?_
  rintro e w6 ⟨vw, rfl, how, hb6⟩
  obtain ⟨a6, c6, rfl⟩ : ∃ a6 c6, vw = .slice a6 (lenR r) c6 := by
    rw [hel] at how
    obtain ⟨_, ⟨rfl, h0⟩ | ⟨g, cap, cur, rfl, _⟩⟩ := how
    · omega
    · exact ⟨_, cap, rfl⟩
  have HOW : Hid (w6.ownsRow w5.heap.size 5 1 (.slice a6 (lenR r) c6) (enc r).length (cellsOf (enc r))) := how
  have HOC6 : Hid (w6.ownsRow w4.heap.size 5 1 (.slice a5 (s.size + lenR r) c5) (numsOf s ++ enc r).length (cellsOf (numsOf s ++ enc r))) := own_stay HOC.out hb6
  clear HOC how
  have HO6 : Hid (w6.ownsRow w1.heap.size 5 1 (.slice (some ⟨g, 0, none⟩) (s.size + 4) cap) (s.size + 4) (cellsOf (numsOf s) ++ [.int .u8 7, .int .u8 7, .int .u8 7, .int .u8 7])) := own_stay HO5.out hb6
  have HU6 : Hid (Up w.heap.size w w6) := HU5.out.stay hb6
  clear hb6 HO5 HU5
  have c7 : w6.cell? ⟨g, s.size, none⟩ = some (.int .u8 7) := by
    rw [HO6.out.cellAt s.size (by omega), List.getElem?_append_right (by rw [HN.out]; omega), HN.out, Nat.sub_self]
    rfl
  have c7' : w6.cell? ⟨g, 0 + s.size, none⟩ = some (.int .u8 7) := by rw [Nat.zero_add]; exact c7
  go_wp2_with fail
  refine (text_any R k _ _ (by omega) (HR.out.stay HU6.out.1)).mono ?_
  rintro e w7 ⟨rfl, hb7⟩
  have HU7 : Hid (Up w.heap.size w w7) := HU6.out.stay hb7
  have HOW7 : Hid (w7.ownsRow w5.heap.size 5 1 (.slice a6 (lenR r) c6) (enc r).length (cellsOf (enc r))) := own_stay HOW.out hb7
  have HOC7 : Hid (w7.ownsRow w4.heap.size 5 1 (.slice a5 (s.size + lenR r) c5) (numsOf s ++ enc r).length (cellsOf (numsOf s ++ enc r))) := own_stay HOC6.out hb7
  clear HOW HOC6
  clear hb7 HU6 HO6 c7 c7'
  go_wp2_with fail
  refine (rtext_any R k _ _ (by omega) (HR.out.stay HU7.out.1)).mono ?_
  rintro e w8 ⟨rfl, hb8⟩
  have HU8 : Hid (Up w.heap.size w w8) := HU7.out.stay hb8
  have hcv1 := own_text (w := w8) (base := w5.heap.size) (own_stay HOW7.out hb8)
  have hcv2 := own_text (w := w8) (base := w4.heap.size) (own_stay HOC7.out hb8)
  rw [nums_join] at hcv2
  have hcv3 := str_of (HB.out.stay HU8.out.1)
  have hl0 : ¬ ((lenR r : Nat) : Int) = 0 := by omega
  have hsz1 : (strOfNums (enc r)).size = lenR r := by rw [strOfNums_size, hel]
  have hsz2 : ¬ 9223372036854775807 < s.size + (strOfNums (enc r)).size := by omega
  clear hsz1
  clear HOW7 HOC7
  clear hb8 HU7
  generalize strOfNums (txt R k) = X
  go_wp2
  go_ret
  exact ⟨rfl, HU8.out.1⟩

theorem puts_all (s : ByteArray) (v : Value) (r : Int) (v2 : Value) (k : Nat) (R : Nat → Int) (w : World) (m0 : s.size ≤ maxLen) (m2 : k ≤ maxLen) (wa : (Lit.int .i32 r).wf = true) (hT : Tabs w) (h0 : BSl w v s) (h2 : RSl w v2 k R) :
    Calls Tryd.prog 4 #[v, .int .i32 r, v2] w fun e w' => e = .returned (.bool true) ∧ Below w.heap.size w w' := by
  by_cases hk : 1000 < s.size ∨ 1000 < k
  · exact puts_big s v r v2 k R w m0 m2 hk hT h0 h2
  · cases ho : okR r
    · exact puts_no s v r v2 k R w (by omega) (by omega) ho hT h0 h2
    · exact puts_ok s v r v2 k R w (by omega) (by omega) ho hT h0 h2
end Go.Proofs.YtlmpohihbdlefaaDoor
