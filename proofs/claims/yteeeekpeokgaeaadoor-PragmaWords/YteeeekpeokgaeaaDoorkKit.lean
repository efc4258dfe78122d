/- What the walks share: bytes, texts, appends. -/
import Derived.Test.YteeeekpeokgaeaaDoorPkKS3
import Derived.Laws.AppendOwnNone
import Derived.Laws.BytesArg
import Derived.Lib.ConvBytes
import Derived.Deep.AppendLies
import Derived.Laws.MakeOwn
import Derived.Deep.RegionLaw
import Derived.Deep.DeepCutAuto
namespace Go.Proofs.YteeeekpeokgaeaaDoor.Lns
set_option linter.unusedVariables false
open Go.RowKit Go.ChangeShapes
theorem ucells_len (s : ByteArray) : ∀ k, (ucells s k).length = k * 3
  | 0 => rfl
  | k + 1 => by rw [ucells_succ, List.length_append, ucells_len s k]; simp; omega
theorem ucells_at (s : ByteArray) : ∀ k i, i < k → (ucells s k)[i * 3]? = some (.int .i32 (rn s (pos s i))) ∧ (ucells s k)[i * 3 + 1]? = some (.int .i64 (pos s i)) ∧ (ucells s k)[i * 3 + 2]? = some (.int .i64 (wd s (pos s i)))
  | 0, i, h => absurd h (Nat.not_lt_zero i)
  | k + 1, i, h => by
    have hl := ucells_len s k
    rw [ucells_succ]
    by_cases hi : i < k
    · obtain ⟨a, b, c⟩ := ucells_at s k i hi
      rw [List.getElem?_append_left (by omega), List.getElem?_append_left (by omega), List.getElem?_append_left (by omega)]
      exact ⟨a, b, c⟩
    · obtain rfl : i = k := by omega
      rw [List.getElem?_append_right (by omega), List.getElem?_append_right (by omega), List.getElem?_append_right (by omega), hl]
      rw [show i * 3 - i * 3 = 0 by omega, show i * 3 + 1 - i * 3 = 1 by omega, show i * 3 + 2 - i * 3 = 2 by omega]
      exact ⟨rfl, rfl, rfl⟩
def Us (w : World) (g k : Nat) (s : ByteArray) : Prop := ∀ i, i < k → g < w.heap.size ∧ w.cell? ⟨g, i * 3, none⟩ = some (.int .i32 (rn s (pos s i))) ∧ w.cell? ⟨g, i * 3 + 1, none⟩ = some (.int .i64 (pos s i)) ∧ w.cell? ⟨g, i * 3 + 2, none⟩ = some (.int .i64 (wd s (pos s i)))
theorem us_of {w : World} {base g k cap : Nat} {s : ByteArray} (h : w.ownsRow base 74 3 (.slice (some ⟨g, 0, none⟩) k cap) k (ucells s k)) : Us w g k s := by
  intro i hi
  obtain ⟨a, b, c⟩ := ucells_at s k i hi
  exact ⟨(h.lt g rfl).2, by rw [h.cellAt _ (by omega)]; exact a, by rw [h.cellAt _ (by omega)]; exact b, by rw [h.cellAt _ (by omega)]; exact c⟩
theorem Us.stay {w w' : World} {g k : Nat} {s : ByteArray} (h : Us w g k s) (hb : Below w.heap.size w w') : Us w' g k s := by
  intro i hi
  obtain ⟨l, a, b, c⟩ := h i hi
  exact ⟨Nat.lt_of_lt_of_le l hb.size, (hb.cell l).trans a, (hb.cell l).trans b, (hb.cell l).trans c⟩
theorem info5 : (Tryd.prog.info? 5).map (fun i => (i.zero, i.size, i.bytes)) = some (some (.int .u8 0), 1, 1) := by kernel_rfl
theorem app_own {P : Program} {w : World} {ops : Array Oper} {rest : List Oper} {o : Oper} {a : Act} {Q : Exit → Act → World → Prop} (hgd : o.guard = none) (s x : Operand) (t : TypeId)
    (ho : o.op = .call { callee := .builtin .append, args := #[s, x], argTypes := #[t, t] })
    (base : Nat) (e : TypeId) (i : TypeInfo) (z : Value) (size bytes : Nat) (ht : P.underlying t = some (.slice e)) (hi : P.info? e = some i) (hz : i.zero = some z)
    (hsize : i.size = size) (hby : i.bytes = bytes) (hzs : z.cells.size = size) (hsz : 0 < size)
    (v : Value) (n : Nat) (xs : List Value) (hs : a.eval s = v) (hown : w.ownsRow base e size v n xs)
    (base2 : Nat) (v2 : Value) (m : Nat) (news : List Value) (hx : a.eval x = v2) (hsrc : w.ownsRow base2 e size v2 m news) (h1 : ∀ u ∈ news, u.oneCell' = true)
    (h63 : n + m ≤ maxLen) (hbytes : (n + m) * bytes ≤ 140737488355328) (hbase : base ≤ w.heap.size)
    (h : ∀ v' w', w'.ownsRow base e size v' (n + m) (xs ++ news) → w.grownBy w' v.ownBlock → wpList P ops Q rest (a.put o.dst v') w') : wpList P ops Q (o :: rest) a w := by
  have hc := @World.ownsRow.cells _ _ _ _ _ _ _ hsrc
  obtain ⟨hl, ⟨rfl, rfl⟩ | ⟨g, cap, cur, rfl, hg, hh, h3⟩⟩ := hsrc
  · obtain rfl : news = [] := List.eq_nil_of_length_eq_zero (by simpa using hl)
    refine wpList_append_own_none hgd s x t ho base e i size ht hi v n xs hs hown hx ?_
    exact h v w (by rw [List.append_nil]; exact hown) (World.grownBy.refl _ _)
  · exact wpList_append_own w hgd s x t ho base e i z size bytes ht hi hz hsize hby hzs hsz v n xs hs hown ⟨g, 0, none⟩ m cap news hx hl (hc rfl) h1 h63 hbytes hbase (fun v' w' h2 h3 _ => h v' w' h2 h3)
def cellsOf (l : List Int) : List Value := l.map fun x => .int .u8 x
theorem cellsOf_one (l : List Int) : ∀ u ∈ cellsOf l, u.oneCell' = true := by
  intro u hu
  obtain ⟨x, _, rfl⟩ := List.mem_map.1 hu
  rfl
theorem own_text {w : World} {base n : Nat} {v : Value} {l : List Int} (h : w.ownsRow base 5 1 v n (cellsOf l)) : (convert 22 9 v).run Tryd.prog w = .ok (.string (strOfNums l)) w := by
  have h0 := h
  obtain ⟨hl, ⟨rfl, rfl⟩ | ⟨g, cap, cur, rfl, hg, hh, h3⟩⟩ := h
  · obtain rfl : l = [] := by
      have : l.length = 0 := by simpa [cellsOf] using hl
      exact List.eq_nil_of_length_eq_zero this
    exact run_convert_bytes_nil w 22 5 Tryd.underlying22 Tryd.underlying5 0 0 9 Tryd.underlying9
  · have hln : l.length = n := by simpa [cellsOf] using hl
    refine run_convert_bytes_arg w 22 5 Tryd.underlying22 Tryd.underlying5 g 0 n cap l hln (fun i hi => ?_) 9 Tryd.underlying9
    rw [Nat.zero_add, h0.cellAt i (by omega)]
    simp [cellsOf, List.getD, List.getElem?_eq_getElem (show i < l.length by omega)]
theorem own_mono {w : World} {base base' e size n : Nat} {v : Value} {xs : List Value} (h : w.ownsRow base e size v n xs) (hb : base' ≤ base) : w.ownsRow base' e size v n xs := by
  obtain ⟨h1, h2 | ⟨g, cap, cur, rfl, hg, h3⟩⟩ := h
  · exact ⟨h1, Or.inl h2⟩
  · exact ⟨h1, Or.inr ⟨g, cap, cur, rfl, Nat.le_trans hb hg, h3⟩⟩
theorem nums_of (s : ByteArray) : strOfNums ((List.range s.size).map fun j => ((s.get! j).toNat : Int)) = s := by
  apply ByteArray.ext
  apply Array.ext'
  rw [strOfNums_data]
  apply List.ext_getElem?
  intro j
  by_cases h : j < s.size
  · have h' : j < s.data.size := h
    simp only [List.map_map, List.getElem?_map, List.getElem?_range h, Option.map_some, Function.comp_apply, Int.toNat_natCast]
    rw [Array.getElem?_toList, Array.getElem?_eq_getElem h']
    show some (UInt8.ofNat (s.data[j]!).toNat) = _
    rw [getElem!_pos s.data j h']
    simp
  · have h' : ¬ j < s.data.size := h
    rw [List.getElem?_eq_none (by simp; omega), List.getElem?_eq_none (by simp; omega)]
theorem str_of {w : World} {v : Value} {s : ByteArray} (h : BSl w v s) : (convert 22 9 v).run Tryd.prog w = .ok (.string s) w := by
  rcases h with ⟨ad, c, rfl, h⟩ | ⟨b, off, cap, rfl, h1, h2, h⟩
  · have he : s = ByteArray.empty := by
      apply ByteArray.ext
      exact Array.eq_empty_of_size_eq_zero h
    subst he
    cases ad with
    | none => exact run_convert_bytes_nil w 22 5 Tryd.underlying22 Tryd.underlying5 0 c 9 Tryd.underlying9
    | some a =>
      rw [run_convert_bytes_string w 22 9 5 _ 0 c Tryd.underlying22 Tryd.underlying5 Tryd.underlying9, run_bytesToString w a 0 c [] (by
        have := run_loadCells_list (P := Tryd.prog) w a [] (fun j v hj => by simp at hj)
        simpa using this)]
      rfl
  · have hr := run_convert_bytes_arg w 22 5 Tryd.underlying22 Tryd.underlying5 b off s.size cap ((List.range s.size).map fun j => ((s.get! j).toNat : Int)) (by simp) (fun i hi => by
      rw [h i hi]
      simp [List.getD, List.getElem?_range hi]) 9 Tryd.underlying9
    rw [nums_of] at hr
    exact hr
theorem join_get_left (a b : ByteArray) (i : Nat) (h : i < a.size) : (a ++ b).get! i = a.get! i := by
  have h' : i < a.data.size := h
  show (a ++ b).data[i]! = a.data[i]!
  rw [ByteArray.data_append, getElem!_def, getElem!_def, Array.getElem?_append_left h']
theorem join_get_right (a b : ByteArray) (i : Nat) : (a ++ b).get! (a.size + i) = b.get! i := by
  show (a ++ b).data[a.data.size + i]! = b.data[i]!
  rw [ByteArray.data_append, getElem!_def, getElem!_def, Array.getElem?_append_right (by omega)]
  rw [show a.data.size + i - a.data.size = i by omega]
theorem join_size (a b : ByteArray) : (a ++ b).size = a.size + b.size := by
  show (a ++ b).data.size = a.data.size + b.data.size
  rw [ByteArray.data_append, Array.size_append]
theorem nums_bt {l : List Int} {i : Nat} {x : Int} (hx : l[i]? = some x) (h : 0 ≤ x ∧ x < 256) : (bt (strOfNums l) i : Int) = x := by
  obtain ⟨hi, rfl⟩ := List.getElem?_eq_some_iff.1 hx
  unfold bt
  show (((strOfNums l).data[i]!).toNat : Int) = _
  have his : i < (strOfNums l).data.size := by show i < (strOfNums l).size; rw [strOfNums_size]; exact hi
  rw [getElem!_pos _ i his]
  simp only [strOfNums, List.getElem_toArray, List.getElem_map, UInt8.toNat_ofNat']
  rw [Nat.mod_eq_of_lt (by omega)]
  omega
def numsOf (s : ByteArray) : List Int := (List.range s.size).map fun j => ((s.get! j).toNat : Int)
theorem numsOf_len (s : ByteArray) : (numsOf s).length = s.size := by simp [numsOf]
theorem numsOf_at (s : ByteArray) (i : Nat) (h : i < s.size) : (numsOf s)[i]? = some (bt s i : Int) := by
  simp [numsOf, List.getElem?_range h, bt]
theorem cut_right (s : ByteArray) (k : Nat) : ∀ j, pos s (k + j) = pos s k + pos (from_ s (pos s k)) j
  | 0 => rfl
  | j + 1 => by
    have ih := cut_right s k j
    rw [← Nat.add_assoc]
    simp only [pos]
    unfold wd
    rw [ih, from_decode, Nat.add_assoc]
theorem cut_right_same (s : ByteArray) (k j : Nat) : rn (from_ s (pos s k)) (pos (from_ s (pos s k)) j) = rn s (pos s (k + j)) ∧ wd (from_ s (pos s k)) (pos (from_ s (pos s k)) j) = wd s (pos s (k + j)) := by
  rw [cut_right s k j]
  unfold rn wd
  rw [from_decode]
  exact ⟨rfl, rfl⟩
theorem cut_right_ends (s : ByteArray) {n k : Nat} (he : Ends s n) (hk : k ≤ n) : Ends (from_ s (pos s k)) (n - k) := by
  have h0 := cut_right s k (n - k)
  rw [show k + (n - k) = n by omega, he.1] at h0
  refine ⟨by rw [from_size]; omega, fun j hj => ?_⟩
  have h1 := cut_right s k j
  have h2 := he.2 (k + j) (by omega)
  rw [from_size]
  omega
theorem numsOf_cell {w : World} {b off : Nat} {s : ByteArray} (h : By w b off s) (j : Nat) (u : Value) (hu : (cellsOf (numsOf s))[j]? = some u) : w.cell? ((⟨b, off, none⟩ : Addr).add j) = some u := by
  have hj : j < s.size := by
    have := (List.getElem?_eq_some_iff.1 hu).1
    simpa [cellsOf, numsOf_len] using this
  have hadd : (⟨b, off, none⟩ : Addr).add j = ⟨b, off + j, none⟩ := by unfold Addr.add; split <;> simp_all
  rw [hadd, h j hj, ← hu]
  simp only [cellsOf, List.getElem?_map, numsOf_at s j hj, Option.map_some]
  rfl
theorem bsl_own {w : World} {base n : Nat} {v : Value} {l : List Int} (h : w.ownsRow base 5 1 v n (cellsOf l)) (hr : ∀ x, x ∈ l → 0 ≤ x ∧ x < 256) : BSl w v (strOfNums l) := by
  have h0 := h
  obtain ⟨hl, ⟨rfl, rfl⟩ | ⟨g, cap, cur, rfl, hg, hh, h3, _⟩⟩ := h
  · refine Or.inl ⟨none, 0, rfl, ?_⟩
    rw [strOfNums_size]
    simpa [cellsOf] using hl
  · have hln : l.length = n := by simpa [cellsOf] using hl
    have hsz : (strOfNums l).size = n := by rw [strOfNums_size, hln]
    by_cases hz : n = 0
    · subst hz
      exact Or.inl ⟨_, _, rfl, hsz⟩
    · refine Or.inr ⟨g, 0, cap, by rw [hsz], by omega, by omega, fun j hj => ?_⟩
      have hj' : j < l.length := by omega
      rw [Nat.zero_add, h0.cellAt j (by omega)]
      have hb := nums_bt (List.getElem?_eq_getElem hj') (hr _ (List.getElem_mem hj'))
      simp only [cellsOf, List.getElem?_map, List.getElem?_eq_getElem hj', Option.map_some]
      unfold bt at hb
      rw [hb]
theorem BSl.form {w : World} {v : Value} {s : ByteArray} (h : BSl w v s) : ∃ ad c, v = .slice ad s.size c := by
  rcases h with ⟨ad, c, rfl, h⟩ | ⟨b, off, c, rfl, _⟩
  · exact ⟨ad, c, by rw [h]⟩
  · exact ⟨_, c, rfl⟩
theorem toList_inj {x y : ByteArray} (h : x.toList = y.toList) : x = y := by
  rw [Lib.toList_data, Lib.toList_data] at h
  exact ByteArray.ext (Array.ext' h)
theorem append_none (P : Program) (w : World) (base : Nat) (t ty e : TypeId) (i : TypeInfo) (size : Nat) (ht : P.underlying t = some (.slice e)) (hi : P.info? e = some i)
    (v : Value) (n c : Nat) (xs : List Value) (hown : w.ownsRow base e size v n xs) :
    (Builtin.append_ #[t, t] ty #[v, .slice none 0 c]).run P w = .ok v w := by
  rcases hown.2 with ⟨rfl, rfl⟩ | ⟨g, cap, cur, rfl, _, _, hnc, _⟩
  · simp [Builtin.append_, run_underlying ht, sizeOf, typeInfo, hi, Builtin.lenOf, Builtin.firstCells]
  · simp [Builtin.append_, run_underlying ht, sizeOf, typeInfo, hi, Builtin.lenOf, Builtin.firstCells, hnc, storeCells]
theorem app_bsl {P : Program} {w : World} {ops : Array Oper} {rest : List Oper} {o : Oper} {a : Act} {Q : Exit → Act → World → Prop} (hgd : o.guard = none) (s x : Operand) (t : TypeId)
    (ho : o.op = .call { callee := .builtin .append, args := #[s, x], argTypes := #[t, t] })
    (base : Nat) (i : TypeInfo) (z : Value) (ht : P.underlying t = some (.slice 5)) (hi : P.info? 5 = some i) (hz : i.zero = some z)
    (hsize : i.size = 1) (hby : i.bytes = 1) (hzs : z.cells.size = 1)
    (v : Value) (n : Nat) (xs : List Value) (hs : a.eval s = v) (hown : w.ownsRow base 5 1 v n xs)
    (v2 : Value) (b : ByteArray) (hx : a.eval x = v2) (hb : BSl w v2 b)
    (h63 : n + b.size ≤ maxLen) (hbytes : (n + b.size) * 1 ≤ 140737488355328) (hbase : base ≤ w.heap.size)
    (h : ∀ v' w', w'.ownsRow base 5 1 v' (n + b.size) (xs ++ cellsOf (numsOf b)) → w.grownBy w' v.ownBlock → wpList P ops Q rest (a.put o.dst v') w') : wpList P ops Q (o :: rest) a w := by
  have hl : (cellsOf (numsOf b)).length = b.size * 1 := by simp [cellsOf, numsOf_len]
  rcases hb with ⟨ad, c, rfl, h0⟩ | ⟨g, off, c, rfl, h1, h2, hb⟩
  · have hnil : cellsOf (numsOf b) = [] := List.eq_nil_of_length_eq_zero (by rw [hl, h0])
    cases ad with
    | none =>
      refine wpList_plain hgd fun K hK => ?_
      have hrun := append_none P w base t o.type 5 i 1 ht hi v n c xs hown
      unfold Oper.wp
      simp [execOp, ho, resolve, invoke, builtin, hs, hx, hrun, Result.andThen]
      exact hK _ _ (h v w (by rw [hnil, List.append_nil, h0]; exact hown) (World.grownBy.refl _ _))
    | some ad =>
      refine wpList_append_own w hgd s x t ho base 5 i z 1 1 ht hi hz hsize hby hzs (by decide) v n xs hs hown ad 0 c [] hx rfl (fun j u hj => by simp at hj) (fun u hu => by simp at hu) (by omega) (by omega) hbase (fun v' w' h2 h3 _ => h v' w' (by rw [hnil, h0]; exact h2) h3)
  · exact wpList_append_own w hgd s x t ho base 5 i z 1 1 ht hi hz hsize hby hzs (by decide) v n xs hs hown ⟨g, off, none⟩ b.size c _ hx hl (fun j u hu => numsOf_cell hb j u hu) (cellsOf_one _) h63 hbytes hbase (fun v' w' h2 h3 _ => h v' w' h2 h3)
theorem lit5_own (w : World) : (w.alloc (.cells #[] 5)).ownsRow w.heap.size 5 1 (.slice (some ⟨w.heap.size, 0, none⟩) 0 0) 0 [] := World.ownsRow_lit w #[] 0 (Nat.le_refl _) (Nat.zero_le _) rfl
theorem bsl_part {w : World} {base n g cap : Nat} {s : ByteArray} {ys : List Value} (h : w.ownsRow base 5 1 (.slice (some ⟨g, 0, none⟩) n cap) n (cellsOf (numsOf s) ++ ys)) (hn : s.size ≤ n) (hc : n ≤ cap) : BSl w (.slice (some ⟨g, 0, none⟩) s.size cap) s := by
  by_cases h0 : s.size = 0
  · exact Or.inl ⟨_, cap, by rw [h0], h0⟩
  · refine Or.inr ⟨g, 0, cap, rfl, by omega, by omega, fun j hj => ?_⟩
    rw [Nat.zero_add, h.cellAt j (by omega), List.getElem?_append_left (by simp [cellsOf, numsOf_len]; exact hj)]
    simp only [cellsOf, List.getElem?_map, numsOf_at s j hj, Option.map_some]
    rfl
theorem nums_join (s : ByteArray) (l : List Int) : strOfNums (numsOf s ++ l) = s ++ strOfNums l := by
  apply ByteArray.ext
  apply Array.ext'
  have h := congrArg (fun x : ByteArray => x.data.toList) (nums_of s)
  simp only [strOfNums_data] at h
  rw [ByteArray.data_append, Array.toList_append, strOfNums_data, strOfNums_data, List.map_append]
  congr 1
/-- A piece of bytes. -/
def sub (s : ByteArray) (p q : Nat) : ByteArray := ⟨s.data.extract p q⟩
theorem sub_size (s : ByteArray) (p q : Nat) (h : q ≤ s.size) : (sub s p q).size = q - p := by
  have h' : q ≤ s.data.size := h
  show (s.data.extract p q).size = q - p
  simp; omega
theorem sub_get (s : ByteArray) (p q i : Nat) (h : q ≤ s.size) (hi : i < q - p) : (sub s p q).get! i = s.get! (p + i) := by
  have h' : q ≤ s.data.size := h
  show (s.data.extract p q)[i]! = s.data[p + i]!
  simp only [getElem!_def, Array.getElem?_extract]
  rw [if_pos (by omega)]
theorem bsl_sub {w : World} {b off c : Nat} {s : ByteArray} (h : By w b off s) (p q : Nat) (hpq : p < q) (hq : q ≤ s.size) (hc : q - p ≤ c) : BSl w (.slice (some ⟨b, off + p, none⟩) (q - p) c) (sub s p q) := by
  have hz := sub_size s p q hq
  refine Or.inr ⟨b, off + p, c, by rw [hz], by omega, by omega, fun j hj => ?_⟩
  rw [hz] at hj
  rw [sub_get s p q j hq hj, Nat.add_assoc]
  exact h (p + j) (by omega)
/-- A line's text. -/
def line (s : ByteArray) (j : Nat) : ByteArray := sub s (S s j) (S s (j + 1))
theorem line_size (s : ByteArray) (j : Nat) : (line s j).size = S s (j + 1) - S s j := sub_size s _ _ (S_le s _)
/-- So many texts as cells. -/
def tcells (F : Nat → ByteArray) (k : Nat) : List Value := (List.range k).map fun j => .string (F j)
theorem tcells_succ (F : Nat → ByteArray) (k : Nat) : tcells F (k + 1) = tcells F k ++ [.string (F k)] := by simp [tcells, List.range_succ]
theorem tcells_len (F : Nat → ByteArray) (k : Nat) : (tcells F k).length = k := by simp [tcells]
theorem tcells_at (F : Nat → ByteArray) (k i : Nat) (h : i < k) : (tcells F k)[i]? = some (.string (F i)) := by simp [tcells, List.getElem?_range h]
theorem tcells_one (F : Nat → ByteArray) (k : Nat) : ∀ u ∈ tcells F k, u.oneCell' = true := by
  intro u hu
  obtain ⟨x, _, rfl⟩ := List.mem_map.1 hu
  rfl
theorem info9 : (Tryd.prog.info? 9).map (fun i => (i.zero, i.size, i.bytes)) = some (some (.string ByteArray.empty), 1, 16) := by kernel_rfl
theorem info3 : (Tryd.prog.info? 3).map (fun i => (i.zero, i.size, i.bytes)) = some (some (.int .i64 0), 1, 8) := by kernel_rfl
theorem one_new (w : World) (u : Value) (t : TypeId) : ∀ j x, [u][j]? = some x → (w.alloc (.cells #[u] t)).cell? ((⟨w.heap.size, 0, none⟩ : Addr).add j) = some x := by
  intro j x hj
  match j, hj with
  | 0, hj => simp at hj; subst hj; simp [Addr.add]
  | (j + 1), hj => simp at hj
theorem one_one (u : Value) (h : u.oneCell' = true) : ∀ x ∈ [u], x.oneCell' = true := by
  intro x hx; simp at hx; rw [hx]; exact h
end Go.Proofs.YteeeekpeokgaeaaDoor.Lns
