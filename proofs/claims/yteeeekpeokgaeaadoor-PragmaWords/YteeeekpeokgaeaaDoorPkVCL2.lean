/- Lists of bytes; bytes of the call's own; texts. -/
import Derived.Test.YteeeekpeokgaeaaDoorPkVBase3
import Derived.Lib.ConvBytes
namespace Go.Proofs.YteeeekpeokgaeaaDoor
set_option linter.unusedVariables false
open Go.RowKit Go.ChangeShapes
theorem conv_bc (w : World) (t : List Int) (ht : Byt t) : BC (Lib.bytesWorld w 5 (strOfNums t)) (some ⟨w.heap.size, 0, none⟩) t.length (fun j => t.getD j 0) := fun i hi => by
  refine ⟨_, _, rfl, ?_⟩
  rw [Nat.zero_add, Lib.bytesWorld_cell w 5 (strOfNums t) i (by rw [strOfNums_size]; exact hi), strOfNums_data]
  have hx := ht t[i] (List.getElem_mem hi)
  simp [List.getD, List.getElem?_eq_getElem hi]
  omega
theorem conv_below (w : World) (s : ByteArray) : Below w.heap.size w (Lib.bytesWorld w 5 s) :=
  ⟨rfl, rfl, rfl, by rw [Lib.bytesWorld_size]; omega, fun k hk => Lib.bytesWorld_at_old w 5 s k hk⟩
def u8L (l : List Int) : List Value := l.map fun x => .int .u8 x
theorem u8L_one (l : List Int) : ∀ u ∈ u8L l, u.oneCell' = true := by
  intro u hu
  obtain ⟨x, _, rfl⟩ := List.mem_map.1 hu
  rfl
theorem own_text {w : World} {base n : Nat} {v : Value} {l : List Int} (h : w.ownsRow base 5 1 v n (u8L l)) : (convert 22 9 v).run Tryd.prog w = .ok (.string (strOfNums l)) w := by
  have h0 := h
  obtain ⟨hl, ⟨rfl, rfl⟩ | ⟨g, cap, cur, rfl, hg, hh, h3⟩⟩ := h
  · obtain rfl : l = [] := by
      have : l.length = 0 := by simpa [u8L] using hl
      exact List.eq_nil_of_length_eq_zero this
    exact run_convert_bytes_nil w 22 5 Tryd.underlying22 Tryd.underlying5 0 0 9 Tryd.underlying9
  · have hln : l.length = n := by simpa [u8L] using hl
    refine run_convert_bytes_arg w 22 5 Tryd.underlying22 Tryd.underlying5 g 0 n cap l hln (fun i hi => ?_) 9 Tryd.underlying9
    rw [Nat.zero_add, h0.cellAt i (by omega)]
    simp [u8L, List.getD, List.getElem?_eq_getElem (show i < l.length by omega)]
/-- A list's bytes. -/
def cL (l : List Int) (i : Nat) : Int := l.getD i (-1)
theorem cL_in {l : List Int} {i : Nat} {x : Int} (h : l[i]? = some x) : cL l i = x := by simp [cL, h]
theorem cL_out {l : List Int} {i : Nat} (h : l.length ≤ i) : cL l i = -1 := by simp [cL, List.getElem?_eq_none h]
theorem cL_ch {l : List Int} (h : Byt l) : Ch (cL l) l.length := ⟨fun i hi => by
  rw [cL_in (List.getElem?_eq_getElem hi)]
  exact h _ (List.getElem_mem hi), fun i hi => cL_out hi⟩
theorem cL_left (a b : List Int) {i : Nat} (h : i < a.length) : cL (a ++ b) i = cL a i := by
  rw [cL_in (List.getElem?_eq_getElem (l := a ++ b) (by rw [List.length_append]; omega)), cL_in (List.getElem?_eq_getElem h), List.getElem_append_left h]
theorem cL_right (a b : List Int) (i : Nat) : cL (a ++ b) (a.length + i) = cL b i := by
  rcases Nat.lt_or_ge i b.length with h | h
  · rw [cL_in (List.getElem?_eq_getElem h), cL_in (x := b[i]) (by rw [List.getElem?_append_right (by omega), show a.length + i - a.length = i by omega, List.getElem?_eq_getElem h])]
  · rw [cL_out h, cL_out (by rw [List.length_append]; omega)]
theorem cl_cL (l : List Int) : cl (cL l) l.length = l := by
  apply List.ext_getElem?
  intro i
  rcases Nat.lt_or_ge i l.length with h | h
  · rw [cl_at _ _ _ h, List.getElem?_eq_getElem h, cL_in (List.getElem?_eq_getElem h)]
  · rw [List.getElem?_eq_none (by rw [cl_len]; exact h), List.getElem?_eq_none h]
/-- Bytes that lie in a row of their own. -/
def OB (w : World) (base : Nat) (v : Value) (l : List Int) : Prop := w.ownsRow base 5 1 v l.length (u8L l)
theorem OB.form {w : World} {base : Nat} {v : Value} {l : List Int} (h : OB w base v l) : ∃ ad c, v = .slice ad l.length c ∧ l.length ≤ c := by
  unfold OB at h
  obtain ⟨_, ⟨rfl, h2⟩ | ⟨g, cap, cur, rfl, _, _, h3, _⟩⟩ := h
  · exact ⟨none, 0, by rw [h2], by omega⟩
  · exact ⟨_, _, rfl, h3⟩
theorem OB.stay {w w' : World} {base : Nat} {v : Value} {l : List Int} (h : OB w base v l) (hb : Below w.heap.size w w') : OB w' base v l := own_stay h hb
theorem OB.bc {w : World} {base c : Nat} {ad : Option Addr} {l : List Int} (h : OB w base (.slice ad l.length c) l) : BC w ad l.length (cL l) := fun i hi => by
  unfold OB at h
  obtain ⟨g, rfl, -, -⟩ := own_at h (by omega)
  refine ⟨g, 0, rfl, ?_⟩
  rw [Nat.zero_add, h.cellAt i (by omega)]
  simp [u8L, cL, List.getElem?_eq_getElem hi]
theorem cL_cons (x : Int) (l : List Int) (j : Nat) : cL (x :: l) (j + 1) = cL l j := by simp [cL]
theorem cL_zero (x : Int) (l : List Int) : cL (x :: l) 0 = x := by simp [cL]
theorem cL_mem {l : List Int} {i : Nat} (h : i < l.length) : cL l i ∈ l := by
  rw [cL_in (List.getElem?_eq_getElem h)]
  exact List.getElem_mem h
theorem str_bc {w : World} {ad : Option Addr} {n cap : Nat} {c : Nat → Int} (h : BC w ad n c) : (convert 22 9 (.slice ad n cap)).run Tryd.prog w = .ok (.string (strOfNums (cl c n))) w := by
  rcases Nat.eq_zero_or_pos n with h0 | h0
  · subst h0
    exact run_convert_bytes_zero w 22 5 Tryd.underlying22 Tryd.underlying5 ad cap 9 Tryd.underlying9
  · obtain ⟨b, off, rfl, hc⟩ := h.at h0
    exact run_convert_bytes_arg w 22 5 Tryd.underlying22 Tryd.underlying5 b off n cap (cl c n) (cl_len c n) (fun i hi => by rw [cl_getD c n i hi]; exact hc i hi) 9 Tryd.underlying9
/-- Texts in a row. -/
def PS (w : World) (gp : Nat) (ps : List (List Int)) : Prop := ∀ (k : Nat) (t : List Int), ps[k]? = some t → w.cell? ⟨gp, k, none⟩ = some (.string (strOfNums t))
theorem lit_ps (w : World) (l : List (List Int)) : PS (w.alloc (.cells (l.map fun t => Value.string (strOfNums t)).toArray 9)) w.heap.size l := fun k t ht => by
  have hh : (w.alloc (.cells (l.map fun t => Value.string (strOfNums t)).toArray 9)).heap[w.heap.size]? = some (.cells (l.map fun t => Value.string (strOfNums t)).toArray 9) := heap_alloc_new _ _
  simp only [World.cell?, hh]
  simp [ht]
theorem nat_mod (a b : Nat) : Int.tmod (a : Int) (b : Int) = ((a % b : Nat) : Int) := rfl
theorem nums_app (l m : List Int) : strOfNums (l ++ m) = strOfNums l ++ strOfNums m := by
  apply ByteArray.ext
  apply Array.ext'
  rw [ByteArray.data_append, Array.toList_append, strOfNums_data, strOfNums_data, strOfNums_data, List.map_append]
/-- A text as bytes of its own. -/
theorem conv_cl {w : World} {t : List Int} (ht : Byt t) : BC (Lib.bytesWorld w 5 (strOfNums t)) (some ⟨w.heap.size, 0, none⟩) t.length (cL t) :=
  (conv_bc w t ht).congr fun i hi => by simp [cL, List.getElem?_eq_getElem hi]
theorem BC.grown {w w' : World} {b off n g : Nat} {c : Nat → Int} (h : BC w (some ⟨b, off, none⟩) n c) (hg : w.grownBy w' (some g)) (hne : b ≠ g) : BC w' (some ⟨b, off, none⟩) n c := fun i hi => by
  obtain ⟨b', off', e, hc⟩ := h i hi
  injection e with e
  injection e with e1 e2 _
  subst e1 e2
  refine ⟨b, off, rfl, ?_⟩
  have hlt := World.block_lt_of_cell? w _ hc
  rw [← hc]
  simp only [World.cell?]
  rw [hg.block b hlt (fun e => hne (Option.some.inj e))]
theorem cell_grown {w w' : World} {a : Addr} {g : Nat} {v : Value} (h : w.cell? a = some v) (hg : w.grownBy w' (some g)) (hne : a.block ≠ g) : w'.cell? a = some v := by
  have hlt := World.block_lt_of_cell? w _ h
  rw [← h]
  simp only [World.cell?]
  rw [hg.block a.block hlt (fun e => hne (Option.some.inj e))]
theorem takeH {P : Program} {ops : Array Oper} {Q : Exit → Act → World → Prop} {md : Region.Mode} {S : World → Prop} {i : Nat} {oi : Oper} {v : Value} {d : Option Tmp} {fuel : Nat} {listed : Array Bool} {a : Act} {w : World} (hi : ops[i]? = some oi)
    (hs : Region.noSelect ops = true) (hf : Region.free md ops listed i = true) (hr : (Region.ready md ops listed).contains i = true) (hd : oi.dst = d)
    (hQ : ∀ c a w, Q (.panic c) (a.put d v) w → Q (.panic c) a w) (hy : YieldsIf P ops S oi v a) (hS : S w)
    (h : wpAnyH P md ops Q S fuel (listed.setIfInBounds i true) (a.put d v) w) : wpAnyH P md ops Q S (fuel + 1) listed a w := by
  subst hd
  exact wpAnyH_take hi hs hf hr hQ hy hS h
theorem stay_grown {a w w' : World} {g : Nat} (h : a.grownBy w (some g)) (hb : Below w.heap.size w w') : a.grownBy w' (some g) := grown_trans h (grown_of hb (some g))
end Go.Proofs.YteeeekpeokgaeaaDoor
/- decode: numbers, entities, escapes, plainly: no program in this text. -/
namespace Go.Proofs.YteeeekpeokgaeaaDoor
set_option linter.unusedVariables false
open Go.RowKit
/-- A digit's number; -1: it is none. -/
def dgt (x : Int) : Int := if 48 ≤ x ∧ x ≤ 57 then x - 48 else if 97 ≤ x ∧ x ≤ 102 then x - 87 else if 65 ≤ x ∧ x ≤ 70 then x - 55 else -1
theorem dgt_le (x : Int) : -1 ≤ dgt x ∧ dgt x ≤ 15 := by
  unfold dgt
  split
  · omega
  · split
    · omega
    · split <;> omega
def numG (b : Int) : List Int → Int → Int
  | [], a => a
  | x :: l, a => if dgt x < 0 ∨ b ≤ dgt x then -1 else numG b l (if a ≤ 1114111 then a * b + dgt x else a)
/-- The number that digits write; -1: they are none; if it is too great, some number that is. -/
def num (b : Int) (l : List Int) : Int := if l = [] then -1 else numG b l 0
/-- May a number be a sign? -/
def okN (x : Int) : Bool := decide (1 ≤ x) && decide (x ≤ 1114111) && (decide (x < 55296) || decide (57343 < x))
def lk (s : List Int) : Option Int :=
  if s = [97, 109, 112] then some 38 else if s = [97, 112, 111, 115] then some 39 else if s = [103, 116] then some 62 else if s = [108, 116] then some 60 else if s = [110, 98, 115, 112] then some 160 else if s = [113, 117, 111, 116] then some 34 else none
def enN (s : List Int) : Int := if s.getD 0 0 = 35 ∧ 1 < s.length then (if s.getD 1 0 = 120 ∨ s.getD 1 0 = 88 then num 16 (s.drop 2) else num 10 (s.drop 1)) else -1
def enV (s : List Int) : Option Int := match lk s with
  | some r => some r
  | none => if okN (enN s) = true then some (enN s) else none
/-- Where the first semicolon stands, among the first thirteen bytes. -/
def sc (c : Nat → Int) (n : Nat) : Nat := fs (fun j => c j == 59) (min n 13) 1
def nv (c : Nat → Int) (n : Nat) : Option (Int × Nat) := if c 0 = 38 ∧ 1 ≤ n ∧ sc c n < min n 13 then (enV (cl (fun j => c (1 + j)) (sc c n - 1))).map fun r => (r, sc c n + 1) else none
/-- An answer of Entity and Escape. -/
def ans (o : Option (Int × Nat)) : Value := match o with
  | some (r, k) => .tuple #[.int .i32 r, .int .i64 k, .bool true]
  | none => .tuple #[.int .i32 0, .int .i64 0, .bool false]
/-- How many digits an escape has. -/
def wdt (x : Int) : Nat := if x = 120 then 2 else if x = 117 then 4 else if x = 85 then 8 else 0
def shB (x : Int) : Bool := x == 34 || x == 92 || x == 36 || x == 96
def evN (c : Nat → Int) (n k : Nat) : Option (Int × Nat) := if 2 + k ≤ n ∧ okN (num 16 (cl (fun j => c (2 + j)) k)) = true then some (num 16 (cl (fun j => c (2 + j)) k), 2 + k) else none
def evI (f : Int) (c : Nat → Int) (n : Nat) (x : Int) : Option (Int × Nat) :=
  if f = 7 then (if shB x = true then some (x, 2) else none)
  else if x = 110 then some (10, 2) else if x = 114 then some (13, 2) else if x = 116 then some (9, 2)
  else if wdt x = 0 then some (x, 2) else evN c n (wdt x)
def ev (f : Int) (c : Nat → Int) (n : Nat) : Option (Int × Nat) := if 2 ≤ n ∧ c 0 = 92 ∧ c 1 ≤ 127 then evI f c n (c 1) else none
theorem ev_no {f : Int} {c : Nat → Int} {n : Nat} (h : ¬ (2 ≤ n ∧ c 0 = 92 ∧ c 1 ≤ 127)) : ev f c n = none := if_neg h
theorem ev_in {f : Int} {c : Nat → Int} {n : Nat} {x : Int} (hn : 2 ≤ n) (h0 : c 0 = 92) (h1 : c 1 = x) (hx : x ≤ 127) : ev f c n = evI f c n x := by
  unfold ev
  rw [if_pos ⟨hn, h0, by omega⟩, h1]
theorem evI_w {f : Int} (hf : f ≠ 7) (c : Nat → Int) (n : Nat) {x : Int} {k : Nat} (h : wdt x = k) (hk : k ≠ 0) : evI f c n x = evN c n k := by
  subst h
  unfold evI
  rw [if_neg hf, if_neg, if_neg, if_neg, if_neg hk]
  · intro e; rw [e] at hk; exact hk rfl
  · intro e; rw [e] at hk; exact hk rfl
  · intro e; rw [e] at hk; exact hk rfl
theorem evI_d {f : Int} (hf : f ≠ 7) (c : Nat → Int) (n : Nat) {x : Int} (h : x ≠ 110 ∧ x ≠ 114 ∧ x ≠ 116 ∧ x ≠ 120 ∧ x ≠ 117 ∧ x ≠ 85) : evI f c n x = some (x, 2) := by
  have hw : wdt x = 0 := by
    unfold wdt
    rw [if_neg h.2.2.2.1, if_neg h.2.2.2.2.1, if_neg h.2.2.2.2.2]
  unfold evI
  rw [if_neg hf, if_neg h.1, if_neg h.2.1, if_neg h.2.2.1, if_pos hw]
theorem evN_long {c : Nat → Int} {n k : Nat} (h : n < 2 + k) : evN c n k = none := by
  unfold evN
  rw [if_neg (by omega)]
theorem evN_yes {c : Nat → Int} {n k : Nat} (h : 2 + k ≤ n) (ho : okN (num 16 (cl (fun j => c (2 + j)) k)) = true) : evN c n k = some (num 16 (cl (fun j => c (2 + j)) k), 2 + k) := if_pos ⟨h, ho⟩
theorem evN_bad {c : Nat → Int} {n k : Nat} (ho : ¬ okN (num 16 (cl (fun j => c (2 + j)) k)) = true) : evN c n k = none := if_neg fun h => ho h.2
theorem numG_le {b : Int} (hb : b = 10 ∨ b = 16) : ∀ (l : List Int) (a : Int), 0 ≤ a → a ≤ 17825791 → -1 ≤ numG b l a ∧ numG b l a ≤ 17825791
  | [], a, h1, h2 => ⟨by show -1 ≤ a; omega, h2⟩
  | x :: l, a, h1, h2 => by
    by_cases hd : dgt x < 0 ∨ b ≤ dgt x
    · simp only [numG, if_pos hd]
      omega
    · simp only [numG, if_neg hd]
      have hx := dgt_le x
      by_cases ha : a ≤ 1114111
      · rw [if_pos ha]
        rcases hb with rfl | rfl
        · exact numG_le (Or.inl rfl) l _ (by omega) (by omega)
        · exact numG_le (Or.inr rfl) l _ (by omega) (by omega)
      · rw [if_neg ha]
        exact numG_le hb l a h1 h2
theorem num_le {b : Int} (hb : b = 10 ∨ b = 16) (l : List Int) : -1 ≤ num b l ∧ num b l ≤ 17825791 := by
  unfold num
  split
  · omega
  · exact numG_le hb l 0 (by decide) (by decide)
theorem cl_step (c : Nat → Int) {n j : Nat} (h : j < n) : cl (fun k => c (j + k)) (n - j) = c j :: cl (fun k => c (j + 1 + k)) (n - (j + 1)) := by
  obtain ⟨m, rfl⟩ : ∃ m, n = j + m + 1 := ⟨n - j - 1, by omega⟩
  rw [show j + m + 1 - j = m + 1 by omega, show j + m + 1 - (j + 1) = m by omega]
  unfold cl
  rw [List.range_succ_eq_map, List.map_cons, List.map_map]
  congr 1
  refine List.map_congr_left fun k _ => ?_
  show c (j + (k + 1)) = c (j + 1 + k)
  rw [Nat.add_assoc, Nat.add_comm 1 k]
theorem cl_none (c : Nat → Int) {n j : Nat} (h : n ≤ j) : cl (fun k => c (j + k)) (n - j) = [] := by
  rw [Nat.sub_eq_zero_of_le h]
  rfl
theorem numG_no {b a : Int} {c : Nat → Int} {n j : Nat} (h : j < n) (hd : dgt (c j) < 0 ∨ b ≤ dgt (c j)) : numG b (cl (fun k => c (j + k)) (n - j)) a = -1 := by
  rw [cl_step c h]
  show (if dgt (c j) < 0 ∨ b ≤ dgt (c j) then -1 else _) = _
  rw [if_pos hd]
theorem numG_yes {b a : Int} {c : Nat → Int} {n j : Nat} (h : j < n) (hd : ¬ (dgt (c j) < 0 ∨ b ≤ dgt (c j))) : numG b (cl (fun k => c (j + k)) (n - j)) a = numG b (cl (fun k => c (j + 1 + k)) (n - (j + 1))) (if a ≤ 1114111 then a * b + dgt (c j) else a) := by
  rw [cl_step c h]
  show (if dgt (c j) < 0 ∨ b ≤ dgt (c j) then -1 else _) = _
  rw [if_neg hd]
theorem numG_end {b a : Int} {c : Nat → Int} {n j : Nat} (h : n ≤ j) : numG b (cl (fun k => c (j + k)) (n - j)) a = a := by
  rw [cl_none c h]
  rfl
theorem num_cl {b : Int} {c : Nat → Int} {n : Nat} (h : 0 < n) : num b (cl c n) = numG b (cl (fun k => c (0 + k)) (n - 0)) 0 := by
  unfold num
  rw [if_neg (fun e => by have := congrArg List.length e; rw [cl_len] at this; exact absurd this (by simp; omega))]
  simp
theorem cl_drop (c : Nat → Int) {n i : Nat} (h : i ≤ n) : (cl c n).drop i = cl (fun j => c (i + j)) (n - i) := by
  apply List.ext_getElem?
  intro k
  rw [List.getElem?_drop]
  by_cases hk : k < n - i
  · rw [cl_at _ _ _ (by omega), cl_at _ _ _ hk]
  · rw [List.getElem?_eq_none (by rw [cl_len]; omega), List.getElem?_eq_none (by rw [cl_len]; omega)]
theorem nv_first {c : Nat → Int} {n : Nat} (h : n = 0 ∨ c 0 ≠ 38) : nv c n = none := by
  unfold nv
  rw [if_neg (by omega)]
theorem nv_out {c : Nat → Int} {n : Nat} (h : ∀ k, 1 ≤ k → k < min n 13 → c k ≠ 59) : nv c n = none := by
  unfold nv
  rw [if_neg]
  rintro ⟨-, h1, h2⟩
  have h3 : (c (sc c n) == 59) = true := fs_hit (P := fun j => c j == 59) h2
  exact h (sc c n) (fs_ge _ _ _) h2 (by simpa using h3)
theorem nv_hit {c : Nat → Int} {n i : Nat} (h0 : c 0 = 38) (h1 : 1 ≤ i) (hi : i < min n 13) (hc : c i = 59) (h : ∀ k, 1 ≤ k → k < i → c k ≠ 59) : nv c n = (enV (cl (fun j => c (1 + j)) (i - 1))).map fun r => (r, i + 1) := by
  have hs : sc c n = i := fs_is h1 (by omega) (fun k k1 k2 => by have := h k k1 k2; simpa using this) (fun _ => by simpa using hc)
  unfold nv
  rw [hs, if_pos ⟨h0, by omega, hi⟩]
theorem lk_no {l : List Int} (h : l ≠ [97, 109, 112] ∧ l ≠ [97, 112, 111, 115] ∧ l ≠ [103, 116] ∧ l ≠ [108, 116] ∧ l ≠ [110, 98, 115, 112] ∧ l ≠ [113, 117, 111, 116]) : enV l = if okN (enN l) = true then some (enN l) else none := by
  have : lk l = none := by
    unfold lk
    rw [if_neg h.1, if_neg h.2.1, if_neg h.2.2.1, if_neg h.2.2.2.1, if_neg h.2.2.2.2.1, if_neg h.2.2.2.2.2]
  unfold enV
  rw [this]
theorem enN_no {l : List Int} (h : l.getD 0 0 ≠ 35 ∨ l.length ≤ 1) : enN l = -1 := by
  unfold enN
  rw [if_neg (by omega)]
theorem enN_x {l : List Int} (h0 : l.getD 0 0 = 35) (h1 : 1 < l.length) (h : l.getD 1 0 = 120 ∨ l.getD 1 0 = 88) : enN l = num 16 (l.drop 2) := by
  unfold enN
  rw [if_pos ⟨h0, h1⟩, if_pos h]
theorem enN_d {l : List Int} (h0 : l.getD 0 0 = 35) (h1 : 1 < l.length) (h : ¬ (l.getD 1 0 = 120 ∨ l.getD 1 0 = 88)) : enN l = num 10 (l.drop 1) := by
  unfold enN
  rw [if_pos ⟨h0, h1⟩, if_neg h]
theorem byt_drop {l : List Int} (h : Byt l) (i : Nat) : Byt (l.drop i) := fun x hx => h x (List.mem_of_mem_drop hx)
theorem okN_le {x : Int} (h : okN x = true) : 1 ≤ x ∧ x ≤ 1114111 := by
  unfold okN at h
  simp only [Bool.and_eq_true, decide_eq_true_eq] at h
  exact h.1
end Go.Proofs.YteeeekpeokgaeaaDoor
