/- utf.Next and the reference's, of bytes wherever they lie; In, sign. -/
import Derived.Test.YteeeekpeokgaeaaDoorPkKA3
import Derived.Test.YteeeekpeokgaeaaDoorPkVRa3
import Derived.Test.YteeeekpeokgaeaaDoorgPure
import Derived.Laws.BytesArg
import Derived.WalkKit
import Derived.Below
import Derived.WalkSmall
import Derived.Deep.QuietTactic
import Derived.BigQuiet
import Derived.Deep.LoopGhost
import Derived.Deep.DeepFit
import Derived.OwnWalk
import Derived.Laws.AppendOwnNone
import Derived.Lib.ConvBytes
namespace Go.Proofs.YteeeekpeokgaeaaDoor
set_option linter.unusedVariables false
open Go.RowKit Go.ChangeShapes
theorem bc_by {w : World} {b off n : Nat} {c : Nat → Int} (hC : ∀ j, j < n → 0 ≤ c j ∧ c j < 256) (h : BC w (some ⟨b, off, none⟩) n c) : Lns.By w b off (strOfNums (cl c n)) := fun j hj => by
  have hj' : j < n := by rw [strOfNums_size, cl_len] at hj; exact hj
  obtain ⟨b', off', e, hc⟩ := h j hj'
  injection e with e
  injection e with e1 e2 _
  subst e1 e2
  rw [hc]
  have hs := (sc_list (m := cl c n) (cl_byt2 hC) rfl).2.2.1 j hj
  have hx : cL (cl c n) j = c j := cL_in (cl_at c n j hj')
  rw [hx] at hs
  rw [← hs]
  have hg : (strOfNums (cl c n)).get! j = (strOfNums (cl c n))[j]'hj := by
    show (strOfNums (cl c n)).data[j]! = (strOfNums (cl c n)).data[j]'hj
    exact getElem!_pos (strOfNums (cl c n)).data j hj
  rw [hg]
theorem unx_any {w : World} {b off n cap : Nat} {c : Nat → Int} (hT : Lns.Tabs w) (hC : ∀ j, j < n → 0 ≤ c j ∧ c j < 256) (h : BC w (some ⟨b, off, none⟩) n c) (hn : 0 < n) :
    Calls Tryd.prog 53 #[.slice (some ⟨b, off, none⟩) n cap] w fun e w' => e = .returned (.tuple #[.int .i32 (nx c n).1, .int .i64 (nx c n).2]) ∧ Below w.heap.size w w' := by
  have hs : (strOfNums (cl c n)).size = n := by rw [strOfNums_size, cl_len]
  have := Lns.next_at (strOfNums (cl c n)) 0 b off cap w (by omega) hT (bc_by hC h)
  rw [Nat.add_zero, Nat.sub_zero, hs] at this
  exact this
/-- Does a span lie in so many bytes? -/
def inB (a m : Int) (n : Nat) : Bool := decide (0 ≤ a) && decide (0 ≤ m) && decide (a ≤ (n : Int)) && decide (m ≤ (n : Int) - a)
end Go.Proofs.YteeeekpeokgaeaaDoor
/- Runes put and read again: no program in this text. -/
namespace Go.Proofs.YteeeekpeokgaeaaDoor
set_option linter.unusedVariables false
open Go.Lib
theorem enc_one {r : Int} (h0 : 0 ≤ r) (h1 : r < 128) : enc r = [r] := by
  have ho := (okR_iff r).2 (by omega)
  unfold enc; rw [if_neg (by simp [ho]), if_pos h1]
theorem enc_two {r : Int} (h0 : 128 ≤ r) (h1 : r < 2048) : enc r = [192 + r / 64, 128 + r % 64] := by
  have ho := (okR_iff r).2 (by omega)
  unfold enc; rw [if_neg (by simp [ho]), if_neg (by omega), if_pos h1]
theorem enc_three {r : Int} (h0 : 2048 ≤ r) (h1 : r < 65536) (ho : okR r = true) : enc r = [224 + r / 4096, 128 + r / 64 % 64, 128 + r % 64] := by
  unfold enc; rw [if_neg (by simp [ho]), if_neg (by omega), if_neg (by omega), if_pos h1]
theorem enc_four {r : Int} (h0 : 65536 ≤ r) (ho : okR r = true) : enc r = [240 + r / 262144, 128 + r / 4096 % 64, 128 + r / 64 % 64, 128 + r % 64] := by
  unfold enc; rw [if_neg (by simp [ho]), if_neg (by omega), if_neg (by omega), if_neg (by omega)]
def txt (R : Nat → Int) (k : Nat) : List Int := (List.range k).flatMap fun j => enc (R j)
theorem txt_succ (R : Nat → Int) (k : Nat) : txt R (k + 1) = txt R k ++ enc (R k) := by simp [txt, List.range_succ]
theorem enc_le (r : Int) : (enc r).length ≤ 4 := by
  cases ho : okR r
  · rw [enc_bad r ho]; simp
  · rw [enc_len r ho]; exact (lenR_pos r).2
theorem txt_le (R : Nat → Int) : ∀ k, (txt R k).length ≤ 4 * k
  | 0 => Nat.zero_le _
  | k + 1 => by rw [txt_succ, List.length_append]; have := txt_le R k; have := enc_le (R k); omega
theorem Sign.of {s t : ByteArray} {i j : Nat} {r : Int} (h : Sign s i r) (hn : j + lenR r ≤ t.size) (hb : ∀ m, m < lenR r → bt t (j + m) = bt s (i + m)) : Sign t j r := by
  refine ⟨h.1, hn, fun m x hx => ?_⟩
  have hm : m < lenR r := by rw [← enc_len r h.1]; exact (List.getElem?_eq_some_iff.1 hx).1
  rw [hb m hm]
  exact h.2.2 m x hx

/-! ### joined -/
def Whole (s : ByteArray) (k : Nat) : Prop := ∀ j, j < k → Sign s (pos s j) (rn s (pos s j))
theorem enc_range {r x : Int} (h : x ∈ enc r) : 0 ≤ x ∧ x < 256 := by
  cases ho : okR r
  · rw [enc_bad r ho] at h; cases h
  · have hv := (okR_iff r).1 ho
    by_cases h1 : r < 128
    · rw [enc_one (by omega) h1] at h; simp at h; omega
    by_cases h2 : r < 2048
    · rw [enc_two (by omega) h2] at h; simp at h; omega
    by_cases h3 : r < 65536
    · rw [enc_three (by omega) h3 ho] at h; simp at h; omega
    · rw [enc_four (by omega) ho] at h; simp at h; omega
theorem nums_bt {l : List Int} {i : Nat} {x : Int} (hx : l[i]? = some x) (h : 0 ≤ x ∧ x < 256) : (bt (strOfNums l) i : Int) = x := by
  obtain ⟨hi, rfl⟩ := List.getElem?_eq_some_iff.1 hx
  unfold bt
  show (((strOfNums l).data[i]!).toNat : Int) = _
  have his : i < (strOfNums l).data.size := by show i < (strOfNums l).size; rw [strOfNums_size]; exact hi
  rw [getElem!_pos _ i his]
  simp only [strOfNums, List.getElem_toArray, List.getElem_map, UInt8.toNat_ofNat']
  rw [Nat.mod_eq_of_lt (by omega)]
  omega
theorem sign_in (p q : List Int) {r : Int} (ho : okR r = true) : Sign (strOfNums (p ++ enc r ++ q)) p.length r := by
  refine ⟨ho, ?_, fun j x hx => ?_⟩
  · rw [strOfNums_size, List.length_append, List.length_append, enc_len r ho]; omega
  · have hj : j < (enc r).length := (List.getElem?_eq_some_iff.1 hx).1
    refine nums_bt ?_ (enc_range (List.mem_of_getElem? hx))
    rw [List.getElem?_append_left (by rw [List.length_append]; omega), List.getElem?_append_right (by omega)]
    rw [show p.length + j - p.length = j by omega]
    exact hx
theorem put_all (l : List Int) (hl : ∀ r, r ∈ l → okR r = true) : ∀ j, j ≤ l.length → pos (strOfNums (l.flatMap enc)) j = ((l.take j).flatMap enc).length ∧ (∀ i, i < j → Sign (strOfNums (l.flatMap enc)) (pos (strOfNums (l.flatMap enc)) i) (rn (strOfNums (l.flatMap enc)) (pos (strOfNums (l.flatMap enc)) i)))
  | 0, _ => ⟨rfl, fun i hi => absurd hi (Nat.not_lt_zero i)⟩
  | j + 1, h => by
    obtain ⟨ih, ih2⟩ := put_all l hl j (by omega)
    have hj : j < l.length := by omega
    have hok := hl l[j] (List.getElem_mem hj)
    have hs : Sign (strOfNums (l.flatMap enc)) (pos (strOfNums (l.flatMap enc)) j) l[j] := by
      rw [ih]
      have := sign_in ((l.take j).flatMap enc) ((l.drop (j + 1)).flatMap enc) hok
      have he : l.flatMap enc = (l.take j).flatMap enc ++ enc l[j] ++ (l.drop (j + 1)).flatMap enc := by
        rw [List.append_assoc, ← List.flatMap_cons, ← List.flatMap_append, ← List.drop_eq_getElem_cons hj, List.take_append_drop]
      rw [he]
      exact this
    refine ⟨?_, fun i hi => ?_⟩
    · show pos _ j + wd _ (pos _ j) = _
      rw [hs.wd, ih, ← List.take_append_getElem hj, List.flatMap_append, List.length_append]
      simp [enc_len _ hok]
    · by_cases h1 : i < j
      · exact ih2 i h1
      · obtain rfl : i = j := by omega
        rw [hs.rn]; exact hs
theorem flat_lt (l : List Int) (hl : ∀ r, r ∈ l → okR r = true) (j : Nat) (h : j < l.length) : ((l.take j).flatMap enc).length < (l.flatMap enc).length := by
  have hok := hl l[j] (List.getElem_mem h)
  have he : l.flatMap enc = (l.take j).flatMap enc ++ (enc l[j] ++ (l.drop (j + 1)).flatMap enc) := by
    rw [← List.flatMap_cons, ← List.flatMap_append, ← List.drop_eq_getElem_cons h, List.take_append_drop]
  rw [he, List.length_append, List.length_append, enc_len _ hok]
  have := (lenR_pos l[j]).1
  omega
end Go.Proofs.YteeeekpeokgaeaaDoor
/- What lies in memory. -/
namespace Go.Proofs.YteeeekpeokgaeaaDoor.Tns
set_option linter.unusedVariables false
open Go.RowKit Go.ChangeShapes
def from_ (s : ByteArray) (p : Nat) : ByteArray := ⟨s.data.extract p s.data.size⟩
theorem from_size (s : ByteArray) (p : Nat) : (from_ s p).size = s.size - p := by
  show (s.data.extract p s.data.size).size = s.data.size - p
  simp
theorem from_get (s : ByteArray) (p i : Nat) : (from_ s p).get! i = s.get! (p + i) := by
  show (s.data.extract p s.data.size)[i]! = s.data[p + i]!
  simp only [getElem!_def, Array.getElem?_extract, Nat.min_self]
  by_cases h : i < s.data.size - p
  · rw [if_pos h]
  · rw [if_neg h, Array.getElem?_eq_none (by omega)]
theorem from_decode (s : ByteArray) (p i : Nat) : Utf8.decode (from_ s p) i = Utf8.decode s (p + i) := by
  rw [Go.Lib.decode_at, Go.Lib.decode_at, from_size, from_get, from_get, from_get, from_get]
  rw [show s.size - p - i = s.size - (p + i) by omega]
  rfl
theorem own_stay {w w' : World} {base e size n : Nat} {v : Value} {xs : List Value} (h : w.ownsRow base e size v n xs) (hb : Below w.heap.size w w') : w'.ownsRow base e size v n xs := by
  obtain ⟨h1, h2 | ⟨g, cap, cur, rfl, hg, hh, h3⟩⟩ := h
  · exact ⟨h1, Or.inl h2⟩
  · refine ⟨h1, Or.inr ⟨g, cap, cur, rfl, hg, ?_, h3⟩⟩
    rw [hb.block g (Array.getElem?_eq_some_iff.1 hh).1]; exact hh
theorem own_base {w : World} {base e size n : Nat} {v : Value} {xs : List Value} (h : w.ownsRow base e size v n xs) : ∀ k, v.ownBlock = some k → base ≤ k := by
  obtain ⟨h1, ⟨rfl, _⟩ | ⟨g, cap, cur, rfl, hg, hh, h3⟩⟩ := h
  · intro k hk; cases hk
  · intro k hk; cases hk; exact hg
theorem Up.grown {B : Nat} {a w w' : World} {row : Option Nat} (h : Up B a w) (hg : w.grownBy w' row) (hr : ∀ k, row = some k → B ≤ k) : Up B a w' := ⟨h.1.grown hg h.2 hr, Nat.le_trans h.2 hg.size⟩
theorem known_any (d : Nat × Nat) (w : World) :
    Calls Tryd.prog 69 #[.int .i32 d.1, .int .i64 d.2] w fun e w' => e = .returned (.int .i32 (kn d)) ∧ w' = w := by
  obtain ⟨r, n⟩ := d
  by_cases h1 : r = 65533
  · subst h1
    by_cases h2 : n < 2
    · have hk : kn (65533, n) = -1 := by simp [kn, h2]
      have h2' : (n : Int) < 2 := by omega
      rw [hk]
      go_enter Tryd.func69, Tryd.ntmps69
      go_wp2
      go_ret
      exact ⟨rfl, rfl⟩
    · have hk : kn (65533, n) = 65533 := by simp [kn, h2]
      have h2' : ¬ (n : Int) < 2 := by omega
      rw [hk]
      go_enter Tryd.func69, Tryd.ntmps69
      go_wp2
      go_ret
      exact ⟨rfl, rfl⟩
  · have hk : kn (r, n) = r := by simp [kn, h1]
    have h1' : ¬ (r : Int) = 65533 := by omega
    rw [hk]
    go_enter Tryd.func69, Tryd.ntmps69
    go_wp2
    go_ret
    exact ⟨rfl, rfl⟩
def rcells (s : ByteArray) (k : Nat) : List Value := (List.range k).map fun j => .int .i32 (rn s (pos s j))
theorem rcells_succ (s : ByteArray) (k : Nat) : rcells s (k + 1) = rcells s k ++ [.int .i32 (rn s (pos s k))] := by
  simp [rcells, List.range_succ]
theorem info21 : (Tryd.prog.info? 21).map (fun i => (i.zero, i.size, i.bytes)) = some (some (.int .i32 0), 1, 4) := by kernel_rfl
theorem extract_from (s : ByteArray) (p : Nat) : s.extract p s.size = from_ s p := by
  apply ByteArray.ext
  rw [ByteArray.data_extract]
  rfl
theorem info5 : (Tryd.prog.info? 5).map (fun i => (i.zero, i.size, i.bytes)) = some (some (.int .u8 0), 1, 1) := by kernel_rfl
theorem app_own {P : Program} {w : World} {ops : Array Oper} {rest : List Oper} {o : Oper} {a : Act} {Q : Exit → Act → World → Prop} (hgd : o.guard = none) (s x : Operand) (t : TypeId)
    (ho : o.op = .call { callee := .builtin .append, args := #[s, x], argTypes := #[t, t] })
    (base : Nat) (e : TypeId) (i : TypeInfo) (z : Value) (size bytes : Nat) (ht : P.underlying t = some (.slice e)) (hi : P.info? e = some i) (hz : i.zero = some z)
    (hsize : i.size = size) (hby : i.bytes = bytes) (hzs : z.cells.size = size) (hsz : 0 < size)
    (v : Value) (n : Nat) (xs : List Value) (hs : a.eval s = v) (hown : w.ownsRow base e size v n xs)
    (base2 : Nat) (v2 : Value) (m : Nat) (news : List Value) (hx : a.eval x = v2) (hsrc : w.ownsRow base2 e size v2 m news) (h1 : ∀ u ∈ news, u.oneCell' = true)
    (h63 : n + m ≤ maxLen) (hbytes : (n + m) * bytes ≤ 140737488355328) (hbase : base ≤ w.heap.size)
    (h : ∀ v' w', w'.ownsRow base e size v' (n + m) (xs ++ news) → w.grownBy w' v.ownBlock → wpList P ops Q rest (a.put o.dst v') w') : wpList P ops Q (o :: rest) a w := by
  have hc := @World.ownsRow.cells _ _ _ _ _ _ _ hsrc
  obtain ⟨hl, ⟨rfl, rfl⟩ | ⟨g, cap, cur, rfl, hg, hh, h3⟩⟩ := hsrc
  · obtain rfl : news = [] := List.eq_nil_of_length_eq_zero (by simpa using hl)
    refine wpList_append_own_none hgd s x t ho base e i size ht hi v n xs hs hown hx ?_
    exact h v w (by rw [List.append_nil]; exact hown) (World.grownBy.refl _ _)
  · exact wpList_append_own w hgd s x t ho base e i z size bytes ht hi hz hsize hby hzs hsz v n xs hs hown ⟨g, 0, none⟩ m cap news hx hl (hc rfl) h1 h63 hbytes hbase (fun v' w' h2 h3 _ => h v' w' h2 h3)
def cellsOf (l : List Int) : List Value := l.map fun x => .int .u8 x
theorem cellsOf_one (l : List Int) : ∀ u ∈ cellsOf l, u.oneCell' = true := by
  intro u hu
  obtain ⟨x, _, rfl⟩ := List.mem_map.1 hu
  rfl
def Rs (w : World) (b off k : Nat) (R : Nat → Int) : Prop := ∀ i, i < k → w.cell? ⟨b, off + i, none⟩ = some (.int .i32 (R i))
theorem Rs.stay {w w' : World} {b off k : Nat} {R : Nat → Int} (h : Rs w b off k R) (hb : Below w.heap.size w w') : Rs w' b off k R :=
  fun j hj => (hb.cell (World.block_lt_of_cell? w _ (h j hj))).trans (h j hj)
def RSl (w : World) (v : Value) (k : Nat) (R : Nat → Int) : Prop := (∃ ad c, v = .slice ad 0 c ∧ k = 0) ∨ ∃ b off c, v = .slice (some ⟨b, off, none⟩) k c ∧ Rs w b off k R
theorem RSl.stay {w w' : World} {v : Value} {k : Nat} {R : Nat → Int} (h : RSl w v k R) (hb : Below w.heap.size w w') : RSl w' v k R := by
  rcases h with h | ⟨b, off, c, rfl, h⟩
  · exact Or.inl h
  · exact Or.inr ⟨b, off, c, rfl, h.stay hb⟩
theorem own_text {w : World} {base n : Nat} {v : Value} {l : List Int} (h : w.ownsRow base 5 1 v n (cellsOf l)) : (convert 22 9 v).run Tryd.prog w = .ok (.string (strOfNums l)) w := by
  have h0 := h
  obtain ⟨hl, ⟨rfl, rfl⟩ | ⟨g, cap, cur, rfl, hg, hh, h3⟩⟩ := h
  · obtain rfl : l = [] := by
      have : l.length = 0 := by simpa [cellsOf] using hl
      exact List.eq_nil_of_length_eq_zero this
    exact run_convert_bytes_nil w 22 5 Tryd.underlying22 Tryd.underlying5 0 0 9 Tryd.underlying9
  · have hln : l.length = n := by simpa [cellsOf] using hl
    refine run_convert_bytes_arg w 22 5 Tryd.underlying22 Tryd.underlying5 g 0 n cap l hln (fun i hi => ?_) 9 Tryd.underlying9
    rw [Nat.zero_add, h0.cellAt i (by omega)]
    simp [cellsOf, List.getD, List.getElem?_eq_getElem (show i < l.length by omega)]
theorem own_mono {w : World} {base base' e size n : Nat} {v : Value} {xs : List Value} (h : w.ownsRow base e size v n xs) (hb : base' ≤ base) : w.ownsRow base' e size v n xs := by
  obtain ⟨h1, h2 | ⟨g, cap, cur, rfl, hg, h3⟩⟩ := h
  · exact ⟨h1, Or.inl h2⟩
  · exact ⟨h1, Or.inr ⟨g, cap, cur, rfl, Nat.le_trans hb hg, h3⟩⟩
theorem nums_of (s : ByteArray) : strOfNums ((List.range s.size).map fun j => ((s.get! j).toNat : Int)) = s := by
  apply ByteArray.ext
  apply Array.ext'
  rw [strOfNums_data]
  apply List.ext_getElem?
  intro j
  by_cases h : j < s.size
  · have h' : j < s.data.size := h
    simp only [List.map_map, List.getElem?_map, List.getElem?_range h, Option.map_some, Function.comp_apply, Int.toNat_natCast]
    rw [Array.getElem?_toList, Array.getElem?_eq_getElem h']
    show some (UInt8.ofNat (s.data[j]!).toNat) = _
    rw [getElem!_pos s.data j h']
    simp
  · have h' : ¬ j < s.data.size := h
    rw [List.getElem?_eq_none (by simp; omega), List.getElem?_eq_none (by simp; omega)]
end Go.Proofs.YteeeekpeokgaeaaDoor.Tns
