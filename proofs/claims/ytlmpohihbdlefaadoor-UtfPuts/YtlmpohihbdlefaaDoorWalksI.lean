/- Texts. -/
import Derived.Test.YtlmpohihbdlefaaDoorWalksH
import Derived.Laws.AppendOwnNone
import Derived.Laws.BytesArg
import Derived.Lib.ConvBytes
namespace Go.Proofs.YtlmpohihbdlefaaDoor
set_option linter.unusedVariables false
open Go.RowKit Go.ChangeShapes

/-- append(own, v...), v whatever lies there (nil, too). -/
theorem app_own {P : Program} {w : World} {ops : Array Oper} {rest : List Oper} {o : Oper} {a : Act} {Q : Exit → Act → World → Prop} (hgd : o.guard = none) (s x : Operand) (t : TypeId)
    (ho : o.op = .call { callee := .builtin .append, args := #[s, x], argTypes := #[t, t] })
    (base : Nat) (e : TypeId) (i : TypeInfo) (z : Value) (size bytes : Nat) (ht : P.underlying t = some (.slice e)) (hi : P.info? e = some i) (hz : i.zero = some z)
    (hsize : i.size = size) (hby : i.bytes = bytes) (hzs : z.cells.size = size) (hsz : 0 < size)
    (v : Value) (n : Nat) (xs : List Value) (hs : a.eval s = v) (hown : w.ownsRow base e size v n xs)
    (base2 : Nat) (v2 : Value) (m : Nat) (news : List Value) (hx : a.eval x = v2) (hsrc : w.ownsRow base2 e size v2 m news) (h1 : ∀ u ∈ news, u.oneCell' = true)
    (h63 : n + m ≤ maxLen) (hbytes : (n + m) * bytes ≤ 140737488355328) (hbase : base ≤ w.heap.size)
    (h : ∀ v' w', w'.ownsRow base e size v' (n + m) (xs ++ news) → w.grownBy w' v.ownBlock → wpList P ops Q rest (a.put o.dst v') w') : wpList P ops Q (o :: rest) a w := by
  have hc := @World.ownsRow.cells _ _ _ _ _ _ _ hsrc
  obtain ⟨hl, ⟨rfl, rfl⟩ | ⟨g, cap, cur, rfl, hg, hh, h3⟩⟩ := hsrc
  · obtain rfl : news = [] := List.eq_nil_of_length_eq_zero (by simpa using hl)
    refine wpList_append_own_none hgd s x t ho base e i size ht hi v n xs hs hown hx ?_
    exact h v w (by rw [List.append_nil]; exact hown) (World.grownBy.refl _ _)
  · exact wpList_append_own w hgd s x t ho base e i z size bytes ht hi hz hsize hby hzs hsz v n xs hs hown ⟨g, 0, none⟩ m cap news hx hl (hc rfl) h1 h63 hbytes hbase (fun v' w' h2 h3 _ => h v' w' h2 h3)

/-- Bytes as cells. -/
def cellsOf (l : List Int) : List Value := l.map fun x => .int .u8 x
theorem cellsOf_one (l : List Int) : ∀ u ∈ cellsOf l, u.oneCell' = true := by
  intro u hu
  obtain ⟨x, _, rfl⟩ := List.mem_map.1 hu
  rfl
/-- The bytes of so many runes. -/
def txt (R : Nat → Int) (k : Nat) : List Int := (List.range k).flatMap fun j => enc (R j)
theorem txt_succ (R : Nat → Int) (k : Nat) : txt R (k + 1) = txt R k ++ enc (R k) := by simp [txt, List.range_succ]
theorem enc_le (r : Int) : (enc r).length ≤ 4 := by
  cases ho : okR r
  · rw [enc_bad r ho]; simp
  · rw [enc_len r ho]; exact (lenR_pos r).2
theorem txt_le (R : Nat → Int) : ∀ k, (txt R k).length ≤ 4 * k
  | 0 => Nat.zero_le _
  | k + 1 => by rw [txt_succ, List.length_append]; have := txt_le R k; have := enc_le (R k); omega
/-- So many runes lie there. -/
def Rs (w : World) (b off k : Nat) (R : Nat → Int) : Prop := ∀ i, i < k → w.cell? ⟨b, off + i, none⟩ = some (.int .i32 (R i))
theorem Rs.stay {w w' : World} {b off k : Nat} {R : Nat → Int} (h : Rs w b off k R) (hb : Below w.heap.size w w') : Rs w' b off k R :=
  fun j hj => (hb.cell (World.block_lt_of_cell? w _ (h j hj))).trans (h j hj)
/-- A slice of runes, wherever. -/
def RSl (w : World) (v : Value) (k : Nat) (R : Nat → Int) : Prop := (∃ ad c, v = .slice ad 0 c ∧ k = 0) ∨ ∃ b off c, v = .slice (some ⟨b, off, none⟩) k c ∧ Rs w b off k R
theorem RSl.stay {w w' : World} {v : Value} {k : Nat} {R : Nat → Int} (h : RSl w v k R) (hb : Below w.heap.size w w') : RSl w' v k R := by
  rcases h with h | ⟨b, off, c, rfl, h⟩
  · exact Or.inl h
  · exact Or.inr ⟨b, off, c, rfl, h.stay hb⟩
theorem rcells_at (s : ByteArray) (k i : Nat) (h : i < k) : (rcells s k)[i]? = some (.int .i32 (rn s (pos s i))) := by
  simp [rcells, List.getElem?_range h]
theorem rsl_of {w : World} {base k : Nat} {v : Value} {s : ByteArray} (h : w.ownsRow base 21 1 v k (rcells s k)) : RSl w v k fun i => rn s (pos s i) := by
  have h0 := h
  obtain ⟨hl, ⟨rfl, rfl⟩ | ⟨g, cap, cur, rfl, hg, hh, h3⟩⟩ := h
  · exact Or.inl ⟨none, 0, rfl, rfl⟩
  · refine Or.inr ⟨g, 0, cap, rfl, fun i hi => ?_⟩
    rw [Nat.zero_add, h0.cellAt i (by omega)]
    exact rcells_at s k i hi
/-- What string(b) is, of bytes of the call's own. -/
theorem own_text {w : World} {base n : Nat} {v : Value} {l : List Int} (h : w.ownsRow base 5 1 v n (cellsOf l)) : (convert 22 9 v).run Tryd.prog w = .ok (.string (strOfNums l)) w := by
  have h0 := h
  obtain ⟨hl, ⟨rfl, rfl⟩ | ⟨g, cap, cur, rfl, hg, hh, h3⟩⟩ := h
  · obtain rfl : l = [] := by
      have : l.length = 0 := by simpa [cellsOf] using hl
      exact List.eq_nil_of_length_eq_zero this
    exact run_convert_bytes_nil w 22 5 Tryd.underlying22 Tryd.underlying5 0 0 9 Tryd.underlying9
  · have hln : l.length = n := by simpa [cellsOf] using hl
    refine run_convert_bytes_arg w 22 5 Tryd.underlying22 Tryd.underlying5 g 0 n cap l hln (fun i hi => ?_) 9 Tryd.underlying9
    rw [Nat.zero_add, h0.cellAt i (by omega)]
    simp [cellsOf, List.getD, List.getElem?_eq_getElem (show i < l.length by omega)]

theorem rtext_zero (ad : Option Addr) (c : Nat) (w : World) :
    Calls Tryd.prog 14 #[.slice ad 0 c] w fun e w' => e = .returned (.string (strOfNums [])) ∧ w' = w := by
  have hcv := run_convert_bytes_nil w 22 5 Tryd.underlying22 Tryd.underlying5 0 0 9 Tryd.underlying9
  go_enter Tryd.func14, Tryd.ntmps14
  go_wp2
  go_loopg [3, 4] (0) (fun g l i wr => l = .slice none 0 0 ∧ i = .int .i64 0 ∧ wr = w)
  case atStart => exact ⟨rfl, rfl, rfl⟩
  case round =>
    obtain ⟨rfl, rfl, rfl⟩ := hrel
    go_wp2_with fail
    go_ret
    exact ⟨rfl, rfl⟩
set_option maxHeartbeats 1000000 in
theorem rtext_at (R : Nat → Int) (k b off cap : Nat) (w : World) (hk : k ≤ 5000) (hR : Rs w b off k R) :
    Calls Tryd.prog 14 #[.slice (some ⟨b, off, none⟩) k cap] w fun e w' => e = .returned (.string (strOfNums (txt R k))) ∧ Below w.heap.size w w' := by
  have HR : Hid (Rs w b off k R) := hR
  clear hR
  obtain ⟨i0, hi, hz0, hz1, hz2⟩ := info_parts info5
  go_enter Tryd.func14, Tryd.ntmps14
  go_wp2
  go_loopg [3, 4] k (fun g l i wr => ∃ j : Nat, j ≤ k ∧ g = k - j ∧ i = .int .i64 j ∧ Hid (wr.ownsRow w.heap.size 5 1 l (txt R j).length (cellsOf (txt R j))) ∧ Hid (Up w.heap.size w wr))
  case atStart => exact ⟨0, Nat.zero_le _, rfl, rfl, ⟨rfl, Or.inl ⟨rfl, rfl⟩⟩, Up.refl w⟩
  case round =>
    obtain ⟨j, hj, hg, rfl, HO, HU⟩ := hrel
    by_cases hlt : j < k
    · have z0 : (0 : Int) ≤ (j : Int) := by omega
      have z1 : (j : Int) < (k : Int) := by omega
      have hc := (HR.out.stay HU.out.1) j hlt
      have q1 := txt_le R j
      have q2 := enc_le (R j)
      go_wp2_with fail
      refine (bytes_any (R j) _).mono ?_
      rintro e w1 ⟨v, rfl, hown1, hb1⟩
      have HO1 : Hid (w1.ownsRow w.heap.size 5 1 u3 (txt R j).length (cellsOf (txt R j))) := own_stay HO.out hb1
      have HU1 : Hid (Up w.heap.size w w1) := HU.out.stay hb1
      have HV : Hid (w1.ownsRow wr.heap.size 5 1 v (enc (R j)).length (cellsOf (enc (R j)))) := hown1
      clear hb1 HO HU hown1 hc
      go_wp2_with (at_builtin; refine app_own rfl _ _ 22 rfl w.heap.size 5 i0 _ 1 1 Tryd.underlying22 hi hz0 hz1 hz2 rfl (by decide) _ _ _ rfl HO1.out _ v _ _ rfl HV.out (cellsOf_one _) ?c3 ?c4 ?c5 ?_)
      case c3 => unfold maxLen; omega
      case c4 => omega
      case c5 => exact HU1.out.2
      intro v' w2 hown2 hgr
      have HO2 : Hid (w2.ownsRow w.heap.size 5 1 v' (txt R (j + 1)).length (cellsOf (txt R (j + 1)))) := by
        show w2.ownsRow _ _ _ _ _ _
        rw [txt_succ, List.length_append, cellsOf, List.map_append]; exact hown2
      have HU2 : Hid (Up w.heap.size w w2) := HU1.out.grown hgr (own_base HO1.out)
      clear hown2 hgr HO1 HU1 HV
      go_wp2
      go_roundg (k - (j + 1))
      case measure => omega
      case rel => exact ⟨j + 1, by omega, rfl, by go_num, HO2, HU2⟩
    · obtain rfl : j = k := by omega
      have hcv := own_text HO.out
      go_wp2_with fail
      go_ret
      exact ⟨rfl, HU.out.1⟩
theorem rtext_any (R : Nat → Int) (k : Nat) (v : Value) (w : World) (hk : k ≤ 5000) (hR : RSl w v k R) :
    Calls Tryd.prog 14 #[v] w fun e w' => e = .returned (.string (strOfNums (txt R k))) ∧ Below w.heap.size w w' := by
  rcases hR with ⟨ad, c, rfl, rfl⟩ | ⟨b, off, c, rfl, h⟩
  · refine (rtext_zero ad c w).mono ?_
    rintro e w' ⟨rfl, rfl⟩
    exact ⟨rfl, Below.refl _ _⟩
  · exact rtext_at R k b off c w hk h
end Go.Proofs.YtlmpohihbdlefaaDoor
