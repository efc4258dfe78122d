/- utf.Runes; utf.Text. -/
import Derived.Test.YteeeekpeokgaeaaDoorPkUShelfD2
import Derived.Test.YteeeekpeokgaeaaDoorPkVNx3
import Derived.Test.YteeeekpeokgaeaaDoorPkVBase3
namespace Go.Proofs.YteeeekpeokgaeaaDoor.Tns
set_option linter.unusedVariables false
open Go.RowKit Go.ChangeShapes
abbrev Tabs (w : World) : Prop := Lib.Utf8Tabs 1 2 w
theorem tabs_stay {w w' : World} (h : Tabs w) (hb : Below w.heap.size w w') : Tabs w' :=
  ⟨fun c hc => (hb.cell (World.block_lt_of_cell? w _ (h.1 c hc))).trans (h.1 c hc),
   fun i hi => ⟨(hb.cell (World.block_lt_of_cell? w _ (h.2 i hi).1)).trans (h.2 i hi).1, (hb.cell (World.block_lt_of_cell? w _ (h.2 i hi).2)).trans (h.2 i hi).2⟩⟩
theorem from_decodeGo (s : ByteArray) (p : Nat) (h : p < s.size) : Lib.decodeGo (from_ s p) = Utf8.decode s p := by
  unfold Lib.decodeGo
  rw [if_neg (by rw [from_size]; omega), from_decode, Nat.add_zero]
theorem dec_string (s : ByteArray) (p : Nat) (w : World) (hp : p < s.size) (hT : Tabs w) :
    Calls Tryd.prog 75 #[.string (s.extract p s.size)] w fun e w' => e = .returned (.tuple #[.int .i32 (Utf8.decode s p).1, .int .i64 (Utf8.decode s p).2]) ∧ Below w.heap.size w w' := by
  have c := Tryd.utf8_DecodeRuneInString (s.extract p s.size) w hT
  rw [show Lib.decodeGo (s.extract p s.size) = Utf8.decode s p by rw [extract_from]; exact from_decodeGo s p hp] at c
  exact c
set_option maxHeartbeats 1000000 in
theorem runes_any (s : ByteArray) (w : World) (hn : s.size ≤ 2000000) (hT : Tabs w) :
    Calls Tryd.prog 60 #[.string s] w fun e w' => ∃ k v, e = .returned v ∧ Ends s k ∧ w'.ownsRow w.heap.size 21 1 v k (rcells s k) ∧ Below w.heap.size w w' := by
  have HT : Hid (Tabs w) := hT
  clear hT
  obtain ⟨i0, hi, hz0, hz1, hz2⟩ := info_parts info21
  go_enter Tryd.func60, Tryd.ntmps60
  go_wp2
  go_loopg [3, 4] (s.size) (fun g l i wr => ∃ k, g = s.size - pos s k ∧ i = .int .i64 (pos s k) ∧ Hid (∀ j, j < k → pos s j < s.size) ∧ Hid (wr.ownsRow w.heap.size 21 1 l k (rcells s k)) ∧ Hid (Up w.heap.size w wr))
  case atStart => exact ⟨0, rfl, rfl, fun j hj => absurd hj (Nat.not_lt_zero j), ⟨rfl, Or.inl ⟨rfl, rfl⟩⟩, Up.refl w⟩
  case round =>
    obtain ⟨k, hg, rfl, HP, HO, HU⟩ := hrel
    have hle := pos_le s k HP.out
    by_cases hlt : pos s k < s.size
    · have z0 : (0 : Int) ≤ (pos s k : Int) := by omega
      have z1 : ((pos s k : Nat) : Int) < (s.size : Int) := by omega
      have z2 : ((pos s k : Nat) : Int) ≤ (s.size : Int) := by omega
      obtain ⟨y1, y2, y3⟩ := wd_pos s (pos s k) hlt
      have hk := pos_ge s k HP.out
      have c24 := dec_string s (pos s k) wr hlt (tabs_stay HT.out HU.out.1)
      go_wp2_with fail
      refine c24.mono ?_
      rintro e w1 ⟨rfl, hb1⟩
      have HO1 : Hid (w1.ownsRow w.heap.size 21 1 u3 k (rcells s k)) := own_stay HO.out hb1
      have HU1 : Hid (Up w.heap.size w w1) := HU.out.stay hb1
      clear hb1 c24 HO HU
      go_wp2_with fail
      refine (known_any (Utf8.decode s (pos s k)) _).mono ?_
      rintro e w2 ⟨rfl, rfl⟩
      go_wp2_with (at_builtin; refine wpList_append_own _ rfl _ _ 79 rfl w.heap.size 21 i0 _ 1 4 Tryd.underlying79 hi hz0 hz1 hz2 rfl (by decide) _ _ _ rfl (HO1.out.alloc _) ⟨w2.heap.size, 0, none⟩ 1 1 [.int .i32 (rn s (pos s k))] rfl rfl ?c1 ?c2 ?c3 ?c4 ?c5 ?_)
      case c1 =>
        intro j u hj
        match j, hj with
        | 0, hj => simp at hj; subst hj; simp [Addr.add, rn]
        | (j + 1), hj => simp at hj
      case c2 => intro u hu; simp at hu; rcases hu with rfl; rfl
      case c3 => unfold maxLen; omega
      case c4 => omega
      case c5 => have := HU1.out.2; simp only [World.size_alloc]; omega
      intro v' w3 hown2 hgr hnil
      have HO2 : Hid (w3.ownsRow w.heap.size 21 1 v' (k + 1) (rcells s (k + 1))) := by
        show w3.ownsRow _ _ _ _ _ _
        rw [rcells_succ]; exact hown2
      have HU2 : Hid (Up w.heap.size w w3) := (HU1.out.alloc _).grown hgr (own_base HO1.out)
      clear hown2 hgr hnil HO1 HU1
      have hw : (Utf8.decode s (pos s k)).2 = wd s (pos s k) := rfl
      rw [hw]
      go_wp2
      go_roundg (s.size - pos s (k + 1))
      case measure => simp only [pos]; omega
      case rel => exact ⟨k + 1, rfl, by simp [pos], fun j hj => by
        rcases Nat.lt_succ_iff_lt_or_eq.1 hj with h | h
        · exact HP.out j h
        · rw [h]; exact hlt, HO2, HU2⟩
    · have z1 : ¬ ((pos s k : Nat) : Int) < (s.size : Int) := by omega
      go_wp2_with fail
      go_ret
      exact ⟨k, _, rfl, ⟨by omega, HP.out⟩, HO.out, HU.out.1⟩
theorem valid_ok (r : Int) : Lib.validRune r = okR r := by
  have h := okR_iff r
  unfold Lib.validRune
  rw [Bool.eq_iff_iff, decide_eq_true_eq, h]
  omega
theorem runeCells_ok {r : Int} (ho : okR r = true) : Lib.runeCells r = cellsOf (enc r) := by
  have hv := (okR_iff r).1 ho
  unfold Lib.runeCells cellsOf
  by_cases h1 : r < 128
  · rw [Lib.encodeRuneZ_one (by omega) (by omega), enc_one (by omega) h1]
  by_cases h2 : r < 2048
  · rw [Lib.encodeRuneZ_two (by omega) (by omega), enc_two (by omega) h2]
  by_cases h3 : r < 65536
  · rw [Lib.encodeRuneZ_three (by omega), enc_three (by omega) h3 ho]
  · rw [Lib.encodeRuneZ_four (by omega) (by omega), enc_four (by omega) ho]
theorem valid_any (r : Int) (w : World) : Calls Tryd.prog 66 #[.int .i32 r] w fun e w' => e = .returned (.bool (okR r)) ∧ w' = w := by
  rw [← valid_ok]; exact Tryd.utf8_ValidRune r w
theorem appendRune_any (B : Nat) (v : Value) (l : List Int) (r : Int) (w : World) (ho : okR r = true) (hown : w.ownsRow B 5 1 v l.length (cellsOf l)) (hl : l.length ≤ 1000000) (hB : B ≤ w.heap.size) :
    Calls Tryd.prog 67 #[v, .int .i32 r] w fun e w' => ∃ v', e = .returned v' ∧ w'.ownsRow B 5 1 v' (l ++ enc r).length (cellsOf (l ++ enc r)) ∧ Below B w w' := by
  have hv := (okR_iff r).1 ho
  refine (Tryd.utf8_AppendRune_plain B v _ _ r (by omega) (by omega) w hown (by omega) hB).mono ?_
  rintro e w' ⟨v', rfl, h1, o, h2⟩
  refine ⟨v', rfl, ?_, ?_⟩
  · rw [runeCells_ok ho] at h1
    rw [cellsOf, List.map_append, List.length_append]
    simpa [cellsOf] using h1
  · exact ((Below.refl _ _).alloc hB o).grown h2 (by simp only [World.size_alloc]; omega) (own_base hown)
theorem text_zero (ad : Option Addr) (c : Nat) (w : World) :
    Calls Tryd.prog 51 #[.slice ad 0 c] w fun e w' => e = .returned (.string (strOfNums [])) ∧ w' = w := by
  have hcv := run_convert_bytes_nil w 22 5 Tryd.underlying22 Tryd.underlying5 0 0 9 Tryd.underlying9
  go_enter Tryd.func51, Tryd.ntmps51
  go_wp2
  go_loopg [3, 8] (0) (fun g l i wr => l = .slice none 0 0 ∧ i = .int .i64 0 ∧ wr = w)
  case atStart => exact ⟨rfl, rfl, rfl⟩
  case round =>
    obtain ⟨rfl, rfl, rfl⟩ := hrel
    go_wp2_with fail
    go_ret
    exact ⟨rfl, rfl⟩
set_option maxHeartbeats 1000000 in
theorem text_at (R : Nat → Int) (k b off cap : Nat) (w : World) (hk : k ≤ 5000) (hR : Rs w b off k R) :
    Calls Tryd.prog 51 #[.slice (some ⟨b, off, none⟩) k cap] w fun e w' => e = .returned (.string (strOfNums (txt R k))) ∧ Below w.heap.size w w' := by
  have HR : Hid (Rs w b off k R) := hR
  clear hR
  go_enter Tryd.func51, Tryd.ntmps51
  go_wp2
  go_loopg [3, 8] k (fun g l i wr => ∃ j : Nat, j ≤ k ∧ g = k - j ∧ i = .int .i64 j ∧ Hid (wr.ownsRow w.heap.size 5 1 l (txt R j).length (cellsOf (txt R j))) ∧ Hid (Up w.heap.size w wr))
  case atStart => exact ⟨0, Nat.zero_le _, rfl, rfl, ⟨rfl, Or.inl ⟨rfl, rfl⟩⟩, Up.refl w⟩
  case round =>
    obtain ⟨j, hj, hg, rfl, HO, HU⟩ := hrel
    by_cases hlt : j < k
    · have z0 : (0 : Int) ≤ (j : Int) := by omega
      have z1 : (j : Int) < (k : Int) := by omega
      have hc := (HR.out.stay HU.out.1) j hlt
      have q1 := txt_le R j
      cases ho : okR (R j)
      · have HO2 : Hid (wr.ownsRow w.heap.size 5 1 u3 (txt R (j + 1)).length (cellsOf (txt R (j + 1)))) := by
          show wr.ownsRow _ _ _ _ _ _
          rw [txt_succ, enc_bad _ ho, List.append_nil]; exact HO.out
        have cv := valid_any (R j) wr
        rw [ho] at cv
        go_wp2_with (go_at_call 66; refine cv.mono ?_; rintro e w' ⟨rfl, rfl⟩)
        go_roundg (k - (j + 1))
        case measure => omega
        case rel => exact ⟨j + 1, by omega, rfl, by go_num, HO2, HU⟩
      · have cv := valid_any (R j) wr
        rw [ho] at cv
        go_wp2_with fail
        refine cv.mono ?_
        rintro e w' ⟨rfl, rfl⟩
        go_wp2_with fail
        refine (appendRune_any w.heap.size _ (txt R j) (R j) _ ho HO.out (by omega) HU.out.2).mono ?_
        rintro e w1 ⟨v', rfl, hown1, hb1⟩
        have HO2 : Hid (w1.ownsRow w.heap.size 5 1 v' (txt R (j + 1)).length (cellsOf (txt R (j + 1)))) := by
          show w1.ownsRow _ _ _ _ _ _
          rw [txt_succ]; exact hown1
        have HU2 : Hid (Up w.heap.size w w1) := ⟨HU.out.1.trans hb1, Nat.le_trans HU.out.2 hb1.size⟩
        clear hown1 hb1 HO HU
        go_wp2
        go_roundg (k - (j + 1))
        case measure => omega
        case rel => exact ⟨j + 1, by omega, rfl, by go_num, HO2, HU2⟩
    · obtain rfl : j = k := by omega
      have hcv := own_text HO.out
      go_wp2_with fail
      go_ret
      exact ⟨rfl, HU.out.1⟩
theorem text_any (R : Nat → Int) (k : Nat) (v : Value) (w : World) (hk : k ≤ 5000) (hR : RSl w v k R) :
    Calls Tryd.prog 51 #[v] w fun e w' => e = .returned (.string (strOfNums (txt R k))) ∧ Below w.heap.size w w' := by
  rcases hR with ⟨ad, c, rfl, rfl⟩ | ⟨b, off, c, rfl, h⟩
  · refine (text_zero ad c w).mono ?_
    rintro e w' ⟨rfl, rfl⟩
    exact ⟨rfl, Below.refl _ _⟩
  · exact text_at R k b off c w hk h
end Go.Proofs.YteeeekpeokgaeaaDoor.Tns
/- Letters. -/
namespace Go.Proofs.YteeeekpeokgaeaaDoor
set_option linter.unusedVariables false
open Go.RowKit Go.ChangeShapes
/-- Great letters, small ones, letters. -/
def gB (r : Int) : Bool := (decide (65 ≤ r) && decide (r ≤ 90)) || (decide (192 ≤ r) && decide (r ≤ 222) && !decide (r = 215))
def sB (r : Int) : Bool := gB (r - 32)
def lB (r : Int) : Bool := gB r || sB r || decide (r = 223) || (decide (255 ≤ r) && decide (r ≤ 591)) || (decide (880 ≤ r) && decide (r ≤ 1327))
def dn (r : Int) : Int := bif gB r then r + 32 else r
def up (r : Int) : Int := bif sB r then r - 32 else r
/-- A rune that fits. -/
def Fit (r : Int) : Prop := -2147483648 ≤ r ∧ r ≤ 2147483647
theorem gB_iff (r : Int) : gB r = true ↔ (65 ≤ r ∧ r ≤ 90) ∨ (192 ≤ r ∧ r ≤ 222 ∧ r ≠ 215) := by
  unfold gB; simp [and_assoc]
theorem gB_no (r : Int) : gB r = false ↔ ¬ ((65 ≤ r ∧ r ≤ 90) ∨ (192 ≤ r ∧ r ≤ 222 ∧ r ≠ 215)) := by
  rw [← gB_iff]; simp
theorem wrap_sub (r : Int) (h : Fit r) : gB (IntKind.i32.wrap (r - 32)) = sB r := by
  unfold Fit at h
  by_cases h1 : -2147483648 ≤ r - 32
  · rw [show IntKind.i32.wrap (r - 32) = r - 32 by simp [IntKind.wrap, IntKind.bits, IntKind.signed]; omega]; rfl
  · have e : sB r = false := by unfold sB; rw [gB_no]; omega
    rw [e, gB_no]
    have : IntKind.i32.wrap (r - 32) = r - 32 + 4294967296 := by simp [IntKind.wrap, IntKind.bits, IntKind.signed]; omega
    rw [this]; omega
end Go.Proofs.YteeeekpeokgaeaaDoor
