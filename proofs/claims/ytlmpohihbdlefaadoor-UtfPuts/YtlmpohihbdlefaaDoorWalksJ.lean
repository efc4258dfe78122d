/- utf.Text. -/
import Derived.Test.YtlmpohihbdlefaaDoorWalksI
namespace Go.Proofs.YtlmpohihbdlefaaDoor
set_option linter.unusedVariables false
open Go.RowKit Go.ChangeShapes
theorem valid_ok (r : Int) : Lib.validRune r = okR r := by
  have h := okR_iff r
  unfold Lib.validRune
  rw [Bool.eq_iff_iff, decide_eq_true_eq, h]
  omega
theorem runeCells_ok {r : Int} (ho : okR r = true) : Lib.runeCells r = cellsOf (enc r) := by
  have hv := (okR_iff r).1 ho
  unfold Lib.runeCells cellsOf
  by_cases h1 : r < 128
  · rw [Lib.encodeRuneZ_one (by omega) (by omega), enc_one (by omega) h1]
  by_cases h2 : r < 2048
  · rw [Lib.encodeRuneZ_two (by omega) (by omega), enc_two (by omega) h2]
  by_cases h3 : r < 65536
  · rw [Lib.encodeRuneZ_three (by omega), enc_three (by omega) h3 ho]
  · rw [Lib.encodeRuneZ_four (by omega) (by omega), enc_four (by omega) ho]
theorem valid_any (r : Int) (w : World) : Calls Tryd.prog 25 #[.int .i32 r] w fun e w' => e = .returned (.bool (okR r)) ∧ w' = w := by
  rw [← valid_ok]; exact Tryd.utf8_ValidRune r w
/-- AppendRune onto bytes of the call's own. -/
theorem appendRune_any (B : Nat) (v : Value) (l : List Int) (r : Int) (w : World) (ho : okR r = true) (hown : w.ownsRow B 5 1 v l.length (cellsOf l)) (hl : l.length ≤ 1000000) (hB : B ≤ w.heap.size) :
    Calls Tryd.prog 26 #[v, .int .i32 r] w fun e w' => ∃ v', e = .returned v' ∧ w'.ownsRow B 5 1 v' (l ++ enc r).length (cellsOf (l ++ enc r)) ∧ Below B w w' := by
  have hv := (okR_iff r).1 ho
  refine (Tryd.utf8_AppendRune_plain B v _ _ r (by omega) (by omega) w hown (by omega) hB).mono ?_
  rintro e w' ⟨v', rfl, h1, o, h2⟩
  refine ⟨v', rfl, ?_, ?_⟩
  · rw [runeCells_ok ho] at h1
    rw [cellsOf, List.map_append, List.length_append]
    simpa [cellsOf] using h1
  · exact ((Below.refl _ _).alloc hB o).grown h2 (by simp only [World.size_alloc]; omega) (own_base hown)
theorem text_zero (ad : Option Addr) (c : Nat) (w : World) :
    Calls Tryd.prog 19 #[.slice ad 0 c] w fun e w' => e = .returned (.string (strOfNums [])) ∧ w' = w := by
  have hcv := run_convert_bytes_nil w 22 5 Tryd.underlying22 Tryd.underlying5 0 0 9 Tryd.underlying9
  go_enter Tryd.func19, Tryd.ntmps19
  go_wp2
  go_loopg [3, 8] (0) (fun g l i wr => l = .slice none 0 0 ∧ i = .int .i64 0 ∧ wr = w)
  case atStart => exact ⟨rfl, rfl, rfl⟩
  case round =>
    obtain ⟨rfl, rfl, rfl⟩ := hrel
    go_wp2_with fail
    go_ret
    exact ⟨rfl, rfl⟩
set_option maxHeartbeats 1000000 in
theorem text_at (R : Nat → Int) (k b off cap : Nat) (w : World) (hk : k ≤ 5000) (hR : Rs w b off k R) :
    Calls Tryd.prog 19 #[.slice (some ⟨b, off, none⟩) k cap] w fun e w' => e = .returned (.string (strOfNums (txt R k))) ∧ Below w.heap.size w w' := by
  have HR : Hid (Rs w b off k R) := hR
  clear hR
  go_enter Tryd.func19, Tryd.ntmps19
  go_wp2
  go_loopg [3, 8] k (fun g l i wr => ∃ j : Nat, j ≤ k ∧ g = k - j ∧ i = .int .i64 j ∧ Hid (wr.ownsRow w.heap.size 5 1 l (txt R j).length (cellsOf (txt R j))) ∧ Hid (Up w.heap.size w wr))
  case atStart => exact ⟨0, Nat.zero_le _, rfl, rfl, ⟨rfl, Or.inl ⟨rfl, rfl⟩⟩, Up.refl w⟩
  case round =>
    obtain ⟨j, hj, hg, rfl, HO, HU⟩ := hrel
    by_cases hlt : j < k
    · have z0 : (0 : Int) ≤ (j : Int) := by omega
      have z1 : (j : Int) < (k : Int) := by omega
      have hc := (HR.out.stay HU.out.1) j hlt
      have q1 := txt_le R j
      cases ho : okR (R j)
      · have HO2 : Hid (wr.ownsRow w.heap.size 5 1 u3 (txt R (j + 1)).length (cellsOf (txt R (j + 1)))) := by
          show wr.ownsRow _ _ _ _ _ _
          rw [txt_succ, enc_bad _ ho, List.append_nil]; exact HO.out
        have cv := valid_any (R j) wr
        rw [ho] at cv
        go_wp2_with (go_at_call 25; refine cv.mono ?_; rintro e w' ⟨rfl, rfl⟩)
        go_roundg (k - (j + 1))
        case measure => omega
        case rel => exact ⟨j + 1, by omega, rfl, by go_num, HO2, HU⟩
      · have cv := valid_any (R j) wr
        rw [ho] at cv
        go_wp2_with fail
        refine cv.mono ?_
        rintro e w' ⟨rfl, rfl⟩
        go_wp2_with fail
        refine (appendRune_any w.heap.size _ (txt R j) (R j) _ ho HO.out (by omega) HU.out.2).mono ?_
        rintro e w1 ⟨v', rfl, hown1, hb1⟩
        have HO2 : Hid (w1.ownsRow w.heap.size 5 1 v' (txt R (j + 1)).length (cellsOf (txt R (j + 1)))) := by
          show w1.ownsRow _ _ _ _ _ _
          rw [txt_succ]; exact hown1
        have HU2 : Hid (Up w.heap.size w w1) := ⟨HU.out.1.trans hb1, Nat.le_trans HU.out.2 hb1.size⟩
        clear hown1 hb1 HO HU
        go_wp2
        go_roundg (k - (j + 1))
        case measure => omega
        case rel => exact ⟨j + 1, by omega, rfl, by go_num, HO2, HU2⟩
    · obtain rfl : j = k := by omega
      have hcv := own_text HO.out
      go_wp2_with fail
      go_ret
      exact ⟨rfl, HU.out.1⟩
theorem text_any (R : Nat → Int) (k : Nat) (v : Value) (w : World) (hk : k ≤ 5000) (hR : RSl w v k R) :
    Calls Tryd.prog 19 #[v] w fun e w' => e = .returned (.string (strOfNums (txt R k))) ∧ Below w.heap.size w w' := by
  rcases hR with ⟨ad, c, rfl, rfl⟩ | ⟨b, off, c, rfl, h⟩
  · refine (text_zero ad c w).mono ?_
    rintro e w' ⟨rfl, rfl⟩
    exact ⟨rfl, Below.refl _ _⟩
  · exact text_at R k b off c w hk h
end Go.Proofs.YtlmpohihbdlefaaDoor
