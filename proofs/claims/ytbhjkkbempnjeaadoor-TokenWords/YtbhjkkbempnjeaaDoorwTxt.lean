/- decode.Text. -/
import Derived.Test.YtbhjkkbempnjeaaDoorvTu
import Derived.Laws.OwnMore
import Derived.Laws.MakeOwn
namespace Go.Proofs.YtbhjkkbempnjeaaDoor
set_option linter.unusedVariables false
open Go.RowKit Go.ChangeShapes
/-- A row of runes that is being written. -/
def tc (R : Nat → Int) (k j : Nat) : List Value := (List.range k).map fun q => if q < j then .int .i32 (R q) else .int .i32 0
theorem tc_len (R : Nat → Int) (k j : Nat) : (tc R k j).length = k := by simp [tc]
theorem tc_set (R : Nat → Int) (k j : Nat) (h : j < k) : (tc R k j).set j (.int .i32 (R j)) = tc R k (j + 1) := by
  apply List.ext_getElem?
  intro q
  rw [List.getElem?_set]
  by_cases e : j = q
  · subst e
    rw [if_pos rfl, if_pos (by rw [tc_len]; exact h)]
    simp [tc, List.getElem?_range h]
  · rw [if_neg e]
    by_cases hq : q < k
    · simp only [tc, List.getElem?_map, List.getElem?_range hq, Option.map_some]
      by_cases h1 : q < j
      · rw [if_pos h1, if_pos (by omega)]
      · rw [if_neg h1, if_neg (by omega)]
    · rw [List.getElem?_eq_none (by rw [tc_len]; omega), List.getElem?_eq_none (by rw [tc_len]; omega)]
theorem tc_zero (R : Nat → Int) (k : Nat) : tc R k 0 = List.replicate k (.int .i32 0) := by
  apply List.ext_getElem?
  intro q
  by_cases hq : q < k
  · simp [tc, hq]
  · rw [List.getElem?_eq_none (by rw [tc_len]; omega), List.getElem?_eq_none (by rw [List.length_replicate]; omega)]
theorem tc_all (l : List U3) : tc (fun i => (l.map (·.r)).getD i 0) l.length l.length = rC l := by
  apply List.ext_getElem?
  intro q
  by_cases hq : q < l.length
  · simp [tc, rC, hq, List.getD]
  · rw [List.getElem?_eq_none (by rw [tc_len]; omega), List.getElem?_eq_none (by unfold rC; rw [List.length_map]; omega)]
set_option maxRecDepth 100000 in
set_option maxHeartbeats 2000000 in
theorem text_any {w : World} {v : Value} {l : List U3} (h : US w v l) (hn : l.length ≤ 5000) :
    Calls Tryd.prog 50 #[v] w fun e w' => e = .returned (.string (strOfNums (tU l))) ∧ Below w.heap.size w w' := by
  obtain ⟨ad, cap, rfl, hcap, hh⟩ := h
  obtain ⟨R, hRd⟩ : ∃ R : Nat → Int, (fun i => (l.map (·.r)).getD i 0) = R := ⟨_, rfl⟩
  have hRx : ∀ j x, l[j]? = some x → R j = x.r := fun j x hx => by
    rw [← hRd]
    show (l.map (·.r)).getD j 0 = x.r
    rw [List.getD_eq_getElem?_getD, List.getElem?_map, hx]
    rfl
  have HH : Hid (∀ i x, l[i]? = some x → ∃ b off, ad = some ⟨b, off, none⟩ ∧ b < w.heap.size ∧ w.cell? ⟨b, off + i * 3, none⟩ = some (.int .i32 x.r) ∧ w.cell? ⟨b, off + i * 3 + 1, none⟩ = some (.int .i64 x.a) ∧ w.cell? ⟨b, off + i * 3 + 2, none⟩ = some (.int .i64 x.n)) := hh
  obtain ⟨S, hS⟩ : ∃ S, strOfNums (tU l) = S := ⟨_, rfl⟩
  have HS : Hid (strOfNums (txt R l.length) = S) := by show _ = _; rw [← hRd, txt_tU, hS]
  have HA : Hid (tc R l.length l.length = rC l ∧ ∀ j x, l[j]? = some x → R j = x.r) := ⟨by rw [← hRd]; exact tc_all l, hRx⟩
  have HR : Hid ((fun i => (l.map (·.r)).getD i 0) = R) := hRd
  rw [hS]
  obtain ⟨k, hk⟩ : ∃ k, l.length = k := ⟨_, rfl⟩
  have HK : Hid (l.length = k) := hk
  rw [hk] at hn hcap ⊢
  obtain ⟨i0, hi, hz0, hz1, hz2⟩ := info_parts Tns.info21
  have hmk := run_make (P := Tryd.prog) w 52 21 i0 (.int .i32 0) Tryd.underlying52 hi hz0 .i64 .i64 (k : Int) (k : Int) (by omega) (by omega) (by rw [hz2]; omega) (by omega)
  rw [hz1, Nat.mul_one, Int.toNat_natCast] at hmk
  have hO : (w.alloc (.cells (madeCells #[.int .i32 0] k) 21)).ownsRow w.heap.size 21 1 (.slice (some ⟨w.heap.size, 0, none⟩) k k) k (tc R k 0) := by
    have h5 := World.ownsRow_lit (base := w.heap.size) (e := 21) (size := 1) w (madeCells #[.int .i32 0] k) k (Nat.le_refl _) (by unfold maxLen; omega) (by rw [← Array.length_toList, toList_madeCells_one]; simp)
    rw [toList_madeCells_one] at h5
    rw [tc_zero]
    exact h5
  obtain ⟨W, hW⟩ : ∃ W, w.alloc (.cells (madeCells #[.int .i32 0] k) 21) = W := ⟨_, rfl⟩
  have hU : Up w.heap.size w W := by rw [← hW]; exact (Up.refl w).alloc _
  rw [show (Value.int .i32 0).cells = #[.int .i32 0] from rfl, hW] at hmk
  rw [hW] at hO
  have HO0 : Hid (W.ownsRow w.heap.size 21 1 (.slice (some ⟨w.heap.size, 0, none⟩) k k) k (tc R k 0)) := hO
  have HU0 : Hid (Up w.heap.size w W) := hU
  clear hh hS hk hRd hRx hO hU hW
  go_enter Tryd.func50, Tryd.ntmps50
  go_wp2
  clear hmk
  go_loopg [11] k (fun q iv wr => ∃ j : Nat, j ≤ k ∧ q = k - j ∧ iv = .int .i64 j ∧ Hid (wr.ownsRow w.heap.size 21 1 (.slice (some ⟨w.heap.size, 0, none⟩) k k) k (tc R k j)) ∧ Hid (Up w.heap.size w wr))
  case atStart => exact ⟨0, Nat.zero_le _, rfl, rfl, HO0, HU0⟩
  case round =>
    obtain ⟨j, hj, hq, rfl, HO, HU⟩ := hrel
    by_cases hlt : j < k
    · have z0 : (0 : Int) ≤ (j : Int) := by omega
      have z1 : (j : Int) < (k : Int) := by omega
      obtain ⟨x, hx⟩ : ∃ x, l[j]? = some x := ⟨_, List.getElem?_eq_getElem (by rw [HK.out]; exact hlt)⟩
      obtain ⟨b, off, rfl, hbl, y1, y2, y3⟩ := HH.out j x hx
      have c1 := cell_stay y1 HU.out.1
      have c2 := cell_stay y2 HU.out.1
      have c3 := cell_stay y3 HU.out.1
      have HXR : Hid (R j = x.r) := HA.out.2 j x hx
      obtain ⟨xr, hxr⟩ : ∃ q, x.r = q := ⟨_, rfl⟩
      obtain ⟨xa, hxa⟩ : ∃ q, x.a = q := ⟨_, rfl⟩
      obtain ⟨xn, hxn⟩ : ∃ q, x.n = q := ⟨_, rfl⟩
      rw [hxr] at c1 HXR
      rw [hxa] at c2
      rw [hxn] at c3
      obtain ⟨V, hV⟩ : ∃ V, wr.alloc (.cells #[.int .i32 xr, .int .i64 xa, .int .i64 xn] 56) = V := ⟨_, rfl⟩
      have hV0 : V.heap[wr.heap.size]? = some (.cells #[.int .i32 xr, .int .i64 xa, .int .i64 xn] 56) := by rw [← hV]; exact heap_alloc_new _ _
      have c0 : V.cell? ⟨wr.heap.size, 0, none⟩ = some (.int .i32 xr) := by simp [World.cell?, hV0]
      have hOV : V.ownsRow w.heap.size 21 1 (.slice (some ⟨w.heap.size, 0, none⟩) k k) k (tc R k j) := by rw [← hV]; exact World.ownsRow.alloc HO.out _
      have hUV : Up w.heap.size w V := by rw [← hV]; exact HU.out.alloc _
      have hc : V.cell? ⟨w.heap.size, j, none⟩ = some (.int .i32 0) := by
        rw [hOV.cellAt j (by omega)]
        simp [tc, List.getElem?_range hlt]
      have hfz : V.frozen? ⟨w.heap.size, j, none⟩ = false := hOV.frozenAt j
      have HS2 := hOV.stored j (.int .i32 xr)
      rw [← HXR.out, tc_set R k j hlt, HXR.out] at HS2
      have HO2 : Hid ((V.setCell ⟨w.heap.size, j, none⟩ (.int .i32 xr)).ownsRow w.heap.size 21 1 (.slice (some ⟨w.heap.size, 0, none⟩) k k) k (tc R k (j + 1))) := HS2.1
      have HU2 : Hid (Up w.heap.size w (V.setCell ⟨w.heap.size, j, none⟩ (.int .i32 xr))) := hUV.grown HS2.2 (fun q hq => by cases hq; exact Nat.le_refl _)
      obtain ⟨B, hB⟩ : ∃ B, wr.heap.size = B := ⟨_, rfl⟩
      rw [hB] at c0
      clear y1 y2 y3 hx hxr hxa hxn hV0 hOV hUV HS2 HO HU HXR
      go_wp2
      go_roundg (k - (j + 1))
      case measure => omega
      case rel => exact ⟨j + 1, by omega, rfl, by go_num, HO2, HU2⟩
    · have z1 : ¬ (j : Int) < (k : Int) := by omega
      have hjk : j = k := by omega
      have ho := HO.out
      rw [hjk, ← HK.out, HA.out.1] at ho
      have ct := Tns.text_any _ l.length _ wr (by rw [HK.out]; exact hn) (rsl_own ho)
      rw [HR.out, HS.out, HK.out] at ct
      clear ho HO
      go_wp2_with fail
      refine ct.mono ?_
      rintro e w2 ⟨rfl, hb2⟩
      have HU2 : Hid (Below w.heap.size w w2) := HU.out.1.trans (hb2.mono HU.out.2)
      clear ct hb2
      go_wp2
      go_ret
      exact ⟨rfl, HU2.out⟩
end Go.Proofs.YtbhjkkbempnjeaaDoor
