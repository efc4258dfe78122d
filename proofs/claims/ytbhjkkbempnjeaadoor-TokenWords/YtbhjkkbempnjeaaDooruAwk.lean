/- token: Awake, over what Words answers. -/
import Derived.Test.YtbhjkkbempnjeaaDoorPkVF3
import Derived.Test.YtbhjkkbempnjeaaDoorPkUPrem2
import Derived.Lib.SlBytesConst
namespace Go.Proofs.YtbhjkkbempnjeaaDoor
set_option linter.unusedVariables false
open Go.RowKit Go.ChangeShapes
theorem ex_ends : Ends (strOfNums (cl (cL exT) 19)) 19 := by
  refine ⟨by kernel_rfl, fun j hj => ?_⟩
  have h : ((List.range 19).all fun j => decide (pos (strOfNums (cl (cL exT) 19)) j < (strOfNums (cl (cL exT) 19)).size)) = true := by kernel_rfl
  exact of_decide_eq_true (List.all_eq_true.1 h j (List.mem_range.2 hj))
theorem ex_words : wordsL (cL exT) 19 (unS (strOfNums (cl (cL exT) 19)) 19) 1 64 = [⟨⟨#[112, 97, 114, 115, 101]⟩, 0, 5, true⟩, ⟨⟨#[72, 84, 77, 76]⟩, 5, 4, true⟩, ⟨⟨#[70, 105, 108, 101]⟩, 9, 4, true⟩, ⟨⟨#[100, 111, 110, 39, 116]⟩, 14, 5, true⟩] := by kernel_rfl
set_option maxRecDepth 100000 in
set_option maxHeartbeats 2000000 in
theorem awake_any (WO : WordsOk) (w : World) (hT : Lns.Tabs w) : Calls Tryd.prog 8 #[] w fun e w' => e = .returned (.bool true) ∧ Below w.heap.size w w' := by
  have hcA := fun (w' : World) => Go.Lib.run_convert_bytes_const (P := Tryd.prog) w' 22 5 #[.int .u8 112, .int .u8 97, .int .u8 114, .int .u8 115, .int .u8 101, .int .u8 72, .int .u8 84, .int .u8 77, .int .u8 76, .int .u8 70, .int .u8 105, .int .u8 108, .int .u8 101, .int .u8 32, .int .u8 100, .int .u8 111, .int .u8 110, .int .u8 39, .int .u8 116] 19 19 Tryd.underlying22 Tryd.underlying5
  obtain ⟨W, hW⟩ : ∃ W, w.alloc (.cells #[.int .u8 112, .int .u8 97, .int .u8 114, .int .u8 115, .int .u8 101, .int .u8 72, .int .u8 84, .int .u8 77, .int .u8 76, .int .u8 70, .int .u8 105, .int .u8 108, .int .u8 101, .int .u8 32, .int .u8 100, .int .u8 111, .int .u8 110, .int .u8 39, .int .u8 116] 5 (19, 20)) = W := ⟨_, rfl⟩
  have hL1 : BC W (some ⟨w.heap.size, 0, none⟩) 19 (cL exT) := by
    rw [← hW]
    exact (lit_bc w exT (19, 20)).congr fun i hi => by
      have hi' : i < exT.length := hi
      simp [cL, List.getElem?_eq_getElem hi']
  have hB1 : Below w.heap.size w W := by rw [← hW]; exact below_alloc w _
  have HB1 : Hid (Below w.heap.size w W) := hB1
  have HL1 : Hid (BC W (some ⟨w.heap.size, 0, none⟩) 19 (cL exT)) := hL1
  have HT : Hid (Lns.Tabs W) := Lns.tabs_stay hT hB1
  have HWO : Hid WordsOk := WO
  have hch : ∀ j, j < 19 → 0 ≤ cL exT j ∧ cL exT j < 256 := (cL_ch (byt_lit exT rfl)).1
  have HCH : Hid (∀ j, j < 19 → 0 ≤ cL exT j ∧ cL exT j < 256) := hch
  have cu := unitsB_any HT.out hch hL1 (cap := 19) (Nat.le_refl _) (by decide)
  clear hL1 hB1 hT WO hch
  go_enter Tryd.func8, Tryd.ntmps8
  go_wp2_with fail
  refine cu.mono ?_
  rintro e w1 ⟨k, v, rfl, he, -, hR, hb1⟩
  obtain rfl := he.one ex_ends
  have HB2 : Hid (Below w.heap.size w w1) := HB1.out.trans (hb1.mono HB1.out.size)
  have cw := HWO.out w1 _ 19 19 (cL exT) v _ 1 64 HCH.out (HL1.out.stay hb1) (Nat.le_refl _) (by decide) (by decide) hR.us (unS_fit he) (by rw [unS_len]; decide) (unS_bd he (by rw [strOfNums_size, cl_len]; decide)) (by decide) (by decide)
  rw [ex_words] at cw
  clear cu hR hb1 he hcA hW
  go_wp2_with fail
  refine cw.mono ?_
  rintro e w2 ⟨v2, rfl, ⟨A, C, rfl, hC, hh⟩, hb2⟩
  have HB3 : Hid (Below w.heap.size w w2) := HB2.out.trans (hb2.mono HB2.out.size)
  obtain ⟨b, off, rfl, -, a1, -⟩ := hh 0 _ rfl
  obtain ⟨b', off', e1, -, a2, -⟩ := hh 1 _ rfl
  injection e1 with e1
  injection e1 with e1 e2 _
  subst e1 e2
  obtain ⟨b', off', e1, -, a3, -⟩ := hh 2 _ rfl
  injection e1 with e1
  injection e1 with e1 e2 _
  subst e1 e2
  obtain ⟨b', off', e1, -, a4, -, -, a5⟩ := hh 3 _ rfl
  injection e1 with e1
  injection e1 with e1 e2 _
  subst e1 e2
  rw [Nat.zero_mul, Nat.add_zero] at a1
  dsimp only at a1 a2 a3 a4 a5
  clear cw hb2 hh
  have hl : ([⟨⟨#[112, 97, 114, 115, 101]⟩, 0, 5, true⟩, ⟨⟨#[72, 84, 77, 76]⟩, 5, 4, true⟩, ⟨⟨#[70, 105, 108, 101]⟩, 9, 4, true⟩, ⟨⟨#[100, 111, 110, 39, 116]⟩, 14, 5, true⟩] : List W4).length = 4 := rfl
  rw [hl]
  rw [hl] at hC
  clear hl
  go_wp2
  go_ret
  exact ⟨rfl, HB3.out⟩
end Go.Proofs.YtbhjkkbempnjeaaDoor
