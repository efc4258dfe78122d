/- tex: a text handed to Lex; Awake. -/
import Derived.Test.YtlgfmhhhecaddaaDoorxLex
namespace Go.Proofs.YtlgfmhhhecaddaaDoor
set_option linter.unusedVariables false
open Go.RowKit Go.ChangeShapes
/-- A text as bytes, handed to Lex. -/
theorem str_lex {wr : World} (hG : GlX wr) {Bl : List Int} (hBy : Byt Bl) (hn : Bl.length ≤ 65536) {S : ByteArray} (hS : strOfNums Bl = S) {m : Nat} (hm : Bl.length = m) : ∃ V gc, (convert 9 22 (.string S)).run Tryd.prog wr = .ok (.slice (some ⟨wr.heap.size, 0, none⟩) m gc) V ∧ Below wr.heap.size wr V ∧ Calls Tryd.prog 12 #[.slice (some ⟨wr.heap.size, 0, none⟩) m gc] V (LxP (cL Bl) m V) := by
  subst hm
  have hcv := Lib.run_convert_string_bytes (P := Tryd.prog) wr 9 22 5 S Tryd.underlying9 Tryd.underlying22 Tryd.underlying5
  rw [show S.size = Bl.length by rw [← hS, strOfNums_size]] at hcv
  have hgc := grownCap_ge wr Bl.length 0 5
  have hgm := grownCap_le_maxLen wr Bl.length 0 5 (by unfold maxLen; omega)
  have hml : maxLen ≤ 9223372036854775807 := by unfold maxLen; omega
  have hbc := conv_cl (w := wr) hBy
  have hbw := conv_below wr S
  rw [hS] at hbc
  exact ⟨_, _, hcv, hbw, lex_any (cL_ch hBy) hbc hn hgc (by omega) (hG.stay hbw)⟩
def exL : List Int := [97, 32, 36, 98, 36, 32, 92, 101, 109, 112, 104, 123, 99, 125, 32, 37, 32, 100]
theorem ex_lab : lxA (cL exL) 18 0 = 1 ∧ lxA (cL exL) 18 2 = 4 ∧ lxA (cL exL) 18 6 = 2 ∧ lxA (cL exL) 18 12 = 1 ∧ lxA (cL exL) 18 13 = 2 ∧ lxA (cL exL) 18 15 = 3 := ⟨by kernel_rfl, by kernel_rfl, by kernel_rfl, by kernel_rfl, by kernel_rfl, by kernel_rfl⟩
set_option maxRecDepth 100000 in
set_option maxHeartbeats 2000000 in
theorem awake_any (w : World) (hG : GlX w) : Calls Tryd.prog 9 #[] w fun e w' => e = .returned (.bool true) ∧ Below w.heap.size w w' := by
  have hcA := fun (w' : World) => Go.Lib.run_convert_bytes_const (P := Tryd.prog) w' 22 5 #[.int .u8 97, .int .u8 32, .int .u8 36, .int .u8 98, .int .u8 36, .int .u8 32, .int .u8 92, .int .u8 101, .int .u8 109, .int .u8 112, .int .u8 104, .int .u8 123, .int .u8 99, .int .u8 125, .int .u8 32, .int .u8 37, .int .u8 32, .int .u8 100] 18 18 Tryd.underlying22 Tryd.underlying5
  obtain ⟨W, hW⟩ : ∃ W, w.alloc (.cells #[.int .u8 97, .int .u8 32, .int .u8 36, .int .u8 98, .int .u8 36, .int .u8 32, .int .u8 92, .int .u8 101, .int .u8 109, .int .u8 112, .int .u8 104, .int .u8 123, .int .u8 99, .int .u8 125, .int .u8 32, .int .u8 37, .int .u8 32, .int .u8 100] 5 (18, 19)) = W := ⟨_, rfl⟩
  have hL1 : BC W (some ⟨w.heap.size, 0, none⟩) 18 (cL exL) := by
    rw [← hW]
    exact (lit_bc w exL (18, 19)).congr fun i hi => by
      have hi' : i < exL.length := hi
      simp [cL, List.getElem?_eq_getElem hi']
  have hB1 : Below w.heap.size w W := by rw [← hW]; exact below_alloc w _
  have HB1 : Hid (Below w.heap.size w W) := hB1
  have cx := lex_any (n := 18) (cap := 18) (cL_ch (byt_lit exL rfl)) hL1 (by decide) (by decide) (by decide) (hG.stay hB1)
  clear hL1 hB1
  go_enter Tryd.func9, Tryd.ntmps9
  go_wp2_with fail
  refine cx.mono ?_
  rintro e w1 ⟨T, g, rfl, hT, hg, hS, hU⟩
  have HU1 : Hid (Below w.heap.size w w1) := HB1.out.trans (hU.1.mono HB1.out.size)
  obtain ⟨l0, l1, l2, l3, l4, l5⟩ := ex_lab
  have c0 := at_any hS 0 (by decide)
  rw [l0] at c0
  have c1 := at_any hS 2 (by decide)
  rw [l1] at c1
  have c2 := at_any hS 6 (by decide)
  rw [l2] at c2
  have c3 := at_any hS 12 (by decide)
  rw [l3] at c3
  have c4 := at_any hS 13 (by decide)
  rw [l4] at c4
  have c5 := at_any hS 15 (by decide)
  rw [l5] at c5
  clear cx hS hU hT hg hW hcA l0 l1 l2 l3 l4 l5
  go_wp2_with fail
  refine c0.mono ?_
  rintro e w2 ⟨rfl, hw⟩
  subst w2
  clear c0
  go_wp2_with fail
  refine c1.mono ?_
  rintro e w2 ⟨rfl, hw⟩
  subst w2
  clear c1
  go_wp2_with fail
  refine c2.mono ?_
  rintro e w2 ⟨rfl, hw⟩
  subst w2
  clear c2
  go_wp2_with fail
  refine c3.mono ?_
  rintro e w2 ⟨rfl, hw⟩
  subst w2
  clear c3
  go_wp2_with fail
  refine c4.mono ?_
  rintro e w2 ⟨rfl, hw⟩
  subst w2
  clear c4
  go_wp2_with fail
  refine c5.mono ?_
  rintro e w2 ⟨rfl, hw⟩
  subst w2
  clear c5
  go_wp2
  go_ret
  exact ⟨rfl, HU1.out⟩
end Go.Proofs.YtlgfmhhhecaddaaDoor
