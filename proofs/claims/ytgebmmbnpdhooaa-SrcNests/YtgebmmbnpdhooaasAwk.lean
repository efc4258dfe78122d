/- src: a text handed to Lex; Awake. -/
import Derived.Test.YtgebmmbnpdhooaasLex
import Derived.Test.YtgebmmbnpdhooaalSegs
import Derived.Lib.SlBytesConst
namespace Go.Proofs.Ytgebmmbnpdhooaa
set_option linter.unusedVariables false
open Go.RowKit Go.ChangeShapes
/-- A text as bytes, handed to Lex. -/
theorem str_lex {wr : World} {Bl : List Int} (hBy : Byt Bl) (hn : Bl.length ≤ 65536) {S : ByteArray} (hS : strOfNums Bl = S) {m : Nat} (hm : Bl.length = m) {f : Int} (hf : 4 ≤ f ∧ f ≤ 8) : ∃ V gc, (convert 9 22 (.string S)).run Try.prog wr = .ok (.slice (some ⟨wr.heap.size, 0, none⟩) m gc) V ∧ Below wr.heap.size wr V ∧ Calls Try.prog 12 #[.int .u8 f, .slice (some ⟨wr.heap.size, 0, none⟩) m gc] V (LxP (fam f) (cL Bl) m V) := by
  subst hm
  have hcv := Lib.run_convert_string_bytes (P := Try.prog) wr 9 22 5 S Try.underlying9 Try.underlying22 Try.underlying5
  rw [show S.size = Bl.length by rw [← hS, strOfNums_size]] at hcv
  have hgc := grownCap_ge wr Bl.length 0 5
  have hgm := grownCap_le_maxLen wr Bl.length 0 5 (by unfold maxLen; omega)
  have hml : maxLen ≤ 9223372036854775807 := by unfold maxLen; omega
  have hbc := conv_cl (w := wr) hBy
  have hbw := conv_below wr S
  rw [hS] at hbc
  exact ⟨_, _, hcv, hbw, lex_any (cL_ch hBy) hbc hn hgc (by omega) hf⟩
def exL : List Int := [120, 32, 47, 47, 32, 121]
theorem ex_sg : sg (lxA (fam 5) (cL exL) 6) 6 = [⟨4, 0, 2⟩, ⟨3, 2, 2⟩, ⟨1, 4, 2⟩] := by kernel_rfl
set_option maxRecDepth 100000 in
set_option maxHeartbeats 2000000 in
theorem awake_any (w : World) : Calls Try.prog 9 #[] w fun e w' => e = .returned (.bool true) ∧ Below w.heap.size w w' := by
  have hcA := fun (w' : World) => Go.Lib.run_convert_bytes_const (P := Try.prog) w' 22 5 #[.int .u8 120, .int .u8 32, .int .u8 47, .int .u8 47, .int .u8 32, .int .u8 121] 6 6 Try.underlying22 Try.underlying5
  obtain ⟨W, hW⟩ : ∃ W, w.alloc (.cells #[.int .u8 120, .int .u8 32, .int .u8 47, .int .u8 47, .int .u8 32, .int .u8 121] 5 (6, 7)) = W := ⟨_, rfl⟩
  have hL1 : BC W (some ⟨w.heap.size, 0, none⟩) 6 (cL exL) := by
    rw [← hW]
    exact (lit_bc w exL (6, 7)).congr fun i hi => by
      have hi' : i < exL.length := hi
      simp [cL, List.getElem?_eq_getElem hi']
  have hB1 : Below w.heap.size w W := by rw [← hW]; exact below_alloc w _
  have HB1 : Hid (Below w.heap.size w W) := hB1
  have cx := lex_any (n := 6) (cap := 6) (cL_ch (byt_lit exL rfl)) hL1 (by decide) (by decide) (by decide) (f := 5) (by decide)
  clear hL1 hB1
  go_enter Try.func9, Try.ntmps9
  go_wp2_with fail
  refine cx.mono ?_
  rintro e w1 ⟨T, g, rfl, hT, hg, hS, hU⟩
  have HU1 : Hid (Below w.heap.size w w1) := HB1.out.trans (hU.1.mono HB1.out.size)
  have c3 := segs_any hS (by omega)
  clear cx hS hU hT hg hW hcA
  go_wp2_with fail
  refine c3.mono ?_
  rintro e w3 ⟨v, rfl, hR, hU⟩
  have HU3 : Hid (Below w.heap.size w w3) := HU1.out.trans (hU.1.mono HU1.out.size)
  rw [ex_sg] at hR
  obtain ⟨ad, c, rfl⟩ := hR.form
  obtain ⟨gp, rfl, -, -⟩ := own_at (n := 3) hR (by omega)
  obtain ⟨a1, a2, a3⟩ := hR.cells rfl (i := 0) (s := ⟨4, 0, 2⟩) rfl
  obtain ⟨b1, b2, b3⟩ := hR.cells rfl (i := 1) (s := ⟨3, 2, 2⟩) rfl
  obtain ⟨d1, d2, d3⟩ := hR.cells rfl (i := 2) (s := ⟨1, 4, 2⟩) rfl
  dsimp only at a1 a2 a3 b1 b2 b3 d1 d2 d3
  clear c3 hR hU HU1
  go_wp2
  go_ret
  exact ⟨rfl, HU3.out⟩
end Go.Proofs.Ytgebmmbnpdhooaa
