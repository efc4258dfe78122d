/- Bytes of the call's own; Awake. -/
import Derived.Test.YtodjfeheagnnpaaDoorhLex
import Derived.Test.YtodjfeheagnnpaaDoorhCL
import Derived.Test.YtodjfeheagnnpaaDoorlSegs
namespace Go.Proofs.YtodjfeheagnnpaaDoor
set_option linter.unusedVariables false
open Go.RowKit Go.ChangeShapes
def exL : List Int := [60, 98, 32, 116, 105, 116, 108, 101, 61, 34, 120, 34, 62, 121, 60, 47, 98, 62]
theorem ex_segs : sg (lxA (cL exL) 18) 18 = [⟨2, 0, 10⟩, ⟨1, 10, 1⟩, ⟨2, 11, 2⟩, ⟨1, 13, 1⟩, ⟨2, 14, 4⟩] := by kernel_rfl
set_option maxRecDepth 100000 in
theorem awake_any (w : World) (hG : Glo w) : Calls Tryd.prog 8 #[] w fun e w' => e = .returned (.bool true) ∧ Below w.heap.size w w' := by
  have hcA := fun (w' : World) => Go.Lib.run_convert_bytes_const (P := Tryd.prog) w' 22 5 #[.int .u8 60, .int .u8 98, .int .u8 32, .int .u8 116, .int .u8 105, .int .u8 116, .int .u8 108, .int .u8 101, .int .u8 61, .int .u8 34, .int .u8 120, .int .u8 34, .int .u8 62, .int .u8 121, .int .u8 60, .int .u8 47, .int .u8 98, .int .u8 62] 18 18 Tryd.underlying22 Tryd.underlying5
  obtain ⟨W, hW⟩ : ∃ W, w.alloc (.cells #[.int .u8 60, .int .u8 98, .int .u8 32, .int .u8 116, .int .u8 105, .int .u8 116, .int .u8 108, .int .u8 101, .int .u8 61, .int .u8 34, .int .u8 120, .int .u8 34, .int .u8 62, .int .u8 121, .int .u8 60, .int .u8 47, .int .u8 98, .int .u8 62] 5 (18, 19)) = W := ⟨_, rfl⟩
  have hL1 : BC W (some ⟨w.heap.size, 0, none⟩) 18 (cL exL) := by
    rw [← hW]
    exact (lit_bc w exL (18, 19)).congr fun i hi => by
      have hi' : i < exL.length := hi
      simp [cL, List.getElem?_eq_getElem hi']
  have hB1 : Below w.heap.size w W := by rw [← hW]; exact below_alloc w _
  have HB1 : Hid (Below w.heap.size w W) := hB1
  have cx := lex_any (cap := 18) (cL_ch (byt_lit exL rfl)) hL1 (by decide) (by decide) (hG.stay hB1)
  change Calls _ _ #[.slice _ 18 18] _ _ at cx
  clear hL1 hB1
  go_enter Tryd.func8, Tryd.ntmps8
  go_wp2_with fail
  refine cx.mono ?_
  rintro e w1 ⟨T, g, rfl, hT, hg, hS, hU⟩
  have HU1 : Hid (Below w.heap.size w w1) := HB1.out.trans (hU.1.mono HB1.out.size)
  have c3 := segs_any hS (by decide)
  clear cx hS hU hT hg hW hcA
  go_wp2_with fail
  refine c3.mono ?_
  rintro e w3 ⟨v, rfl, hR, hU⟩
  have HU3 : Hid (Below w.heap.size w w3) := HU1.out.trans (hU.1.mono HU1.out.size)
  rw [show exL.length = 18 from rfl, ex_segs] at hR
  obtain ⟨ad, c, rfl⟩ := hR.form
  obtain ⟨gp, rfl, -, -⟩ := own_at (n := 5) hR (by omega)
  obtain ⟨a1, -, -⟩ := hR.cells rfl (i := 0) (s := ⟨2, 0, 10⟩) rfl
  obtain ⟨b1, b2, b3⟩ := hR.cells rfl (i := 1) (s := ⟨1, 10, 1⟩) rfl
  dsimp only at a1 b1 b2 b3
  clear c3 hR hU
  go_wp2
  go_ret
  exact ⟨rfl, HU3.out⟩
end Go.Proofs.YtodjfeheagnnpaaDoor
