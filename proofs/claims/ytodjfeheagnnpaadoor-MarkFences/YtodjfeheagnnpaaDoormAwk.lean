/- mark: Awake. -/
import Derived.Test.YtodjfeheagnnpaaDoormLex
import Derived.Test.YtodjfeheagnnpaaDoorhCL
import Derived.Test.YtodjfeheagnnpaaDoorlSegs
namespace Go.Proofs.YtodjfeheagnnpaaDoor
set_option linter.unusedVariables false
open Go.RowKit Go.ChangeShapes
def exM : List Int := [97, 32, 91, 98, 93, 40, 99, 41, 32, 96, 100, 96]
theorem exm_segs : sg (mkA (cL exM) 12) 12 = [⟨1, 0, 5⟩, ⟨2, 5, 3⟩, ⟨1, 8, 1⟩, ⟨4, 9, 3⟩] := by kernel_rfl
theorem an_list {l : List Int} (h : ∀ x ∈ l, x ≠ 60) (e : Nat) : AnOk (tr (cL l) e) e := an_none fun i hi => by
  rw [tr_in hi]
  rcases Nat.lt_or_ge i l.length with h1 | h1
  · rw [cL_in (List.getElem?_eq_getElem h1)]
    exact h _ (List.getElem_mem h1)
  · rw [cL_out h1]; decide
set_option maxRecDepth 100000 in
theorem mawake_any (w : World) (hG : GlM w) : Calls Tryd.prog 16 #[] w fun e w' => e = .returned (.bool true) ∧ Below w.heap.size w w' := by
  have hcA := fun (w' : World) => Go.Lib.run_convert_bytes_const (P := Tryd.prog) w' 22 5 #[.int .u8 97, .int .u8 32, .int .u8 91, .int .u8 98, .int .u8 93, .int .u8 40, .int .u8 99, .int .u8 41, .int .u8 32, .int .u8 96, .int .u8 100, .int .u8 96] 12 12 Tryd.underlying22 Tryd.underlying5
  obtain ⟨W, hW⟩ : ∃ W, w.alloc (.cells #[.int .u8 97, .int .u8 32, .int .u8 91, .int .u8 98, .int .u8 93, .int .u8 40, .int .u8 99, .int .u8 41, .int .u8 32, .int .u8 96, .int .u8 100, .int .u8 96] 5 (12, 13)) = W := ⟨_, rfl⟩
  have hL1 : BC W (some ⟨w.heap.size, 0, none⟩) 12 (cL exM) := by
    rw [← hW]
    exact (lit_bc w exM (12, 13)).congr fun i hi => by
      have hi' : i < exM.length := hi
      simp [cL, List.getElem?_eq_getElem hi']
  have hB1 : Below w.heap.size w W := by rw [← hW]; exact below_alloc w _
  have HB1 : Hid (Below w.heap.size w W) := hB1
  have cx := mlex_any (cap := 12) (cL_ch (byt_lit exM rfl)) hL1 (by decide) (by decide) (by decide) (by decide) (hG.stay hB1) (fun e _ => an_list (by decide) e)
  change Calls _ _ #[.slice _ 12 12] _ _ at cx
  clear hL1 hB1
  go_enter Tryd.func16, Tryd.ntmps16
  go_wp2_with fail
  refine cx.mono ?_
  rintro e w1 ⟨T, g, rfl, hT, hg, hS, hU⟩
  have HU1 : Hid (Below w.heap.size w w1) := HB1.out.trans (hU.1.mono HB1.out.size)
  have c3 := segs_any hS (by decide)
  clear cx hS hU hT hg hW hcA
  go_wp2_with fail
  refine c3.mono ?_
  rintro e w3 ⟨v, rfl, hR, hU⟩
  have HU3 : Hid (Below w.heap.size w w3) := HU1.out.trans (hU.1.mono HU1.out.size)
  rw [show exM.length = 12 from rfl, exm_segs] at hR
  obtain ⟨ad, c, rfl⟩ := hR.form
  obtain ⟨gp, rfl, -, -⟩ := own_at (n := 4) hR (by omega)
  obtain ⟨a1, a2, a3⟩ := hR.cells rfl (i := 1) (s := ⟨2, 5, 3⟩) rfl
  obtain ⟨b1, b2, b3⟩ := hR.cells rfl (i := 3) (s := ⟨4, 9, 3⟩) rfl
  dsimp only at a1 a2 a3 b1 b2 b3
  clear c3 hR hU
  go_wp2
  go_ret
  exact ⟨rfl, HU3.out⟩
end Go.Proofs.YtodjfeheagnnpaaDoor
