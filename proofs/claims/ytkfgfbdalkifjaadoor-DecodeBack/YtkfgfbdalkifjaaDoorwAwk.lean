/- decode: Awake. -/
import Derived.Test.YtkfgfbdalkifjaaDoorwUni
import Derived.Test.YtkfgfbdalkifjaaDoorvTu
namespace Go.Proofs.YtkfgfbdalkifjaaDoor
set_option linter.unusedVariables false
open Go.RowKit Go.ChangeShapes
def exL : List Int := [97, 38, 97, 109, 112, 59, 98]
theorem ex_un : un 1 1 (cL exL) 7 0 = [⟨97, 0, 1⟩, ⟨38, 1, 5⟩, ⟨98, 6, 1⟩] := by kernel_rfl
theorem US.at {w : World} {v : Value} {l : List U3} (h : US w v l) {i : Nat} {x : U3} (hx : l[i]? = some x) : ∃ b off cap, v = .slice (some ⟨b, off, none⟩) l.length cap ∧ l.length ≤ cap ∧ w.cell? ⟨b, off + i * 3, none⟩ = some (.int .i32 x.r) ∧ w.cell? ⟨b, off + i * 3 + 1, none⟩ = some (.int .i64 x.a) ∧ w.cell? ⟨b, off + i * 3 + 2, none⟩ = some (.int .i64 x.n) := by
  obtain ⟨ad, cap, rfl, hcap, hh⟩ := h
  obtain ⟨b, off, rfl, -, h1, h2, h3⟩ := hh i x hx
  exact ⟨b, off, cap, rfl, hcap, h1, h2, h3⟩
set_option maxRecDepth 100000 in
set_option maxHeartbeats 2000000 in
theorem awake_any (w : World) (hG : Glb w) : Calls Tryd.prog 8 #[] w fun e w' => e = .returned (.bool true) ∧ Below w.heap.size w w' := by
  have hcA := fun (w' : World) => Go.Lib.run_convert_bytes_const (P := Tryd.prog) w' 22 5 #[.int .u8 97, .int .u8 38, .int .u8 97, .int .u8 109, .int .u8 112, .int .u8 59, .int .u8 98] 7 7 Tryd.underlying22 Tryd.underlying5
  obtain ⟨W, hW⟩ : ∃ W, w.alloc (.cells #[.int .u8 97, .int .u8 38, .int .u8 97, .int .u8 109, .int .u8 112, .int .u8 59, .int .u8 98] 5 (7, 8)) = W := ⟨_, rfl⟩
  have hL1 : BC W (some ⟨w.heap.size, 0, none⟩) 7 (cL exL) := by
    rw [← hW]
    exact (lit_bc w exL (7, 8)).congr fun i hi => by
      have hi' : i < exL.length := hi
      simp [cL, List.getElem?_eq_getElem hi']
  have hB1 : Below w.heap.size w W := by rw [← hW]; exact below_alloc w _
  have HB1 : Hid (Below w.heap.size w W) := hB1
  have cx0 := units_any (n := 7) (cap := 7) (A := 0) (M := 7) (cL_ch (byt_lit exL rfl)).1 hL1 (by decide) (by decide) (by decide) (by decide) 1 1 (hG.stay hB1)
  rw [show 0 + 7 = 7 from rfl, ex_un] at cx0
  have cx : Calls Tryd.prog 15 #[.int .u8 1, .slice (some ⟨w.heap.size, 0, none⟩) 7 7, .agg #[.int .u8 1, .int .i64 0, .int .i64 7]] W (UnQ W [⟨97, 0, 1⟩, ⟨38, 1, 5⟩, ⟨98, 6, 1⟩]) := cx0
  clear hL1 hB1 cx0 hG
  go_enter Tryd.func8, Tryd.ntmps8
  go_wp2_with fail
  refine cx.mono ?_
  rintro e w1 ⟨v, rfl, hR, hU⟩
  have HU1 : Hid (Below w.heap.size w w1) := HB1.out.trans (hU.mono HB1.out.size)
  obtain ⟨ad, cap, rfl, hcap, hh⟩ := hR.us
  obtain ⟨b, off, rfl, -, a1, a2, a3⟩ := hh 1 ⟨38, 1, 5⟩ rfl
  obtain ⟨b', off', e, -, d1, d2, d3⟩ := hh 2 ⟨98, 6, 1⟩ rfl
  injection e with e
  injection e with e1 e2 _
  subst e1 e2
  dsimp only at a1 a2 a3 d1 d2 d3
  clear cx hU hR hcA hh hW
  have hl : ([⟨97, 0, 1⟩, ⟨38, 1, 5⟩, ⟨98, 6, 1⟩] : List U3).length = 3 := rfl
  rw [hl]
  rw [hl] at hcap
  clear hl
  go_wp2
  go_ret
  exact ⟨rfl, HU1.out⟩
end Go.Proofs.YtkfgfbdalkifjaaDoor
