/- fault.Where of an error of a list; right. -/
import Derived.Test.YtgijihfijoiafaaGreatDoorQLin
import Derived.Test.YtgijihfijoiafaaGreatDoorQPWrdCmp
namespace Go.Proofs.YtgijihfijoiafaaGreatDoor
set_option linter.unusedVariables false
open Go.RowKit Go.ChangeShapes
theorem where_at (x : Nd) (l : List Nd) (c : Int) (w : World) (hl : l.length ≤ 98) (h : Lie w (x :: l) c) (hg : Ety w) :
    Calls Tryz.prog 38 #[val (x :: l) c] w fun e w' => e = .returned (.tuple #[.string x.s, .int .i64 x.n, .bool true]) ∧ Below w.heap.size w w' := by
  have co := outer_any (x :: l) c w (by simp; omega) h hg
  have HC : Hid (w.heap[x.b]? = some (.cells #[.string x.s, .int .i64 x.n, val l c] 83 (0, 0))) := h.1
  change Calls _ _ _ _ (fun e w' => e = .returned (.pointer (some ⟨x.b, 0, none⟩)) ∧ Below w.heap.size w w') at co
  change Calls Tryz.prog _ #[.iface 81 (.pointer (some ⟨x.b, 0, none⟩))] _ _ at co
  show Calls Tryz.prog _ #[.iface 81 (.pointer (some ⟨x.b, 0, none⟩))] _ _
  obtain ⟨b, s, n⟩ := x
  simp only at co HC ⊢
  clear h hg
  go_enter Tryz.func38, Tryz.ntmps38
  go_wp2_with fail
  refine co.mono ?_
  rintro e w1 ⟨rfl, hb⟩
  have hc := (hb.block b (lt_of_heap HC.out)).trans HC.out
  have k : Bk w1 b #[.string s, .int .i64 n, val l c] 83 := hc
  have c0 := k.cell 0 rfl
  have c1 := k.cell 1 rfl
  have HB : Hid (Below w.heap.size w w1) := hb
  clear hb co hc k
  go_wp2
  go_quiet (fail)
  go_wp2
  go_ret3
  exact ⟨rfl, below_drewN HB.out nq⟩
theorem right_nil (nm : ByteArray) (ln : Int) (w : World) :
    Calls Tryz.prog 16 #[.nilIface, .string nm, .int .i64 0, .int .i64 ln] w fun e w' => e = .returned (.bool true) ∧ w' = w := by
  go_enter Tryz.func16, Tryz.ntmps16
  go_wp2
  go_ret
  exact ⟨rfl, rfl⟩
set_option maxRecDepth 100000 in
theorem right_at (x : Nd) (l : List Nd) (c : Int) (w : World) (hl : l.length ≤ 98) (h : Lie w (x :: l) c) (hg : Ety w) (hc : ¬ c = 0) :
    Calls Tryz.prog 16 #[val (x :: l) c, .string x.s, .int .i64 c, .int .i64 (lin (x :: l))] w fun e w' => e = .returned (.bool true) ∧ Below w.heap.size w w' := by
  have cw := where_at x l c w hl h hg
  have HL : Hid (Lie w (x :: l) c) := h
  have HE : Hid (Ety w) := hg
  have cc := fun (w' : World) (hb : Below w.heap.size w w') => code_any (x :: l) c w' (by simp; omega) (HL.out.stay hb) (HE.out.stay hb)
  have ck := fun (w' : World) (hb : Below w.heap.size w w') => line_any (x :: l) c w' (by simp; omega) (HL.out.stay hb) (HE.out.stay hb)
  generalize lin (x :: l) = z at ck ⊢
  obtain ⟨T0, v0, hv0⟩ := val_shape (x :: l) c
  rw [hv0] at cw cc ck ⊢
  generalize x.s = sx at cw ⊢
  generalize x.n = nx at cw
  clear h hg hv0
  go_enter Tryz.func16, Tryz.ntmps16
  go_wp2_with fail
  refine cw.mono ?_
  rintro e w1 ⟨rfl, hb1⟩
  have HB1 : Hid (Below w.heap.size w w1) := hb1
  clear cw hb1
  go_wp2_with fail
  refine (cc w1 HB1.out).mono ?_
  rintro e w2 ⟨rfl, hb2⟩
  have HB2 : Hid (Below w.heap.size w w2) := HB1.out.trans (hb2.mono HB1.out.size)
  clear hb2 HB1 cc
  go_wp2_with fail
  refine (ck w2 HB2.out).mono ?_
  rintro e w3 ⟨rfl, hb3⟩
  have HB3 : Hid (Below w.heap.size w w3) := HB2.out.trans (hb3.mono HB2.out.size)
  clear hb3 HB2 ck
  go_wp2
  go_ret
  exact ⟨rfl, HB3.out⟩
end Go.Proofs.YtgijihfijoiafaaGreatDoor
