/- FoldSigns. -/
import Derived.Test.YtakieogegfmepaaDoorAw
namespace Go.Proofs.YtakieogegfmepaaDoor
set_option linter.unusedVariables false
open Go.RowKit Go.ChangeShapes
set_option maxHeartbeats 2000000 in
set_option maxRecDepth 100000 in
theorem signs_p (a : Int) (w : World) (hf : Fit a) (hT : Tabs w) (hs : sB a = true) (hg : gB a = true) : Calls Tryd.prog 3 #[.int .i32 a] w fun e w' => e = .returned (.bool true) ∧ Below w.heap.size w w' := by
  have HT : Hid (Tabs w) := hT
  clear hT
  have c_great := great_any a
  have c_rgreat := rgreat_any a
  have c_small := small_any a hf
  have c_rsmall := rsmall_any a hf
  have c_up := up_any a hf
  have c_down := down_any a hf
  have c_letter := letter_any a hf
  have c_rletter := rletter_any a hf
  rw [hs] at c_small c_rsmall
  rw [hg] at c_great c_rgreat
  generalize lB a = l at c_letter c_rletter
  rw [show up a = a - 32 by unfold up; rw [hs]; rfl] at c_up
  have hw : IntKind.i32.wrap (a - 32) = a - 32 := by
    unfold sB at hs; rw [gB_iff] at hs
    simp [IntKind.wrap, IntKind.bits, IntKind.signed]; omega
  rw [show dn a = a + 32 by unfold dn; rw [hg]; rfl] at c_down
  have hv : IntKind.i32.wrap (a + 32) = a + 32 := by
    rw [gB_iff] at hg
    simp [IntKind.wrap, IntKind.bits, IntKind.signed]; omega
  clear hf hs hg
  go_enter Tryd.func3, Tryd.ntmps3
  go_wp2_with fail
  refine (awake_any w HT.out).mono ?_
  rintro e w1 ⟨rfl, hb1⟩
  have HB : Hid (Below w.heap.size w w1) := hb1
  clear hb1 HT
  go_wp2_with fail
  refine (c_rsmall _).mono ?_
  rintro e w' ⟨rfl, rfl⟩
  go_wp2_with fail
  refine (c_rgreat _).mono ?_
  rintro e w' ⟨rfl, rfl⟩
  go_wp2_with fail
  refine (c_letter _).mono ?_
  rintro e w' ⟨rfl, rfl⟩
  go_wp2_with fail
  refine (c_rletter _).mono ?_
  rintro e w' ⟨rfl, rfl⟩
  go_wp2_with fail
  refine (c_great _).mono ?_
  rintro e w' ⟨rfl, rfl⟩
  go_wp2_with fail
  refine (c_rgreat _).mono ?_
  rintro e w' ⟨rfl, rfl⟩
  go_wp2_with fail
  refine (c_small _).mono ?_
  rintro e w' ⟨rfl, rfl⟩
  go_wp2_with fail
  refine (c_rsmall _).mono ?_
  rintro e w' ⟨rfl, rfl⟩
  go_wp2_with fail
  refine (c_up _).mono ?_
  rintro e w' ⟨rfl, rfl⟩
  go_wp2_with fail
  refine (c_down _).mono ?_
  rintro e w' ⟨rfl, rfl⟩
  go_wp2
  go_ret
  exact ⟨rfl, HB.out⟩
set_option maxHeartbeats 2000000 in
set_option maxRecDepth 100000 in
theorem signs_s (a : Int) (w : World) (hf : Fit a) (hT : Tabs w) (hs : sB a = true) (hg : gB a = false) : Calls Tryd.prog 3 #[.int .i32 a] w fun e w' => e = .returned (.bool true) ∧ Below w.heap.size w w' := by
  have HT : Hid (Tabs w) := hT
  clear hT
  have c_great := great_any a
  have c_rgreat := rgreat_any a
  have c_small := small_any a hf
  have c_rsmall := rsmall_any a hf
  have c_up := up_any a hf
  have c_down := down_any a hf
  have c_letter := letter_any a hf
  have c_rletter := rletter_any a hf
  rw [hs] at c_small c_rsmall
  rw [hg] at c_great c_rgreat
  generalize lB a = l at c_letter c_rletter
  rw [show up a = a - 32 by unfold up; rw [hs]; rfl] at c_up
  have hw : IntKind.i32.wrap (a - 32) = a - 32 := by
    unfold sB at hs; rw [gB_iff] at hs
    simp [IntKind.wrap, IntKind.bits, IntKind.signed]; omega
  rw [dn_id hg] at c_down
  clear hf hs hg
  go_enter Tryd.func3, Tryd.ntmps3
  go_wp2_with fail
  refine (awake_any w HT.out).mono ?_
  rintro e w1 ⟨rfl, hb1⟩
  have HB : Hid (Below w.heap.size w w1) := hb1
  clear hb1 HT
  go_wp2_with fail
  refine (c_rsmall _).mono ?_
  rintro e w' ⟨rfl, rfl⟩
  go_wp2_with fail
  refine (c_rgreat _).mono ?_
  rintro e w' ⟨rfl, rfl⟩
  go_wp2_with fail
  refine (c_letter _).mono ?_
  rintro e w' ⟨rfl, rfl⟩
  go_wp2_with fail
  refine (c_rletter _).mono ?_
  rintro e w' ⟨rfl, rfl⟩
  go_wp2_with fail
  refine (c_great _).mono ?_
  rintro e w' ⟨rfl, rfl⟩
  go_wp2_with fail
  refine (c_rgreat _).mono ?_
  rintro e w' ⟨rfl, rfl⟩
  go_wp2_with fail
  refine (c_small _).mono ?_
  rintro e w' ⟨rfl, rfl⟩
  go_wp2_with fail
  refine (c_rsmall _).mono ?_
  rintro e w' ⟨rfl, rfl⟩
  go_wp2_with fail
  refine (c_up _).mono ?_
  rintro e w' ⟨rfl, rfl⟩
  go_wp2_with fail
  refine (c_down _).mono ?_
  rintro e w' ⟨rfl, rfl⟩
  go_wp2
  go_ret
  exact ⟨rfl, HB.out⟩
set_option maxHeartbeats 2000000 in
set_option maxRecDepth 100000 in
theorem signs_g (a : Int) (w : World) (hf : Fit a) (hT : Tabs w) (hs : sB a = false) (hg : gB a = true) : Calls Tryd.prog 3 #[.int .i32 a] w fun e w' => e = .returned (.bool true) ∧ Below w.heap.size w w' := by
  have HT : Hid (Tabs w) := hT
  clear hT
  have c_great := great_any a
  have c_rgreat := rgreat_any a
  have c_small := small_any a hf
  have c_rsmall := rsmall_any a hf
  have c_up := up_any a hf
  have c_down := down_any a hf
  have c_letter := letter_any a hf
  have c_rletter := rletter_any a hf
  rw [hs] at c_small c_rsmall
  rw [hg] at c_great c_rgreat
  generalize lB a = l at c_letter c_rletter
  rw [up_id hs] at c_up
  rw [show dn a = a + 32 by unfold dn; rw [hg]; rfl] at c_down
  have hv : IntKind.i32.wrap (a + 32) = a + 32 := by
    rw [gB_iff] at hg
    simp [IntKind.wrap, IntKind.bits, IntKind.signed]; omega
  clear hf hs hg
  go_enter Tryd.func3, Tryd.ntmps3
  go_wp2_with fail
  refine (awake_any w HT.out).mono ?_
  rintro e w1 ⟨rfl, hb1⟩
  have HB : Hid (Below w.heap.size w w1) := hb1
  clear hb1 HT
  go_wp2_with fail
  refine (c_rsmall _).mono ?_
  rintro e w' ⟨rfl, rfl⟩
  go_wp2_with fail
  refine (c_rgreat _).mono ?_
  rintro e w' ⟨rfl, rfl⟩
  go_wp2_with fail
  refine (c_letter _).mono ?_
  rintro e w' ⟨rfl, rfl⟩
  go_wp2_with fail
  refine (c_rletter _).mono ?_
  rintro e w' ⟨rfl, rfl⟩
  go_wp2_with fail
  refine (c_great _).mono ?_
  rintro e w' ⟨rfl, rfl⟩
  go_wp2_with fail
  refine (c_rgreat _).mono ?_
  rintro e w' ⟨rfl, rfl⟩
  go_wp2_with fail
  refine (c_small _).mono ?_
  rintro e w' ⟨rfl, rfl⟩
  go_wp2_with fail
  refine (c_rsmall _).mono ?_
  rintro e w' ⟨rfl, rfl⟩
  go_wp2_with fail
  refine (c_up _).mono ?_
  rintro e w' ⟨rfl, rfl⟩
  go_wp2_with fail
  refine (c_down _).mono ?_
  rintro e w' ⟨rfl, rfl⟩
  go_wp2
  go_ret
  exact ⟨rfl, HB.out⟩
set_option maxHeartbeats 2000000 in
set_option maxRecDepth 100000 in
theorem signs_n (a : Int) (w : World) (hf : Fit a) (hT : Tabs w) (hs : sB a = false) (hg : gB a = false) : Calls Tryd.prog 3 #[.int .i32 a] w fun e w' => e = .returned (.bool true) ∧ Below w.heap.size w w' := by
  have HT : Hid (Tabs w) := hT
  clear hT
  have c_great := great_any a
  have c_rgreat := rgreat_any a
  have c_small := small_any a hf
  have c_rsmall := rsmall_any a hf
  have c_up := up_any a hf
  have c_down := down_any a hf
  have c_letter := letter_any a hf
  have c_rletter := rletter_any a hf
  rw [hs] at c_small c_rsmall
  rw [hg] at c_great c_rgreat
  generalize lB a = l at c_letter c_rletter
  rw [up_id hs] at c_up
  rw [dn_id hg] at c_down
  clear hf hs hg
  go_enter Tryd.func3, Tryd.ntmps3
  go_wp2_with fail
  refine (awake_any w HT.out).mono ?_
  rintro e w1 ⟨rfl, hb1⟩
  have HB : Hid (Below w.heap.size w w1) := hb1
  clear hb1 HT
  go_wp2_with fail
  refine (c_rsmall _).mono ?_
  rintro e w' ⟨rfl, rfl⟩
  go_wp2_with fail
  refine (c_rgreat _).mono ?_
  rintro e w' ⟨rfl, rfl⟩
  go_wp2_with fail
  refine (c_letter _).mono ?_
  rintro e w' ⟨rfl, rfl⟩
  go_wp2_with fail
  refine (c_rletter _).mono ?_
  rintro e w' ⟨rfl, rfl⟩
  go_wp2_with fail
  refine (c_great _).mono ?_
  rintro e w' ⟨rfl, rfl⟩
  go_wp2_with fail
  refine (c_rgreat _).mono ?_
  rintro e w' ⟨rfl, rfl⟩
  go_wp2_with fail
  refine (c_small _).mono ?_
  rintro e w' ⟨rfl, rfl⟩
  go_wp2_with fail
  refine (c_rsmall _).mono ?_
  rintro e w' ⟨rfl, rfl⟩
  go_wp2_with fail
  refine (c_up _).mono ?_
  rintro e w' ⟨rfl, rfl⟩
  go_wp2_with fail
  refine (c_down _).mono ?_
  rintro e w' ⟨rfl, rfl⟩
  go_wp2
  go_ret
  exact ⟨rfl, HB.out⟩
theorem signs_all (a : Int) (w : World) (hf : Fit a) (hT : Tabs w) : Calls Tryd.prog 3 #[.int .i32 a] w fun e w' => e = .returned (.bool true) ∧ Below w.heap.size w w' := by
  cases hs : sB a <;> cases hg : gB a
  · exact signs_n a w hf hT hs hg
  · exact signs_g a w hf hT hs hg
  · exact signs_s a w hf hT hs hg
  · exact signs_p a w hf hT hs hg
end Go.Proofs.YtakieogegfmepaaDoor
