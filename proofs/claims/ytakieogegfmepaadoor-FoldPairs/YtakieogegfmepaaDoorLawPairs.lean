/- FoldPairs. -/
import Derived.Test.YtakieogegfmepaaDoorAw
namespace Go.Proofs.YtakieogegfmepaaDoor
set_option linter.unusedVariables false
open Go.RowKit Go.ChangeShapes
theorem lB_g {a : Int} (h : gB a = true) : lB a = true := by unfold lB; rw [h]; simp
theorem lB_s {a : Int} (h : sB a = true) : lB a = true := by unfold lB; rw [h]; simp
theorem fit_up {a : Int} (h : gB a = true) : Fit (a + 32) := by rw [gB_iff] at h; unfold Fit; omega
theorem fit_dn {a : Int} (h : sB a = true) : Fit (a - 32) := by unfold sB at h; rw [gB_iff] at h; unfold Fit; omega
set_option maxHeartbeats 2000000 in
set_option maxRecDepth 100000 in
theorem pairs_g (a : Int) (w : World) (hf : Fit a) (hT : Tabs w) (hg : gB a = true) : Calls Tryd.prog 5 #[.int .i32 a] w fun e w' => e = .returned (.bool true) ∧ Below w.heap.size w w' := by
  have HT : Hid (Tabs w) := hT
  clear hT
  have hs := not_both hg
  have hsd : sB (a + 32) = true := by unfold sB; rw [show a + 32 - 32 = a by omega]; exact hg
  have c1 := great_any a
  rw [hg] at c1
  have c2 := down_any a hf
  rw [show dn a = a + 32 by unfold dn; rw [hg]; rfl] at c2
  have c3 := small_any a hf
  rw [hs] at c3
  have c4 := small_any (a + 32) (fit_up hg)
  rw [hsd] at c4
  have c5 := up_any (a + 32) (fit_up hg)
  rw [show up (a + 32) = a by unfold up; rw [hsd]; show a + 32 - 32 = a; omega] at c5
  have c6 := letter_any a hf
  rw [lB_g hg] at c6
  have c7 := letter_any (a + 32) (fit_up hg)
  rw [lB_s hsd] at c7
  have c8 := up_any a hf
  rw [up_id hs] at c8
  generalize a + 32 = d at c2 c4 c5 c7
  clear hf hs hg hsd
  go_enter Tryd.func5, Tryd.ntmps5
  go_wp2_with fail
  refine (awake_any w HT.out).mono ?_
  rintro e w1 ⟨rfl, hb1⟩
  have HB : Hid (Below w.heap.size w w1) := hb1
  clear hb1 HT
  go_wp2_with fail
  refine (c1 _).mono ?_
  rintro e w' ⟨rfl, rfl⟩
  go_wp2_with fail
  refine (c2 _).mono ?_
  rintro e w' ⟨rfl, rfl⟩
  go_wp2_with fail
  refine (c3 _).mono ?_
  rintro e w' ⟨rfl, rfl⟩
  go_wp2_with fail
  refine (c4 _).mono ?_
  rintro e w' ⟨rfl, rfl⟩
  go_wp2_with fail
  refine (c5 _).mono ?_
  rintro e w' ⟨rfl, rfl⟩
  go_wp2_with fail
  refine (c6 _).mono ?_
  rintro e w' ⟨rfl, rfl⟩
  go_wp2_with fail
  refine (c7 _).mono ?_
  rintro e w' ⟨rfl, rfl⟩
  go_wp2_with fail
  refine (c8 _).mono ?_
  rintro e w' ⟨rfl, rfl⟩
  go_wp2
  go_ret
  exact ⟨rfl, HB.out⟩
set_option maxHeartbeats 2000000 in
set_option maxRecDepth 100000 in
theorem pairs_s (a : Int) (w : World) (hf : Fit a) (hT : Tabs w) (hg : gB a = false) (hs : sB a = true) : Calls Tryd.prog 5 #[.int .i32 a] w fun e w' => e = .returned (.bool true) ∧ Below w.heap.size w w' := by
  have HT : Hid (Tabs w) := hT
  clear hT
  have hgd : gB (a - 32) = true := hs
  have c1 := great_any a
  rw [hg] at c1
  have c2 := small_any a hf
  rw [hs] at c2
  have c3 := up_any a hf
  rw [show up a = a - 32 by unfold up; rw [hs]; rfl] at c3
  have c4 := great_any (a - 32)
  rw [hgd] at c4
  have c5 := down_any (a - 32) (fit_dn hs)
  rw [show dn (a - 32) = a by unfold dn; rw [hgd]; show a - 32 + 32 = a; omega] at c5
  have c6 := letter_any a hf
  rw [lB_s hs] at c6
  have c7 := down_any a hf
  rw [dn_id hg] at c7
  generalize a - 32 = d at c3 c4 c5
  clear hf hs hg hgd
  go_enter Tryd.func5, Tryd.ntmps5
  go_wp2_with fail
  refine (awake_any w HT.out).mono ?_
  rintro e w1 ⟨rfl, hb1⟩
  have HB : Hid (Below w.heap.size w w1) := hb1
  clear hb1 HT
  go_wp2_with fail
  refine (c1 _).mono ?_
  rintro e w' ⟨rfl, rfl⟩
  go_wp2_with fail
  refine (c2 _).mono ?_
  rintro e w' ⟨rfl, rfl⟩
  go_wp2_with fail
  refine (c3 _).mono ?_
  rintro e w' ⟨rfl, rfl⟩
  go_wp2_with fail
  refine (c4 _).mono ?_
  rintro e w' ⟨rfl, rfl⟩
  go_wp2_with fail
  refine (c5 _).mono ?_
  rintro e w' ⟨rfl, rfl⟩
  go_wp2_with fail
  refine (c6 _).mono ?_
  rintro e w' ⟨rfl, rfl⟩
  go_wp2_with fail
  refine (c7 _).mono ?_
  rintro e w' ⟨rfl, rfl⟩
  go_wp2
  go_ret
  exact ⟨rfl, HB.out⟩
set_option maxHeartbeats 2000000 in
set_option maxRecDepth 100000 in
theorem pairs_n (a : Int) (w : World) (hf : Fit a) (hT : Tabs w) (hg : gB a = false) (hs : sB a = false) : Calls Tryd.prog 5 #[.int .i32 a] w fun e w' => e = .returned (.bool true) ∧ Below w.heap.size w w' := by
  have HT : Hid (Tabs w) := hT
  clear hT
  have c1 := great_any a
  rw [hg] at c1
  have c2 := small_any a hf
  rw [hs] at c2
  have c3 := up_any a hf
  rw [up_id hs] at c3
  have c4 := down_any a hf
  rw [dn_id hg] at c4
  clear hf hs hg
  go_enter Tryd.func5, Tryd.ntmps5
  go_wp2_with fail
  refine (awake_any w HT.out).mono ?_
  rintro e w1 ⟨rfl, hb1⟩
  have HB : Hid (Below w.heap.size w w1) := hb1
  clear hb1 HT
  go_wp2_with fail
  refine (c1 _).mono ?_
  rintro e w' ⟨rfl, rfl⟩
  go_wp2_with fail
  refine (c2 _).mono ?_
  rintro e w' ⟨rfl, rfl⟩
  go_wp2_with fail
  refine (c3 _).mono ?_
  rintro e w' ⟨rfl, rfl⟩
  go_wp2_with fail
  refine (c4 _).mono ?_
  rintro e w' ⟨rfl, rfl⟩
  go_wp2
  go_ret
  exact ⟨rfl, HB.out⟩
theorem pairs_all (a : Int) (w : World) (hf : Fit a) (hT : Tabs w) : Calls Tryd.prog 5 #[.int .i32 a] w fun e w' => e = .returned (.bool true) ∧ Below w.heap.size w w' := by
  cases hg : gB a
  · cases hs : sB a
    · exact pairs_n a w hf hT hg hs
    · exact pairs_s a w hf hT hg hs
  · exact pairs_g a w hf hT hg
end Go.Proofs.YtakieogegfmepaaDoor
