/- span.Cover of parts that lie side by side. -/
import Derived.Test.YtfefdcolmalgjaalGood
import Derived.Test.YtfefdcolmalgjaalBk
import Derived.Deep.AppendLies
import Derived.Deep.DeepCutAuto
namespace Go.Proofs.Ytfefdcolmalgjaa
set_option linter.unusedVariables false
open Go.RowKit Go.ChangeShapes
theorem drop_at {l : List Sg} {j : Nat} (h : j < l.length) : ∃ s, l[j]? = some s ∧ l.drop j = s :: l.drop (j + 1) := ⟨l[j], List.getElem?_eq_getElem h, List.drop_eq_getElem_cons h⟩
set_option maxHeartbeats 1000000 in
set_option maxRecDepth 100000 in
theorem cover_any {w : World} {base n : Nat} {v : Value} {l : List Sg} {L : Nat → Int} (h : SP w base v l) (hG : Good L 0 0 l n) (hn : n ≤ 65536) (hl : l.length ≤ 65536) : Calls Try.prog 19 #[v, .int .i64 n] w fun e w' => e = .returned (.bool true) ∧ Up w.heap.size w w' := by
  obtain ⟨ad, c, rfl⟩ := h.form
  have H : Hid (SP w base (.slice ad l.length c) l) := h
  have HG : Hid (Good L 0 0 l n) := hG
  obtain ⟨m, em⟩ : ∃ m, l.length = m := ⟨_, rfl⟩
  have HM : Hid (l.length = m) := em
  rw [em] at H hl ⊢
  clear h hG em
  go_enter Try.func19, Try.ntmps19
  go_wp2
  go_loopg [5, 10] m (fun q av iv wr => ∃ j a : Nat, j ≤ m ∧ q = m - j ∧ av = .int .i64 a ∧ iv = .int .i64 j ∧ Hid (∃ z, Good L z a (l.drop j) n) ∧ Hid (Up w.heap.size w wr))
  case atStart => exact ⟨0, 0, Nat.zero_le _, rfl, rfl, rfl, ⟨0, HG.out⟩, Up.refl w⟩
  case round =>
    obtain ⟨j, a, hj, hq, rfl, rfl, HD, HU⟩ := hrel
    by_cases hlt : j < m
    · have z1 : (j : Int) < (m : Int) := by omega
      have z2 : (0 : Int) ≤ (j : Int) := by omega
      obtain ⟨s, hs, hd⟩ := drop_at (l := l) (j := j) (by rw [HM.out]; exact hlt)
      obtain ⟨z, hz⟩ := HD.out
      rw [hd] at hz
      obtain ⟨h1, h2, h3, h4, h5⟩ := hz
      have hle := good_le _ _ _ _ h5
      obtain ⟨gp, rfl, -, -⟩ := own_at (n := m) (by have := H.out; unfold SP at this; rw [HM.out] at this; exact this) (by omega)
      obtain ⟨c1, c2⟩ := (H.out.stay HU.out.1).cells HM.out.symm hs
      obtain ⟨sl, sa, sn⟩ := s
      dsimp only at c1 c2 h1 h2 hle h5
      subst h1
      have HH : Hid (∃ z, Good L z (sa + sn) (l.drop (j + 1)) n) := ⟨_, h5⟩
      clear hd h3 h4 h5 hs HD
      obtain ⟨W, hW⟩ : ∃ W, wr.alloc (.cells #[.int .i64 (sa : Int), .int .i64 (sn : Int)] 45) = W := ⟨_, rfl⟩
      have hB : Bk W wr.heap.size #[.int .i64 (sa : Int), .int .i64 (sn : Int)] 45 := by rw [← hW]; exact Bk.new _ _ _
      have HUW : Hid (Up w.heap.size w W) := by show Up _ _ _; rw [← hW]; exact HU.out.alloc _
      have b1 := hB.cell 0 rfl
      have b2 := hB.cell 1 rfl
      have HB : Hid (Bk W wr.heap.size #[.int .i64 (sa : Int), .int .i64 (sn : Int)] 45) := hB
      have z3 : ¬ ((sn : Int) = 0) := by omega
      have z4 : ((sn : Int) == 0) = false := by simpa using z3
      clear hB
      go_wp2_with fail
      refine (sound_any sa sn (by omega) (by omega) (by omega) (by omega) W).mono ?_
      rintro e w1 ⟨rfl, hU⟩
      have hB := HB.out.stay hU.1
      have HB1 : Hid (Bk w1 wr.heap.size #[.int .i64 (sa : Int), .int .i64 (sn : Int)] 45) := hB
      have HU1 : Hid (Up w.heap.size w w1) := HUW.out.stay hU.1
      clear b1 b2 hU HB HUW hW
      have b1 := hB.cell 0 rfl
      have b2 := hB.cell 1 rfl
      clear hB
      go_wp2_with fail
      refine (end_any sa sn (by omega) (by omega) (by omega) (by omega) w1).mono ?_
      rintro e w2 ⟨rfl, hU⟩
      have HU2 : Hid (Up w.heap.size w w2) := HU1.out.stay hU.1
      clear hU HU1 HB1 b1 b2
      go_wp2
      go_roundg (m - (j + 1))
      case measure => omega
      case rel => exact ⟨j + 1, sa + sn, by omega, rfl, by go_num, by go_num, HH, HU2⟩
    · obtain rfl : j = m := by omega
      have z1 : ¬ (j : Int) < (j : Int) := by omega
      obtain ⟨z, hz⟩ := HD.out
      rw [List.drop_of_length_le (by rw [HM.out]; exact Nat.le_refl _)] at hz
      have hz' : a = n := hz
      subst hz'
      clear hz HD HG
      go_wp2
      go_ret
      exact ⟨rfl, HU.out⟩
end Go.Proofs.Ytfefdcolmalgjaa
