/- The reference's SameSegs. -/
import Derived.Test.YtgebmmbnpdhooaalRef
namespace Go.Proofs.Ytgebmmbnpdhooaa
set_option linter.unusedVariables false
open Go.RowKit Go.ChangeShapes
set_option maxHeartbeats 1000000 in
theorem same_any {w : World} {ba bb : Nat} {va vb : Value} {l : List Sg} (ha : SR w ba va l) (hb : SR w bb vb l) (hn : l.length ≤ 65536) : Calls Try.prog 14 #[va, vb] w fun e w' =>
    e = .returned (.bool true) ∧ Up w.heap.size w w' := by
  obtain ⟨aa, ca, rfl⟩ := ha.form
  obtain ⟨ab, cb, rfl⟩ := hb.form
  have HA : Hid (SR w ba (.slice aa l.length ca) l) := ha
  have HB : Hid (SR w bb (.slice ab l.length cb) l) := hb
  obtain ⟨n, en⟩ : ∃ n, l.length = n := ⟨_, rfl⟩
  have HN : Hid (l.length = n) := en
  rw [en] at HA HB hn ⊢
  clear ha hb en
  go_enter Try.func14, Try.ntmps14
  go_wp2
  go_loopg [5] n (fun q iv wr => ∃ i : Nat, i ≤ n ∧ q = n - i ∧ iv = .int .i64 i ∧ Hid (Up w.heap.size w wr))
  case atStart => exact ⟨0, Nat.zero_le _, rfl, rfl, Up.refl w⟩
  case round =>
    obtain ⟨i, hi, hq, rfl, HU⟩ := hrel
    by_cases hlt : i < n
    · have z1 : (i : Int) < (n : Int) := by omega
      have z2 : (0 : Int) ≤ (i : Int) := by omega
      have hA := HA.out.stay HU.out.1
      have hB := HB.out.stay HU.out.1
      obtain ⟨ga, rfl, -, -⟩ := own_at (n := n) (by have := HA.out; unfold SR at this; rw [HN.out] at this; exact this) (by omega)
      obtain ⟨gb, rfl, -, -⟩ := own_at (n := n) (by have := HB.out; unfold SR at this; rw [HN.out] at this; exact this) (by omega)
      obtain ⟨s, hs⟩ : ∃ s, l[i]? = some s := ⟨l[i]'(by rw [HN.out]; exact hlt), List.getElem?_eq_getElem _⟩
      obtain ⟨a1, a2, a3⟩ := hA.cells HN.out.symm hs
      obtain ⟨b1, b2, b3⟩ := hB.cells HN.out.symm hs
      obtain ⟨x, y, z⟩ := s
      dsimp only at a1 a2 a3 b1 b2 b3
      clear hA hB hs
      go_upto_region 6 with fail
      go_quiet (fail)
      go_wp2
      go_roundg (n - (i + 1))
      case measure => omega
      case rel => exact ⟨i + 1, by omega, rfl, by go_num, HU.out.drewN' _⟩
    · obtain rfl : i = n := by omega
      have z1 : ¬ (i : Int) < (i : Int) := by omega
      go_wp2
      go_ret
      exact ⟨rfl, HU.out⟩
end Go.Proofs.Ytgebmmbnpdhooaa
