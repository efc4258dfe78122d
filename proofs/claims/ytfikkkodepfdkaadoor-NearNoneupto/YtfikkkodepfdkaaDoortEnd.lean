/- trie.Ends. -/
import Derived.Test.YtfikkkodepfdkaaDoortCnt
import Derived.Test.YtfikkkodepfdkaaDoortAsk
namespace Go.Proofs.YtfikkkodepfdkaaDoor
set_option linter.unusedVariables false
open Go.RowKit Go.ChangeShapes
set_option maxRecDepth 100000 in
theorem ends_any {w : World} {base T m : Nat} {vN : Value} {l : List Nd} (h : TrieM w base T m vN l) {i : Nat} {n : Nd} (hn : l[i]? = some n) (h2 : l.length ≤ 1000000) :
    Calls Tryd.prog 72 #[.pointer (some ⟨T, 0, none⟩), .int .i64 (i : Int)] w fun e w' => e = .returned (.bool n.p.e) ∧ Below w.heap.size w w' := by
  obtain ⟨nr, nk, p⟩ := n
  obtain ⟨ar, cr, er⟩ := own_slice (h.rr i _ hn)
  obtain ⟨ak, ck, ek⟩ := own_slice (h.kk i _ hn)
  dsimp only at er ek
  subst er ek
  have c1 := node_any h hn h2
  have hf : ∀ w : World, (Instr.field 70 (.agg #[.slice ar p.R.length cr, .slice ak p.K.length ck, .bool p.e]) 2).run Tryd.prog w = .ok (.bool p.e) w := fun w => by
    first | rfl | kernel_rfl | (simp [Instr.field, run_underlying Tryd.underlying70, part, go_sem]; done) | (simp [Instr.field, run_underlying Tryd.underlying70])
  clear h hn
  go_enter Tryd.func72, Tryd.ntmps72
  go_wp2_with fail
  refine c1.mono ?_
  rintro e w1 ⟨rfl, hb⟩
  have HB : Hid (Below w.heap.size w w1) := hb
  clear c1 hb
  go_wp2
  go_ret
  exact ⟨rfl, HB.out⟩
end Go.Proofs.YtfikkkodepfdkaaDoor
