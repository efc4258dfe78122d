/- A literal's bytes with others put behind them; marks change no cell. -/
import Derived.Test.YtkfgfbdalkifjaaDoorvApp
import Derived.ArgAppend
import Derived.Lib.UnsafeStr
namespace Go.Proofs.YtkfgfbdalkifjaaDoor
set_option linter.unusedVariables false
open Go.RowKit Go.ChangeShapes
theorem freeze_cell (w : World) (p : Addr) (n : Nat) (a : Addr) : (w.freeze p n).cell? a = w.cell? a := by
  unfold World.freeze
  split
  · rfl
  · simp only [World.cell?, Array.getElem?_modify]
    by_cases h : p.block = a.block
    · rw [if_pos h]
      cases w.heap[a.block]? with
      | none => rfl
      | some o => cases o <;> rfl
    · rw [if_neg h]
theorem freeze_blk (w : World) (p : Addr) (n : Nat) {k : Nat} (h : p.block ≠ k) : (w.freeze p n).heap[k]? = w.heap[k]? := by
  unfold World.freeze
  split
  · rfl
  · simp only [Array.getElem?_modify]
    rw [if_neg h]
theorem freeze_size (w : World) (p : Addr) (n : Nat) : (w.freeze p n).heap.size = w.heap.size := by
  unfold World.freeze
  split
  · rfl
  · simp
theorem BC.freeze {w : World} {ad : Option Addr} {n : Nat} {c : Nat → Int} (h : BC w ad n c) (p : Addr) (m : Nat) : BC (w.freeze p m) ad n c := fun i hi => by
  obtain ⟨b, off, e, hc⟩ := h i hi
  exact ⟨b, off, e, by rw [freeze_cell]; exact hc⟩
theorem Up.freeze {B : Nat} {a w : World} (h : Up B a w) {p : Addr} (hp : B ≤ p.block) (m : Nat) : Up B a (w.freeze p m) := ⟨Lib.below_freeze h.1 hp m, by rw [freeze_size]; exact h.2⟩
theorem conv_mark {w : World} {A n c : Nat} {C : Array Value} {m : Nat × Nat} (h : w.heap[A]? = some (.cells C 5 m)) :
    (convert 22 22 (.slice (some ⟨A, 0, none⟩) n c)).run Tryd.prog w = .ok (.slice (some ⟨A, 0, none⟩) n c) (w.freeze ⟨A, C.size, none⟩ 1) := by
  have hsh : w.shape? A = some (5, C.size) := by unfold World.shape?; rw [h]
  simp [convert, run_underlying Tryd.underlying22, run_underlying Tryd.underlying5, markStringish, hsh]
theorem lit_row (w : World) (z : Int) : BC (w.alloc (.cells #[.int .u8 z] 5)) (some ⟨w.heap.size, 0, none⟩) 1 (cL [z]) := fun i hi => by
  obtain rfl : i = 0 := by omega
  refine ⟨_, _, rfl, ?_⟩
  have : (w.alloc (.cells #[.int .u8 z] 5)).heap[w.heap.size]? = some (.cells #[.int .u8 z] 5) := heap_alloc_new _ _
  simp only [World.cell?, this]
  rfl
theorem app1_wp {w : World} {o : Oper} {a : Act} {K : Act → World → Prop} {Q : Exit → Act → World → Prop} (s x : Operand)
    (ho : o.op = .call { callee := .builtin .append, args := #[s, x], argTypes := #[22, 22] })
    (A : Nat) (z : Int) (hs : a.eval s = .slice (some ⟨A, 0, none⟩) 1 1) (hz0 : BC w (some ⟨A, 0, none⟩) 1 (cL [z])) (b off m cap : Nat) (c : Nat → Int) (hx : a.eval x = .slice (some ⟨b, off, none⟩) m cap) (hb : BC w (some ⟨b, off, none⟩) m c) (hm : 0 < m)
    (h63 : m ≤ 100000)
    (h : ∀ g' cp' w', BC w' (some ⟨g', 0, none⟩) (1 + m) (cL (z :: cl c m)) → 1 + m ≤ cp' → cp' ≤ maxLen → Below w.heap.size w w' → K (a.put o.dst (.slice (some ⟨g', 0, none⟩) (1 + m) cp')) w') : o.wp Tryd.prog a w K Q := by
  obtain ⟨i, hi, hz, hsize, hby⟩ := info_parts info5
  have hl : (u8L (cl c m)).length = m * 1 := by simp [u8L, cl_len]
  have hnews : ∀ j u, (u8L (cl c m))[j]? = some u → w.cell? ((⟨b, off, none⟩ : Addr).add j) = some u := fun j u hu => by
    have hj : j < m := by
      have := (List.getElem?_eq_some_iff.1 hu).1
      rw [hl] at this; omega
    rw [hb.add rfl j hj, ← hu]
    simp [u8L, cl_at c m j hj]
  obtain ⟨v', w', hrun, r1, r2⟩ := run_append_arg_grows (P := Tryd.prog) w 22 o.type 5 i (.int .u8 0) 1 1 Tryd.underlying22 hi hz hsize hby rfl (by decide) ⟨A, 0, none⟩ 1 1 (u8L [z]) rfl (fun j u hj => by
      have hj1 : j < 1 := by have := (List.getElem?_eq_some_iff.1 hj).1; simpa [u8L] using this
      obtain rfl : j = 0 := by omega
      rw [hz0.add rfl 0 (by omega), ← hj]
      rfl) ⟨b, off, none⟩ m cap (u8L (cl c m)) hl hnews (by omega) (by unfold maxLen; omega) (by omega)
  have r1' : OB w' w.heap.size v' (z :: cl c m) := by
    unfold OB
    rw [List.length_cons, cl_len, Nat.add_comm m 1]
    exact r1
  obtain ⟨ad, cp, rfl, hcp, hcb⟩ := ob_form r1'
  have hlen : (z :: cl c m).length = 1 + m := by rw [List.length_cons, cl_len, Nat.add_comm]
  have hbc := r1'.bc
  rw [hlen] at hbc hcp hrun
  obtain ⟨g', hg'⟩ : ∃ g', ad = some ⟨g', 0, none⟩ := by
    obtain ⟨_, ⟨e, e0⟩ | ⟨g', cap', _, e, _⟩⟩ := r1
    · omega
    · injection e with e1 _ _
      exact ⟨g', e1⟩
  subst hg'
  have hcm : cp ≤ maxLen := by
    obtain ⟨_, ⟨e, _⟩ | ⟨g2, cap', _, e, _, _, _, h4, _⟩⟩ := r1
    · cases e
    · have e3 : cp = cap' := by injection e
      omega
  unfold Oper.wp
  simp [execOp, ho, resolve, invoke, builtin, hs, hx, hrun, Result.andThen]
  exact h g' cp w' hbc hcp hcm ((Below.refl _ _).grown r2 (Nat.le_refl _) (fun k hk => by cases hk))
end Go.Proofs.YtkfgfbdalkifjaaDoor
