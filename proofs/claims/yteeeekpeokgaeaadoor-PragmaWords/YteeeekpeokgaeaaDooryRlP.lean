/- Read: what it keeps. -/
import Derived.Test.YteeeekpeokgaeaaDoorPkYCtS2
import Derived.Test.YteeeekpeokgaeaaDoorySo
namespace Go.Proofs.YteeeekpeokgaeaaDoor
set_option linter.unusedVariables false
open Go.RowKit Go.ChangeShapes Tns
open Lns (nL nL_le line S)
theorem rdL_ok (s : ByteArray) : ∀ j, j ≤ nL s → Ris (rdL s j).r ∧ (∀ p ∈ (rdL s j).r, p.1 + p.2 ≤ S s j) ∧ (rdL s j).r.length ≤ j
  | 0, _ => ⟨ris_nil, (fun p hp => by cases hp), Nat.le_refl _⟩
  | j + 1, h => by
    obtain ⟨h1, h2, h3⟩ := rdL_ok s j (by omega)
    have e1 : S s j ≤ S s (j + 1) := Lns.S_mono_le s (by omega)
    have e2 := Lns.line_size s j
    have e : (rdL s (j + 1)).r = bif (scn (line s j) 0 ⟨(rdL s j).o, (rdL s j).o || (rdL s j).x, false, (rdL s j).w⟩).a then (rdL s j).r ++ [(S s j, (line s j).size)] else (rdL s j).r := rfl
    rw [e]
    cases (scn (line s j) 0 ⟨(rdL s j).o, (rdL s j).o || (rdL s j).x, false, (rdL s j).w⟩).a
    · exact ⟨h1, fun p hp => Nat.le_trans (h2 p hp) e1, Nat.le_succ_of_le h3⟩
    · refine ⟨ris_app h1 h2, fun p hp => ?_, ?_⟩
      · rcases List.mem_append.1 hp with hp | hp
        · exact Nat.le_trans (h2 p hp) e1
        · obtain rfl : p = (S s j, (line s j).size) := by simpa using hp
          show S s j + (line s j).size ≤ _
          omega
      · show ((rdL s j).r ++ [_]).length ≤ _
        rw [List.length_append]
        simp
        omega
theorem own_blk {w w' : World} {base e size n : Nat} {v : Value} {xs : List Value} (h : w.ownsRow base e size v n xs) (hb : ∀ g, base ≤ g → g < w.heap.size → w'.heap[g]? = w.heap[g]?) : w'.ownsRow base e size v n xs := by
  obtain ⟨hl, ⟨rfl, rfl⟩ | ⟨g, cap, cur, rfl, hg, hh, h3⟩⟩ := h
  · exact ⟨hl, Or.inl ⟨rfl, rfl⟩⟩
  · exact ⟨hl, Or.inr ⟨g, cap, cur, rfl, hg, by rw [hb g hg (lt_of_heap hh)]; exact hh, h3⟩⟩
/-- Where Read stands: behind so many lines. -/
structure RdS (w w1 wr : World) (D R F n : Nat) (va : Value) (p : Rd) : Prop where
  up : Up w.heap.size w wr
  size : w1.heap.size ≤ wr.heap.size
  old : ∀ k, k < w1.heap.size → k ≠ D → k ≠ R → k ≠ F → wr.heap[k]? = w1.heap[k]?
  lo : w.heap.size ≤ D ∧ w.heap.size ≤ R ∧ w.heap.size ≤ F
  hi : D < w1.heap.size ∧ R < w1.heap.size ∧ F < w1.heap.size
  rd : RdC wr F R p.o p.x
  rl : wr.heap[R]? = some (.cells #[va, .map (some D)] 49)
  bg : BgP wr D n p.w
  sp : SpR wr w1.heap.size va p.r
theorem RdS.apart {w w1 wr : World} {D R F n : Nat} {va : Value} {p : Rd} (h : RdS w w1 wr D R F n va p) : R ≠ D ∧ F ≠ R ∧ F ≠ D := ⟨h.bg.ne h.rl, h.rd.ne h.rl, h.bg.ne h.rd⟩
theorem RdS.stay {w w1 wr w' : World} {D R F n : Nat} {va : Value} {p : Rd} (h : RdS w w1 wr D R F n va p) (hb : Below wr.heap.size wr w') : RdS w w1 w' D R F n va p where
  up := h.up.stay hb
  size := Nat.le_trans h.size hb.size
  old := fun k hk h1 h2 h3 => (hb.block k (Nat.lt_of_lt_of_le hk h.size)).trans (h.old k hk h1 h2 h3)
  lo := h.lo
  hi := h.hi
  rd := h.rd.stay hb
  rl := by rw [hb.block R (Nat.lt_of_lt_of_le h.hi.2.1 h.size)]; exact h.rl
  bg := h.bg.stay hb
  sp := own_stay h.sp hb
theorem RdS.line {w w1 wr w2 : World} {D R F n n' : Nat} {va : Value} {p : Rd} {o x : Bool} {ws : List ByteArray} (h : RdS w w1 wr D R F n va p) (hk : KpP wr.heap.size (fun k => k = D ∨ k = F) wr w2) (hc : RdC w2 F R o x) (hb : BgP w2 D n' ws) : RdS w w1 w2 D R F n' va ⟨o, x, p.r, ws⟩ where
  up := hk.up h.up (fun k hk => by rcases hk with rfl | rfl; exact h.lo.1; exact h.lo.2.2)
  size := Nat.le_trans h.size hk.size
  old := fun k hkl h1 h2 h3 => (hk.block k (Nat.lt_of_lt_of_le hkl h.size) (fun e => by rcases e with e | e; exact h1 e; exact h3 e)).trans (h.old k hkl h1 h2 h3)
  lo := h.lo
  hi := h.hi
  rd := hc
  rl := by rw [hk.block R (Nat.lt_of_lt_of_le h.hi.2.1 h.size) (fun e => by rcases e with e | e; exact h.apart.1 e; exact h.apart.2.1 e.symm)]; exact h.rl
  bg := hb
  sp := own_blk h.sp (fun g h1 h2 => hk.block g h2 (fun e => by have := h.hi; rcases e with rfl | rfl <;> omega))
theorem RdS.app {w w1 wr w3 : World} {D R F n : Nat} {va v' : Value} {p : Rd} {rows : List (Nat × Nat)} (h : RdS w w1 wr D R F n va p) (hg : wr.grownBy w3 va.ownBlock) (hr : SpR w3 w1.heap.size v' rows) : RdS w w1 (w3.setCell ⟨R, 0, none⟩ v') D R F n v' ⟨p.o, p.x, rows, p.w⟩ := by
  have hne : ∀ k, k < w1.heap.size → some k ≠ va.ownBlock := fun k hk e => by have := own_base h.sp k e.symm; omega
  have hz := h.size
  have e4 : w3.heap[R]? = some (.cells #[va, .map (some D)] 49) := by rw [hg.block R (by have := h.hi; omega) (hne R h.hi.2.1)]; exact h.rl
  have hFR := h.apart.2.1
  refine ⟨up_set (h.up.grown hg (fun k hk => by have := own_base h.sp k hk; have := h.hi; have := h.lo; omega)) h.lo.2.1, ?_, fun k hk h1 h2 h3 => ?_, h.lo, h.hi, ?_, ?_, ?_, own_put hr (own_ne e4 hr (by decide))⟩
  · simp only [World.setCell, Array.size_modify]
    exact Nat.le_trans hz hg.size
  · rw [Below.heap_setCell w3 ⟨R, 0, none⟩ v' k h2, hg.block k (by omega) (hne k hk)]
    exact h.old k hk h1 h2 h3
  · show (w3.setCell ⟨R, 0, none⟩ v').heap[F]? = _
    rw [Below.heap_setCell w3 ⟨R, 0, none⟩ v' F hFR, hg.block F (by have := h.hi; omega) (hne F h.hi.2.2)]
    exact h.rd
  · rw [cells_set e4]
    rfl
  · exact (h.bg.block (hg.block D (by have := h.hi; omega) (hne D h.hi.1))).setCell (fun e => h.apart.1 e.symm) _
/-- Rules as Read lays them. -/
def RLd (w : World) (base : Nat) (r : Value) (rows : List (Nat × Nat)) (ws : List ByteArray) : Prop := ∃ (R b n : Nat) (va : Value), r = .pointer (some ⟨R, 0, none⟩) ∧ base ≤ R ∧ base ≤ b ∧ w.heap[R]? = some (.cells #[va, .map (some b)] 49) ∧ SpR w base va rows ∧ BgP w b n ws ∧ Ris rows ∧ rows.length ≤ 8000 ∧ ∀ p ∈ rows, p.1 + p.2 ≤ 8000
end Go.Proofs.YteeeekpeokgaeaaDoor
