/- A range over a function, at the widest fence: one law for whatever iterator, told by its own walk; the body goes on, or returns. -/
import Derived.RangeFuncNested
import Derived.RangeFuncBound
import Derived.RangeFuncCalls
import Derived.RangeFuncLeaves
import Derived.Shelf.Abstract
import Derived.WalkKit
import Derived.OwnWalkIn
import Derived.TacticsInMore
import Derived.LoopNIn
import Derived.LoopIn
namespace Go.Proofs.YthdjadkdjljciaaGreatDoor
set_option linter.unusedVariables false
open Go.RowKit Go.ChangeShapes Go.Shelf

/-- How the body of a round may be left. -/
def bodyX (Go Lv : World → World → Prop) (W : World) : Exit → Act → World → Prop
  | .normal, _, W' => Go W W'
  | .ret, _, W' => Lv W W'
  | _, _, _ => False

theorem range_gen {α : Type} {P : Program} {n : Nat} {g : Operand} {ps : Array Tmp} {assign body : Code} {Q : Exit → Act → World → Prop} {a : Act} {w : World}
    {gf : Nat} {lb : Array Value} (hg : a.eval g = .func (.func gf) #[] lb) (eg : ∀ args w, (callFunc gf args).run P w = .ok (.enter gf args) w)
    (encs : α → Array Value) (hps : ∀ x, (encs x).size = ps.size) (Ok : α → World → Prop) (Go Lv : α → World → World → Prop) (a₁ : α → Act)
    (hOk : ∀ x W o, Ok x W → Ok x (W.putObj (w.heap.size + 1) o))
    (hGo : ∀ x W W', Go x W W' → W'.heap[w.heap.size + 1]? = W.heap[w.heap.size + 1]?)
    (hLv : ∀ x W W', Lv x W W' → W'.heap[w.heap.size + 1]? = W.heap[w.heap.size + 1]?)
    (hassign : ∀ (x : α) (W : World) (K : Act → World → Prop), K (a₁ x) W →
      assign.wpIn (Fence.wide.inRound (w.heap.size + 1)) n P (Exit.then K (fun _ _ _ => False)) { tmps := (ps.zip (encs x)).foldl (fun t (p, v) => t.setIfInBounds p v) a.tmps, defers := [] } W)
    (hbody : ∀ (x : α) (W : World), Ok x W → w.heap.size + 1 < W.heap.size → body.wpIn (Fence.wide.inRound (w.heap.size + 1)) n P (bodyX (Go x) (Lv x) W) (a₁ x) W)
    (Done Left : World → Prop)
    (hiter : ∀ (W1 : World) (rec busy don : Obj), Below w.heap.size w W1 → W1.heap.size = w.heap.size + 2 → W1.heap[w.heap.size]? = some (.deferred (some [])) → W1.heap[w.heap.size + 1]? = some rec →
      (∀ x W, Ok x W → W.heap[w.heap.size + 1]? = some rec → YieldAt Fence.wide n P (w.heap.size + 1) (encs x) W fun e W' =>
        (e = .returned (.bool true) ∧ ∃ W3, Go x (W.putObj (w.heap.size + 1) busy) W3 ∧ W' = W3.putObj (w.heap.size + 1) rec) ∨
        (e = .returned (.bool false) ∧ ∃ W3, Lv x (W.putObj (w.heap.size + 1) busy) W3 ∧ W' = W3.putObj (w.heap.size + 1) don)) →
      CallsIn Fence.wide n P gf (#[.func (.yield (w.heap.size + 1)) #[] #[]] ++ lb) W1 fun e W' => (∃ v, e = .returned v) ∧
        ((W'.heap[w.heap.size + 1]? = some rec ∧ Done W') ∨ (W'.heap[w.heap.size + 1]? = some don ∧ Left W')))
    (hdone : ∀ (W : World) (o : Obj), w.heap.size + 1 < W.heap.size → Done W → Q .normal { a with defers := { target := .collected w.heap.size, args := #[] } :: a.defers } (W.putObj (w.heap.size + 1) o))
    (hstop : ∀ (W : World) (o : Obj), w.heap.size + 1 < W.heap.size → Left W → Code.ret.wpIn Fence.wide n P Q { a with defers := { target := .collected w.heap.size, args := #[] } :: a.defers } (W.putObj (w.heap.size + 1) o)) :
    (Code.rangeFunc g ps assign body).wpIn Fence.wide n P Q a w := by
  refine wpIn_rangeFunc ?_
  intro fn hfn
  obtain ⟨rec, hrec⟩ : ∃ rec : LoopState → Option Code → Loop, rec = fun st pe => { state := st, pending := pe, fn, tmps := a.tmps, params := ps, assign, body, defers := w.heap.size } := ⟨_, rfl⟩
  obtain ⟨W1, hW1⟩ : ∃ W1, (w.alloc (.deferred (some []))).alloc (.loop (rec .ready none)) = W1 := ⟨_, rfl⟩
  have hL1 : W1.heap[w.heap.size + 1]? = some (.loop (rec .ready none)) := by
    rw [← hW1]; have := World.alloc_heap_new (w.alloc (.deferred (some []))) (.loop (rec .ready none)); rwa [World.size_alloc] at this
  have hK1 : W1.heap[w.heap.size]? = some (.deferred (some [])) := by
    rw [← hW1]; exact (Below.heap_alloc _ _ _ (by simp)).trans (World.alloc_heap_new w _)
  have hb1 : Below w.heap.size w W1 := by
    rw [← hW1]; exact (((Below.refl _ w).alloc (Nat.le_refl _) _).alloc (by simp) _)
  have hs1 : W1.heap.size = w.heap.size + 2 := by rw [← hW1]; simp
  refine ⟨w.heap.size + 1, [{ target := .collected w.heap.size, args := #[] }], W1, { target := .fn (.func gf) lb, args := #[.func (.yield (w.heap.size + 1)) #[] #[]] }, W1, gf,
    #[.func (.yield (w.heap.size + 1)) #[] #[]] ++ lb, W1, ?_, ?_, ?_, ?_, (fun h => (by cases h)), ?_⟩
  · rw [← hW1, hrec]; exact run_enterLoop_outer _ _ _ _ _
  · simp only [resolve, hg]
    simp [go_sem]
  · intro f' hf'; exact trivial
  · simp [invoke, go_sem, eg]
  · refine CallsIn.mono (callsIn_wide.2 (callsIn_wide.1 (hiter W1 (.loop (rec .ready none)) (.loop { rec .ready none with state := .busy }) (.loop (rec .done (some .ret))) hb1 hs1 hK1 hL1 ?_))) ?_
    · intro x W hok hl
      have hlt : w.heap.size + 1 < W.heap.size := (Array.getElem?_eq_some_iff.1 hl).1
      have hy := run_yield (P := P) (args := encs x) hl (by rw [hrec]; exact hps x)
      rw [hrec] at hy
      refine ⟨fn, _, assign, body, hy, roundIn_of_wpIn hfn (hassign x W _ ⟨_, run_beginRound hl (by rw [hrec]), ?_⟩)⟩
      refine wpIn_mono (hbody x _ (hOk x W _ hok) (by simpa [World.putObj] using hlt)) ?_
      have hl2 : (W.putObj (w.heap.size + 1) (.loop { rec .ready none with state := .busy })).heap[w.heap.size + 1]? = some (.loop { rec .ready none with state := .busy }) := World.putObj_heap_same hlt
      rintro e a3 W3 hp
      cases e with
      | normal =>
        have hl3 := (hGo x _ _ hp).trans hl2
        have := run_endRound (P := P) none hl3
        refine ⟨_, _, this, .inl ⟨rfl, W3, hp, ?_⟩⟩
        rw [hrec]; rfl
      | ret =>
        have hl3 := (hLv x _ _ hp).trans hl2
        have := run_endRound (P := P) (some .ret) hl3
        refine ⟨_, _, this, .inr ⟨rfl, W3, hp, ?_⟩⟩
        rw [hrec]; rfl
      | exit id => exact hp.elim
      | goto t => exact hp.elim
      | panic ch => exact hp.elim
      | outgrown => exact hp.elim
    · rintro e W2 ⟨⟨v, rfl⟩, (⟨hl, hd⟩ | ⟨hl, hd⟩)⟩
      · exact ⟨none, _, by have := run_endLoop (P := P) hl (by rw [hrec]; simp); rw [hrec] at this; exact this, hdone W2 _ (Array.getElem?_eq_some_iff.1 hl).1 hd⟩
      · exact ⟨some .ret, _, by have := run_endLoop (P := P) hl (by rw [hrec]; simp); rw [hrec] at this; exact this, hstop W2 _ (Array.getElem?_eq_some_iff.1 hl).1 hd⟩
end Go.Proofs.YthdjadkdjljciaaGreatDoor
