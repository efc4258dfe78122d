/- trie.Words: the stack in memory; what a range over a function leaves as it was. trie.Words: all that a round keeps. -/
import Derived.Deep.AppendLies
import Derived.Test.YtfikkkodepfdkaaDoorpkS
import Derived.Test.YtfikkkodepfdkaaDoorpkE
namespace Go.Proofs.YtfikkkodepfdkaaDoor
set_option linter.unusedVariables false
open Go.RowKit Go.ChangeShapes
/-- A path: a node's number, its beginning's slice, its beginning. -/
structure Pt where
  i : Nat
  v : Value
  p : List Int
def ptC (T : List Pt) : List Value := T.flatMap fun x => [.int .i64 (x.i : Int), x.v]
theorem ptC_app (T U : List Pt) : ptC (T ++ U) = ptC T ++ ptC U := by simp [ptC]
theorem ptC_len (T : List Pt) : (ptC T).length = T.length * 2 := by
  induction T with
  | nil => rfl
  | cons x T ih =>
    show (_ :: _ :: ptC T).length = _
    rw [List.length_cons, List.length_cons, ih, List.length_cons]
    omega
theorem ptC_rev (x : Pt) (T : List Pt) : ptC (x :: T).reverse = ptC T.reverse ++ [.int .i64 (x.i : Int), x.v] := by
  rw [List.reverse_cons, ptC_app]
  rfl
theorem own_cutN {w : World} {b e g n cap size : Nat} {xs ys : List Value} (h : w.ownsRow b e size (.slice (some ⟨g, 0, none⟩) (n + 1) cap) (n + 1) (xs ++ ys)) (hx : xs.length = n * size) : w.ownsRow b e size (.slice (some ⟨g, 0, none⟩) n cap) n xs := by
  obtain ⟨_, ⟨e0, _⟩ | ⟨g', cap', cur, e1, hg, hh, h1, h2, h3, h4⟩⟩ := h
  · cases e0
  · injection e1 with e1 e2 e3
    injection e1 with e1
    injection e1 with e1 _ _
    subst e1 e3
    refine ⟨hx, Or.inr ⟨_, _, cur, rfl, hg, hh, by omega, h2, h3, ?_⟩⟩
    have h5 := congrArg (List.take (n * size)) h4
    have hle : n * size ≤ (n + 1) * size := Nat.mul_le_mul_right _ (by omega)
    rw [List.take_take, Nat.min_eq_left hle, List.take_append_of_le_length (by omega), List.take_of_length_le (l := xs) (by omega)] at h5
    exact h5
/-- The blocks of a stack. -/
def WF (K : Nat) (vS : Value) (T : List Pt) (k : Nat) : Prop := k = K ∨ vS.ownBlock = some k ∨ ∃ x ∈ T, x.v.ownBlock = some k
structure WS (w0 w : World) (K : Nat) (vS : Value) (T : List Pt) : Prop where
  up : Up w0.heap.size w0 w
  bK : w0.heap.size ≤ K
  box : w.heap[K]? = some (.cells #[vS] 68 (0, 0))
  row : w.ownsRow w0.heap.size 67 2 vS T.length (ptC T.reverse)
  beg : ∀ x ∈ T, w.ownsRow w0.heap.size 21 1 x.v x.p.length (x.p.map i32c)
theorem WS.lt {w0 w : World} {K : Nat} {vS : Value} {T : List Pt} (h : WS w0 w K vS T) : ∀ k, WF K vS T k → k < w.heap.size := by
  rintro k (rfl | e | ⟨x, hx, e⟩)
  · exact lt_of_heap h.box
  · exact (h.row.lt k e).2
  · exact ((h.beg x hx).lt k e).2
theorem WS.keep {w0 w w' : World} {K : Nat} {vS : Value} {T : List Pt} (h : WS w0 w K vS T) (hu : Up w0.heap.size w0 w') (hb : ∀ k, WF K vS T k → w'.heap[k]? = w.heap[k]?) : WS w0 w' K vS T :=
  ⟨hu, h.bK, (hb K (Or.inl rfl)).trans h.box, own_of_blocks h.row fun k hk => hb k (Or.inr (Or.inl hk)), fun x hx => own_of_blocks (h.beg x hx) fun k hk => hb k (Or.inr (Or.inr ⟨x, hx, hk⟩))⟩
theorem WS.stay {w0 w w' : World} {K : Nat} {vS : Value} {T : List Pt} (h : WS w0 w K vS T) (hb : Below w.heap.size w w') : WS w0 w' K vS T := h.keep (h.up.stay hb) fun k hk => hb.block k (h.lt k hk)
theorem WS.cell {w0 w : World} {K : Nat} {vS : Value} {T : List Pt} (h : WS w0 w K vS T) : w.cell? ⟨K, 0, none⟩ = some vS ∧ w.frozen? ⟨K, 0, none⟩ = false := by
  refine ⟨?_, ?_⟩
  · rw [cell_of_row w K 0 _ _ _ h.box]; rfl
  · simp [World.frozen?, h.box]
/-- The last is taken. -/
theorem WS.pop {w0 w : World} {K : Nat} {vS : Value} {x : Pt} {T : List Pt} (h : WS w0 w K vS (x :: T)) : ∃ g cap, vS = .slice (some ⟨g, 0, none⟩) (T.length + 1) cap ∧ T.length + 1 ≤ cap ∧ g ≠ K ∧ w.cell? ⟨g, T.length * 2, none⟩ = some (.int .i64 (x.i : Int)) ∧ w.cell? ⟨g, T.length * 2 + 1, none⟩ = some x.v ∧
    WS w0 (w.setCell ⟨K, 0, none⟩ (.slice (some ⟨g, 0, none⟩) T.length cap)) K (.slice (some ⟨g, 0, none⟩) T.length cap) T := by
  have hrow := h.row
  rw [List.length_cons, ptC_rev] at hrow
  obtain ⟨g, cap, rfl, hcap⟩ : ∃ g cap, vS = .slice (some ⟨g, 0, none⟩) (T.length + 1) cap ∧ T.length + 1 ≤ cap := by
    obtain ⟨_, ⟨e0, h0⟩ | ⟨g, cap, cur, e1, _, _, h3, _⟩⟩ := hrow
    · omega
    · exact ⟨g, cap, e1, h3⟩
  have hgK : g ≠ K := fun e => own_blk hrow h.box (by decide) (by rw [e]; rfl)
  have hset : ∀ k, k ≠ K → (w.setCell ⟨K, 0, none⟩ (.slice (some ⟨g, 0, none⟩) T.length cap)).heap[k]? = w.heap[k]? := fun k hk => heap_setCell_other w ⟨K, 0, none⟩ k _ (fun e => hk e)
  have hl : (ptC T.reverse).length = T.length * 2 := by rw [ptC_len, List.length_reverse]
  have k1 := World.ownsRow.cells hrow rfl (T.length * 2) (.int .i64 (x.i : Int)) (by rw [List.getElem?_append_right (by omega), hl, Nat.sub_self]; rfl)
  have k2 := World.ownsRow.cells hrow rfl (T.length * 2 + 1) x.v (by rw [List.getElem?_append_right (by omega), hl, Nat.add_sub_cancel_left]; rfl)
  rw [addr_plus, Nat.zero_add] at k1 k2
  refine ⟨g, cap, rfl, hcap, hgK, k1, k2, ⟨h.up.setCell h.bK _, h.bK, heap_setCell_same w K 0 _ _ _ h.box, ?_, fun y hy => ?_⟩⟩
  · exact own_of_blocks (own_cutN hrow hl) (fun k hk => by
      obtain rfl : g = k := Option.some.inj hk
      exact hset g hgK)
  · exact own_of_blocks (h.beg y (List.mem_cons_of_mem _ hy)) (fun k hk => hset k (fun e => own_blk (h.beg y (List.mem_cons_of_mem _ hy)) h.box (by decide) (by rw [← e]; exact hk)))
/-- One more is laid upon it. -/
theorem WS.push {w0 w w1 : World} {K : Nat} {vS : Value} {T : List Pt} (h : WS w0 w K vS T) (x : Pt) {g cap q : Nat} (hq : q = T.length + 1) (hx : w.ownsRow w0.heap.size 21 1 x.v x.p.length (x.p.map i32c))
    (ho : w1.ownsRow w0.heap.size 67 2 (.slice (some ⟨g, 0, none⟩) q cap) q (ptC T.reverse ++ [.int .i64 (x.i : Int), x.v])) (hg : w.grownBy w1 vS.ownBlock) :
    WS w0 (w1.setCell ⟨K, 0, none⟩ (.slice (some ⟨g, 0, none⟩) q cap)) K (.slice (some ⟨g, 0, none⟩) q cap) (x :: T) ∧ (∀ k, k < w.heap.size → k ≠ K → vS.ownBlock ≠ some k → (w1.setCell ⟨K, 0, none⟩ (.slice (some ⟨g, 0, none⟩) q cap)).heap[k]? = w.heap[k]?) ∧ w.heap.size ≤ (w1.setCell ⟨K, 0, none⟩ (.slice (some ⟨g, 0, none⟩) q cap)).heap.size := by
  have hvK : vS.ownBlock ≠ some K := own_blk h.row h.box (by decide)
  have hK1 : w1.heap[K]? = some (.cells #[vS] 68 (0, 0)) := (hg.block K (lt_of_heap h.box) (fun e => hvK e.symm)).trans h.box
  have hgK : g ≠ K := fun e => own_blk ho hK1 (by decide) (by rw [e]; rfl)
  have hset : ∀ k, k ≠ K → (w1.setCell ⟨K, 0, none⟩ (.slice (some ⟨g, 0, none⟩) q cap)).heap[k]? = w1.heap[k]? := fun k hk => heap_setCell_other w1 ⟨K, 0, none⟩ k _ (fun e => hk e)
  have hbeg : ∀ y : Pt, w.ownsRow w0.heap.size 21 1 y.v y.p.length (y.p.map i32c) → (w1.setCell ⟨K, 0, none⟩ (.slice (some ⟨g, 0, none⟩) q cap)).ownsRow w0.heap.size 21 1 y.v y.p.length (y.p.map i32c) := fun y hy => own_of_blocks hy (fun k hk => by
    rw [hset k (fun e => own_blk hy h.box (by decide) (by rw [← e]; exact hk))]
    exact hg.block k (hy.lt k hk).2 (fun e => own_type h.row hy (by decide) k e.symm hk))
  refine ⟨⟨(h.up.grown hg (own_base h.row)).setCell h.bK _, h.bK, heap_setCell_same w1 K 0 _ _ _ hK1, ?_, fun y hy => ?_⟩, fun k hk h1 h2 => ?_, ?_⟩
  · rw [ptC_rev, List.length_cons, ← hq]
    exact own_of_blocks ho (fun k hk => by
      obtain rfl : g = k := Option.some.inj hk
      exact hset g hgK)
  · rcases List.mem_cons.1 hy with rfl | hy
    · exact hbeg _ hx
    · exact hbeg _ (h.beg y hy)
  · rw [hset k h1]
    exact hg.block k hk (fun e => h2 e.symm)
  · simpa [World.setCell] using hg.size
/-- While a range goes on. -/
structure PS (w0 wR V : World) (K : Nat) (vS0 vS : Value) (T : List Pt) : Prop where
  ws : WS w0 V K vS T
  kR : K < wR.heap.size
  vR : ∀ g, vS0.ownBlock = some g → g < wR.heap.size
  kept : ∀ k, k < wR.heap.size → k ≠ K → vS0.ownBlock ≠ some k → V.heap[k]? = wR.heap[k]?
  size : wR.heap.size + 2 ≤ V.heap.size
  dfr : V.heap[wR.heap.size]? = some (.deferred (some []))
  row : ∀ g, vS.ownBlock = some g → vS0.ownBlock = some g ∨ wR.heap.size + 2 ≤ g
  beg : ∀ x ∈ T, ∀ g, x.v.ownBlock = some g → g < wR.heap.size ∨ wR.heap.size + 2 ≤ g
theorem PS.put {w0 wR V : World} {K : Nat} {vS0 vS : Value} {T : List Pt} (h : PS w0 wR V K vS0 vS T) (h0 : w0.heap.size ≤ wR.heap.size) (o : Obj) : PS w0 wR (V.putObj (wR.heap.size + 1) o) K vS0 vS T := by
  have hother : ∀ k, k ≠ wR.heap.size + 1 → (V.putObj (wR.heap.size + 1) o).heap[k]? = V.heap[k]? := fun k hk => World.putObj_heap_other hk
  have hsz : (V.putObj (wR.heap.size + 1) o).heap.size = V.heap.size := by simp [World.putObj]
  refine ⟨h.ws.keep ?_ (fun k hk => hother k ?_), h.kR, h.vR, fun k hk h1 h2 => ?_, by rw [hsz]; exact h.size, ?_, h.row, h.beg⟩
  · refine ⟨⟨h.ws.up.1.os, h.ws.up.1.tape, h.ws.up.1.output, by rw [hsz]; exact h.ws.up.1.size, fun k hk => ?_⟩, by rw [hsz]; exact h.ws.up.2⟩
    rw [hother k (by omega)]
    exact h.ws.up.1.block k hk
  · rcases hk with rfl | e | ⟨x, hx, e⟩
    · have := h.kR; omega
    · rcases h.row k e with e2 | e2
      · have := h.vR k e2; omega
      · omega
    · rcases h.beg x hx k e with e2 | e2 <;> omega
  · rw [hother k (by omega)]
    exact h.kept k hk h1 h2
  · rw [hother _ (by omega)]
    exact h.dfr
theorem PS.stay {w0 wR V V' : World} {K : Nat} {vS0 vS : Value} {T : List Pt} (h : PS w0 wR V K vS0 vS T) (hb : Below V.heap.size V V') : PS w0 wR V' K vS0 vS T :=
  ⟨h.ws.stay hb, h.kR, h.vR, fun k hk h1 h2 => (hb.block k (by have := h.size; omega)).trans (h.kept k hk h1 h2), Nat.le_trans h.size hb.size, (hb.block _ (by have := h.size; omega)).trans h.dfr, h.row, h.beg⟩
theorem PS.drew {w0 wR V : World} {K : Nat} {vS0 vS : Value} {T : List Pt} (h : PS w0 wR V K vS0 vS T) : PS w0 wR V.drew K vS0 vS T := h.stay ((Below.refl _ _).drew)
theorem PS.push {w0 wR V V1 : World} {K : Nat} {vS0 vS : Value} {T : List Pt} (h : PS w0 wR V K vS0 vS T) (x : Pt) {g cap q : Nat} (hq : q = T.length + 1) (hx : V.ownsRow w0.heap.size 21 1 x.v x.p.length (x.p.map i32c)) (hxn : ∀ g, x.v.ownBlock = some g → wR.heap.size + 2 ≤ g)
    (ho : V1.ownsRow w0.heap.size 67 2 (.slice (some ⟨g, 0, none⟩) q cap) q (ptC T.reverse ++ [.int .i64 (x.i : Int), x.v])) (hg : V.grownBy V1 vS.ownBlock) (hgg : vS.ownBlock = some g ∨ V.heap.size ≤ g) :
    PS w0 wR (V1.setCell ⟨K, 0, none⟩ (.slice (some ⟨g, 0, none⟩) q cap)) K vS0 (.slice (some ⟨g, 0, none⟩) q cap) (x :: T) ∧ (V1.setCell ⟨K, 0, none⟩ (.slice (some ⟨g, 0, none⟩) q cap)).heap[wR.heap.size + 1]? = V.heap[wR.heap.size + 1]? := by
  obtain ⟨h1, h2, h3⟩ := h.ws.push x hq hx ho hg
  have hsz := h.size
  have hKR := h.kR
  have hrow : ∀ k, k < wR.heap.size + 2 → wR.heap.size ≤ k → vS.ownBlock ≠ some k := fun k hk hk2 e => by
    rcases h.row k e with e2 | e2
    · have := h.vR k e2; omega
    · omega
  refine ⟨⟨h1, h.kR, h.vR, fun k hk hk1 hk2 => ?_, Nat.le_trans h.size h3, ?_, fun k hk => ?_, fun y hy k hk => ?_⟩, ?_⟩
  · rw [h2 k (by omega) hk1 (fun e => ?_)]
    · exact h.kept k hk hk1 hk2
    · rcases h.row k e with e2 | e2
      · exact hk2 e2
      · omega
  · rw [h2 _ (by omega) (by omega) (hrow _ (by omega) (by omega))]
    exact h.dfr
  · obtain rfl : g = k := Option.some.inj hk
    rcases hgg with e | e
    · exact h.row g e
    · exact Or.inr (by omega)
  · rcases List.mem_cons.1 hy with rfl | hy
    · exact Or.inr (hxn k hk)
    · exact h.beg y hy k hk
  · exact h2 _ (by omega) (by omega) (hrow _ (by omega) (by omega))
/-- The marks that ranges leave, one each. -/
def mk (r : Nat) : Deferred := { target := .collected r, args := #[] }
theorem leaves_marks {P : Program} {fn : Func} {tmps : Array Value} {R : Ending → World → Prop} {n : Nat} (Pp : World → Prop) (Rg : Nat → Prop) (hstep : ∀ w r, Rg r → Pp w → w.heap[r]? = some (.deferred (some [])) → Pp (w.putObj r (.deferred none)))
    (hfin : ∀ w, Pp w → LeavesInM Fence.wide n P fn tmps R [] .returning w) : ∀ (ms : List Nat) (w : World), ms.Nodup → (∀ r ∈ ms, w.heap[r]? = some (.deferred (some [])) ∧ Rg r) → Pp w → LeavesInM Fence.wide n P fn tmps R (ms.map mk) .returning w
  | [], w, _, _, hp => hfin w hp
  | r :: ms, w, hn, hm, hp => by
    rw [List.nodup_cons] at hn
    refine ⟨by simp, .inl ⟨r, _, rfl, run_takeDeferred (hm r (List.mem_cons_self ..)).1, ?_⟩⟩
    refine leaves_marks Pp Rg hstep hfin ms _ hn.2 (fun q hq => ?_) (hstep w r (hm r (List.mem_cons_self ..)).2 hp (hm r (List.mem_cons_self ..)).1)
    rw [World.putObj_heap_other (fun e => hn.1 (by rw [← e]; exact hq))]
    exact hm q (List.mem_cons_of_mem _ hq)
end Go.Proofs.YtfikkkodepfdkaaDoor
namespace Go.Proofs.YtfikkkodepfdkaaDoor
set_option linter.unusedVariables false
open Go.RowKit Go.ChangeShapes
/-- What a round of Words keeps: the stack, what was found, the path in hand, the marks, the blocks beside. -/
structure WA (w0 w : World) (K : Nat) (vS : Value) (T : List Pt) (vl : Value) (O : List (List Int)) (x : Pt) (ms : List Nat) (ex : List (Nat × Array Value × Nat)) : Prop where
  ws : WS w0 w K vS T
  out : OS w w0.heap.size vl (O.map tx)
  beg : w.ownsRow w0.heap.size 21 1 x.v x.p.length (x.p.map i32c)
  mks : ∀ r ∈ ms, w.heap[r]? = some (.deferred (some [])) ∧ w0.heap.size ≤ r
  exs : ∀ q ∈ ex, w.heap[q.1]? = some (.cells q.2.1 q.2.2 (0, 0)) ∧ w0.heap.size ≤ q.1 ∧ q.1 ≠ K ∧ vS.ownBlock ≠ some q.1 ∧ 9 ≠ q.2.2 ∧ 21 ≠ q.2.2
theorem own_dfr {w : World} {b1 e1 s1 n1 r : Nat} {v1 : Value} {x1 : List Value} {d : Option (List Deferred)} (h1 : w.ownsRow b1 e1 s1 v1 n1 x1) (hT : w.heap[r]? = some (.deferred d)) : v1.ownBlock ≠ some r := by
  intro hk1
  obtain ⟨_, ⟨rfl, _⟩ | ⟨g, cap, cur, rfl, hg, hh, h3⟩⟩ := h1
  · cases hk1
  · obtain rfl : g = r := Option.some.inj hk1
    rw [hh] at hT
    cases hT
theorem WA.stay {w0 w w' : World} {K : Nat} {vS : Value} {T : List Pt} {vl : Value} {O : List (List Int)} {x : Pt} {ms : List Nat} {ex : List (Nat × Array Value × Nat)} (h : WA w0 w K vS T vl O x ms ex) (hb : Below w.heap.size w w') : WA w0 w' K vS T vl O x ms ex :=
  ⟨h.ws.stay hb, h.out.stay hb, own_stay h.beg hb, fun r hr => ⟨(hb.block r (lt_of_heap (h.mks r hr).1)).trans (h.mks r hr).1, (h.mks r hr).2⟩, fun q hq => ⟨(hb.block q.1 (lt_of_heap (h.exs q hq).1)).trans (h.exs q hq).1, (h.exs q hq).2⟩⟩
theorem WA.lay {w0 w : World} {K : Nat} {vS : Value} {T : List Pt} {vl : Value} {O : List (List Int)} {x : Pt} {ms : List Nat} {ex : List (Nat × Array Value × Nat)} (h : WA w0 w K vS T vl O x ms ex) (cs : Array Value) (t : Nat) (ht : 9 ≠ t) (ht2 : 21 ≠ t) : WA w0 (w.alloc (.cells cs t)) K vS T vl O x ms ((w.heap.size, cs, t) :: ex) := by
  have h2 := h.stay ((Below.refl _ _).alloc (Nat.le_refl _) (.cells cs t))
  refine ⟨h2.ws, h2.out, h2.beg, h2.mks, fun q hq => ?_⟩
  rcases List.mem_cons.1 hq with rfl | hq
  · refine ⟨World.alloc_heap_new w _, h.ws.up.2, fun e => ?_, fun e => ?_, ht, ht2⟩
    · have := lt_of_heap h.ws.box
      dsimp only at e
      omega
    · have := (h.ws.row.lt _ e).2
      dsimp only at this
      omega
  · exact h2.exs q hq
theorem WA.grown {w0 w w' : World} {K : Nat} {vS : Value} {T : List Pt} {vl vl' : Value} {O O' : List (List Int)} {x : Pt} {ms : List Nat} {ex : List (Nat × Array Value × Nat)} (h : WA w0 w K vS T vl O x ms ex) (ho : OS w' w0.heap.size vl' (O'.map tx)) (hg : w.grownBy w' vl.ownBlock) : WA w0 w' K vS T vl' O' x ms ex := by
  have hO : w.ownsRow w0.heap.size 9 1 vl (O.map tx).length ((O.map tx).map Value.string) := h.out
  have key : ∀ k, k < w.heap.size → vl.ownBlock ≠ some k → w'.heap[k]? = w.heap[k]? := fun k hk hn => hg.block k hk (fun e => hn e.symm)
  refine ⟨h.ws.keep (h.ws.up.grown hg (own_base hO)) (fun k hk => key k (h.ws.lt k hk) ?_), ho, own_of_blocks h.beg (fun k hk => key k (h.beg.lt k hk).2 (fun e => own_type hO h.beg (by decide) k e hk)), fun r hr => ⟨(key r (lt_of_heap (h.mks r hr).1) (own_dfr hO (h.mks r hr).1)).trans (h.mks r hr).1, (h.mks r hr).2⟩, fun q hq => ⟨(key q.1 (lt_of_heap (h.exs q hq).1) (own_blk hO (h.exs q hq).1 (h.exs q hq).2.2.2.2.1)).trans (h.exs q hq).1, (h.exs q hq).2⟩⟩
  rcases hk with rfl | e | ⟨y, hy, e⟩
  · exact own_blk hO h.ws.box (by decide)
  · exact fun e2 => own_type hO h.ws.row (by decide) k e2 e
  · exact fun e2 => own_type hO (h.ws.beg y hy) (by decide) k e2 e
/-- While a range goes on. -/
theorem WA.ps {w0 wR V : World} {K : Nat} {vS0 vS : Value} {T T' : List Pt} {vl : Value} {O : List (List Int)} {x : Pt} {ms : List Nat} {ex : List (Nat × Array Value × Nat)} (h : WA w0 wR K vS0 T vl O x ms ex) (p : PS w0 wR V K vS0 vS T') : WA w0 V K vS T' vl O x ms ex := by
  have hO : wR.ownsRow w0.heap.size 9 1 vl (O.map tx).length ((O.map tx).map Value.string) := h.out
  refine ⟨p.ws, own_of_blocks hO (fun k hk => p.kept k (hO.lt k hk).2 (fun e => ?_) (fun e => ?_)), own_of_blocks h.beg (fun k hk => p.kept k (h.beg.lt k hk).2 (fun e => ?_) (fun e => ?_)), fun r hr => ⟨(p.kept r (lt_of_heap (h.mks r hr).1) (fun e => ?_) (fun e => ?_)).trans (h.mks r hr).1, (h.mks r hr).2⟩, fun q hq => ⟨(p.kept q.1 (lt_of_heap (h.exs q hq).1) (h.exs q hq).2.2.1 (h.exs q hq).2.2.2.1).trans (h.exs q hq).1, (h.exs q hq).2.1, (h.exs q hq).2.2.1, fun e => ?_, (h.exs q hq).2.2.2.2⟩⟩
  · exact own_blk hO h.ws.box (by decide) (by rw [← e]; exact hk)
  · exact own_type hO h.ws.row (by decide) k hk e
  · exact own_blk h.beg h.ws.box (by decide) (by rw [← e]; exact hk)
  · exact own_type h.beg h.ws.row (by decide) k hk e
  · have h1 := (h.mks r hr).1
    rw [e, h.ws.box] at h1
    cases h1
  · exact own_dfr h.ws.row (h.mks r hr).1 e
  · have h1 := lt_of_heap (h.exs q hq).1
    rcases p.row q.1 e with e2 | e2
    · exact (h.exs q hq).2.2.2.1 e2
    · omega
/-- The last path is taken from the stack. -/
theorem WA.first {w0 w : World} {K : Nat} {vS : Value} {T : List Pt} {vl : Value} {O : List (List Int)} {x : Pt} {ms : List Nat} (hW : WS w0 w K vS (x :: T)) (hO : OS w w0.heap.size vl (O.map tx)) (hm : ∀ r ∈ ms, w.heap[r]? = some (.deferred (some [])) ∧ w0.heap.size ≤ r) :
    ∃ g cap, vS = .slice (some ⟨g, 0, none⟩) (T.length + 1) cap ∧ T.length + 1 ≤ cap ∧ g ≠ K ∧ w.cell? ⟨g, T.length * 2, none⟩ = some (.int .i64 (x.i : Int)) ∧ w.cell? ⟨g, T.length * 2 + 1, none⟩ = some x.v ∧
      WA w0 ((w.setCell ⟨K, 0, none⟩ (.slice (some ⟨g, 0, none⟩) T.length cap)).alloc (.cells #[.int .i64 (x.i : Int), x.v] 67)) K (.slice (some ⟨g, 0, none⟩) T.length cap) T vl O x ms [(w.heap.size, #[.int .i64 (x.i : Int), x.v], 67)] := by
  obtain ⟨g, cap, rfl, hcap, hgK, c0, c1, hP⟩ := hW.pop
  have hO2 : w.ownsRow w0.heap.size 9 1 vl (O.map tx).length ((O.map tx).map Value.string) := hO
  have hbeg := hW.beg x (List.mem_cons_self ..)
  have hset : ∀ k, k ≠ K → (w.setCell ⟨K, 0, none⟩ (.slice (some ⟨g, 0, none⟩) T.length cap)).heap[k]? = w.heap[k]? := fun k hk => heap_setCell_other _ ⟨K, 0, none⟩ k _ (fun e => hk e)
  have hA : WA w0 (w.setCell ⟨K, 0, none⟩ (.slice (some ⟨g, 0, none⟩) T.length cap)) K (.slice (some ⟨g, 0, none⟩) T.length cap) T vl O x ms [] := by
    refine ⟨hP, own_of_blocks hO2 (fun k hk => hset k (fun e => own_blk hO2 hW.box (by decide) (by rw [← e]; exact hk))), own_of_blocks hbeg (fun k hk => hset k (fun e => own_blk hbeg hW.box (by decide) (by rw [← e]; exact hk))), fun r hr => ⟨(hset r (fun e => ?_)).trans (hm r hr).1, (hm r hr).2⟩, fun q hq => by cases hq⟩
    have h1 := (hm r hr).1
    rw [e, hW.box] at h1
    cases h1
  have hL := hA.lay #[.int .i64 (x.i : Int), x.v] 67 (by decide) (by decide)
  have hsz : (w.setCell ⟨K, 0, none⟩ (.slice (some ⟨g, 0, none⟩) T.length cap)).heap.size = w.heap.size := by simp [World.setCell]
  rw [hsz] at hL
  exact ⟨g, cap, rfl, hcap, hgK, c0, c1, hL⟩
theorem WA.at {w0 w : World} {K : Nat} {vS : Value} {T : List Pt} {vl : Value} {O : List (List Int)} {x : Pt} {ms : List Nat} {ex : List (Nat × Array Value × Nat)} (h : WA w0 w K vS T vl O x ms ex) {b : Nat} {cs : Array Value} {t : Nat} (hq : (b, cs, t) ∈ ex) (j : Nat) (u : Value) (hj : cs[j]? = some u) : w.cell? ⟨b, j, none⟩ = some u := by
  rw [cell_of_row w b j _ _ _ (h.exs _ hq).1]
  exact hj
/-- While a range lays a node's branches upon the stack, the last first: so many of them lie there. -/
def WStep (w0 wR : World) (K : Nat) (vS0 : Value) (T : List Pt) (B : List (List Int)) (xp R : List Int) (k : Nat) (V : World) : Prop :=
  ∃ (U : List Pt) (vS : Value), PS w0 wR V K vS0 vS (U ++ T) ∧ U.map Pt.p = (R.drop (R.length - k)).map (fun r => xp ++ [r]) ∧ ∀ u ∈ U, B[u.i]? = some u.p
theorem WStep.put {w0 wR V : World} {K : Nat} {vS0 : Value} {T : List Pt} {B : List (List Int)} {xp R : List Int} {k : Nat} (h : WStep w0 wR K vS0 T B xp R k V) (h0 : w0.heap.size ≤ wR.heap.size) (o : Obj) : WStep w0 wR K vS0 T B xp R k (V.putObj (wR.heap.size + 1) o) := by
  obtain ⟨U, vS, h1, h2⟩ := h
  exact ⟨U, vS, h1.put h0 o, h2⟩
theorem WStep.zero {w0 wR V : World} {K : Nat} {vS0 : Value} {T : List Pt} (B : List (List Int)) (xp R : List Int) (h : WS w0 wR K vS0 T) (hb : Below wR.heap.size wR V) (hs : V.heap.size = wR.heap.size + 2) (hd : V.heap[wR.heap.size]? = some (.deferred (some []))) : WStep w0 wR K vS0 T B xp R 0 V := by
  refine ⟨[], vS0, ⟨h.stay hb, lt_of_heap h.box, fun g hg => (h.row.lt g hg).2, fun k hk _ _ => hb.block k hk, by omega, hd, fun g hg => Or.inl hg, fun x hx g hg => Or.inl ((h.beg x hx).lt g hg).2⟩, by simp, fun u hu => by cases hu⟩
/-- One more. -/
theorem WStep.more {w0 wR V V1 : World} {K : Nat} {vS0 vS : Value} {T U : List Pt} {B : List (List Int)} {xp R : List Int} {k j c g cap q : Nat} {r : Int} {v : Value} (p : PS w0 wR V K vS0 vS (U ++ T)) (hU : U.map Pt.p = (R.drop (R.length - k)).map (fun r => xp ++ [r])) (hB : ∀ u ∈ U, B[u.i]? = some u.p)
    (hk : k < R.length) (hj : R.length - 1 - k = j) (hr : R[j]? = some r) (hc : B[c]? = some (xp ++ [r])) (hq : q = (U ++ T).length + 1) (hx : V.ownsRow w0.heap.size 21 1 v (xp ++ [r]).length ((xp ++ [r]).map i32c)) (hxn : ∀ g, v.ownBlock = some g → wR.heap.size + 2 ≤ g)
    (ho : V1.ownsRow w0.heap.size 67 2 (.slice (some ⟨g, 0, none⟩) q cap) q (ptC (U ++ T).reverse ++ [.int .i64 (c : Int), v])) (hg : V.grownBy V1 vS.ownBlock) (hgg : vS.ownBlock = some g ∨ V.heap.size ≤ g) :
    WStep w0 wR K vS0 T B xp R (k + 1) (V1.setCell ⟨K, 0, none⟩ (.slice (some ⟨g, 0, none⟩) q cap)) ∧ (V1.setCell ⟨K, 0, none⟩ (.slice (some ⟨g, 0, none⟩) q cap)).heap[wR.heap.size + 1]? = V.heap[wR.heap.size + 1]? := by
  obtain ⟨h1, h2⟩ := p.push ⟨c, v, xp ++ [r]⟩ hq hx hxn ho hg hgg
  refine ⟨⟨⟨c, v, xp ++ [r]⟩ :: U, _, h1, ?_, fun u hu => ?_⟩, h2⟩
  · have e1 : R.length - (k + 1) = j := by omega
    have e2 : R.length - k = j + 1 := by omega
    obtain ⟨hjl, hjr⟩ := List.getElem?_eq_some_iff.1 hr
    rw [e1, List.drop_eq_getElem_cons hjl, hjr, List.map_cons, List.map_cons, hU, e2]
  · rcases List.mem_cons.1 hu with rfl | hu
    · exact hc
    · exact hB u hu
theorem WStep.len {U : List Pt} {xp R : List Int} {k : Nat} (hU : U.map Pt.p = (R.drop (R.length - k)).map (fun r => xp ++ [r])) (hk : k ≤ R.length) : U.length = k := by
  have := congrArg List.length hU
  simp only [List.length_map, List.length_drop] at this
  omega
theorem infoPt : (Tryd.prog.info? 67).map (fun i => (i.zero, i.size, i.bytes)) = some (some (.agg #[.int .i64 0, .slice none 0 0]), 2, 32) := by kernel_rfl
theorem pt_one (a b : Value) (ha : a.oneCell' = true) (hb : b.oneCell' = true) : ∀ u ∈ [a, b], u.oneCell' = true := by
  intro u hu
  simp only [List.mem_cons, List.not_mem_nil, or_false] at hu
  rcases hu with rfl | rfl <;> assumption
/-- What a round of the range reads. -/
def SV (P6 gk j P5 : Nat) (a b c : Value) (V : World) : Prop := V.cell? ⟨P6, 1, none⟩ = some a ∧ V.cell? ⟨gk, j, none⟩ = some b ∧ V.cell? ⟨P5, 1, none⟩ = some c
theorem SV.stay {P6 gk j P5 : Nat} {a b c : Value} {V W : World} (h : SV P6 gk j P5 a b c V) (hb : Below V.heap.size V W) : SV P6 gk j P5 a b c W := ⟨cell_stay h.1 hb, cell_stay h.2.1 hb, cell_stay h.2.2 hb⟩
theorem SV.keep {P6 gk j P5 : Nat} {a b c : Value} {V W : World} (h : SV P6 gk j P5 a b c V) (hb : ∀ k, k = P6 ∨ k = gk ∨ k = P5 → W.heap[k]? = V.heap[k]?) : SV P6 gk j P5 a b c W :=
  ⟨(World.cell?_of_block (hb P6 (Or.inl rfl))).trans h.1, (World.cell?_of_block (hb gk (Or.inr (Or.inl rfl)))).trans h.2.1, (World.cell?_of_block (hb P5 (Or.inr (Or.inr rfl)))).trans h.2.2⟩
end Go.Proofs.YtfikkkodepfdkaaDoor
