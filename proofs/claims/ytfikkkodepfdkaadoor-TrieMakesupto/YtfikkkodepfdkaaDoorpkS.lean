/- A range over a function, at the widest fence: one law for whatever iterator, told by its own walk; the body goes on, or returns. The reference's Same. The reference's Same, of rows wherever they lie; longer. longer: a beginning with a sign behind it, always in a row of its own. A region that draws its order, in a round of a range over a function. slices.Backward over runes. -/
import Derived.RangeFuncNested
import Derived.RangeFuncBound
import Derived.RangeFuncCalls
import Derived.RangeFuncLeaves
import Derived.Shelf.Abstract
import Derived.WalkKit
import Derived.OwnWalkIn
import Derived.TacticsInMore
import Derived.LoopNIn
import Derived.LoopIn
import Derived.ArgAppend
import Derived.OrdersIn
import Derived.OrdersHeld
import Derived.Deep.RegionHeld3
import Derived.Test.YtfikkkodepfdkaaDoorpRg
namespace Go.Proofs.YtfikkkodepfdkaaDoor
set_option linter.unusedVariables false
open Go.RowKit Go.ChangeShapes Go.Shelf

/-- How the body of a round may be left. -/
def bodyX (Go Lv : World → World → Prop) (W : World) : Exit → Act → World → Prop
  | .normal, _, W' => Go W W'
  | .ret, _, W' => Lv W W'
  | _, _, _ => False

theorem range_gen {α : Type} {P : Program} {n : Nat} {g : Operand} {ps : Array Tmp} {assign body : Code} {Q : Exit → Act → World → Prop} {a : Act} {w : World}
    {gf : Nat} {lb : Array Value} (hg : a.eval g = .func (.func gf) #[] lb) (eg : ∀ args w, (callFunc gf args).run P w = .ok (.enter gf args) w)
    (encs : α → Array Value) (hps : ∀ x, (encs x).size = ps.size) (Ok : α → World → Prop) (Go Lv : α → World → World → Prop) (a₁ : α → Act)
    (hOk : ∀ x W o, Ok x W → Ok x (W.putObj (w.heap.size + 1) o))
    (hGo : ∀ x W W', Go x W W' → W'.heap[w.heap.size + 1]? = W.heap[w.heap.size + 1]?)
    (hLv : ∀ x W W', Lv x W W' → W'.heap[w.heap.size + 1]? = W.heap[w.heap.size + 1]?)
    (hassign : ∀ (x : α) (W : World) (K : Act → World → Prop), K (a₁ x) W →
      assign.wpIn (Fence.wide.inRound (w.heap.size + 1)) n P (Exit.then K (fun _ _ _ => False)) { tmps := (ps.zip (encs x)).foldl (fun t (p, v) => t.setIfInBounds p v) a.tmps, defers := [] } W)
    (hbody : ∀ (x : α) (W : World), Ok x W → w.heap.size + 1 < W.heap.size → body.wpIn (Fence.wide.inRound (w.heap.size + 1)) n P (bodyX (Go x) (Lv x) W) (a₁ x) W)
    (Done Left : World → Prop)
    (hiter : ∀ (W1 : World) (rec busy don : Obj), Below w.heap.size w W1 → W1.heap.size = w.heap.size + 2 → W1.heap[w.heap.size]? = some (.deferred (some [])) → W1.heap[w.heap.size + 1]? = some rec →
      (∀ x W, Ok x W → W.heap[w.heap.size + 1]? = some rec → YieldAt Fence.wide n P (w.heap.size + 1) (encs x) W fun e W' =>
        (e = .returned (.bool true) ∧ ∃ W3, Go x (W.putObj (w.heap.size + 1) busy) W3 ∧ W' = W3.putObj (w.heap.size + 1) rec) ∨
        (e = .returned (.bool false) ∧ ∃ W3, Lv x (W.putObj (w.heap.size + 1) busy) W3 ∧ W' = W3.putObj (w.heap.size + 1) don)) →
      CallsIn Fence.wide n P gf (#[.func (.yield (w.heap.size + 1)) #[] #[]] ++ lb) W1 fun e W' => (∃ v, e = .returned v) ∧
        ((W'.heap[w.heap.size + 1]? = some rec ∧ Done W') ∨ (W'.heap[w.heap.size + 1]? = some don ∧ Left W')))
    (hdone : ∀ (W : World) (o : Obj), w.heap.size + 1 < W.heap.size → Done W → Q .normal { a with defers := { target := .collected w.heap.size, args := #[] } :: a.defers } (W.putObj (w.heap.size + 1) o))
    (hstop : ∀ (W : World) (o : Obj), w.heap.size + 1 < W.heap.size → Left W → Code.ret.wpIn Fence.wide n P Q { a with defers := { target := .collected w.heap.size, args := #[] } :: a.defers } (W.putObj (w.heap.size + 1) o)) :
    (Code.rangeFunc g ps assign body).wpIn Fence.wide n P Q a w := by
  refine wpIn_rangeFunc ?_
  intro fn hfn
  obtain ⟨rec, hrec⟩ : ∃ rec : LoopState → Option Code → Loop, rec = fun st pe => { state := st, pending := pe, fn, tmps := a.tmps, params := ps, assign, body, defers := w.heap.size } := ⟨_, rfl⟩
  obtain ⟨W1, hW1⟩ : ∃ W1, (w.alloc (.deferred (some []))).alloc (.loop (rec .ready none)) = W1 := ⟨_, rfl⟩
  have hL1 : W1.heap[w.heap.size + 1]? = some (.loop (rec .ready none)) := by
    rw [← hW1]; have := World.alloc_heap_new (w.alloc (.deferred (some []))) (.loop (rec .ready none)); rwa [World.size_alloc] at this
  have hK1 : W1.heap[w.heap.size]? = some (.deferred (some [])) := by
    rw [← hW1]; exact (Below.heap_alloc _ _ _ (by simp)).trans (World.alloc_heap_new w _)
  have hb1 : Below w.heap.size w W1 := by
    rw [← hW1]; exact (((Below.refl _ w).alloc (Nat.le_refl _) _).alloc (by simp) _)
  have hs1 : W1.heap.size = w.heap.size + 2 := by rw [← hW1]; simp
  refine ⟨w.heap.size + 1, [{ target := .collected w.heap.size, args := #[] }], W1, { target := .fn (.func gf) lb, args := #[.func (.yield (w.heap.size + 1)) #[] #[]] }, W1, gf,
    #[.func (.yield (w.heap.size + 1)) #[] #[]] ++ lb, W1, ?_, ?_, ?_, ?_, (fun h => (by cases h)), ?_⟩
  · rw [← hW1, hrec]; exact run_enterLoop_outer _ _ _ _ _
  · simp only [resolve, hg]
    simp [go_sem]
  · intro f' hf'; exact trivial
  · simp [invoke, go_sem, eg]
  · refine CallsIn.mono (callsIn_wide.2 (callsIn_wide.1 (hiter W1 (.loop (rec .ready none)) (.loop { rec .ready none with state := .busy }) (.loop (rec .done (some .ret))) hb1 hs1 hK1 hL1 ?_))) ?_
    · intro x W hok hl
      have hlt : w.heap.size + 1 < W.heap.size := (Array.getElem?_eq_some_iff.1 hl).1
      have hy := run_yield (P := P) (args := encs x) hl (by rw [hrec]; exact hps x)
      rw [hrec] at hy
      refine ⟨fn, _, assign, body, hy, roundIn_of_wpIn hfn (hassign x W _ ⟨_, run_beginRound hl (by rw [hrec]), ?_⟩)⟩
      refine wpIn_mono (hbody x _ (hOk x W _ hok) (by simpa [World.putObj] using hlt)) ?_
      have hl2 : (W.putObj (w.heap.size + 1) (.loop { rec .ready none with state := .busy })).heap[w.heap.size + 1]? = some (.loop { rec .ready none with state := .busy }) := World.putObj_heap_same hlt
      rintro e a3 W3 hp
      cases e with
      | normal =>
        have hl3 := (hGo x _ _ hp).trans hl2
        have := run_endRound (P := P) none hl3
        refine ⟨_, _, this, .inl ⟨rfl, W3, hp, ?_⟩⟩
        rw [hrec]; rfl
      | ret =>
        have hl3 := (hLv x _ _ hp).trans hl2
        have := run_endRound (P := P) (some .ret) hl3
        refine ⟨_, _, this, .inr ⟨rfl, W3, hp, ?_⟩⟩
        rw [hrec]; rfl
      | exit id => exact hp.elim
      | goto t => exact hp.elim
      | panic ch => exact hp.elim
      | outgrown => exact hp.elim
    · rintro e W2 ⟨⟨v, rfl⟩, (⟨hl, hd⟩ | ⟨hl, hd⟩)⟩
      · exact ⟨none, _, by have := run_endLoop (P := P) hl (by rw [hrec]; simp); rw [hrec] at this; exact this, hdone W2 _ (Array.getElem?_eq_some_iff.1 hl).1 hd⟩
      · exact ⟨some .ret, _, by have := run_endLoop (P := P) hl (by rw [hrec]; simp); rw [hrec] at this; exact this, hstop W2 _ (Array.getElem?_eq_some_iff.1 hl).1 hd⟩
end Go.Proofs.YtfikkkodepfdkaaDoor
namespace Go.Proofs.YtfikkkodepfdkaaDoor
set_option linter.unusedVariables false
open Go.RowKit Go.ChangeShapes
set_option maxHeartbeats 1000000 in
/-- Same of two lists that are the same. -/
theorem rsame_cells (L : List ByteArray) (g g' c c' : Nat) (w : World) (hn : L.length ≤ 9223372036854775807) (h : ∀ j, (hj : j < L.length) → w.cell? ⟨g, j, none⟩ = some (.string L[j])) (h' : ∀ j, (hj : j < L.length) → w.cell? ⟨g', j, none⟩ = some (.string L[j])) :
    Calls Tryd.prog 13 #[.slice (some ⟨g, 0, none⟩) L.length c, .slice (some ⟨g', 0, none⟩) L.length c'] w fun e w' => e = .returned (.bool true) ∧ Below w.heap.size w w' := by
  have H : Hid (∀ j, (hj : j < L.length) → w.cell? ⟨g, j, none⟩ = some (.string L[j])) := h
  have H' : Hid (∀ j, (hj : j < L.length) → w.cell? ⟨g', j, none⟩ = some (.string L[j])) := h'
  clear h h'
  obtain ⟨k, hk⟩ : ∃ k, L.length = k := ⟨_, rfl⟩
  have HK : Hid (L.length = k) := hk
  rw [hk] at hn ⊢
  clear hk
  go_enter Tryd.func13, Tryd.ntmps13
  go_wp2
  go_loopg [5] k (fun n i wr => ∃ j : Nat, j ≤ k ∧ n = k - j ∧ i = .int .i64 j ∧ Hid (Up w.heap.size w wr))
  case atStart => exact ⟨0, Nat.zero_le _, rfl, rfl, Up.refl w⟩
  case round =>
    obtain ⟨j, hj, hn, rfl, HU⟩ := hrel
    by_cases hlt : j < k
    · have z0 : (0 : Int) ≤ (j : Int) := by omega
      have z1 : (j : Int) < (k : Int) := by omega
      have hl : j < L.length := by rw [HK.out]; exact hlt
      have a1 := (HU.out.1.cell (World.block_lt_of_cell? w _ (H.out j hl))).trans (H.out j hl)
      have a2 := (HU.out.1.cell (World.block_lt_of_cell? w _ (H'.out j hl))).trans (H'.out j hl)
      generalize L[j] = x at a1 a2
      clear hl
      go_wp2_with fail
      go_quiet (fail)
      go_wp2
      go_roundg (k - (j + 1))
      case measure => omega
      case rel => exact ⟨j + 1, by omega, rfl, by go_num, HU.out.stay (Go.below_drewN (Below.refl _ _) _)⟩
    · obtain rfl : j = k := by omega
      go_wp2_with fail
      go_ret
      exact ⟨rfl, HU.out.1⟩
theorem rsame_zero (ad ad' : Option Addr) (c c' : Nat) (w : World) :
    Calls Tryd.prog 13 #[.slice ad 0 c, .slice ad' 0 c'] w fun e w' => e = .returned (.bool true) ∧ w' = w := by
  go_enter Tryd.func13, Tryd.ntmps13
  go_wp2
  go_loopg [5] (0) (fun g i wr => i = .int .i64 0 ∧ wr = w)
  case atStart => exact ⟨rfl, rfl⟩
  case round =>
    obtain ⟨rfl, rfl⟩ := hrel
    go_wp2_with fail
    go_ret
    exact ⟨rfl, rfl⟩
theorem rsame_any (L : List ByteArray) (b b' : Nat) (v v' : Value) (w : World) (h : w.ownsRow b 9 1 v L.length (L.map Value.string)) (h' : w.ownsRow b' 9 1 v' L.length (L.map Value.string)) :
    Calls Tryd.prog 13 #[v, v'] w fun e w' => e = .returned (.bool true) ∧ Below w.heap.size w w' := by
  have h0 := h
  have h0' := h'
  have hz : ∀ ad c ad' c', Calls Tryd.prog 13 #[.slice ad 0 c, .slice ad' 0 c'] w fun e w' => e = .returned (.bool true) ∧ Below w.heap.size w w' := fun ad c ad' c' => (rsame_zero ad ad' c c' w).mono (by
    rintro e w' ⟨rfl, rfl⟩
    exact ⟨rfl, Below.refl _ _⟩)
  obtain ⟨_, ⟨rfl, e1⟩ | ⟨g, cap, cur, rfl, _, _, hnc, hcm, _⟩⟩ := h
  · obtain ⟨_, ⟨rfl, _⟩ | ⟨g', cap', cur', rfl, _⟩⟩ := h'
    · exact hz _ _ _ _
    · rw [e1]; exact hz _ _ _ _
  · obtain ⟨_, ⟨rfl, e1⟩ | ⟨g', cap', cur', rfl, _⟩⟩ := h'
    · rw [e1]; exact hz _ _ _ _
    · exact rsame_cells L g g' cap cap' w (by unfold maxLen at hcm; omega) (own_cells h0) (own_cells h0')
end Go.Proofs.YtfikkkodepfdkaaDoor
namespace Go.Proofs.YtfikkkodepfdkaaDoor
set_option linter.unusedVariables false
open Go.RowKit Go.ChangeShapes
set_option maxRecDepth 100000 in
theorem same_tl (L : List ByteArray) (v v' : Value) (w : World) (h : TL w v L) (h' : TL w v' L) (hL : L.length ≤ 5000) :
    Calls Tryd.prog 13 #[v, v'] w fun e w' => e = .returned (.bool true) ∧ Below w.heap.size w w' := by
  obtain ⟨ad, c, rfl, hc⟩ := h
  obtain ⟨ad', c', rfl, hc'⟩ := h'
  have HC : Hid (∀ (j : Nat) (s : ByteArray), L[j]? = some s → ∃ b off, ad = some ⟨b, off, none⟩ ∧ w.cell? ⟨b, off + j, none⟩ = some (.string s)) := hc
  have HC' : Hid (∀ (j : Nat) (s : ByteArray), L[j]? = some s → ∃ b off, ad' = some ⟨b, off, none⟩ ∧ w.cell? ⟨b, off + j, none⟩ = some (.string s)) := hc'
  clear hc hc'
  generalize en : L.length = n at *
  have EN : Hid (L.length = n) := en
  clear en
  go_enter Tryd.func13, Tryd.ntmps13
  go_wp2
  go_loopg [5] n (fun g iv wr => ∃ i : Nat, i ≤ n ∧ g = n - i ∧ iv = .int .i64 i ∧ Hid (Up w.heap.size w wr))
  case atStart => exact ⟨0, Nat.zero_le _, rfl, rfl, Up.refl w⟩
  case round =>
    obtain ⟨i, hin, hg, rfl, HU⟩ := hrel
    have z0 : (0 : Int) ≤ (i : Int) := by omega
    by_cases hlt : i < n
    · have z1 : (i : Int) < (n : Int) := by omega
      obtain ⟨s, hs⟩ : ∃ s, L[i]? = some s := ⟨_, List.getElem?_eq_getElem (by rw [EN.out]; exact hlt)⟩
      obtain ⟨b, off, rfl, h1⟩ := HC.out i s hs
      obtain ⟨b', off', rfl, h2⟩ := HC'.out i s hs
      have k1 := cell_stay h1 HU.out.1
      have k2 := cell_stay h2 HU.out.1
      clear hs h1 h2
      go_upto_region 6 with fail
      go_quiet (fail)
      go_wp2
      go_roundg (n - (i + 1))
      case measure => omega
      case rel => exact ⟨i + 1, by omega, rfl, by go_num, HU.out.drewN _⟩
    · obtain rfl : i = n := by omega
      have z1 : ¬ (i : Int) < (i : Int) := by omega
      go_wp2
      go_ret
      exact ⟨rfl, HU.out.1⟩
end Go.Proofs.YtfikkkodepfdkaaDoor
namespace Go.Proofs.YtfikkkodepfdkaaDoor
set_option linter.unusedVariables false
open Go.RowKit Go.ChangeShapes
theorem longer_any {w : World} {b : Nat} {v : Value} (p : List Int) (h : w.ownsRow b 21 1 v p.length (p.map i32c)) (hp : p.length ≤ 1000) (r : Int) :
    Calls Tryd.prog 31 #[v, .int .i32 r] w fun e w' => ∃ v', e = .returned v' ∧ w'.ownsRow w.heap.size 21 1 v' (p ++ [r]).length ((p ++ [r]).map i32c) ∧ Up w.heap.size w w' := by
  have H : Hid (w.ownsRow b 21 1 v p.length (p.map i32c)) := h
  obtain ⟨i0, hi, hz0, hz1, hz2⟩ := info_parts info21
  obtain ⟨ad, c, rfl, hc, hno, hcs⟩ : ∃ ad c, v = .slice ad p.length c ∧ p.length ≤ c ∧ (ad = none → p.length = 0) ∧ ∀ a, ad = some a → ∀ j u, (p.map i32c)[j]? = some u → w.cell? (a.add j) = some u := by
    have h0 := h
    obtain ⟨hl, ⟨rfl, h1⟩ | ⟨g, cap, cur, rfl, hg, hh, h3⟩⟩ := h
    · exact ⟨none, 0, by rw [h1], by omega, fun _ => h1, fun a ha => by cases ha⟩
    · refine ⟨_, cap, rfl, h3.1, (fun e => by cases e), fun a ha j u hu => ?_⟩
      cases ha
      have := (srcs_own h0).2
      rw [addr_plus, Nat.zero_add]
      have hj : j < p.length := by
        have := (List.getElem?_eq_some_iff.1 hu).1
        simpa using this
      rw [h0.cellAt j (by omega)]
      exact hu
  have HCS : Hid (∀ a, ad = some a → ∀ j u, (p.map i32c)[j]? = some u → w.cell? (a.add j) = some u) := hcs
  have HNO : Hid (ad = none → p.length = 0) := hno
  obtain ⟨n, en⟩ : ∃ n, p.length = n := ⟨_, rfl⟩
  have EN : Hid (p.length = n) := en
  rw [en] at hc hp ⊢
  have x1 : (n : Int) ≤ (c : Int) := by omega
  have x2 : (0 : Int) ≤ (n : Int) := by omega
  clear h hcs hno en
  obtain ⟨wa, hwa⟩ : ∃ x, w.alloc (.cells #[.int .i32 r] 21) = x := ⟨_, rfl⟩
  have HUa : Hid (Up w.heap.size w wa) := by show Up _ _ _; rw [← hwa]; exact (Up.refl w).alloc _
  have HSr : Hid (∀ j u, [Value.int .i32 r][j]? = some u → wa.cell? ((⟨w.heap.size, 0, none⟩ : Addr).add j) = some u) := fun j u hu => by
    rw [← hwa]
    exact World.news_of_block (Array.getElem?_push_size (xs := w.heap) (x := .cells #[.int .i32 r] 21)) j u hu
  go_enter Tryd.func31, Tryd.ntmps31
  go_wp2_with (at_builtin; refine wpList_append_grows _ rfl _ _ 37 rfl 21 i0 _ 1 4 Tryd.underlying37 hi hz0 hz1 hz2 rfl (by decide) ad n n (p.map i32c) rfl (fun e => ⟨by rw [← EN.out]; exact HNO.out e, by rw [← EN.out]; exact HNO.out e⟩) (by simp [EN.out]) (fun a ha j u hu => cell_stay (HCS.out a ha j u hu) HUa.out.1) ⟨w.heap.size, 0, none⟩ 1 1 [.int .i32 r] rfl rfl HSr.out (one_one _ rfl) (by omega) (by unfold maxLen; omega) (by omega) ?_)
  intro v' w' hown hg
  have HO : Hid (w'.ownsRow w.heap.size 21 1 v' (p ++ [r]).length ((p ++ [r]).map i32c)) := by
    show w'.ownsRow _ _ _ _ _ _
    rw [List.length_append, List.map_append, EN.out]
    exact own_mono hown (by have := HUa.out.2; omega)
  have HU : Hid (Up w.heap.size w w') := HUa.out.grown hg (fun k hk => by cases hk)
  clear hown hg
  go_wp2
  go_ret
  exact ⟨v', rfl, HO.out, HU.out⟩
end Go.Proofs.YtfikkkodepfdkaaDoor
namespace Go.Proofs.YtfikkkodepfdkaaDoor
set_option linter.unusedVariables false
open Go.RowKit Go.ChangeShapes
theorem rowsIn_wide {n : Nat} {P : Program} {row : String} {args : Array Value} {w : World} {R : Value → World → Prop} (h : Rows P row args w R) : RowsIn Fence.wide n P row args w R := fun c cs _ => by
  obtain ⟨v, w', r, s⟩ := h c cs
  exact ⟨v, w', r, stepsIn_wide.2 s⟩
theorem oper_in {P : Program} {o : Oper} {a : Act} {w : World} {K : Act → World → Prop} {Q : Exit → Act → World → Prop} {l n : Nat} (hd : ∀ c, o.op ≠ .defer c) (h : Oper.wp P o a w K Q) : Oper.wpIn (Fence.wide.inRound l) n P o a w K Q := by
  unfold Oper.wp at h
  unfold Oper.wpIn
  refine ⟨fun f _ => trivial, ?_⟩
  rw [Fence.inRound_round, Oper.semAt_some _ _ _ hd]
  generalize (execOp a.eval o).run P w = r at h
  cases r with
  | ok x w' =>
    cases x with
    | value v => exact h
    | skip => exact h
    | defer d => exact h
    | enter f args =>
      refine ⟨(fun h => by cases h), CallsIn.inRound l (callsIn_wide.2 (Calls.mono h ?_))⟩
      intro e w'' he
      cases e <;> exact he
    | row row args =>
      refine ⟨(fun h => by cases h), ?_⟩
      exact rowsIn_wide h
    | round l f tmps assign body => exact h.elim
    | _ => first | exact h.elim | exact h
  | halt x w' =>
    cases x <;> first | exact h | exact h.elim
def isDef (o : Oper) : Bool := match o.op with
  | .defer _ => true
  | _ => false
theorem not_def {o : Oper} (h : isDef o = false) : ∀ c, o.op ≠ .defer c := fun c e => by
  unfold isDef at h
  rw [e] at h
  cases h
theorem any_in {P : Program} {md : Region.Mode} {ops : Array Oper} {Q : Exit → Act → World → Prop} {l n : Nat} (hd : ops.all (fun o => !isDef o) = true) (hQ : ¬ LetsOut Q) : ∀ (fuel : Nat) (listed : Array Bool) (a : Act) (w : World), wpAny P md ops Q fuel listed a w → wpAnyIn (Fence.wide.inRound l) n P md ops Q fuel listed a w
  | 0, _, _, _, h => h
  | fuel + 1, listed, a, w, h => by
    refine ⟨h.1, fun i hi => ?_⟩
    have h2 := h.2 i hi
    unfold wpOp at h2
    unfold wpOpIn
    cases ho : ops[i]? with
    | none =>
      rw [ho] at h2
      exact any_in hd hQ fuel _ a w h2
    | some o =>
      rw [ho] at h2
      have hno : isDef o = false := by
        have := Array.all_eq_true.1 hd i (Array.getElem?_eq_some_iff.1 ho).1
        rw [(Array.getElem?_eq_some_iff.1 ho).2] at this
        simpa using this
      dsimp only at h2 ⊢
      split
      · rename_i hw
        rw [if_pos hw] at h2
        rcases h2 with h2 | ⟨_, h2⟩
        · exact oper_in (not_def hno) (Oper.wp_mono (fun a' w' h' => any_in hd hQ fuel _ a' w' h') h2)
        · exact absurd h2 hQ
      · rename_i hw
        rw [if_neg hw] at h2
        exact ⟨fun f _ => trivial, any_in hd hQ fuel _ _ w h2⟩
theorem region_in {P : Program} {id : Nat} {ops : Array Oper} {Q : Exit → Act → World → Prop} {S : World → Prop} {l n : Nat} {a : Act} {w : World} (hm : P.follows .mixedOrders = true) (hd : ops.all (fun o => !isDef o) = true) (hQ : ¬ LetsOut Q) (hS : S w.drew)
    (h : S w.drew → wpAnyH P .any ops Q S ops.size (Array.replicate ops.size false) a w.drew) : (Code.region id ops true).wpIn (Fence.wide.inRound l) n P Q a w :=
  wpIn_region_any hm (any_in hd hQ _ _ _ _ (wpAny_of_held _ _ _ _ (h hS)))
end Go.Proofs.YtfikkkodepfdkaaDoor
namespace Go.Proofs.YtfikkkodepfdkaaDoor
set_option linter.unusedVariables false
open Go.RowKit Go.ChangeShapes Go.Shelf
attribute [local go_sem] Oper.semAt_some
theorem back_any (ad : Option Addr) (n c : Nat) (w : World) : Calls Tryd.prog 30 #[.slice ad n c] w fun e w' => e = .returned (.func (.func 49) #[] #[.pointer (some ⟨w.heap.size, 0, none⟩)]) ∧ w' = w.alloc (.cells #[.slice ad n c] 37) := by
  go_enter Tryd.func30, Tryd.ntmps30
  go_wp2
  go_ret
  exact ⟨rfl, rfl⟩
theorem enterBk (args : Array Value) (w : World) : (callFunc 49 args).run Tryd.prog w = .ok (.enter 49 args) w := Proofs.enters_of Tryd.func49 (by kernel_rfl) rfl args w
def intOf : Value → Int
  | .int _ x => x
  | _ => 0
/-- What lies behind the iterator's slice. -/
def Bk1 (V : World) (bx : Nat) (ar : Option Addr) (cr : Nat) (R : List Int) : Prop := V.cell? ⟨bx, 0, none⟩ = some (.slice ar R.length cr) ∧ ∀ (j : Nat) (r : Int), R[j]? = some r → ∃ g, ar = some ⟨g, 0, none⟩ ∧ V.cell? ⟨g, j, none⟩ = some (.int .i32 r)
set_option maxRecDepth 100000 in
set_option maxHeartbeats 2000000 in
theorem back_iter (l n bx : Nat) (ar : Option Addr) (cr : Nat) (R : List Int) (hRl : R.length ≤ 1000000) (Inv : Nat → World → Prop) (W : World)
    (hB : ∀ k V, Inv k V → Bk1 V bx ar cr R)
    (hY : ∀ k r V, k < R.length → R[R.length - 1 - k]? = some r → Inv k V → YieldAt Fence.wide n Tryd.prog l #[.int .i64 ((R.length - 1 - k : Nat) : Int), .int .i32 r] V fun e V' => e = .returned (.bool true) ∧ Inv (k + 1) V')
    (h0 : Inv 0 W) :
    Calls Tryd.prog 49 #[.func (.yield l) #[] #[], .pointer (some ⟨bx, 0, none⟩)] W fun e W' => (∃ v, e = .returned v) ∧ Inv R.length W' := by
  obtain ⟨m, hm⟩ : ∃ m, R.length = m := ⟨_, rfl⟩
  have HM : Hid (R.length = m) := hm
  have hB0 := (hB 0 W h0).1
  rw [hm] at hB0 hY hRl ⊢
  refine (callsIn_wide (n := n + 1)).1 ?_
  refine callsIn_of_wp Tryd.func49 rfl trivial ?_ rfl
  simp only [Tryd.ntmps49, List.size_toArray, List.length_cons, List.length_nil, Nat.reduceAdd, Nat.reduceSub, Array.replicate_succ, Array.replicate_zero, List.push_toArray, List.append_toArray, List.nil_append, List.cons_append]
  have HY : Hid (∀ k r V, k < m → R[m - 1 - k]? = some r → Inv k V → YieldAt Fence.wide n Tryd.prog l #[.int .i64 ((m - 1 - k : Nat) : Int), .int .i32 r] V fun e V' => e = .returned (.bool true) ∧ Inv (k + 1) V') := hY
  have HB : Hid (∀ k V, Inv k V → Bk1 V bx ar cr R) := hB
  have HI0 : Hid (Inv 0 W) := h0
  clear hY hB h0 hm
  gi_wp2
  gi_loopw [3] (fun i wr => ∃ k : Nat, k ≤ m ∧ i = .int .i64 ((m : Int) - 1 - (k : Int)) ∧ Hid (Inv k wr)) (fun i wr => (intOf i + 1).toNat)
  case atStart => exact ⟨0, Nat.zero_le _, by simp, HI0⟩
  case round =>
    obtain ⟨k, hk, rfl, HI⟩ := hrel
    obtain ⟨hb1, hb2⟩ := HB.out k wr HI.out
    rw [HM.out] at hb1
    by_cases hlt : k < m
    · obtain ⟨j, hj⟩ : ∃ j, m - 1 - k = j := ⟨_, rfl⟩
      have hjl : j < m := by omega
      have ej : (m : Int) - 1 - (k : Int) = (j : Int) := by omega
      rw [ej]
      obtain ⟨r, hr⟩ : ∃ r, R[j]? = some r := ⟨_, List.getElem?_eq_getElem (by rw [HM.out]; exact hjl)⟩
      obtain ⟨g, rfl, hcr⟩ := hb2 j r hr
      have hyy := HY.out k r wr hlt (by rw [hj]; exact hr) HI.out
      rw [hj] at hyy
      obtain ⟨fn, tmps, assign, body, hy, hR⟩ := hyy
      have z0 : (0 : Int) ≤ (j : Int) := by omega
      have z1 : (j : Int) < (m : Int) := by omega
      have HJ : Hid (m - 1 - k = j) := hj
      clear hb2 hr hj ej
      gi_wp2_with fail
      refine hR.mono ?_
      rintro e V ⟨rfl, hV⟩
      have HV : Hid (Inv (k + 1) V) := hV
      clear hV hR hy hb1 hcr
      gi_wp2
      go_roundw
      case rel => exact ⟨k + 1, by omega, by congr 1; have := HJ.out; omega, HV⟩
      case measure =>
        show ((j : Int) - 1 + 1).toNat < ((j : Int) + 1).toNat
        omega
    · obtain rfl : k = m := by omega
      have ej : (k : Int) - 1 - (k : Int) = -1 := by omega
      rw [ej]
      clear hb1 hb2
      gi_wp2
      go_end0
      exact ⟨⟨_, rfl⟩, HI.out⟩
end Go.Proofs.YtfikkkodepfdkaaDoor
