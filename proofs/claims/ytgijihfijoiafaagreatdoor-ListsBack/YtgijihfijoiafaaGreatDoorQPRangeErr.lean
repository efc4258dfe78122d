/- A range over a function, at the widest fence: one law for whatever iterator, told by its own walk; the body goes on, or returns. -/
import Derived.RangeFuncNested
import Derived.RangeFuncBound
import Derived.RangeFuncCalls
import Derived.RangeFuncLeaves
import Derived.Shelf.Abstract
import Derived.WalkKit
import Derived.OwnWalkIn
import Derived.TacticsInMore
import Derived.LoopNIn
import Derived.LoopIn
import Derived.Test.YtgijihfijoiafaaGreatDoorProg
import Derived.LaidEql
import Derived.Laws.StructEq
import Derived.Stop.Asserts
import Derived.Below
import Derived.Defers
import Derived.Recover
import Derived.BigQuiet
import Derived.WalkSmall
namespace Go.Proofs.YtgijihfijoiafaaGreatDoor
set_option linter.unusedVariables false
open Go.RowKit Go.ChangeShapes Go.Shelf

/-- How the body of a round may be left. -/
def bodyX (Go Lv : World → World → Prop) (W : World) : Exit → Act → World → Prop
  | .normal, _, W' => Go W W'
  | .ret, _, W' => Lv W W'
  | _, _, _ => False

theorem range_gen {α : Type} {P : Program} {n : Nat} {g : Operand} {ps : Array Tmp} {assign body : Code} {Q : Exit → Act → World → Prop} {a : Act} {w : World}
    {gf : Nat} {lb : Array Value} (hg : a.eval g = .func (.func gf) #[] lb) (eg : ∀ args w, (callFunc gf args).run P w = .ok (.enter gf args) w)
    (encs : α → Array Value) (hps : ∀ x, (encs x).size = ps.size) (Ok : α → World → Prop) (Go Lv : α → World → World → Prop) (a₁ : α → Act)
    (hOk : ∀ x W o, Ok x W → Ok x (W.putObj (w.heap.size + 1) o))
    (hGo : ∀ x W W', Go x W W' → W'.heap[w.heap.size + 1]? = W.heap[w.heap.size + 1]?)
    (hLv : ∀ x W W', Lv x W W' → W'.heap[w.heap.size + 1]? = W.heap[w.heap.size + 1]?)
    (hassign : ∀ (x : α) (W : World) (K : Act → World → Prop), K (a₁ x) W →
      assign.wpIn (Fence.wide.inRound (w.heap.size + 1)) n P (Exit.then K (fun _ _ _ => False)) { tmps := (ps.zip (encs x)).foldl (fun t (p, v) => t.setIfInBounds p v) a.tmps, defers := [] } W)
    (hbody : ∀ (x : α) (W : World), Ok x W → w.heap.size + 1 < W.heap.size → body.wpIn (Fence.wide.inRound (w.heap.size + 1)) n P (bodyX (Go x) (Lv x) W) (a₁ x) W)
    (Done Left : World → Prop)
    (hiter : ∀ (W1 : World) (rec busy don : Obj), Below w.heap.size w W1 → W1.heap.size = w.heap.size + 2 → W1.heap[w.heap.size]? = some (.deferred (some [])) → W1.heap[w.heap.size + 1]? = some rec →
      (∀ x W, Ok x W → W.heap[w.heap.size + 1]? = some rec → YieldAt Fence.wide n P (w.heap.size + 1) (encs x) W fun e W' =>
        (e = .returned (.bool true) ∧ ∃ W3, Go x (W.putObj (w.heap.size + 1) busy) W3 ∧ W' = W3.putObj (w.heap.size + 1) rec) ∨
        (e = .returned (.bool false) ∧ ∃ W3, Lv x (W.putObj (w.heap.size + 1) busy) W3 ∧ W' = W3.putObj (w.heap.size + 1) don)) →
      CallsIn Fence.wide n P gf (#[.func (.yield (w.heap.size + 1)) #[] #[]] ++ lb) W1 fun e W' => (∃ v, e = .returned v) ∧
        ((W'.heap[w.heap.size + 1]? = some rec ∧ Done W') ∨ (W'.heap[w.heap.size + 1]? = some don ∧ Left W')))
    (hdone : ∀ (W : World) (o : Obj), w.heap.size + 1 < W.heap.size → Done W → Q .normal { a with defers := { target := .collected w.heap.size, args := #[] } :: a.defers } (W.putObj (w.heap.size + 1) o))
    (hstop : ∀ (W : World) (o : Obj), w.heap.size + 1 < W.heap.size → Left W → Code.ret.wpIn Fence.wide n P Q { a with defers := { target := .collected w.heap.size, args := #[] } :: a.defers } (W.putObj (w.heap.size + 1) o)) :
    (Code.rangeFunc g ps assign body).wpIn Fence.wide n P Q a w := by
  refine wpIn_rangeFunc ?_
  intro fn hfn
  obtain ⟨rec, hrec⟩ : ∃ rec : LoopState → Option Code → Loop, rec = fun st pe => { state := st, pending := pe, fn, tmps := a.tmps, params := ps, assign, body, defers := w.heap.size } := ⟨_, rfl⟩
  obtain ⟨W1, hW1⟩ : ∃ W1, (w.alloc (.deferred (some []))).alloc (.loop (rec .ready none)) = W1 := ⟨_, rfl⟩
  have hL1 : W1.heap[w.heap.size + 1]? = some (.loop (rec .ready none)) := by
    rw [← hW1]; have := World.alloc_heap_new (w.alloc (.deferred (some []))) (.loop (rec .ready none)); rwa [World.size_alloc] at this
  have hK1 : W1.heap[w.heap.size]? = some (.deferred (some [])) := by
    rw [← hW1]; exact (Below.heap_alloc _ _ _ (by simp)).trans (World.alloc_heap_new w _)
  have hb1 : Below w.heap.size w W1 := by
    rw [← hW1]; exact (((Below.refl _ w).alloc (Nat.le_refl _) _).alloc (by simp) _)
  have hs1 : W1.heap.size = w.heap.size + 2 := by rw [← hW1]; simp
  refine ⟨w.heap.size + 1, [{ target := .collected w.heap.size, args := #[] }], W1, { target := .fn (.func gf) lb, args := #[.func (.yield (w.heap.size + 1)) #[] #[]] }, W1, gf,
    #[.func (.yield (w.heap.size + 1)) #[] #[]] ++ lb, W1, ?_, ?_, ?_, ?_, (fun h => (by cases h)), ?_⟩
  · rw [← hW1, hrec]; exact run_enterLoop_outer _ _ _ _ _
  · simp only [resolve, hg]
    simp [go_sem]
  · intro f' hf'; exact trivial
  · simp [invoke, go_sem, eg]
  · refine CallsIn.mono (callsIn_wide.2 (callsIn_wide.1 (hiter W1 (.loop (rec .ready none)) (.loop { rec .ready none with state := .busy }) (.loop (rec .done (some .ret))) hb1 hs1 hK1 hL1 ?_))) ?_
    · intro x W hok hl
      have hlt : w.heap.size + 1 < W.heap.size := (Array.getElem?_eq_some_iff.1 hl).1
      have hy := run_yield (P := P) (args := encs x) hl (by rw [hrec]; exact hps x)
      rw [hrec] at hy
      refine ⟨fn, _, assign, body, hy, roundIn_of_wpIn hfn (hassign x W _ ⟨_, run_beginRound hl (by rw [hrec]), ?_⟩)⟩
      refine wpIn_mono (hbody x _ (hOk x W _ hok) (by simpa [World.putObj] using hlt)) ?_
      have hl2 : (W.putObj (w.heap.size + 1) (.loop { rec .ready none with state := .busy })).heap[w.heap.size + 1]? = some (.loop { rec .ready none with state := .busy }) := World.putObj_heap_same hlt
      rintro e a3 W3 hp
      cases e with
      | normal =>
        have hl3 := (hGo x _ _ hp).trans hl2
        have := run_endRound (P := P) none hl3
        refine ⟨_, _, this, .inl ⟨rfl, W3, hp, ?_⟩⟩
        rw [hrec]; rfl
      | ret =>
        have hl3 := (hLv x _ _ hp).trans hl2
        have := run_endRound (P := P) (some .ret) hl3
        refine ⟨_, _, this, .inr ⟨rfl, W3, hp, ?_⟩⟩
        rw [hrec]; rfl
      | exit id => exact hp.elim
      | goto t => exact hp.elim
      | panic ch => exact hp.elim
      | outgrown => exact hp.elim
    · rintro e W2 ⟨⟨v, rfl⟩, (⟨hl, hd⟩ | ⟨hl, hd⟩)⟩
      · exact ⟨none, _, by have := run_endLoop (P := P) hl (by rw [hrec]; simp); rw [hrec] at this; exact this, hdone W2 _ (Array.getElem?_eq_some_iff.1 hl).1 hd⟩
      · exact ⟨some .ret, _, by have := run_endLoop (P := P) hl (by rw [hrec]; simp); rw [hrec] at this; exact this, hstop W2 _ (Array.getElem?_eq_some_iff.1 hl).1 hd⟩
end Go.Proofs.YtgijihfijoiafaaGreatDoor
/- Errors that wrap one another, as values; what lies in memory; what '==' says of them; holds, same, within. -/
namespace Go.Proofs.YtgijihfijoiafaaGreatDoor
set_option linter.unusedVariables false
open Go.RowKit Go.ChangeShapes

/-- The world has grown from there on. -/
def Up (B : Nat) (a w : World) : Prop := Below B a w ∧ B ≤ w.heap.size
theorem Up.refl (w : World) : Up w.heap.size w w := ⟨Below.refl _ _, Nat.le_refl _⟩
theorem Up.stay {B : Nat} {a w w' : World} (h : Up B a w) (hb : Below w.heap.size w w') : Up B a w' := ⟨h.1.trans (hb.mono h.2), Nat.le_trans h.2 hb.size⟩
theorem Up.alloc {B : Nat} {a w : World} (h : Up B a w) (o : Obj) : Up B a (w.alloc o) := h.stay ((Below.refl _ _).alloc (Nat.le_refl _) o)
theorem Up.drew {B : Nat} {a w : World} (h : Up B a w) : Up B a w.drew := ⟨h.1.drew, h.2⟩
theorem Up.setCell {B : Nat} {a w : World} (h : Up B a w) {p : Addr} (hp : B ≤ p.block) (u : Value) : Up B a (w.setCell p u) :=
  ⟨h.1.setCell hp u, by simpa [World.setCell] using h.2⟩
theorem cell_stay {w w' : World} {a : Addr} {v : Value} (h : w.cell? a = some v) (hb : Below w.heap.size w w') : w'.cell? a = some v := (hb.cell (World.block_lt_of_cell? w _ h)).trans h
theorem cell_alloc {w : World} {a : Addr} {v : Value} (h : w.cell? a = some v) (o : Obj) : (w.alloc o).cell? a = some v := cell_stay h ((Below.refl _ _).alloc (Nat.le_refl _) o)
theorem lt_of_heap {w : World} {b : Nat} {o : Obj} (h : w.heap[b]? = some o) : b < w.heap.size := (Array.getElem?_eq_some_iff.1 h).1

/-- One error around another: of a list and a line, in its own block. -/
structure Nd where
  b : Nat
  s : ByteArray
  n : Int
/-- Errors around the inmost, a number, as a value. -/
def val : List Nd → Int → Value
  | [], c => .iface 23 (.int .i64 c)
  | x :: _, _ => .iface 81 (.pointer (some ⟨x.b, 0, none⟩))
/-- They lie in memory, each in its own block, blocks falling inwards. -/
def Lie (w : World) : List Nd → Int → Prop
  | [], _ => True
  | x :: l, c => w.heap[x.b]? = some (.cells #[.string x.s, .int .i64 x.n, val l c] 83 (0, 0)) ∧ (∀ y ∈ l, y.b < x.b) ∧ Lie w l c
theorem Lie.stay {w w' : World} : ∀ {l : List Nd} {c : Int}, Lie w l c → Below w.heap.size w w' → Lie w' l c
  | [], _, _, _ => trivial
  | x :: l, _, h, hb => ⟨(hb.block x.b (lt_of_heap h.1)).trans h.1, h.2.1, Lie.stay h.2.2 hb⟩
theorem Lie.alloc {w : World} {l : List Nd} {c : Int} (h : Lie w l c) (o : Obj) : Lie (w.alloc o) l c := h.stay ((Below.refl _ _).alloc (Nat.le_refl _) o)
theorem Lie.lt {w : World} : ∀ {l : List Nd} {c : Int}, Lie w l c → ∀ x ∈ l, x.b < w.heap.size
  | y :: l, _, h, x, hx => by
    rcases List.mem_cons.1 hx with rfl | hx
    · exact lt_of_heap h.1
    · exact Lie.lt h.2.2 x hx
theorem Lie.new {w : World} {c : Int} {l : List Nd} (h : Lie w l c) (s : ByteArray) (n : Int) :
    Lie (w.alloc (.cells #[.string s, .int .i64 n, val l c] 83)) (⟨w.heap.size, s, n⟩ :: l) c := by
  refine ⟨?_, fun y hy => h.lt y hy, h.alloc _⟩
  show (w.heap.push _)[w.heap.size]? = _
  rw [Array.getElem?_push_size]
theorem val_shape : ∀ (l : List Nd) (c : Int), ∃ T v, val l c = .iface T v
  | [], _ => ⟨_, _, rfl⟩
  | _ :: _, _ => ⟨_, _, rfl⟩

/-- All below n is as it was, but for some blocks. -/
structure Kpt (n : Nat) (p : Nat → Prop) (w w' : World) : Prop where
  os : w'.os = w.os
  tape : w'.tape = w.tape
  output : w'.output = w.output
  size : w.heap.size ≤ w'.heap.size
  block : ∀ k, k < n → ¬ p k → w'.heap[k]? = w.heap[k]?
theorem Kpt.refl (n : Nat) (p : Nat → Prop) (w : World) : Kpt n p w w := ⟨rfl, rfl, rfl, Nat.le_refl _, fun _ _ _ => rfl⟩
theorem Kpt.trans {n : Nat} {p : Nat → Prop} {a b c : World} (h : Kpt n p a b) (k : Kpt n p b c) : Kpt n p a c :=
  ⟨k.os.trans h.os, k.tape.trans h.tape, k.output.trans h.output, Nat.le_trans h.size k.size, fun i hi hp => (k.block i hi hp).trans (h.block i hi hp)⟩
theorem Kpt.mono {n m : Nat} {p : Nat → Prop} {a b : World} (h : Kpt n p a b) (hm : m ≤ n) : Kpt m p a b := ⟨h.os, h.tape, h.output, h.size, fun k hk => h.block k (Nat.lt_of_lt_of_le hk hm)⟩
theorem Kpt.wide {n : Nat} {p q : Nat → Prop} {a b : World} (h : Kpt n p a b) (hq : ∀ k, p k → q k) : Kpt n q a b := ⟨h.os, h.tape, h.output, h.size, fun k hk hn => h.block k hk (fun e => hn (hq k e))⟩
theorem Kpt.of {n : Nat} {p : Nat → Prop} {a b : World} (h : Below n a b) : Kpt n p a b := ⟨h.os, h.tape, h.output, h.size, fun k hk _ => h.block k hk⟩
theorem Kpt.below {n B : Nat} {p : Nat → Prop} {a b : World} (h : Kpt n p a b) (hB : B ≤ n) (hp : ∀ k, p k → B ≤ k) : Below B a b :=
  ⟨h.os, h.tape, h.output, h.size, fun k hk => h.block k (Nat.lt_of_lt_of_le hk hB) (fun e => Nat.not_lt_of_le (hp k e) hk)⟩
theorem Kpt.cell {n : Nat} {p : Nat → Prop} {a b : World} (h : Kpt n p a b) {q : Addr} (hq : q.block < n) (hp : ¬ p q.block) : b.cell? q = a.cell? q := World.cell?_of_block (h.block _ hq hp)
theorem Kpt.frozen {n : Nat} {p : Nat → Prop} {a b : World} (h : Kpt n p a b) {q : Addr} (hq : q.block < n) (hp : ¬ p q.block) : b.frozen? q = a.frozen? q := World.frozen?_of_block (h.block _ hq hp)
theorem Kpt.setCell {n : Nat} {p : Nat → Prop} {a b : World} (h : Kpt n p a b) {q : Addr} (hq : n ≤ q.block ∨ p q.block) (v : Value) : Kpt n p a (b.setCell q v) :=
  ⟨h.os, h.tape, h.output, by simpa [World.setCell] using h.size, fun k hk hp => by
    refine (Below.heap_setCell b q v k ?_).trans (h.block k hk hp)
    rintro rfl
    rcases hq with hq | hq
    · omega
    · exact hp hq⟩
theorem Kpt.alloc {n : Nat} {p : Nat → Prop} {a b : World} (h : Kpt n p a b) (hn : n ≤ b.heap.size) (o : Obj) : Kpt n p a (b.alloc o) := h.trans (Kpt.of ((Below.refl _ _).alloc hn o))
theorem Kpt.putObj {n : Nat} {p : Nat → Prop} {a b : World} (h : Kpt n p a b) {k : Nat} (hk : n ≤ k ∨ p k) (o : Obj) : Kpt n p a (b.putObj k o) :=
  ⟨h.os, h.tape, h.output, by simpa [World.putObj] using h.size, fun i hi hp => by
    refine (World.putObj_heap_other (fun e => ?_)).trans (h.block i hi hp)
    rcases hk with hk | hk
    · omega
    · exact hp (by subst e; exact hk)⟩
theorem Lie.kept {w w' : World} {n : Nat} {p : Nat → Prop} (k : Kpt n p w w') : ∀ {l : List Nd} {c : Int}, Lie w l c → (∀ x ∈ l, x.b < n ∧ ¬ p x.b) → Lie w' l c
  | [], _, _, _ => trivial
  | x :: l, _, h, hb => ⟨(k.block x.b (hb x (by simp)).1 (hb x (by simp)).2).trans h.1, h.2.1, Lie.kept k h.2.2 fun y hy => hb y (by simp [hy])⟩

theorem Tryz.compAt : (Tryz.prog.info? 81).map (·.comparable) = some true := by kernel_rfl
theorem Tryz.compErrno : (Tryz.prog.info? 23).map (·.comparable) = some true := by kernel_rfl
theorem Tryz.sizeAt : (Tryz.prog.info? 83).map (·.size) = some 3 := by kernel_rfl
theorem compAt : ∃ i, Tryz.prog.info? 81 = some i ∧ i.comparable = true := Option.map_eq_some_iff.1 Tryz.compAt
theorem sizeAt : ∃ j, Tryz.prog.info? 83 = some j ∧ j.size ≠ 0 := by
  obtain ⟨j, hj, hm⟩ := Option.map_eq_some_iff.1 Tryz.sizeAt
  exact ⟨j, hj, by rw [hm]; decide⟩
theorem eq_ptrs (d b b' : Nat) (w : World) {ca cb : Array Value} {ta tb : TypeId} (hne : b' < b) (ha : w.heap[b]? = some (.cells ca ta (0, 0))) (hb : w.heap[b']? = some (.cells cb tb (0, 0))) : (Op.equalIn (d + 2) 30 (.iface 81 (.pointer (some ⟨b, 0, none⟩))) (.iface 81 (.pointer (some ⟨b', 0, none⟩)))).run Tryz.prog w = .ok false w := by
  obtain ⟨i, hi, hl⟩ := compAt
  obtain ⟨j, hj, hm⟩ := sizeAt
  exact run_equalIn_iface_ptr_other w d Tryz.underlying30 Tryz.underlying81 hi hl hj hm (by intro e; injection e with e; omega) ha hb
theorem eq_iface (d : Nat) (t : TypeId) (x y : Value) (b : Bool) (w : World) (hc : (Tryz.prog.info? t).map (·.comparable) = some true) (h : (Op.equalIn d t x y).run Tryz.prog w = .ok b w) :
    (Op.equalIn (d + 1) 30 (.iface t x) (.iface t y)).run Tryz.prog w = .ok b w := by
  obtain ⟨i, hi, hl⟩ := Option.map_eq_some_iff.1 hc
  simp [Op.equalIn, run_underlying Tryz.underlying30, typeInfo, hi, hl, h]
theorem eq_nos (d : Nat) (a b : Int) (w : World) : (Op.equalIn (d + 2) 30 (.iface 23 (.int .i64 a)) (.iface 23 (.int .i64 b))).run Tryz.prog w = .ok (a == b) w :=
  eq_iface (d + 1) 23 _ _ _ w Tryz.compErrno (run_equalIn_int w d 23 .i64 .i64 a b Tryz.underlying23)

theorem catch_idle (p : Addr) (w : World) :
    CallsD Tryz.prog 173 #[.pointer (some p)] .returning w fun e u' w' => e = .returned (.tuple #[]) ∧ u' = .returning ∧ w' = w := by
  refine callsD_of_wpS Tryz.func173 rfl fun c₀ cs hu => ?_
  apply wpS_seq
  apply wpS_region
  simp [wpOpsS, go_sem, recoverD, hu, Tryz.ntmps173, Exit.thenS]
  refine wpS_cond (t := false) (by simp [Act.eval, Array.replicate]) ?_
  simp only [Bool.false_eq_true, if_false]
  refine wpS_of_wp (wp_skip ?_)
  cases c₀
  simp_all [bodyPostS, results, Tryz.results173]
theorem catch_idle2 (p q : Addr) (w : World) :
    CallsD Tryz.prog 151 #[.pointer (some p), .pointer (some q)] .returning w fun e u' w' => e = .returned (.tuple #[]) ∧ u' = .returning ∧ w' = w := by
  refine callsD_of_wpS Tryz.func151 rfl fun c₀ cs hu => ?_
  apply wpS_seq
  apply wpS_region
  simp [wpOpsS, go_sem, recoverD, hu, Tryz.ntmps151, Exit.thenS]
  refine wpS_cond (t := false) (by simp [Act.eval, Array.replicate]) ?_
  simp only [Bool.false_eq_true, if_false]
  refine wpS_of_wp (wp_skip ?_)
  cases c₀
  simp_all [bodyPostS, results, Tryz.results151]

/-- holds answers what the closure answers; the closure's own world, with the answer in a new variable. -/
theorem holds_any (G : Nat) (cap : Array Value) (r : Bool) (w : World) (R : World → Prop)
    (hG : Calls Tryz.prog G cap (w.alloc (.cells #[.bool false] 4)) fun e w' => e = .returned (.bool r) ∧ R w')
    (hE : ∀ w', (callFunc G cap).run Tryz.prog w' = .ok (.enter G cap) w')
    (hR : ∀ w', R w' → w'.cell? ⟨w.heap.size, 0, none⟩ = some (.bool false) ∧ w'.frozen? ⟨w.heap.size, 0, none⟩ = false) :
    Calls Tryz.prog 165 #[.func (.func G) #[] cap] w fun e w' => e = .returned (.bool r) ∧ ∃ w1, R w1 ∧ w' = w1.setCell ⟨w.heap.size, 0, none⟩ (.bool r) := by
  have hmf : ∀ (fn : Fn) (first cap : Array Value) (w : World), (Instr.makeFunc fn first cap).run Tryz.prog w = .ok (.func fn first cap) w := fun _ _ _ _ => rfl
  go_enter_defers Tryz.func165, Tryz.ntmps165
  go_wp2_with fail
  refine hG.mono ?_
  rintro e w1 ⟨rfl, hw⟩
  obtain ⟨c1, c2⟩ := hR w1 hw
  have HW : Hid (R w1) := hw
  clear hw hR hG hE
  go_wp2
  refine leaves_cons (f := 173) (args := #[.pointer (some ⟨w.heap.size, 0, none⟩)]) (by simp) (by simp [go_sem]) ?_
  refine (catch_idle ⟨w.heap.size, 0, none⟩ _).mono ?_
  rintro e u' w'' ⟨rfl, rfl, rfl⟩
  have hlt := World.block_lt_of_cell? w1 _ c1
  have c3 : (w1.setCell ⟨w.heap.size, 0, none⟩ (.bool r)).cell? ⟨w.heap.size, 0, none⟩ = some (.bool r) := by
    simp [World.cell?_setCell_same, c1]
  simp [Leaves, settle, results, Tryz.results165, go_sem, c3]
  exact ⟨w1, HW.out, rfl⟩
/-- The same, of a closure that makes new memory alone. -/
theorem holds_bel (G : Nat) (cap : Array Value) (r : Bool) (w : World)
    (hG : Calls Tryz.prog G cap (w.alloc (.cells #[.bool false] 4)) fun e w' => e = .returned (.bool r) ∧ Below (w.alloc (.cells #[.bool false] 4)).heap.size (w.alloc (.cells #[.bool false] 4)) w')
    (hE : ∀ w', (callFunc G cap).run Tryz.prog w' = .ok (.enter G cap) w') :
    Calls Tryz.prog 165 #[.func (.func G) #[] cap] w fun e w' => e = .returned (.bool r) ∧ Below w.heap.size w w' := by
  refine (holds_any G cap r w _ hG hE fun w' hb => ?_).mono ?_
  · exact ⟨(hb.cell (by simp)).trans (by simp), (hb.frozen (by simp)).trans (by simp [go_sem])⟩
  · rintro e w' ⟨he, w1, hb, rfl⟩
    exact ⟨he, (((Up.refl w).alloc _).stay hb).1.setCell (Nat.le_refl _) _⟩
theorem enterSame1 (cap : Array Value) (w : World) : (callFunc 166 cap).run Tryz.prog w = .ok (.enter 166 cap) w := by kernel_rfl
theorem same1_any (p q : Addr) (tx ty : TypeId) (x y : Value) (r : Bool) (w : World) (hp : w.cell? p = some (.iface tx x)) (hq : w.cell? q = some (.iface ty y))
    (h : (Op.equalIn 10000 30 (.iface tx x) (.iface ty y)).run Tryz.prog w = .ok r w) :
    Calls Tryz.prog 166 #[.pointer (some p), .pointer (some q)] w fun e w' => e = .returned (.bool r) ∧ w' = w := by
  have hb : (binOp .eql 30 (.iface tx x) (.iface ty y)).run Tryz.prog w = .ok (.bool r) w := by
    simp only [binOp]
    simp [Op.equal, Op.maxDepth, h]
  have hg : ∀ a b, (eqGuard .eql 30 a b (.iface tx x) (.iface ty y)) = pure () := fun a b => rfl
  clear h
  go_enter Tryz.func166, Tryz.ntmps166
  go_wp2
  go_ret
  exact ⟨rfl, rfl⟩
theorem same1_nil (p q : Addr) (ty : TypeId) (y : Value) (w : World) (hp : w.cell? p = some .nilIface) (hq : w.cell? q = some (.iface ty y)) :
    Calls Tryz.prog 166 #[.pointer (some p), .pointer (some q)] w fun e w' => e = .returned (.bool false) ∧ w' = w := by
  have hb := run_eql_iface_nil_left (P := Tryz.prog) w ty y Tryz.underlying30
  have hg : ∀ a b, (eqGuard .eql 30 a b .nilIface (.iface ty y)) = pure () := fun a b => rfl
  go_enter Tryz.func166, Tryz.ntmps166
  go_wp2
  go_ret
  exact ⟨rfl, rfl⟩
theorem same_any (tx ty : TypeId) (x y : Value) (r : Bool) (w : World)
    (h : ∀ w', Below w.heap.size w w' → (Op.equalIn 10000 30 (.iface tx x) (.iface ty y)).run Tryz.prog w' = .ok r w') :
    Calls Tryz.prog 150 #[.iface tx x, .iface ty y] w fun e w' => e = .returned (.bool r) ∧ Below w.heap.size w w' := by
  have hmf : ∀ (fn : Fn) (first cap : Array Value) (w : World), (Instr.makeFunc fn first cap).run Tryz.prog w = .ok (.func fn first cap) w := fun _ _ _ _ => rfl
  have hu : Up w.heap.size w ((w.alloc (.cells #[.iface tx x] 30)).alloc (.cells #[.iface ty y] 30)) := ((Up.refl w).alloc _).alloc _
  have c := holds_bel 166 #[.pointer (some ⟨w.heap.size, 0, none⟩), .pointer (some ⟨w.heap.size + 1, 0, none⟩)] r ((w.alloc (.cells #[.iface tx x] 30)).alloc (.cells #[.iface ty y] 30))
    ((same1_any _ _ tx ty x y r _ (by go_simp) (by go_simp) (h _ (hu.alloc _).1)).mono fun e w' ⟨he, hw⟩ => ⟨he, by subst hw; exact Below.refl _ _⟩) (enterSame1 _)
  clear h
  go_enter Tryz.func150, Tryz.ntmps150
  go_wp2_with fail
  refine c.mono ?_
  rintro e w1 ⟨rfl, hb⟩
  go_wp2
  go_ret
  exact ⟨rfl, (hu.stay hb).1⟩
theorem same_nil (ty : TypeId) (y : Value) (w : World) :
    Calls Tryz.prog 150 #[.nilIface, .iface ty y] w fun e w' => e = .returned (.bool false) ∧ Below w.heap.size w w' := by
  have hmf : ∀ (fn : Fn) (first cap : Array Value) (w : World), (Instr.makeFunc fn first cap).run Tryz.prog w = .ok (.func fn first cap) w := fun _ _ _ _ => rfl
  have hu : Up w.heap.size w ((w.alloc (.cells #[.nilIface] 30)).alloc (.cells #[.iface ty y] 30)) := ((Up.refl w).alloc _).alloc _
  have c := holds_bel 166 #[.pointer (some ⟨w.heap.size, 0, none⟩), .pointer (some ⟨w.heap.size + 1, 0, none⟩)] false ((w.alloc (.cells #[.nilIface] 30)).alloc (.cells #[.iface ty y] 30))
    ((same1_nil _ _ ty y _ (by go_simp) (by go_simp)).mono fun e w' ⟨he, hw⟩ => ⟨he, by subst hw; exact Below.refl _ _⟩) (enterSame1 _)
  go_enter Tryz.func150, Tryz.ntmps150
  go_wp2_with fail
  refine c.mono ?_
  rintro e w1 ⟨rfl, hb⟩
  go_wp2
  go_ret
  exact ⟨rfl, (hu.stay hb).1⟩
theorem Tryz.noUnwrapN (v : Value) (xT : TypeId) (w : World) : (Instr.typeAssert (.iface 23 v) xT 188 true).run Tryz.prog w = .ok (.tuple #[.nilIface, .bool false]) w := run_typeAssert_lacksB Tryz.underlying188 (by kernel_rfl) (by kernel_rfl) v xT w
theorem Tryz.noManyN (v : Value) (xT : TypeId) (w : World) : (Instr.typeAssert (.iface 23 v) xT 190 true).run Tryz.prog w = .ok (.tuple #[.nilIface, .bool false]) w := run_typeAssert_lacksB Tryz.underlying190 (by kernel_rfl) (by kernel_rfl) v xT w
theorem Tryz.hasUnwrapA (v : Value) (xT : TypeId) (w : World) : (Instr.typeAssert (.iface 81 v) xT 188 true).run Tryz.prog w = .ok (.tuple #[.iface 81 v, .bool true]) w := run_typeAssert_hasB Tryz.underlying188 (by kernel_rfl) v xT w
theorem Tryz.methU (p : Addr) (w : World) : (method 367 81 (.pointer (some p)) "Unwrap").run Tryz.prog w = .ok (195, .pointer (some p)) w := by kernel_rfl
theorem atUnwrap (b : Nat) (s : ByteArray) (n : Int) (v : Value) (w : World) (h : w.heap[b]? = some (.cells #[.string s, .int .i64 n, v] 83 (0, 0))) :
    Calls Tryz.prog 195 #[.pointer (some ⟨b, 0, none⟩)] w fun e w' => e = .returned v ∧ w' = w := by
  have c2 : w.cell? ⟨b, 2, none⟩ = some v := by simp [World.cell?, h]
  clear h
  go_enter Tryz.func195, Tryz.ntmps195
  go_wp2
  go_ret
  exact ⟨rfl, rfl⟩
end Go.Proofs.YtgijihfijoiafaaGreatDoor
