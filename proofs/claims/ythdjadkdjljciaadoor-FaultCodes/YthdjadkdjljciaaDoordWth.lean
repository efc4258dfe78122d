/- within; ring.closed, glance.closed; is, tells. -/
import Derived.Test.YthdjadkdjljciaaDoordErr
namespace Go.Proofs.YthdjadkdjljciaaDoor
set_option linter.unusedVariables false
open Go.RowKit Go.ChangeShapes

theorem within_at (b : Nat) (s : ByteArray) (n : Int) (T : TypeId) (x : Value) (w : World) (h : w.heap[b]? = some (.cells #[.string s, .int .i64 n, .iface T x] 46 (0, 0))) :
    Calls Tryd.prog 39 #[.iface 42 (.pointer (some ⟨b, 0, none⟩))] w fun e w' => e = .returned (.tuple #[.iface T x, .slice none 0 0]) ∧ Below w.heap.size w w' := by
  have hmf : ∀ (fn : Fn) (first cap : Array Value) (w : World), (Instr.makeFunc fn first cap).run Tryd.prog w = .ok (.func fn first cap) w := fun _ _ _ _ => rfl
  have hlt := lt_of_heap h
  have c := atUnwrap b s n (.iface T x) ((w.alloc (.cells #[.nilIface] 25)).alloc (.cells #[.slice none 0 0] 71)) ((((Up.refl w).alloc _).alloc _).1.block b hlt |>.trans h)
  clear h
  have h := Tryd.hasUnwrapA
  have m := Tryd.methU
  go_enter_defers Tryd.func39, Tryd.ntmps39
  go_wp2_with fail
  refine c.mono ?_
  rintro e w1 ⟨rfl, rfl⟩
  go_wp2
  go_region
  all_goals
    go_wp2
    refine leaves_cons (f := 47) (args := #[.pointer (some ⟨w.heap.size, 0, none⟩), .pointer (some ⟨w.heap.size + 1, 0, none⟩)]) (by simp) (by simp [go_sem]) ?_
    refine (catch_idle2 ⟨w.heap.size, 0, none⟩ ⟨w.heap.size + 1, 0, none⟩ _).mono ?_
    rintro e u' w'' ⟨rfl, rfl, rfl⟩
    simp [Leaves, settle, results, Tryd.results39, go_sem]
    exact (((Up.refl w).alloc _).alloc _).drew.1
theorem within_num (c : Int) (w : World) :
    Calls Tryd.prog 39 #[.iface 27 (.int .i64 c)] w fun e w' => e = .returned (.tuple #[.nilIface, .slice none 0 0]) ∧ Below w.heap.size w w' := by
  have hmf : ∀ (fn : Fn) (first cap : Array Value) (w : World), (Instr.makeFunc fn first cap).run Tryd.prog w = .ok (.func fn first cap) w := fun _ _ _ _ => rfl
  have h := Tryd.noUnwrapN
  have h2 := Tryd.noManyN
  go_enter_defers Tryd.func39, Tryd.ntmps39
  go_wp2
  go_region
  all_goals
    go_wp2
    refine leaves_cons (f := 47) (args := #[.pointer (some ⟨w.heap.size, 0, none⟩), .pointer (some ⟨w.heap.size + 1, 0, none⟩)]) (by simp) (by simp [go_sem]) ?_
    refine (catch_idle2 ⟨w.heap.size, 0, none⟩ ⟨w.heap.size + 1, 0, none⟩ _).mono ?_
    rintro e u' w'' ⟨rfl, rfl, rfl⟩
    simp [Leaves, settle, results, Tryd.results39, go_sem]
    exact (((Up.refl w).alloc _).alloc _).drew.1
theorem within_oth (T : TypeId) (x : Value) (w : World) :
    Calls Tryd.prog 39 #[.iface 31 (.agg #[.iface T x])] w fun e w' => e = .returned (.tuple #[.iface T x, .slice none 0 0]) ∧ Below w.heap.size w w' := by
  have hmf : ∀ (fn : Fn) (first cap : Array Value) (w : World), (Instr.makeFunc fn first cap).run Tryd.prog w = .ok (.func fn first cap) w := fun _ _ _ _ => rfl
  have c := othUnwrap (.iface T x) ((w.alloc (.cells #[.nilIface] 25)).alloc (.cells #[.slice none 0 0] 71))
  have h := Tryd.hasUnwrapO
  have m := Tryd.methUO
  go_enter_defers Tryd.func39, Tryd.ntmps39
  go_wp2_with fail
  refine c.mono ?_
  rintro e w1 ⟨rfl, rfl⟩
  go_wp2
  go_region
  all_goals
    go_wp2
    refine leaves_cons (f := 47) (args := #[.pointer (some ⟨w.heap.size, 0, none⟩), .pointer (some ⟨w.heap.size + 1, 0, none⟩)]) (by simp) (by simp [go_sem]) ?_
    refine (catch_idle2 ⟨w.heap.size, 0, none⟩ ⟨w.heap.size + 1, 0, none⟩ _).mono ?_
    rintro e u' w'' ⟨rfl, rfl, rfl⟩
    simp [Leaves, settle, results, Tryd.results39, go_sem]
    exact ((((Up.refl w).alloc _).alloc _).alloc _).drew.1
theorem within_oth0 (w : World) :
    Calls Tryd.prog 39 #[.iface 31 (.agg #[.nilIface])] w fun e w' => e = .returned (.tuple #[.nilIface, .slice none 0 0]) ∧ Below w.heap.size w w' := by
  have hmf : ∀ (fn : Fn) (first cap : Array Value) (w : World), (Instr.makeFunc fn first cap).run Tryd.prog w = .ok (.func fn first cap) w := fun _ _ _ _ => rfl
  have c := othUnwrap .nilIface ((w.alloc (.cells #[.nilIface] 25)).alloc (.cells #[.slice none 0 0] 71))
  have h := Tryd.hasUnwrapO
  have m := Tryd.methUO
  go_enter_defers Tryd.func39, Tryd.ntmps39
  go_wp2_with fail
  refine c.mono ?_
  rintro e w1 ⟨rfl, rfl⟩
  go_wp2
  go_region
  all_goals
    go_wp2
    refine leaves_cons (f := 47) (args := #[.pointer (some ⟨w.heap.size, 0, none⟩), .pointer (some ⟨w.heap.size + 1, 0, none⟩)]) (by simp) (by simp [go_sem]) ?_
    refine (catch_idle2 ⟨w.heap.size, 0, none⟩ ⟨w.heap.size + 1, 0, none⟩ _).mono ?_
    rintro e u' w'' ⟨rfl, rfl, rfl⟩
    simp [Leaves, settle, results, Tryd.results39, go_sem]
    exact ((((Up.refl w).alloc _).alloc _).alloc _).drew.1
theorem within_at0 (b : Nat) (s : ByteArray) (n : Int) (w : World) (h : w.heap[b]? = some (.cells #[.string s, .int .i64 n, .nilIface] 46 (0, 0))) :
    Calls Tryd.prog 39 #[.iface 42 (.pointer (some ⟨b, 0, none⟩))] w fun e w' => e = .returned (.tuple #[.nilIface, .slice none 0 0]) ∧ Below w.heap.size w w' := by
  have hmf : ∀ (fn : Fn) (first cap : Array Value) (w : World), (Instr.makeFunc fn first cap).run Tryd.prog w = .ok (.func fn first cap) w := fun _ _ _ _ => rfl
  have hlt := lt_of_heap h
  have c := atUnwrap b s n .nilIface ((w.alloc (.cells #[.nilIface] 25)).alloc (.cells #[.slice none 0 0] 71)) ((((Up.refl w).alloc _).alloc _).1.block b hlt |>.trans h)
  clear h
  have h := Tryd.hasUnwrapA
  have m := Tryd.methU
  go_enter_defers Tryd.func39, Tryd.ntmps39
  go_wp2_with fail
  refine c.mono ?_
  rintro e w1 ⟨rfl, rfl⟩
  go_wp2
  go_region
  all_goals
    go_wp2
    refine leaves_cons (f := 47) (args := #[.pointer (some ⟨w.heap.size, 0, none⟩), .pointer (some ⟨w.heap.size + 1, 0, none⟩)]) (by simp) (by simp [go_sem]) ?_
    refine (catch_idle2 ⟨w.heap.size, 0, none⟩ ⟨w.heap.size + 1, 0, none⟩ _).mono ?_
    rintro e u' w'' ⟨rfl, rfl, rfl⟩
    simp [Leaves, settle, results, Tryd.results39, go_sem]
    exact (((Up.refl w).alloc _).alloc _).drew.1
/-- What lies within. -/
def nxt : List Nd → Option Int → Value
  | [], _ => .nilIface
  | _ :: l, c => val l c
theorem within_any (l : List Nd) (c : Option Int) (w : World) (h : Lie w l c) (hn : val l c ≠ .nilIface) :
    Calls Tryd.prog 39 #[val l c] w fun e w' => e = .returned (.tuple #[nxt l c, .slice none 0 0]) ∧ Below w.heap.size w w' := by
  match l, c, h with
  | [], none, _ => exact absurd rfl hn
  | [], some c, _ => exact within_num c w
  | ⟨true, b, s, n⟩ :: l, c, h =>
    show Calls Tryd.prog 39 #[.iface 31 (.agg #[val l c])] w fun e w' => e = .returned (.tuple #[val l c, .slice none 0 0]) ∧ Below w.heap.size w w'
    rcases val_shape l c with ⟨e, _, _⟩ | ⟨T, v, e⟩
    · rw [e]; exact within_oth0 w
    · rw [e]; exact within_oth T v w
  | ⟨false, b, s, n⟩ :: l, c, h =>
    show Calls Tryd.prog 39 #[.iface 42 (.pointer (some ⟨b, 0, none⟩))] w fun e w' => e = .returned (.tuple #[val l c, .slice none 0 0]) ∧ Below w.heap.size w w'
    have h1 := (h.1 rfl).1
    rcases val_shape l c with ⟨e, _, _⟩ | ⟨T, v, e⟩
    · rw [e] at h1 ⊢; exact within_at0 b s n w h1
    · rw [e] at h1 ⊢; exact within_at b s n T v w h1
theorem Tryd.asOA (v : Value) (xT : TypeId) (w : World) : (Instr.typeAssert (.iface 31 v) xT 42 true).run Tryd.prog w = .ok (.tuple #[.pointer none, .bool false]) w := by kernel_rfl
theorem Tryd.asON (v : Value) (xT : TypeId) (w : World) : (Instr.typeAssert (.iface 31 v) xT 27 true).run Tryd.prog w = .ok (.tuple #[.int .i64 0, .bool false]) w := by kernel_rfl
theorem Tryd.noIsO (v : Value) (xT : TypeId) (w : World) : (Instr.typeAssert (.iface 31 v) xT 83 true).run Tryd.prog w = .ok (.tuple #[.nilIface, .bool false]) w := run_typeAssert_lacksB Tryd.underlying83 (by kernel_rfl) (by kernel_rfl) v xT w
theorem Tryd.noAsO (v : Value) (xT : TypeId) (w : World) : (Instr.typeAssert (.iface 31 v) xT 90 true).run Tryd.prog w = .ok (.tuple #[.nilIface, .bool false]) w := run_typeAssert_lacksB Tryd.underlying90 (by kernel_rfl) (by kernel_rfl) v xT w
theorem is_oth (v : Value) (w : World) :
    Calls Tryd.prog 29 #[.iface 31 (.agg #[v])] w fun e w' => e = .returned (.bool false) ∧ w' = w := by
  have h0 := Tryd.asOA
  go_enter Tryd.func29, Tryd.ntmps29
  go_wp2
  go_ret
  exact ⟨rfl, rfl⟩
theorem tellsA_oth (v : Value) (w : World) :
    Calls Tryd.prog 44 #[.iface 31 (.agg #[v])] w fun e w' => e = .returned (.bool false) ∧ w' = w := by
  have h0 := Tryd.asOA
  have h1 := Tryd.noIsO
  have h2 := Tryd.noAsO
  go_enter Tryd.func44, Tryd.ntmps44
  go_wp2
  go_ret
  exact ⟨rfl, rfl⟩
theorem tellsN_oth (v : Value) (w : World) :
    Calls Tryd.prog 31 #[.iface 31 (.agg #[v])] w fun e w' => e = .returned (.bool false) ∧ w' = w := by
  have h0 := Tryd.asON
  have h1 := Tryd.noIsO
  have h2 := Tryd.noAsO
  go_enter Tryd.func31, Tryd.ntmps31
  go_wp2
  go_ret
  exact ⟨rfl, rfl⟩
theorem Tryd.asAA (v : Value) (xT : TypeId) (w : World) : (Instr.typeAssert (.iface 42 v) xT 42 true).run Tryd.prog w = .ok (.tuple #[v, .bool true]) w := by kernel_rfl
theorem Tryd.asNA (v : Value) (xT : TypeId) (w : World) : (Instr.typeAssert (.iface 27 v) xT 42 true).run Tryd.prog w = .ok (.tuple #[.pointer none, .bool false]) w := by kernel_rfl
theorem Tryd.asAN (v : Value) (xT : TypeId) (w : World) : (Instr.typeAssert (.iface 42 v) xT 27 true).run Tryd.prog w = .ok (.tuple #[.int .i64 0, .bool false]) w := by kernel_rfl
theorem Tryd.asNN (v : Value) (xT : TypeId) (w : World) : (Instr.typeAssert (.iface 27 v) xT 27 true).run Tryd.prog w = .ok (.tuple #[v, .bool true]) w := by kernel_rfl
theorem is_at (b : Nat) (w : World) :
    Calls Tryd.prog 29 #[.iface 42 (.pointer (some ⟨b, 0, none⟩))] w fun e w' => e = .returned (.bool true) ∧ w' = w := by
  have h0 := Tryd.asAA
  go_enter Tryd.func29, Tryd.ntmps29
  go_wp2
  go_ret
  exact ⟨rfl, rfl⟩
theorem is_num (c : Int) (w : World) :
    Calls Tryd.prog 29 #[.iface 27 (.int .i64 c)] w fun e w' => e = .returned (.bool false) ∧ w' = w := by
  have h0 := Tryd.asNA
  go_enter Tryd.func29, Tryd.ntmps29
  go_wp2
  go_ret
  exact ⟨rfl, rfl⟩
theorem Tryd.noIsN (v : Value) (xT : TypeId) (w : World) : (Instr.typeAssert (.iface 27 v) xT 83 true).run Tryd.prog w = .ok (.tuple #[.nilIface, .bool false]) w := run_typeAssert_lacksB Tryd.underlying83 (by kernel_rfl) (by kernel_rfl) v xT w
theorem Tryd.noIsA (v : Value) (xT : TypeId) (w : World) : (Instr.typeAssert (.iface 42 v) xT 83 true).run Tryd.prog w = .ok (.tuple #[.nilIface, .bool false]) w := run_typeAssert_lacksB Tryd.underlying83 (by kernel_rfl) (by kernel_rfl) v xT w
theorem Tryd.noAsN (v : Value) (xT : TypeId) (w : World) : (Instr.typeAssert (.iface 27 v) xT 90 true).run Tryd.prog w = .ok (.tuple #[.nilIface, .bool false]) w := run_typeAssert_lacksB Tryd.underlying90 (by kernel_rfl) (by kernel_rfl) v xT w
theorem Tryd.noAsA (v : Value) (xT : TypeId) (w : World) : (Instr.typeAssert (.iface 42 v) xT 90 true).run Tryd.prog w = .ok (.tuple #[.nilIface, .bool false]) w := run_typeAssert_lacksB Tryd.underlying90 (by kernel_rfl) (by kernel_rfl) v xT w
theorem tellsA_at (b : Nat) (w : World) :
    Calls Tryd.prog 44 #[.iface 42 (.pointer (some ⟨b, 0, none⟩))] w fun e w' => e = .returned (.bool true) ∧ w' = w := by
  have h0 := Tryd.asAA
  have h1 := Tryd.noIsA
  have h2 := Tryd.noAsA
  go_enter Tryd.func44, Tryd.ntmps44
  go_wp2
  go_ret
  exact ⟨rfl, rfl⟩
theorem tellsA_num (c : Int) (w : World) :
    Calls Tryd.prog 44 #[.iface 27 (.int .i64 c)] w fun e w' => e = .returned (.bool false) ∧ w' = w := by
  have h0 := Tryd.asNA
  have h1 := Tryd.noIsN
  have h2 := Tryd.noAsN
  go_enter Tryd.func44, Tryd.ntmps44
  go_wp2
  go_ret
  exact ⟨rfl, rfl⟩
theorem tellsN_at (b : Nat) (w : World) :
    Calls Tryd.prog 31 #[.iface 42 (.pointer (some ⟨b, 0, none⟩))] w fun e w' => e = .returned (.bool false) ∧ w' = w := by
  have h0 := Tryd.asAN
  have h1 := Tryd.noIsA
  have h2 := Tryd.noAsA
  go_enter Tryd.func31, Tryd.ntmps31
  go_wp2
  go_ret
  exact ⟨rfl, rfl⟩
theorem tellsN_num (c : Int) (w : World) :
    Calls Tryd.prog 31 #[.iface 27 (.int .i64 c)] w fun e w' => e = .returned (.bool true) ∧ w' = w := by
  have h0 := Tryd.asNN
  have h1 := Tryd.noIsN
  have h2 := Tryd.noAsN
  go_enter Tryd.func31, Tryd.ntmps31
  go_wp2
  go_ret
  exact ⟨rfl, rfl⟩
/-- A block of cells. -/
def Bk (w : World) (b : Nat) (cs : Array Value) (T : TypeId) : Prop := w.heap[b]? = some (.cells cs T (0, 0))
theorem Bk.lt {w : World} {b : Nat} {cs : Array Value} {T : TypeId} (h : Bk w b cs T) : b < w.heap.size := lt_of_heap h
theorem Bk.cell {w : World} {b : Nat} {cs : Array Value} {T : TypeId} (h : Bk w b cs T) (i : Nat) {v : Value} (hi : cs[i]? = some v) : w.cell? ⟨b, i, none⟩ = some v := by
  unfold Bk at h
  simp [World.cell?, h, hi]
theorem Bk.frozen {w : World} {b : Nat} {cs : Array Value} {T : TypeId} (h : Bk w b cs T) (i : Nat) : w.frozen? ⟨b, i, none⟩ = false := by
  unfold Bk at h
  simp [World.frozen?, h]
theorem Bk.set {w : World} {b : Nat} {cs : Array Value} {T : TypeId} (h : Bk w b cs T) (i : Nat) (v : Value) : Bk (w.setCell ⟨b, i, none⟩ v) b (cs.setIfInBounds i v) T := by
  unfold Bk at h ⊢
  obtain ⟨hlt, he⟩ := Array.getElem?_eq_some_iff.1 h
  show (w.heap.modify b _)[b]? = _
  rw [Array.getElem?_eq_getElem (by rw [Array.size_modify]; exact hlt), Array.getElem_modify_self, he]
  simp
theorem Bk.other {w : World} {b : Nat} {cs : Array Value} {T : TypeId} (h : Bk w b cs T) {q : Addr} (hq : b ≠ q.block) (v : Value) : Bk (w.setCell q v) b cs T := (Below.heap_setCell w q v b hq).trans h
theorem Bk.stay {w w' : World} {b : Nat} {cs : Array Value} {T : TypeId} (h : Bk w b cs T) (hb : Below w.heap.size w w') : Bk w' b cs T := (hb.block b h.lt).trans h
theorem Bk.alloc {w : World} {b : Nat} {cs : Array Value} {T : TypeId} (h : Bk w b cs T) (o : Obj) : Bk (w.alloc o) b cs T := h.stay ((Below.refl _ _).alloc (Nat.le_refl _) o)
theorem Bk.new (w : World) (cs : Array Value) (T : TypeId) : Bk (w.alloc (.cells cs T)) w.heap.size cs T := World.alloc_heap_new w _
theorem Bk.kept {w w' : World} {b n : Nat} {p : Nat → Prop} {cs : Array Value} {T : TypeId} (h : Bk w b cs T) (k : Kpt n p w w') (hn : b < n) (hp : ¬ p b) : Bk w' b cs T := (k.block b hn hp).trans h
theorem Bk.drewN {w : World} {b : Nat} {cs : Array Value} {T : TypeId} (h : Bk w b cs T) (n : Nat) : Bk (w.drewN n) b cs T := h.stay (below_drewN (Below.refl _ _) n)

theorem ring_closed (br b' : Nat) (m : Value) (i j : Int) (w : World) (hr : Bk w br #[m, .int .i64 i, .int .i64 j] 95) (hi : 0 ≤ i) (hi2 : i ≤ 1000) (hm : ∃ T x, m = .iface T x ∨ m = .nilIface)
    (hs : ∀ w', Kpt w.heap.size (· = br) w w' → Calls Tryd.prog 46 #[m, .iface 42 (.pointer (some ⟨b', 0, none⟩))] w' fun e w'' => e = .returned (.bool false) ∧ Below w'.heap.size w' w'') :
    Calls Tryd.prog 37 #[.pointer (some ⟨br, 0, none⟩), .iface 42 (.pointer (some ⟨b', 0, none⟩))] w fun e w' => e = .returned (.bool false) ∧
      ∃ m' j', Bk w' br #[m', .int .i64 (i + 1), .int .i64 j'] 95 ∧ (m' = m ∨ m' = .iface 42 (.pointer (some ⟨b', 0, none⟩))) ∧ Kpt w.heap.size (· = br) w w' := by
  have c0 := hr.cell 0 rfl
  have c1 := hr.cell 1 rfl
  have f1 := hr.frozen 1
  have HR : Hid (Bk (w.setCell ⟨br, 1, none⟩ (.int .i64 (i + 1))) br #[m, .int .i64 (i + 1), .int .i64 j] 95) := hr.set 1 (.int .i64 (i + 1))
  have HK : Hid (Kpt w.heap.size (· = br) w (w.setCell ⟨br, 1, none⟩ (.int .i64 (i + 1)))) := (Kpt.refl w.heap.size (· = br) w).setCell (Or.inr rfl) _
  have cs := hs _ HK.out
  clear hs hr
  obtain ⟨T, x, hm⟩ := hm
  generalize hW : w.setCell ⟨br, 1, none⟩ (.int .i64 (i + 1)) = W at *
  have d0 := HR.out.cell 0 rfl
  go_enter Tryd.func37, Tryd.ntmps37
  rcases hm with rfl | rfl
  all_goals
    go_wp2_with fail
    refine cs.mono ?_
    rintro e w1 ⟨rfl, hb⟩
    have HR1 := HR.out.stay hb
    have HK1 : Hid (Kpt w.heap.size (· = br) w w1) := HK.out.trans (Kpt.of (hb.mono HK.out.size))
    clear cs hb HK HR d0
    have e1 := HR1.cell 1 rfl
    have e2 := HR1.cell 2 rfl
    have e0 := HR1.cell 0 rfl
    have g0 := HR1.frozen 0
    have g2 := HR1.frozen 2
    have HR2 : Hid (Bk w1 br _ 95) := HR1
    clear HR1 hW
    by_cases hij : j ≤ i + 1
    · go_wp2
      go_quiet (fail)
      go_wp2
      go_ret
      have q := ((HR2.out.drewN nq).set 0 (.iface 42 (.pointer (some ⟨b', 0, none⟩)))).set 2 (.int .i64 (2 * (i + 1)))
      exact ⟨rfl, _, _, q, Or.inr rfl, ((HK1.out.trans (Kpt.of (below_drewN (Below.refl _ _) nq))).setCell (Or.inr rfl) _).setCell (Or.inr rfl) _⟩
    · go_wp2
      go_quiet (fail)
      go_wp2
      go_ret
      exact ⟨rfl, _, _, HR2.out.drewN nq, Or.inl rfl, HK1.out.trans (Kpt.of (below_drewN (Below.refl _ _) nq))⟩
theorem glance_closed (bg : Nat) (T : TypeId) (x : Value) (k : Int) (w : World) (hr : Bk w bg #[.nilIface, .int .i64 k, .int .i64 256] 74) (hi : 0 ≤ k) (hi2 : k ≤ 200) :
    Calls Tryd.prog 38 #[.pointer (some ⟨bg, 0, none⟩), .iface T x] w fun e w' => e = .returned (.bool false) ∧
      Bk w' bg #[.nilIface, .int .i64 (k + 1), .int .i64 256] 74 ∧ Kpt w.heap.size (· = bg) w w' := by
  have c1 := hr.cell 1 rfl
  have f1 := hr.frozen 1
  have HR := hr.set 1 (.int .i64 (k + 1))
  have HK : Hid (Kpt w.heap.size (· = bg) w (w.setCell ⟨bg, 1, none⟩ (.int .i64 (k + 1)))) := (Kpt.refl w.heap.size (· = bg) w).setCell (Or.inr rfl) _
  clear hr
  have hd : decide (134217728 < k + 1) = false := by simp; omega
  generalize hW : w.setCell ⟨bg, 1, none⟩ (.int .i64 (k + 1)) = W at *
  have d1 := HR.cell 1 rfl
  have d2 := HR.cell 2 rfl
  have HR2 : Hid (Bk W bg _ 74) := HR
  clear HR
  go_enter Tryd.func38, Tryd.ntmps38
  go_wp2
  go_quiet (fail)
  go_wp2
  go_ret
  exact ⟨rfl, HR2.out.drewN nq, HK.out.trans (Kpt.of (below_drewN (Below.refl _ _) nq))⟩
end Go.Proofs.YthdjadkdjljciaaDoor
