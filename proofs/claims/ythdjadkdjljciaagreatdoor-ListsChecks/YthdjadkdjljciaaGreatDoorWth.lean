/- within; ring.closed, glance.closed; is, tells. -/
import Derived.Test.YthdjadkdjljciaaGreatDoorErr
namespace Go.Proofs.YthdjadkdjljciaaGreatDoor
set_option linter.unusedVariables false
open Go.RowKit Go.ChangeShapes

theorem within_at (b : Nat) (s : ByteArray) (n : Int) (T : TypeId) (x : Value) (w : World) (h : w.heap[b]? = some (.cells #[.string s, .int .i64 n, .iface T x] 83 (0, 0))) :
    Calls Tryz.prog 123 #[.iface 81 (.pointer (some ⟨b, 0, none⟩))] w fun e w' => e = .returned (.tuple #[.iface T x, .slice none 0 0]) ∧ Below w.heap.size w w' := by
  have hmf : ∀ (fn : Fn) (first cap : Array Value) (w : World), (Instr.makeFunc fn first cap).run Tryz.prog w = .ok (.func fn first cap) w := fun _ _ _ _ => rfl
  have hlt := lt_of_heap h
  have c := atUnwrap b s n (.iface T x) ((w.alloc (.cells #[.nilIface] 30)).alloc (.cells #[.slice none 0 0] 117)) ((((Up.refl w).alloc _).alloc _).1.block b hlt |>.trans h)
  clear h
  have h := Tryz.hasUnwrapA
  have m := Tryz.methU
  go_enter_defers Tryz.func123, Tryz.ntmps123
  go_wp2_with fail
  refine c.mono ?_
  rintro e w1 ⟨rfl, rfl⟩
  go_wp2
  go_region
  all_goals
    go_wp2
    refine leaves_cons (f := 151) (args := #[.pointer (some ⟨w.heap.size, 0, none⟩), .pointer (some ⟨w.heap.size + 1, 0, none⟩)]) (by simp) (by simp [go_sem]) ?_
    refine (catch_idle2 ⟨w.heap.size, 0, none⟩ ⟨w.heap.size + 1, 0, none⟩ _).mono ?_
    rintro e u' w'' ⟨rfl, rfl, rfl⟩
    simp [Leaves, settle, results, Tryz.results123, go_sem]
    exact (((Up.refl w).alloc _).alloc _).drew.1
theorem within_num (c : Int) (w : World) :
    Calls Tryz.prog 123 #[.iface 23 (.int .i64 c)] w fun e w' => e = .returned (.tuple #[.nilIface, .slice none 0 0]) ∧ Below w.heap.size w w' := by
  have hmf : ∀ (fn : Fn) (first cap : Array Value) (w : World), (Instr.makeFunc fn first cap).run Tryz.prog w = .ok (.func fn first cap) w := fun _ _ _ _ => rfl
  have h := Tryz.noUnwrapN
  have h2 := Tryz.noManyN
  go_enter_defers Tryz.func123, Tryz.ntmps123
  go_wp2
  go_region
  all_goals
    go_wp2
    refine leaves_cons (f := 151) (args := #[.pointer (some ⟨w.heap.size, 0, none⟩), .pointer (some ⟨w.heap.size + 1, 0, none⟩)]) (by simp) (by simp [go_sem]) ?_
    refine (catch_idle2 ⟨w.heap.size, 0, none⟩ ⟨w.heap.size + 1, 0, none⟩ _).mono ?_
    rintro e u' w'' ⟨rfl, rfl, rfl⟩
    simp [Leaves, settle, results, Tryz.results123, go_sem]
    exact (((Up.refl w).alloc _).alloc _).drew.1
/-- What lies within. -/
def nxt : List Nd → Int → Value
  | [], _ => .nilIface
  | _ :: l, c => val l c
theorem within_any (l : List Nd) (c : Int) (w : World) (h : Lie w l c) :
    Calls Tryz.prog 123 #[val l c] w fun e w' => e = .returned (.tuple #[nxt l c, .slice none 0 0]) ∧ Below w.heap.size w w' := by
  match l, h with
  | [], _ => exact within_num c w
  | x :: l, h =>
    obtain ⟨T, v, e⟩ := val_shape l c
    have := within_at x.b x.s x.n T v w (by rw [← e]; exact h.1)
    rw [← e] at this
    exact this
theorem Tryz.asAA (v : Value) (xT : TypeId) (w : World) : (Instr.typeAssert (.iface 81 v) xT 81 true).run Tryz.prog w = .ok (.tuple #[v, .bool true]) w := by kernel_rfl
theorem Tryz.asNA (v : Value) (xT : TypeId) (w : World) : (Instr.typeAssert (.iface 23 v) xT 81 true).run Tryz.prog w = .ok (.tuple #[.pointer none, .bool false]) w := by kernel_rfl
theorem Tryz.asAN (v : Value) (xT : TypeId) (w : World) : (Instr.typeAssert (.iface 81 v) xT 23 true).run Tryz.prog w = .ok (.tuple #[.int .i64 0, .bool false]) w := by kernel_rfl
theorem Tryz.asNN (v : Value) (xT : TypeId) (w : World) : (Instr.typeAssert (.iface 23 v) xT 23 true).run Tryz.prog w = .ok (.tuple #[v, .bool true]) w := by kernel_rfl
theorem is_at (b : Nat) (w : World) :
    Calls Tryz.prog 75 #[.iface 81 (.pointer (some ⟨b, 0, none⟩))] w fun e w' => e = .returned (.bool true) ∧ w' = w := by
  have h0 := Tryz.asAA
  go_enter Tryz.func75, Tryz.ntmps75
  go_wp2
  go_ret
  exact ⟨rfl, rfl⟩
theorem is_num (c : Int) (w : World) :
    Calls Tryz.prog 75 #[.iface 23 (.int .i64 c)] w fun e w' => e = .returned (.bool false) ∧ w' = w := by
  have h0 := Tryz.asNA
  go_enter Tryz.func75, Tryz.ntmps75
  go_wp2
  go_ret
  exact ⟨rfl, rfl⟩
theorem Tryz.noIsN (v : Value) (xT : TypeId) (w : World) : (Instr.typeAssert (.iface 23 v) xT 172 true).run Tryz.prog w = .ok (.tuple #[.nilIface, .bool false]) w := run_typeAssert_lacksB Tryz.underlying172 (by kernel_rfl) (by kernel_rfl) v xT w
theorem Tryz.noIsA (v : Value) (xT : TypeId) (w : World) : (Instr.typeAssert (.iface 81 v) xT 172 true).run Tryz.prog w = .ok (.tuple #[.nilIface, .bool false]) w := run_typeAssert_lacksB Tryz.underlying172 (by kernel_rfl) (by kernel_rfl) v xT w
theorem Tryz.noAsN (v : Value) (xT : TypeId) (w : World) : (Instr.typeAssert (.iface 23 v) xT 173 true).run Tryz.prog w = .ok (.tuple #[.nilIface, .bool false]) w := run_typeAssert_lacksB Tryz.underlying173 (by kernel_rfl) (by kernel_rfl) v xT w
theorem Tryz.noAsA (v : Value) (xT : TypeId) (w : World) : (Instr.typeAssert (.iface 81 v) xT 173 true).run Tryz.prog w = .ok (.tuple #[.nilIface, .bool false]) w := run_typeAssert_lacksB Tryz.underlying173 (by kernel_rfl) (by kernel_rfl) v xT w
theorem tellsA_at (b : Nat) (w : World) :
    Calls Tryz.prog 77 #[.iface 81 (.pointer (some ⟨b, 0, none⟩))] w fun e w' => e = .returned (.bool true) ∧ w' = w := by
  have h0 := Tryz.asAA
  have h1 := Tryz.noIsA
  have h2 := Tryz.noAsA
  go_enter Tryz.func77, Tryz.ntmps77
  go_wp2
  go_ret
  exact ⟨rfl, rfl⟩
theorem tellsA_num (c : Int) (w : World) :
    Calls Tryz.prog 77 #[.iface 23 (.int .i64 c)] w fun e w' => e = .returned (.bool false) ∧ w' = w := by
  have h0 := Tryz.asNA
  have h1 := Tryz.noIsN
  have h2 := Tryz.noAsN
  go_enter Tryz.func77, Tryz.ntmps77
  go_wp2
  go_ret
  exact ⟨rfl, rfl⟩
theorem tellsN_at (b : Nat) (w : World) :
    Calls Tryz.prog 85 #[.iface 81 (.pointer (some ⟨b, 0, none⟩))] w fun e w' => e = .returned (.bool false) ∧ w' = w := by
  have h0 := Tryz.asAN
  have h1 := Tryz.noIsA
  have h2 := Tryz.noAsA
  go_enter Tryz.func85, Tryz.ntmps85
  go_wp2
  go_ret
  exact ⟨rfl, rfl⟩
theorem tellsN_num (c : Int) (w : World) :
    Calls Tryz.prog 85 #[.iface 23 (.int .i64 c)] w fun e w' => e = .returned (.bool true) ∧ w' = w := by
  have h0 := Tryz.asNN
  have h1 := Tryz.noIsN
  have h2 := Tryz.noAsN
  go_enter Tryz.func85, Tryz.ntmps85
  go_wp2
  go_ret
  exact ⟨rfl, rfl⟩
/-- A block of cells. -/
def Bk (w : World) (b : Nat) (cs : Array Value) (T : TypeId) : Prop := w.heap[b]? = some (.cells cs T (0, 0))
theorem Bk.lt {w : World} {b : Nat} {cs : Array Value} {T : TypeId} (h : Bk w b cs T) : b < w.heap.size := lt_of_heap h
theorem Bk.cell {w : World} {b : Nat} {cs : Array Value} {T : TypeId} (h : Bk w b cs T) (i : Nat) {v : Value} (hi : cs[i]? = some v) : w.cell? ⟨b, i, none⟩ = some v := by
  unfold Bk at h
  simp [World.cell?, h, hi]
theorem Bk.frozen {w : World} {b : Nat} {cs : Array Value} {T : TypeId} (h : Bk w b cs T) (i : Nat) : w.frozen? ⟨b, i, none⟩ = false := by
  unfold Bk at h
  simp [World.frozen?, h]
theorem Bk.set {w : World} {b : Nat} {cs : Array Value} {T : TypeId} (h : Bk w b cs T) (i : Nat) (v : Value) : Bk (w.setCell ⟨b, i, none⟩ v) b (cs.setIfInBounds i v) T := by
  unfold Bk at h ⊢
  obtain ⟨hlt, he⟩ := Array.getElem?_eq_some_iff.1 h
  show (w.heap.modify b _)[b]? = _
  rw [Array.getElem?_eq_getElem (by rw [Array.size_modify]; exact hlt), Array.getElem_modify_self, he]
  simp
theorem Bk.other {w : World} {b : Nat} {cs : Array Value} {T : TypeId} (h : Bk w b cs T) {q : Addr} (hq : b ≠ q.block) (v : Value) : Bk (w.setCell q v) b cs T := (Below.heap_setCell w q v b hq).trans h
theorem Bk.stay {w w' : World} {b : Nat} {cs : Array Value} {T : TypeId} (h : Bk w b cs T) (hb : Below w.heap.size w w') : Bk w' b cs T := (hb.block b h.lt).trans h
theorem Bk.alloc {w : World} {b : Nat} {cs : Array Value} {T : TypeId} (h : Bk w b cs T) (o : Obj) : Bk (w.alloc o) b cs T := h.stay ((Below.refl _ _).alloc (Nat.le_refl _) o)
theorem Bk.new (w : World) (cs : Array Value) (T : TypeId) : Bk (w.alloc (.cells cs T)) w.heap.size cs T := World.alloc_heap_new w _
theorem Bk.kept {w w' : World} {b n : Nat} {p : Nat → Prop} {cs : Array Value} {T : TypeId} (h : Bk w b cs T) (k : Kpt n p w w') (hn : b < n) (hp : ¬ p b) : Bk w' b cs T := (k.block b hn hp).trans h
theorem Bk.drewN {w : World} {b : Nat} {cs : Array Value} {T : TypeId} (h : Bk w b cs T) (n : Nat) : Bk (w.drewN n) b cs T := h.stay (below_drewN (Below.refl _ _) n)

theorem ring_closed (br b' : Nat) (m : Value) (i j : Int) (w : World) (hr : Bk w br #[m, .int .i64 i, .int .i64 j] 175) (hi : 0 ≤ i) (hi2 : i ≤ 1000) (hm : ∃ T x, m = .iface T x ∨ m = .nilIface)
    (hs : ∀ w', Kpt w.heap.size (· = br) w w' → Calls Tryz.prog 150 #[m, .iface 81 (.pointer (some ⟨b', 0, none⟩))] w' fun e w'' => e = .returned (.bool false) ∧ Below w'.heap.size w' w'') :
    Calls Tryz.prog 121 #[.pointer (some ⟨br, 0, none⟩), .iface 81 (.pointer (some ⟨b', 0, none⟩))] w fun e w' => e = .returned (.bool false) ∧
      ∃ m' j', Bk w' br #[m', .int .i64 (i + 1), .int .i64 j'] 175 ∧ (m' = m ∨ m' = .iface 81 (.pointer (some ⟨b', 0, none⟩))) ∧ Kpt w.heap.size (· = br) w w' := by
  have c0 := hr.cell 0 rfl
  have c1 := hr.cell 1 rfl
  have f1 := hr.frozen 1
  have HR : Hid (Bk (w.setCell ⟨br, 1, none⟩ (.int .i64 (i + 1))) br #[m, .int .i64 (i + 1), .int .i64 j] 175) := hr.set 1 (.int .i64 (i + 1))
  have HK : Hid (Kpt w.heap.size (· = br) w (w.setCell ⟨br, 1, none⟩ (.int .i64 (i + 1)))) := (Kpt.refl w.heap.size (· = br) w).setCell (Or.inr rfl) _
  have cs := hs _ HK.out
  clear hs hr
  obtain ⟨T, x, hm⟩ := hm
  generalize hW : w.setCell ⟨br, 1, none⟩ (.int .i64 (i + 1)) = W at *
  have d0 := HR.out.cell 0 rfl
  go_enter Tryz.func121, Tryz.ntmps121
  rcases hm with rfl | rfl
  all_goals
    go_wp2_with fail
    refine cs.mono ?_
    rintro e w1 ⟨rfl, hb⟩
    have HR1 := HR.out.stay hb
    have HK1 : Hid (Kpt w.heap.size (· = br) w w1) := HK.out.trans (Kpt.of (hb.mono HK.out.size))
    clear cs hb HK HR d0
    have e1 := HR1.cell 1 rfl
    have e2 := HR1.cell 2 rfl
    have e0 := HR1.cell 0 rfl
    have g0 := HR1.frozen 0
    have g2 := HR1.frozen 2
    have HR2 : Hid (Bk w1 br _ 175) := HR1
    clear HR1 hW
    by_cases hij : j ≤ i + 1
    · go_wp2
      go_quiet (fail)
      go_wp2
      go_ret
      have q := ((HR2.out.drewN nq).set 0 (.iface 81 (.pointer (some ⟨b', 0, none⟩)))).set 2 (.int .i64 (2 * (i + 1)))
      exact ⟨rfl, _, _, q, Or.inr rfl, ((HK1.out.trans (Kpt.of (below_drewN (Below.refl _ _) nq))).setCell (Or.inr rfl) _).setCell (Or.inr rfl) _⟩
    · go_wp2
      go_quiet (fail)
      go_wp2
      go_ret
      exact ⟨rfl, _, _, HR2.out.drewN nq, Or.inl rfl, HK1.out.trans (Kpt.of (below_drewN (Below.refl _ _) nq))⟩
theorem glance_closed (bg : Nat) (T : TypeId) (x : Value) (k : Int) (w : World) (hr : Bk w bg #[.nilIface, .int .i64 k, .int .i64 256] 120) (hi : 0 ≤ k) (hi2 : k ≤ 200) :
    Calls Tryz.prog 122 #[.pointer (some ⟨bg, 0, none⟩), .iface T x] w fun e w' => e = .returned (.bool false) ∧
      Bk w' bg #[.nilIface, .int .i64 (k + 1), .int .i64 256] 120 ∧ Kpt w.heap.size (· = bg) w w' := by
  have c1 := hr.cell 1 rfl
  have f1 := hr.frozen 1
  have HR := hr.set 1 (.int .i64 (k + 1))
  have HK : Hid (Kpt w.heap.size (· = bg) w (w.setCell ⟨bg, 1, none⟩ (.int .i64 (k + 1)))) := (Kpt.refl w.heap.size (· = bg) w).setCell (Or.inr rfl) _
  clear hr
  have hd : decide (134217728 < k + 1) = false := by simp; omega
  generalize hW : w.setCell ⟨bg, 1, none⟩ (.int .i64 (k + 1)) = W at *
  have d1 := HR.cell 1 rfl
  have d2 := HR.cell 2 rfl
  have HR2 : Hid (Bk W bg _ 120) := HR
  clear HR
  go_enter Tryz.func122, Tryz.ntmps122
  go_wp2
  go_quiet (fail)
  go_wp2
  go_ret
  exact ⟨rfl, HR2.out.drewN nq, HK.out.trans (Kpt.of (below_drewN (Below.refl _ _) nq))⟩
end Go.Proofs.YthdjadkdjljciaaGreatDoor
