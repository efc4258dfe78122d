/- Errors that wrap one another, as values; what lies in memory; what '==' says of them. -/
import Derived.Test.YtpjpoefcammnoaaDoorProg
import Derived.WalkKit
import Derived.LaidEql
import Derived.Laws.StructEq
import Derived.Stop.Asserts
import Derived.Below
namespace Go.Proofs.YtpjpoefcammnoaaDoor
set_option linter.unusedVariables false
open Go.RowKit Go.ChangeShapes

/-- The world has grown from there on. -/
def Up (B : Nat) (a w : World) : Prop := Below B a w ∧ B ≤ w.heap.size
theorem Up.refl (w : World) : Up w.heap.size w w := ⟨Below.refl _ _, Nat.le_refl _⟩
theorem Up.stay {B : Nat} {a w w' : World} (h : Up B a w) (hb : Below w.heap.size w w') : Up B a w' := ⟨h.1.trans (hb.mono h.2), Nat.le_trans h.2 hb.size⟩
theorem Up.alloc {B : Nat} {a w : World} (h : Up B a w) (o : Obj) : Up B a (w.alloc o) := h.stay ((Below.refl _ _).alloc (Nat.le_refl _) o)
theorem Up.drew {B : Nat} {a w : World} (h : Up B a w) : Up B a w.drew := ⟨h.1.drew, h.2⟩
theorem Up.setCell {B : Nat} {a w : World} (h : Up B a w) {p : Addr} (hp : B ≤ p.block) (u : Value) : Up B a (w.setCell p u) :=
  ⟨h.1.setCell hp u, by simpa [World.setCell] using h.2⟩

/-- One error around another: one that says nothing, or one of a list and a line, in its own block. -/
inductive Nd where
  | oth
  | lst (b : Nat) (s : ByteArray) (n : Int)
/-- The inmost: a number, or none. -/
def fin : Option Int → Value
  | some c => .iface 27 (.int .i64 c)
  | none => .nilIface
/-- Errors around the inmost, as a value. -/
def val : List Nd → Option Int → Value
  | [], t => fin t
  | .oth :: l, t => .iface 31 (.agg #[val l t])
  | .lst b _ _ :: _, _ => .iface 42 (.pointer (some ⟨b, 0, none⟩))
/-- They lie in memory. -/
def Lie (w : World) : List Nd → Option Int → Prop
  | [], _ => True
  | .oth :: l, t => Lie w l t
  | .lst b s n :: l, t => w.heap[b]? = some (.cells #[.string s, .int .i64 n, val l t] 46 (0, 0)) ∧ (∀ b' s' n', Nd.lst b' s' n' ∈ l → b' < b) ∧ Lie w l t
theorem lt_of_heap {w : World} {b : Nat} {o : Obj} (h : w.heap[b]? = some o) : b < w.heap.size := (Array.getElem?_eq_some_iff.1 h).1
theorem Lie.stay {w w' : World} : ∀ {l : List Nd} {t : Option Int}, Lie w l t → Below w.heap.size w w' → Lie w' l t
  | [], _, _, _ => trivial
  | .oth :: l, _, h, hb => Lie.stay (l := l) h hb
  | .lst b s n :: l, _, h, hb => ⟨(hb.block b (lt_of_heap h.1)).trans h.1, h.2.1, Lie.stay h.2.2 hb⟩
theorem Lie.alloc {w : World} {l : List Nd} {t : Option Int} (h : Lie w l t) (o : Obj) : Lie (w.alloc o) l t := h.stay ((Below.refl _ _).alloc (Nat.le_refl _) o)

theorem Tryd.comp31 : (Tryd.prog.info? 31).map (·.comparable) = some true := by kernel_rfl
theorem Tryd.comp27 : (Tryd.prog.info? 27).map (·.comparable) = some true := by kernel_rfl
theorem Tryd.comp42 : (Tryd.prog.info? 42).map (·.comparable) = some true := by kernel_rfl
theorem Tryd.size46 : (Tryd.prog.info? 46).map (·.size) = some 3 := by kernel_rfl
theorem Tryd.fields31 : Tryd.prog.underlying 31 = some (.struct (Tryd.prog.fieldsOf 31)) := by kernel_rfl
theorem Tryd.stood31 : Tryd.prog.stoodInHeld 31 = false := by kernel_rfl
theorem Tryd.field31 : (Tryd.prog.fieldsOf 31).toList.map (fun f => (f.name, f.type, f.offset)) = [("err", 25, 0)] := by kernel_rfl
theorem Tryd.part25 (v : Value) (w : World) : (part 25 #[v] 0).run Tryd.prog w = .ok v w := by kernel_rfl

theorem eq_iface (d : Nat) (t : TypeId) (x y : Value) (b : Bool) (w : World) (hc : (Tryd.prog.info? t).map (·.comparable) = some true) (h : (Op.equalIn d t x y).run Tryd.prog w = .ok b w) :
    (Op.equalIn (d + 1) 25 (.iface t x) (.iface t y)).run Tryd.prog w = .ok b w := by
  obtain ⟨i, hi, hl⟩ := Option.map_eq_some_iff.1 hc
  simp [Op.equalIn, run_underlying Tryd.underlying25, typeInfo, hi, hl, h]
theorem eq_oth (d : Nat) (x y : Value) (b : Bool) (w : World) (h : (Op.equalIn d 25 x y).run Tryd.prog w = .ok b w) :
    (Op.equalIn (d + 2) 25 (.iface 31 (.agg #[x])) (.iface 31 (.agg #[y]))).run Tryd.prog w = .ok b w := by
  refine eq_iface (d + 1) 31 _ _ b w Tryd.comp31 ?_
  rw [run_equalIn_struct w d 31 _ _ Tryd.fields31 Tryd.stood31]
  have hf := Tryd.field31
  generalize (Tryd.prog.fieldsOf 31).toList = fs at hf ⊢
  match fs, hf with
  | [f], hf =>
    simp only [List.map_cons, List.map_nil, List.cons.injEq, Prod.mk.injEq, and_true] at hf
    obtain ⟨h1, h2, h3⟩ := hf
    simp only [Op.eqFields, h1, h2, h3]
    cases b <;> simp [Tryd.part25, h]
  | [], hf => simp at hf
  | _ :: _ :: _, hf => simp at hf
theorem eq_types (d : Nat) (tx ty : TypeId) (x y : Value) (w : World) (hne : tx ≠ ty) :
    (Op.equalIn (d + 1) 25 (.iface tx x) (.iface ty y)).run Tryd.prog w = .ok false w := by
  simp [Op.equalIn, run_underlying Tryd.underlying25, hne]
theorem eq_nos (d : Nat) (a b : Int) (w : World) : (Op.equalIn (d + 2) 25 (.iface 27 (.int .i64 a)) (.iface 27 (.int .i64 b))).run Tryd.prog w = .ok (a == b) w :=
  eq_iface (d + 1) 27 _ _ _ w Tryd.comp27 (run_equalIn_int w d 27 .i64 .i64 a b Tryd.underlying27)
theorem eq_nils (d : Nat) (w : World) : (Op.equalIn (d + 1) 25 .nilIface .nilIface).run Tryd.prog w = .ok true w := by
  simp [Op.equalIn, run_underlying Tryd.underlying25]
theorem eq_nil (d : Nat) (t : TypeId) (x : Value) (w : World) : (Op.equalIn (d + 1) 25 (.iface t x) .nilIface).run Tryd.prog w = .ok false w := by
  simp [Op.equalIn, run_underlying Tryd.underlying25]
theorem comp42 : ∃ i, Tryd.prog.info? 42 = some i ∧ i.comparable = true := Option.map_eq_some_iff.1 Tryd.comp42
theorem size46 : ∃ j, Tryd.prog.info? 46 = some j ∧ j.size ≠ 0 := by
  obtain ⟨j, hj, hm⟩ := Option.map_eq_some_iff.1 Tryd.size46
  exact ⟨j, hj, by rw [hm]; decide⟩
theorem eq_ptr (d b : Nat) (w : World) : (Op.equalIn (d + 2) 25 (.iface 42 (.pointer (some ⟨b, 0, none⟩))) (.iface 42 (.pointer (some ⟨b, 0, none⟩)))).run Tryd.prog w = .ok true w := by
  obtain ⟨i, hi, hl⟩ := comp42
  obtain ⟨j, hj, hm⟩ := size46
  exact run_equalIn_iface_ptr_same w d ⟨b, 0, none⟩ Tryd.underlying25 Tryd.underlying42 hi hl hj
theorem eq_ptrs (d b b' : Nat) (w : World) {ca cb : Array Value} {ta tb : TypeId} (hne : b' < b) (ha : w.heap[b]? = some (.cells ca ta (0, 0))) (hb : w.heap[b']? = some (.cells cb tb (0, 0))) : (Op.equalIn (d + 2) 25 (.iface 42 (.pointer (some ⟨b, 0, none⟩))) (.iface 42 (.pointer (some ⟨b', 0, none⟩)))).run Tryd.prog w = .ok false w := by
  obtain ⟨i, hi, hl⟩ := comp42
  obtain ⟨j, hj, hm⟩ := size46
  exact run_equalIn_iface_ptr_other w d Tryd.underlying25 Tryd.underlying42 hi hl hj hm (by intro e; injection e with e; omega) ha hb
theorem Lie.inn {w : World} {b : Nat} {s : ByteArray} {n : Int} {l : List Nd} {t : Option Int} : ∀ k : List Nd, Lie w (k ++ .lst b s n :: l) t → w.heap[b]? = some (.cells #[.string s, .int .i64 n, val l t] 46 (0, 0))
  | [], h => h.1
  | .oth :: k, h => Lie.inn k h
  | .lst _ _ _ :: k, h => Lie.inn k h.2.2
/-- One error is itself. -/
theorem eq_self (w : World) : ∀ (l : List Nd) (t : Option Int) (d : Nat), (Op.equalIn (d + 2 * l.length + 2) 25 (val l t) (val l t)).run Tryd.prog w = .ok true w
  | [], none, d => eq_nils (d + 1) w
  | [], some c, d => by
    have := eq_nos d c c w
    rw [beq_self_eq_true] at this
    exact this
  | .oth :: l, t, d => eq_oth (d + 2 * l.length + 2) _ _ true w (eq_self w l t d)
  | .lst b s n :: l, t, d => eq_ptr (d + 2 * (l.length + 1)) b w
/-- One that lies within another is not that one. -/
theorem eq_within (w : World) : ∀ (k l : List Nd) (x : Nd) (t : Option Int) (d : Nat), Lie w (x :: (k ++ l)) t →
    (Op.equalIn (d + 2 * (k.length + l.length) + 4) 25 (val (x :: (k ++ l)) t) (val l t)).run Tryd.prog w = .ok false w
  | k, [], .oth, some c, d, _ => eq_types _ _ _ _ _ w (by decide)
  | k, [], .lst _ _ _, some c, d, _ => eq_types _ _ _ _ _ w (by decide)
  | k, [], .oth, none, d, _ => eq_nil _ _ _ w
  | k, [], .lst _ _ _, none, d, _ => eq_nil _ _ _ w
  | k, .lst _ _ _ :: l, .oth, t, d, _ => eq_types _ _ _ _ _ w (by decide)
  | k, .oth :: l, .lst _ _ _, t, d, _ => eq_types _ _ _ _ _ w (by decide)
  | k, .lst b' s' n' :: l, .lst b s n, t, d, h => eq_ptrs (d + 2 * (k.length + (l.length + 1)) + 2) b b' w (h.2.1 b' s' n' (by simp)) h.1 (Lie.inn k h.2.2)
  | [], .oth :: l, .oth, t, d, h => by
    have := eq_within w [] l .oth t d h
    have := eq_oth _ _ _ _ w this
    rw [show d + 2 * ([].length + (Nd.oth :: l).length) + 4 = d + 2 * (([] : List Nd).length + l.length) + 4 + 2 by simp; omega]
    exact this
  | y :: k, .oth :: l, .oth, t, d, h => by
    have e : y :: k ++ .oth :: l = y :: ((k ++ [.oth]) ++ l) := by simp
    have := eq_within w (k ++ [.oth]) l y t d (by rw [← e]; exact h)
    have := eq_oth _ _ _ _ w this
    rw [show d + 2 * ((y :: k).length + (Nd.oth :: l).length) + 4 = d + 2 * ((k ++ [Nd.oth]).length + l.length) + 4 + 2 by simp; omega]
    rw [e]
    exact this
termination_by _ l => l.length
end Go.Proofs.YtpjpoefcammnoaaDoor
