/- A set of words in a map of bools; two rows of bytes beside it. -/
import Derived.Test.YtgijihfijoiafaaGreatDoorQPManyBTwo
import Derived.Test.YtgijihfijoiafaaGreatDoorQPCodBag
namespace Go.Proofs.YtgijihfijoiafaaGreatDoor
set_option linter.unusedVariables false
open Go.RowKit Go.ChangeShapes Go.Maps
theorem zeroB (w : World) : (zeroValue 4).run Tryz.prog w = .ok (.bool false) w := by kernel_rfl
theorem plainB (x : Bool) : plainElem (H := Unit) Tryz.prog 4 (.bool x) = some (.lit (.bool x), []) := by
  unfold plainElem
  rw [Tryz.underlying4]
set_option maxRecDepth 100000 in
theorem plainB_inv {v : Value} {x : Bool} {ps : List MemPlace} (h : plainElem (H := Unit) Tryz.prog 4 v = some (.lit (.bool x), ps)) : v = .bool x := by
  unfold plainElem at h
  rw [Tryz.underlying4] at h
  cases v <;> simp at h
  rw [h.1]
/-- Just these words are true in a map. -/
def BagB (w : World) (b n : Nat) (L : List ByteArray) : Prop := ∃ D : DataW Unit, w.ownsMap Tryz.prog 9 (plainElem Tryz.prog 4) b n D ∧ (∀ s : ByteArray, s ∈ L → D.atKey (.string s.data.toList) (.lit (.bool false)) = .lit (.bool true)) ∧ (∀ s : ByteArray, Maps.has D (.string s.data.toList) = true ↔ s ∈ L) ∧ Maps.size D = L.length
theorem BagB.lt {w : World} {b n : Nat} {L : List ByteArray} (h : BagB w b n L) : b < w.heap.size := by obtain ⟨D, h, _⟩ := h; exact h.lt
theorem BagB.made (w : World) : BagB (w.alloc (.map #[] 0)) w.heap.size 0 [] := ⟨.map [], World.ownsMap_made w _ _ _, (fun s hs => by cases hs), (fun s => by simp [Maps.has]), rfl⟩
theorem BagB.block {w w' : World} {b n : Nat} {L : List ByteArray} (h : BagB w b n L) (e : w'.heap[b]? = w.heap[b]?) : BagB w' b n L := by
  obtain ⟨D, ⟨es, clock, hb, r⟩, hs⟩ := h
  exact ⟨D, ⟨es, clock, e.trans hb, r⟩, hs⟩
theorem BagB.stay {w w' : World} {b n : Nat} {L : List ByteArray} (h : BagB w b n L) (hb : Below w.heap.size w w') : BagB w' b n L := h.block (hb.block b h.lt)
theorem BagB.look {w : World} {b n : Nat} {L : List ByteArray} (h : BagB w b n L) (s : ByteArray) (hs : s.size ≤ 9223372036854775807) : (s ∈ L → (Instr.lookup 46 (.map (some b)) (.string s) false).run Tryz.prog w = .ok (.bool true) w) ∧ (s ∉ L → (Instr.lookup 46 (.map (some b)) (.string s) false).run Tryz.prog w = .ok (.bool false) w) := by
  obtain ⟨D, hown, h1, h2, h3⟩ := h
  obtain ⟨v, ps, hrun, hv⟩ := hown.lookup lawS Tryz.underlying46 (zeroB w) (plainB false) (keyS s hs)
  refine ⟨fun hm => ?_, fun hm => ?_⟩
  · rw [h1 s hm] at hv
    rw [hrun, plainB_inv hv]
  · have hn : Maps.has D (.string s.data.toList) = false := by
      cases e : Maps.has D (.string s.data.toList)
      · rfl
      · exact absurd ((h2 s).1 e) hm
    rw [Maps.atKey_of_not_has hn] at hv
    rw [hrun, plainB_inv hv]
theorem BagB.count {w : World} {b n : Nat} {L : List ByteArray} (h : BagB w b n L) (ty : TypeId) : (Builtin.len_ #[46] ty #[.map (some b)]).run Tryz.prog w = .ok (.int .i64 L.length) w := by
  obtain ⟨D, hown, h1, h2, h3⟩ := h
  rw [← h3]
  exact hown.len Tryz.underlying46 ty
theorem key_ne {s t : ByteArray} (h : s ≠ t) : (Lit.string s.data.toList) ≠ .string t.data.toList := fun e => h (str_inj e)
theorem bagB_put {w w' : World} {b n : Nat} {L : List ByteArray} {D : DataW Unit} (s : ByteArray) (h0 : w.ownsMap Tryz.prog 9 (plainElem Tryz.prog 4) b n D) (h1 : ∀ s : ByteArray, s ∈ L → D.atKey (.string s.data.toList) (.lit (.bool false)) = .lit (.bool true)) (h2 : ∀ s : ByteArray, Maps.has D (.string s.data.toList) = true ↔ s ∈ L) (h3 : Maps.size D = L.length)
    (h : w'.ownsMap Tryz.prog 9 (plainElem Tryz.prog 4) b (n + 1) (D.put (.string s.data.toList) (.lit (.bool true)))) : (s ∈ L → BagB w' b (n + 1) L) ∧ (s ∉ L → BagB w' b (n + 1) (L ++ [s])) := by
  have hM := h0.isMap
  have hT := h0.tidy lawS
  have hK : WideAt.IsKeyLit (.string s.data.toList) := by first | trivial | exact WideAt.IsKeyLit.string _ | decide
  have hat : ∀ t : ByteArray, (t ∈ L ∨ t = s) → (D.put (.string s.data.toList) (.lit (.bool true))).atKey (.string t.data.toList) (.lit (.bool false)) = .lit (.bool true) := fun t ht => by
    by_cases e : t = s
    · subst e
      exact Maps.atKey_put_same hM hK _ _
    · rw [Maps.atKey_put_other (key_ne e)]
      exact h1 t (ht.resolve_right e)
  have hhas : ∀ t : ByteArray, Maps.has (D.put (.string s.data.toList) (.lit (.bool true))) (.string t.data.toList) = true ↔ (t ∈ L ∨ t = s) := fun t => by
    by_cases e : t = s
    · subst e
      rw [Maps.has_put_same hM hK]
      simp
    · rw [Maps.has_put_other (key_ne e), h2 t]
      simp [e]
  have hsz := Maps.size_put (k := .string s.data.toList) hT (.lit (.bool true))
  refine ⟨fun hm => ⟨_, h, fun t ht => hat t (Or.inl ht), fun t => ?_, ?_⟩, fun hm => ⟨_, h, fun t ht => hat t (by simpa using ht), fun t => ?_, ?_⟩⟩
  · rw [hhas t]
    constructor
    · rintro (h | rfl)
      · exact h
      · exact hm
    · exact Or.inl
  · rw [hsz, if_pos ((h2 s).2 hm), h3]
  · rw [hhas t]
    simp
  · rw [hsz, if_neg (fun e => hm ((h2 s).1 e)), h3]
    simp
/-- Two rows of bytes, and the map. -/
structure ThR (w1 w : World) (vb vc : Value) (lb lc : List UInt8) (n : Nat) (L : List ByteArray) : Prop where
  b : OB w (w1.heap.size + 1) vb lb
  c : OB w (w1.heap.size + 1) vc lc
  d : ∀ k, vb.ownBlock = some k → vc.ownBlock = some k → False
  m : BagB w w1.heap.size n L
  u : Up w1.heap.size w1 w
theorem ThR.stay {w1 w w' : World} {vb vc : Value} {lb lc : List UInt8} {n : Nat} {L : List ByteArray} (h : ThR w1 w vb vc lb lc n L) (hb : Below w.heap.size w w') : ThR w1 w' vb vc lb lc n L :=
  ⟨h.b.stay hb, h.c.stay hb, h.d, h.m.stay hb, h.u.stay hb⟩
theorem ThR.alloc {w1 w : World} {vb vc : Value} {lb lc : List UInt8} {n : Nat} {L : List ByteArray} (h : ThR w1 w vb vc lb lc n L) (o : Obj) : ThR w1 (w.alloc o) vb vc lb lc n L := h.stay ((Below.refl _ _).alloc (Nat.le_refl _) o)
theorem ThR.size {w1 w : World} {vb vc : Value} {lb lc : List UInt8} {n : Nat} {L : List ByteArray} (h : ThR w1 w vb vc lb lc n L) : w1.heap.size + 1 ≤ w.heap.size := h.m.lt
theorem grown_bag {w w' : World} {b n base : Nat} {v : Value} {l : List UInt8} {L : List ByteArray} (h : BagB w b n L) (ho : OB w base v l) (hg : w.grownBy w' v.ownBlock) (hb : b < base) : BagB w' b n L :=
  h.block (hg.block b h.lt (fun e => by have := own_base ho b e.symm; omega))
theorem ThR.growC {w1 w w' : World} {vb vc : Value} {lb lc lc' : List UInt8} {n : Nat} {L : List ByteArray} {g k cap : Nat} (h : ThR w1 w vb vc lb lc n L) (hg : w.grownBy w' vc.ownBlock) (ho : OB w' (w1.heap.size + 1) (.slice (some ⟨g, 0, none⟩) k cap) lc') (ha : vc.ownBlock = some g ∨ g = w.heap.size) : ThR w1 w' vb (.slice (some ⟨g, 0, none⟩) k cap) lb lc' n L := by
  refine ⟨ob_kept h.b hg h.d, ho, fun j h1 h2 => ?_, grown_bag h.m h.c hg (Nat.lt_succ_self _), h.u.grown hg (fun k hk => by have := own_base h.c k hk; omega)⟩
  have hk : g = j := by simpa [Value.ownBlock] using h2
  subst hk
  rcases ha with ha | ha
  · exact h.d g h1 ha
  · have := h.b.lt g h1
    omega
theorem ThR.growB {w1 w w' : World} {vb vc : Value} {lb lc lb' : List UInt8} {n : Nat} {L : List ByteArray} {g k cap : Nat} (h : ThR w1 w vb vc lb lc n L) (hg : w.grownBy w' vb.ownBlock) (ho : OB w' (w1.heap.size + 1) (.slice (some ⟨g, 0, none⟩) k cap) lb') (ha : vb.ownBlock = some g ∨ g = w.heap.size) : ThR w1 w' (.slice (some ⟨g, 0, none⟩) k cap) vc lb' lc n L := by
  refine ⟨ho, ob_kept h.c hg (fun k h1 h2 => h.d k h2 h1), fun j h1 h2 => ?_, grown_bag h.m h.b hg (Nat.lt_succ_self _), h.u.grown hg (fun k hk => by have := own_base h.b k hk; omega)⟩
  have hk : g = j := by simpa [Value.ownBlock] using h1
  subst hk
  rcases ha with ha | ha
  · exact h.d g ha h2
  · have := h.c.lt g h2
    omega
theorem ThR.put {w1 w w' : World} {vb vc : Value} {lb lc : List UInt8} {n n' : Nat} {L L' : List ByteArray} (h : ThR w1 w vb vc lb lc n L) (hg : w.grownBy w' (some w1.heap.size)) (hm : BagB w' w1.heap.size n' L') : ThR w1 w' vb vc lb lc n' L' := by
  have key : ∀ v l, OB w (w1.heap.size + 1) v l → OB w' (w1.heap.size + 1) v l := fun v l ho => by
    refine World.ownsRow.kept ho hg ?_
    cases hv : v.ownBlock with
    | none => exact Or.inl rfl
    | some k =>
      refine Or.inr (fun e => ?_)
      injection e with e
      have := own_base ho k hv
      omega
  exact ⟨key _ _ h.b, key _ _ h.c, h.d, hm, h.u.grown hg (fun k hk => by cases hk; exact Nat.le_refl _)⟩
end Go.Proofs.YtgijihfijoiafaaGreatDoor
