/- A set of words in a map of bools. -/
import Derived.Test.YtbmmjpmgkkljgaaDoortCnt
import Derived.Test.YtbmmjpmgkkljgaaDoortAsk
import Derived.Maps.OwnSet
import Derived.Maps.AppendAt
import Derived.StringKeys
namespace Go.Proofs.YtbmmjpmgkkljgaaDoor
set_option linter.unusedVariables false
open Go.RowKit Go.ChangeShapes Go.Maps
theorem lawS : Keyed Tryd.prog 9 := string_keyed Tryd.underlying9
theorem str_inj {s t : ByteArray} (h : (Lit.string s.data.toList) = .string t.data.toList) : s = t := by
  injection h with h
  have : s.data = t.data := Array.toList_inj.1 h
  cases s; cases t; simp_all
theorem keyS (s : ByteArray) (hs : s.size ≤ 9223372036854775807) : keyOf Tryd.prog 9 (.string s) = some (.string s.data.toList) := by
  exact WideMaps.keyOf_string_mk Tryd.underlying9 hs
theorem zeroB (w : World) : (zeroValue 4).run Tryd.prog w = .ok (.bool false) w := by kernel_rfl
theorem plainB (x : Bool) : plainElem (H := Unit) Tryd.prog 4 (.bool x) = some (.lit (.bool x), []) := by
  unfold plainElem
  rw [Tryd.underlying4]
set_option maxRecDepth 100000 in
theorem plainB_inv {v : Value} {x : Bool} {ps : List MemPlace} (h : plainElem (H := Unit) Tryd.prog 4 v = some (.lit (.bool x), ps)) : v = .bool x := by
  unfold plainElem at h
  rw [Tryd.underlying4] at h
  cases v <;> simp at h
  rw [h.1]
/-- Just these words are true in a map. -/
def BagB (w : World) (b n : Nat) (L : List ByteArray) : Prop := ∃ D : DataW Unit, w.ownsMap Tryd.prog 9 (plainElem Tryd.prog 4) b n D ∧ (∀ s : ByteArray, s ∈ L → D.atKey (.string s.data.toList) (.lit (.bool false)) = .lit (.bool true)) ∧ (∀ s : ByteArray, Maps.has D (.string s.data.toList) = true ↔ s ∈ L) ∧ Maps.size D = L.length
theorem BagB.lt {w : World} {b n : Nat} {L : List ByteArray} (h : BagB w b n L) : b < w.heap.size := by obtain ⟨D, h, _⟩ := h; exact h.lt
theorem BagB.made (w : World) : BagB (w.alloc (.map #[] 0)) w.heap.size 0 [] := ⟨.map [], World.ownsMap_made w _ _ _, (fun s hs => by cases hs), (fun s => by simp [Maps.has]), rfl⟩
theorem BagB.block {w w' : World} {b n : Nat} {L : List ByteArray} (h : BagB w b n L) (e : w'.heap[b]? = w.heap[b]?) : BagB w' b n L := by
  obtain ⟨D, ⟨es, clock, hb, r⟩, hs⟩ := h
  exact ⟨D, ⟨es, clock, e.trans hb, r⟩, hs⟩
theorem BagB.stay {w w' : World} {b n : Nat} {L : List ByteArray} (h : BagB w b n L) (hb : Below w.heap.size w w') : BagB w' b n L := h.block (hb.block b h.lt)
theorem BagB.look {w : World} {b n : Nat} {L : List ByteArray} (h : BagB w b n L) (s : ByteArray) (hs : s.size ≤ 9223372036854775807) : (s ∈ L → (Instr.lookup 36 (.map (some b)) (.string s) false).run Tryd.prog w = .ok (.bool true) w) ∧ (s ∉ L → (Instr.lookup 36 (.map (some b)) (.string s) false).run Tryd.prog w = .ok (.bool false) w) := by
  obtain ⟨D, hown, h1, h2, h3⟩ := h
  obtain ⟨v, ps, hrun, hv⟩ := hown.lookup lawS Tryd.underlying36 (zeroB w) (plainB false) (keyS s hs)
  refine ⟨fun hm => ?_, fun hm => ?_⟩
  · rw [h1 s hm] at hv
    rw [hrun, plainB_inv hv]
  · have hn : Maps.has D (.string s.data.toList) = false := by
      cases e : Maps.has D (.string s.data.toList)
      · rfl
      · exact absurd ((h2 s).1 e) hm
    rw [Maps.atKey_of_not_has hn] at hv
    rw [hrun, plainB_inv hv]
theorem BagB.count {w : World} {b n : Nat} {L : List ByteArray} (h : BagB w b n L) (ty : TypeId) : (Builtin.len_ #[36] ty #[.map (some b)]).run Tryd.prog w = .ok (.int .i64 L.length) w := by
  obtain ⟨D, hown, h1, h2, h3⟩ := h
  rw [← h3]
  exact hown.len Tryd.underlying36 ty
theorem key_ne {s t : ByteArray} (h : s ≠ t) : (Lit.string s.data.toList) ≠ .string t.data.toList := fun e => h (str_inj e)
theorem bagB_put {w w' : World} {b n : Nat} {L : List ByteArray} {D : DataW Unit} (s : ByteArray) (h0 : w.ownsMap Tryd.prog 9 (plainElem Tryd.prog 4) b n D) (h1 : ∀ s : ByteArray, s ∈ L → D.atKey (.string s.data.toList) (.lit (.bool false)) = .lit (.bool true)) (h2 : ∀ s : ByteArray, Maps.has D (.string s.data.toList) = true ↔ s ∈ L) (h3 : Maps.size D = L.length)
    (h : w'.ownsMap Tryd.prog 9 (plainElem Tryd.prog 4) b (n + 1) (D.put (.string s.data.toList) (.lit (.bool true)))) : (s ∈ L → BagB w' b (n + 1) L) ∧ (s ∉ L → BagB w' b (n + 1) (L ++ [s])) := by
  have hM := h0.isMap
  have hT := h0.tidy lawS
  have hK : WideAt.IsKeyLit (.string s.data.toList) := by first | trivial | exact WideAt.IsKeyLit.string _ | decide
  have hat : ∀ t : ByteArray, (t ∈ L ∨ t = s) → (D.put (.string s.data.toList) (.lit (.bool true))).atKey (.string t.data.toList) (.lit (.bool false)) = .lit (.bool true) := fun t ht => by
    by_cases e : t = s
    · subst e
      exact Maps.atKey_put_same hM hK _ _
    · rw [Maps.atKey_put_other (key_ne e)]
      exact h1 t (ht.resolve_right e)
  have hhas : ∀ t : ByteArray, Maps.has (D.put (.string s.data.toList) (.lit (.bool true))) (.string t.data.toList) = true ↔ (t ∈ L ∨ t = s) := fun t => by
    by_cases e : t = s
    · subst e
      rw [Maps.has_put_same hM hK]
      simp
    · rw [Maps.has_put_other (key_ne e), h2 t]
      simp [e]
  have hsz := Maps.size_put (k := .string s.data.toList) hT (.lit (.bool true))
  refine ⟨fun hm => ⟨_, h, fun t ht => hat t (Or.inl ht), fun t => ?_, ?_⟩, fun hm => ⟨_, h, fun t ht => hat t (by simpa using ht), fun t => ?_, ?_⟩⟩
  · rw [hhas t]
    constructor
    · rintro (h | rfl)
      · exact h
      · exact hm
    · exact Or.inl
  · rw [hsz, if_pos ((h2 s).2 hm), h3]
  · rw [hhas t]
    simp
  · rw [hsz, if_neg (fun e => hm ((h2 s).1 e)), h3]
    simp

theorem ends_any {w : World} {base T m : Nat} {vN : Value} {l : List Nd} (h : TrieM w base T m vN l) {i : Nat} {n : Nd} (hn : l[i]? = some n) (h2 : l.length ≤ 1000000) :
    Calls Tryd.prog 21 #[.pointer (some ⟨T, 0, none⟩), .int .i64 (i : Int)] w fun e w' => e = .returned (.bool n.p.e) ∧ Below w.heap.size w w' := by
  obtain ⟨nr, nk, p⟩ := n
  obtain ⟨ar, cr, er⟩ := own_slice (h.rr i _ hn)
  obtain ⟨ak, ck, ek⟩ := own_slice (h.kk i _ hn)
  dsimp only at er ek
  subst er ek
  have c1 := node_any h hn h2
  have hf : ∀ w : World, (Instr.field 65 (.agg #[.slice ar p.R.length cr, .slice ak p.K.length ck, .bool p.e]) 2).run Tryd.prog w = .ok (.bool p.e) w := fun w => by
    first | rfl | kernel_rfl | (simp [Instr.field, run_underlying Tryd.underlying65, part, go_sem]; done) | (simp [Instr.field, run_underlying Tryd.underlying65])
  clear h hn
  go_enter Tryd.func21, Tryd.ntmps21
  go_wp2_with fail
  refine c1.mono ?_
  rintro e w1 ⟨rfl, hb⟩
  have HB : Hid (Below w.heap.size w w1) := hb
  clear c1 hb
  go_wp2
  go_ret
  exact ⟨rfl, HB.out⟩
end Go.Proofs.YtbmmjpmgkkljgaaDoor
