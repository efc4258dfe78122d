/- Which words were there: a set in a map; set.add. -/
import Derived.Test.YthdjadkdjljciaaGreatDoorChk
import Derived.Test.YthdjadkdjljciaaGreatDoorCod
import Derived.Maps.OwnSet
import Derived.Maps.AppendAt
import Derived.StringKeys
namespace Go.Proofs.YthdjadkdjljciaaGreatDoor
set_option linter.unusedVariables false
open Go.RowKit Go.ChangeShapes Go.Maps

theorem lawS : Keyed Tryz.prog 9 := string_keyed Tryz.underlying9
theorem zeroE (w : World) : (zeroValue 100).run Tryz.prog w = .ok (.agg #[]) w := by kernel_rfl
/-- These words lie in a map. -/
def Bag (w : World) (b n : Nat) (L : List ByteArray) : Prop := ∃ D : DataW Unit, w.ownsMap Tryz.prog 9 unitElem b n D ∧ ∀ s : ByteArray, Maps.has D (.string s.data.toList) = true ↔ s ∈ L
theorem Bag.lt {w : World} {b n : Nat} {L : List ByteArray} (h : Bag w b n L) : b < w.heap.size := by obtain ⟨D, h, _⟩ := h; exact h.lt
theorem Bag.made (w : World) : Bag (w.alloc (.map #[] 0)) w.heap.size 0 [] := ⟨.map [], World.ownsMap_made w _ _ _, fun s => by simp [Maps.has]⟩
theorem Bag.block {w w' : World} {b n : Nat} {L : List ByteArray} (h : Bag w b n L) (e : w'.heap[b]? = w.heap[b]?) : Bag w' b n L := by
  obtain ⟨D, ⟨es, clock, hb, r⟩, hs⟩ := h
  exact ⟨D, ⟨es, clock, e.trans hb, r⟩, hs⟩
theorem Bag.stay {w w' : World} {b n : Nat} {L : List ByteArray} (h : Bag w b n L) (hb : Below w.heap.size w w') : Bag w' b n L := h.block (hb.block b h.lt)
theorem Bag.kept {w w' : World} {b n m : Nat} {p : Nat → Prop} {L : List ByteArray} (h : Bag w b n L) (k : Kpt m p w w') (hm : b < m) (hp : ¬ p b) : Bag w' b n L := h.block (k.block b hm hp)
theorem str_inj {s t : ByteArray} (h : (Lit.string s.data.toList) = .string t.data.toList) : s = t := by
  injection h with h
  have : s.data = t.data := Array.toList_inj.1 h
  cases s; cases t; simp_all
theorem keyS (s : ByteArray) (hs : s.size ≤ 9223372036854775807) : keyOf Tryz.prog 9 (.string s) = some (.string s.data.toList) := by
  exact WideMaps.keyOf_string_mk Tryz.underlying9 hs
theorem kpt_grown {m : Nat} {p : Nat → Prop} {w w1 w2 : World} {b : Nat} (h : Kpt m p w w1) (o : Obj) (g : (w1.alloc o).grownBy w2 (some b)) (hm : m ≤ w1.heap.size) (hp : p b) : Kpt m p w w2 := by
  refine (h.alloc hm o).trans ⟨g.os, g.tape, g.output, g.size, fun k hk hn => ?_⟩
  have h1 := h.size
  refine g.block k (by simp; omega) ?_
  intro e
  cases e
  exact hn hp
theorem add_old (b n : Nat) (L : List ByteArray) (s : ByteArray) (w : World) (hs : s.size ≤ 9223372036854775807) (h : Bag w b n L) (hm : s ∈ L) :
    Calls Tryz.prog 32 #[.map (some b), .string s] w fun e w' => e = .returned (.bool false) ∧ Below w.heap.size w w' := by
  obtain ⟨D, hown, hD⟩ := h
  have hk := keyS s hs
  have hh : Maps.has D (.string s.data.toList) = true := (hD s).2 hm
  clear hD hm
  go_enter Tryz.func32, Tryz.ntmps32
  go_wp2_with (first
    | (at_lookup; refine wpList_lookup_own_unit _ rfl _ _ 63 rfl 9 100 lawS Tryz.underlying63 (zeroE _) b n _ rfl hown _ _ rfl hk ?_)
    | go_in)
  all_goals go_ret
  exact ⟨rfl, (Below.refl _ _).alloc (Nat.le_refl _) _⟩
theorem add_new (b n : Nat) (L : List ByteArray) (s : ByteArray) (w : World) (hs : s.size ≤ 9223372036854775807) (hn : n ≤ 100000) (h : Bag w b n L) (hm : s ∉ L) :
    Calls Tryz.prog 32 #[.map (some b), .string s] w fun e w' => e = .returned (.bool true) ∧ Bag w' b (n + 1) (s :: L) ∧ Kpt w.heap.size (· = b) w w' := by
  obtain ⟨D, hown, hD⟩ := h
  have hk := keyS s hs
  have hh : Maps.has D (.string s.data.toList) = false := by cases e : Maps.has D (.string s.data.toList); rfl; exact absurd ((hD s).1 e) hm
  have HD : Hid (∀ s : ByteArray, Maps.has D (.string s.data.toList) = true ↔ s ∈ L) := hD
  have HM : Hid (IsMap D) := hown.isMap
  clear hD hm
  go_enter Tryz.func32, Tryz.ntmps32
  go_wp2_with (first
    | (at_lookup; refine wpList_lookup_own_unit _ rfl _ _ 63 rfl 9 100 lawS Tryz.underlying63 (zeroE _) b n _ rfl hown _ _ rfl hk ?_)
    | (at_mapUpdate; refine wpList_mapUpdate_own _ rfl _ _ _ 63 rfl 9 100 lawS Tryz.underlying63 (unitElem (H := Unit)) b n _ rfl (hown.alloc _) (by unfold maxLen; omega) _ _ _ rfl rfl hk _ [] unitElem_mk ?_; intro w1 hown1 hgrow1)
    | go_in)
  all_goals go_ret
  refine ⟨rfl, ⟨_, hown1, fun t => ?_⟩, ?_⟩
  · by_cases e : t = s
    · subst e
      rw [has_put_same HM.out (by show WideAt.IsKeyLit (.string _); trivial)]
      simp
    · rw [has_put_other (fun h => e (str_inj h))]
      rw [HD.out t]
      simp [e]
  · exact kpt_grown (Kpt.refl _ _ _) _ hgrow1 (Nat.le_refl _) rfl
end Go.Proofs.YthdjadkdjljciaaGreatDoor
