/- A row of spans that the call itself has made: what append makes of a row that came in, what a store makes of it. -/
import Derived.Test.YtmhbdiaihjhmiaaWalksP
import Derived.Deep.AppendLies
namespace Go.Proofs.Ytmhbdiaihjhmiaa
open Go.RowKit Go.ChangeShapes
/-- Cell j of a row of spans. -/
def cellOf (F : Nat → Int × Int) (j : Nat) : Value := if j % 2 = 0 then .int .i64 (F (j / 2)).1 else .int .i64 (F (j / 2)).2
theorem cellOf_at (F : Nat → Int × Int) (i : Nat) : cellOf F (i * 2) = .int .i64 (F i).1 := by
  have h1 : i * 2 % 2 = 0 := by omega
  have h2 : i * 2 / 2 = i := by omega
  simp only [cellOf, h1, h2, if_true]
theorem cellOf_len (F : Nat → Int × Int) (i : Nat) : cellOf F (i * 2 + 1) = .int .i64 (F i).2 := by
  have h1 : ¬ (i * 2 + 1) % 2 = 0 := by omega
  have h2 : (i * 2 + 1) / 2 = i := by omega
  simp only [cellOf, h1, h2, if_false]
/-- n spans lie in block g, from its beginning on; nothing of it is frozen. -/
def Own (w : World) (g n : Nat) (G : Nat → Int × Int) : Prop :=
  (∀ i, i < n → w.cell? ⟨g, i * 2, none⟩ = some (.int .i64 (G i).1) ∧ w.cell? ⟨g, i * 2 + 1, none⟩ = some (.int .i64 (G i).2)) ∧ (∀ j, w.frozen? ⟨g, j, none⟩ = false) ∧ g < w.heap.size
theorem Own.stay {w w' : World} {g n : Nat} {G : Nat → Int × Int} (h : Own w g n G) (hb : Below w.heap.size w w') : Own w' g n G :=
  ⟨fun i hi => ⟨(hb.cell (p := ⟨g, i * 2, none⟩) h.2.2).trans (h.1 i hi).1, (hb.cell (p := ⟨g, i * 2 + 1, none⟩) h.2.2).trans (h.1 i hi).2⟩,
   fun j => (hb.frozen (p := ⟨g, j, none⟩) h.2.2).trans (h.2.1 j), Nat.lt_of_lt_of_le h.2.2 hb.size⟩
theorem Own.alloc {w : World} {g n : Nat} {G : Nat → Int × Int} (h : Own w g n G) (o : Obj) : Own (w.alloc o) g n G := h.stay ((Below.refl _ _).alloc (Nat.le_refl _) o)
theorem Own.drew {w : World} {g n : Nat} {G : Nat → Int × Int} (h : Own w g n G) : Own w.drew g n G := h.stay ((Below.refl _ _).drew)
theorem Own.spans {w : World} {g n : Nat} {G : Nat → Int × Int} (h : Own w g n G) : Spans w g 0 n G :=
  fun i hi => by simpa using ⟨h.2.2, h.1 i hi⟩
theorem Own.putLen {w : World} {g n : Nat} {G : Nat → Int × Int} (h : Own w g n G) (i : Nat) (x : Int) : Own (w.setCell ⟨g, i * 2 + 1, none⟩ (.int .i64 x)) g n (fun j => if j = i then ((G j).1, x) else G j) := by
  refine ⟨fun j hj => ?_, fun j => by simpa using h.2.1 j, by simpa using h.2.2⟩
  refine ⟨?_, ?_⟩
  · rw [World.cell?_setCell_other (h := by intro e; simp at e <;> omega), (h.1 j hj).1]
    by_cases e : j = i <;> simp [e]
  · by_cases e : j = i
    · subst e; rw [World.cell?_setCell_same (h := (h.1 j hj).2)]; simp
    · rw [World.cell?_setCell_other (h := by intro k; simp at k <;> omega), (h.1 j hj).2]; simp [e]
theorem Own.putAt {w : World} {g n : Nat} {G : Nat → Int × Int} (h : Own w g n G) (i : Nat) (x : Int) : Own (w.setCell ⟨g, i * 2, none⟩ (.int .i64 x)) g n (fun j => if j = i then (x, (G j).2) else G j) := by
  refine ⟨fun j hj => ?_, fun j => by simpa using h.2.1 j, by simpa using h.2.2⟩
  refine ⟨?_, ?_⟩
  · by_cases e : j = i
    · subst e; rw [World.cell?_setCell_same (h := (h.1 j hj).1)]; simp
    · rw [World.cell?_setCell_other (h := by intro k; simp at k <;> omega), (h.1 j hj).1]; simp [e]
  · rw [World.cell?_setCell_other (h := by intro e; simp at e <;> omega), (h.1 j hj).2]
    by_cases e : j = i <;> simp [e]
theorem info23 : (Try.prog.info? 23).map (fun i => (i.zero, i.size, i.bytes)) = some (some (.agg #[.int .i64 0, .int .i64 0]), 2, 16) := by kernel_rfl
theorem own_of_row {w : World} {base g n cap : Nat} {F : Nat → Int × Int} (h : w.ownsRow base 23 2 (.slice (some ⟨g, 0, none⟩) n cap) n ((List.range (n * 2)).map (cellOf F))) : Own w g n F := by
  have hlt := h.lt g rfl
  refine ⟨fun i hi => ⟨?_, ?_⟩, fun j => h.frozenAt j, hlt.2⟩
  · rw [h.cellAt (i * 2) (by omega), List.getElem?_map, List.getElem?_range (by omega)]
    simp only [Option.map_some, cellOf_at]
  · rw [h.cellAt (i * 2 + 1) (by omega), List.getElem?_map, List.getElem?_range (by omega)]
    simp only [Option.map_some, cellOf_len]
theorem app_law {ops : Array Oper} {rest : List Oper} {o : Oper} {a : Act} {Q : Exit → Act → World → Prop} (w1 : World) (hgd : o.guard = none) (s x : Operand)
    (ho : o.op = .call { callee := .builtin .append, args := #[s, x], argTypes := #[38, 38] }) (hs : a.eval s = .slice (some ⟨w1.heap.size, 0, none⟩) 0 0)
    (ad : Option Addr) (n c : Nat) (F : Nat → Int × Int) (hx : a.eval x = .slice ad n c) (hn : n ≤ 100) (hnone : ad = none → n = 0 ∧ c = 0)
    (hc : ∀ d, ad = some d → ∀ j, j < n * 2 → w1.cell? (d.add j) = some (cellOf F j))
    (h : ∀ g cap w', Own w' g n F → w1.heap.size ≤ g → Below w1.heap.size w1 w' → wpList Try.prog ops Q rest (a.put o.dst (.slice (some ⟨g, 0, none⟩) n cap)) w') :
    wpList Try.prog ops Q (o :: rest) a (w1.alloc (.cells #[] 23)) := by
  obtain ⟨i, hi, hz, hsz, hby⟩ : ∃ i, Try.prog.info? 23 = some i ∧ i.zero = some (.agg #[.int .i64 0, .int .i64 0]) ∧ i.size = 2 ∧ i.bytes = 16 := by
    have := info23
    cases e : Try.prog.info? 23 with
    | none => rw [e] at this; simp at this
    | some i => rw [e] at this; simp at this; exact ⟨i, rfl, this.1, this.2.1, this.2.2⟩
  have hown : (w1.alloc (.cells #[] 23)).ownsRow w1.heap.size 23 2 (.slice (some ⟨w1.heap.size, 0, none⟩) 0 0) 0 [] := World.ownsRow_lit w1 #[] 0 (Nat.le_refl _) (Nat.zero_le _) rfl
  have hnews : ∀ d, ad = some d → ∀ j u, ((List.range (n * 2)).map (cellOf F))[j]? = some u → (w1.alloc (.cells #[] 23)).cell? (d.add j) = some u := by
    intro d hd j u hu
    rw [List.getElem?_map] at hu
    by_cases hj : j < n * 2
    · rw [List.getElem?_range hj] at hu
      simp only [Option.map_some, Option.some.injEq] at hu
      have hcj := hc d hd j hj
      rw [World.cell?_alloc_lt _ _ _ (World.block_lt_of_cell? w1 _ hcj), hcj, hu]
    · rw [List.getElem?_eq_none (by simp; omega)] at hu
      simp at hu
  have hone : ∀ u ∈ (List.range (n * 2)).map (cellOf F), u.oneCell' = true := by
    intro u hu
    obtain ⟨j, _, rfl⟩ := List.mem_map.1 hu
    unfold cellOf
    split <;> rfl
  have hlen : ((List.range (n * 2)).map (cellOf F)).length = n * 2 := by simp
  have B0 : Below w1.heap.size w1 (w1.alloc (.cells #[] 23)) := (Below.refl _ _).alloc (Nat.le_refl _) _
  by_cases h0 : n = 0
  · subst h0
    refine wpList_append_fits_any _ hgd s x 38 ho w1.heap.size 23 i 2 Try.underlying38 hi hsz w1.heap.size 0 0 [] hs hown ad 0 c [] hx rfl hnone (by intro _ _ _ _ k; simp at k) (by intro _ k; simp at k) (by omega) ?_
    intro w' ho' hg'
    exact h _ _ _ (own_of_row ho') (Nat.le_refl _) (B0.grown hg' (by simp) (by intro k hk; cases hk; exact Nat.le_refl _))
  · cases ad with
    | none => exact absurd (hnone rfl).1 h0
    | some d =>
      refine wpList_append_lies _ hgd s x 38 ho w1.heap.size 23 i _ 2 16 Try.underlying38 hi hz hsz hby rfl (by omega) _ 0 [] hs hown d n c _ hx hlen (hnews d rfl) hone (by omega) (by unfold maxLen; omega) (by omega) (by simp) _ rfl ?_
      intro g cap w' ho' hg' hgg hlt
      simp only [Nat.zero_add, List.nil_append] at ho' ⊢
      refine h g cap w' (own_of_row ho') ?_ (B0.grown hg' (by simp) (by intro k hk; cases hk; exact Nat.le_refl _))
      rcases hgg with e | e
      · cases e; exact Nat.le_refl _
      · rw [e]; simp
end Go.Proofs.Ytmhbdiaihjhmiaa
