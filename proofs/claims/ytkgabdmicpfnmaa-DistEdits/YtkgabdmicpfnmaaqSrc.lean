/- Rows of signs that a call makes by append. -/
import Derived.Test.YtkgabdmicpfnmaaqAwk
import Derived.Deep.AppendLies
import Derived.Laws.AppendOwnNone
namespace Go.Proofs.Ytkgabdmicpfnmaa
set_option linter.unusedVariables false
open Go.RowKit Go.ChangeShapes
theorem addr_plus (b off j : Nat) : (⟨b, off, none⟩ : Addr).add j = ⟨b, off + j, none⟩ := by
  unfold Addr.add; split <;> simp_all
/-- A row of signs of its own. -/
def OR (w : World) (base : Nat) (v : Value) (l : List Int) : Prop := w.ownsRow base 21 1 v l.length (l.map i32c)
theorem own_stay {w w' : World} {base e size n : Nat} {v : Value} {xs : List Value} (h : w.ownsRow base e size v n xs) (hb : Below w.heap.size w w') : w'.ownsRow base e size v n xs := by
  obtain ⟨h1, h2 | ⟨g, cap, cur, rfl, hg, hh, h3⟩⟩ := h
  · exact ⟨h1, Or.inl h2⟩
  · refine ⟨h1, Or.inr ⟨g, cap, cur, rfl, hg, ?_, h3⟩⟩
    rw [hb.block g (Array.getElem?_eq_some_iff.1 hh).1]; exact hh
theorem own_base {w : World} {base e size n : Nat} {v : Value} {xs : List Value} (h : w.ownsRow base e size v n xs) : ∀ k, v.ownBlock = some k → base ≤ k := by
  obtain ⟨h1, ⟨rfl, _⟩ | ⟨g, cap, cur, rfl, hg, hh, h3⟩⟩ := h
  · intro k hk; cases hk
  · intro k hk; cases hk; exact hg
theorem Up.grown {B : Nat} {a w w' : World} {row : Option Nat} (h : Up B a w) (hg : w.grownBy w' row) (hr : ∀ k, row = some k → B ≤ k) : Up B a w' := ⟨h.1.grown hg h.2 hr, Nat.le_trans h.2 hg.size⟩
theorem OR.stay {w w' : World} {base : Nat} {v : Value} {l : List Int} (h : OR w base v l) (hb : Below w.heap.size w w') : OR w' base v l := own_stay h hb
theorem OR.rsl {w : World} {base : Nat} {v : Value} {l : List Int} (h : OR w base v l) : RSl w v l.length (at_ l) := by
  have h0 := h
  obtain ⟨hl, ⟨rfl, h1⟩ | ⟨g, cap, cur, rfl, hg, hh, h3⟩⟩ := h
  · exact Or.inl ⟨none, 0, rfl, h1⟩
  · refine Or.inr ⟨g, 0, cap, rfl, fun i hi => ?_⟩
    rw [Nat.zero_add, World.ownsRow.cellAt h0 i (by omega)]
    simp [at_, List.getD, i32c, List.getElem?_eq_getElem hi]
theorem or_empty (w : World) (base : Nat) (hb : base ≤ w.heap.size) : OR (w.alloc (.cells #[] 21)) base (.slice (some ⟨w.heap.size, 0, none⟩) 0 0) [] := by
  refine ⟨rfl, Or.inr ⟨w.heap.size, 0, #[], rfl, hb, Array.getElem?_push_size, ?_⟩⟩
  simp
theorem info21 : (Try.prog.info? 21).map (fun i => (i.zero, i.size, i.bytes)) = some (some (.int .i32 0), 1, 4) := by kernel_rfl
theorem append_none (P : Program) (w : World) (base : Nat) (t ty e : TypeId) (i : TypeInfo) (size : Nat) (ht : P.underlying t = some (.slice e)) (hi : P.info? e = some i)
    (v : Value) (n c : Nat) (xs : List Value) (hown : w.ownsRow base e size v n xs) :
    (Builtin.append_ #[t, t] ty #[v, .slice none 0 c]).run P w = .ok v w := by
  rcases hown.2 with ⟨rfl, rfl⟩ | ⟨g, cap, cur, rfl, _, _, hnc, _⟩
  · simp [Builtin.append_, run_underlying ht, sizeOf, typeInfo, hi, Builtin.lenOf, Builtin.firstCells]
  · simp [Builtin.append_, run_underlying ht, sizeOf, typeInfo, hi, Builtin.lenOf, Builtin.firstCells, hnc, storeCells]
theorem rune_one (l : List Int) : ∀ u ∈ l.map i32c, u.oneCell' = true := by
  intro u hu
  obtain ⟨x, _, rfl⟩ := List.mem_map.1 hu
  rfl
theorem app_runes_wp {w : World} {o : Oper} {a : Act} {K : Act → World → Prop} {Q : Exit → Act → World → Prop} (s x : Operand)
    (ho : o.op = .call { callee := .builtin .append, args := #[s, x], argTypes := #[22, 22] }) (base : Nat)
    (v : Value) (l : List Int) (hs : a.eval s = v) (hown : OR w base v l) (v2 : Value) (m : List Int) (hx : a.eval x = v2) (hb : RSl w v2 m.length (at_ m))
    (h63 : l.length + m.length ≤ 1000000) (hbase : base ≤ w.heap.size)
    (h : ∀ v' w', OR w' base v' (l ++ m) → w.grownBy w' v.ownBlock → K (a.put o.dst v') w') : o.wp Try.prog a w K Q := by
  obtain ⟨i, hi, hzz⟩ := Option.map_eq_some_iff.1 info21
  simp only [Prod.mk.injEq] at hzz
  obtain ⟨hz, hsz, hby⟩ := hzz
  have key : ∀ v' w', w'.ownsRow base 21 1 v' (l.length + m.length) (l.map i32c ++ m.map i32c) → OR w' base v' (l ++ m) := fun v' w' h2 => by
    unfold OR
    rw [List.length_append, List.map_append]
    exact h2
  rcases hb with ⟨ad, c, rfl, h0⟩ | ⟨g, off, c, rfl, hc⟩
  · have hnil : m = [] := List.eq_nil_of_length_eq_zero h0
    subst hnil
    cases ad with
    | none =>
      have hrun := append_none Try.prog w base 22 o.type 21 i 1 Try.underlying22 hi v l.length c (l.map i32c) hown
      unfold Oper.wp
      simp [execOp, ho, resolve, invoke, builtin, hs, hx, hrun, Result.andThen]
      exact h v w (by rw [List.append_nil]; exact hown) (World.grownBy.refl _ _)
    | some ad =>
      exact wp_append_own w s x 22 ho base 21 i _ 1 4 Try.underlying22 hi hz hsz hby rfl (by decide) v l.length (l.map i32c) hs hown ad 0 c [] hx (by simp) (fun j u hj => by simp at hj) (fun u hu => by simp at hu) (by unfold maxLen; omega) (by omega) hbase (fun v' w' h2 h3 _ => h v' w' (key v' w' (by simpa using h2)) h3)
  · exact wp_append_own w s x 22 ho base 21 i _ 1 4 Try.underlying22 hi hz hsz hby rfl (by decide) v l.length (l.map i32c) hs hown ⟨g, off, none⟩ m.length c (m.map i32c) hx (by simp) (fun j u hu => by
      rw [addr_plus]
      rw [List.getElem?_map] at hu
      cases hj : m[j]? with
      | none => rw [hj] at hu; cases hu
      | some y =>
        rw [hj] at hu
        cases hu
        have hlt := (List.getElem?_eq_some_iff.1 hj).1
        rw [hc j hlt]
        simp [at_, List.getD, hj, i32c]) (rune_one m) (by unfold maxLen; omega) (by omega) hbase (fun v' w' h2 h3 _ => h v' w' (key v' w' h2) h3)
theorem app_runes {w : World} {ops : Array Oper} {rest : List Oper} {o : Oper} {a : Act} {Q : Exit → Act → World → Prop} (hgd : o.guard = none) (s x : Operand)
    (ho : o.op = .call { callee := .builtin .append, args := #[s, x], argTypes := #[22, 22] }) (base : Nat)
    (v : Value) (l : List Int) (hs : a.eval s = v) (hown : OR w base v l) (v2 : Value) (m : List Int) (hx : a.eval x = v2) (hb : RSl w v2 m.length (at_ m))
    (h63 : l.length + m.length ≤ 1000000) (hbase : base ≤ w.heap.size)
    (h : ∀ v' w', OR w' base v' (l ++ m) → w.grownBy w' v.ownBlock → wpList Try.prog ops Q rest (a.put o.dst v') w') : wpList Try.prog ops Q (o :: rest) a w :=
  wpList_plain hgd fun K hK => app_runes_wp s x ho base v l hs hown v2 m hx hb h63 hbase (fun v' w' h2 h3 => hK _ _ (h v' w' h2 h3))
theorem OR.form {w : World} {base : Nat} {v : Value} {l : List Int} (h : OR w base v l) : ∃ ad c, v = .slice ad l.length c := h.rsl.form
theorem of_far {w : World} {va vb : Value} {A B : List Int} (hA : RSl w va A.length (at_ A)) (hB : RSl w vb B.length (at_ B)) (hk : A.length ≤ 64) (hn : B.length ≤ 64) :
    Calls Try.prog 10 #[va, vb] w fun e w' => e = .returned (.int .i64 (far A B : Int)) ∧ Below w.heap.size w w' :=
  (of_near hA hB hk hn).mono fun _ _ ⟨h1, h2⟩ => ⟨h1, h2.1⟩
/-- They are alike as far as this. -/
theorem same_all {A B : List Int} (h : A.length = B.length) (h2 : ∀ j, j < A.length → at_ A j = at_ B j) : A = B := by
  apply List.ext_getElem h
  intro j h3 h4
  have := h2 j h3
  simpa [at_, List.getD, h3, h4] using this
end Go.Proofs.Ytkgabdmicpfnmaa
