/- What lies where a slice points; append of it. -/
import Derived.Test.YteeeekpeokgaeaaDoorPkKV2
import Derived.Test.YteeeekpeokgaeaaDoorkKit
import Derived.Sort.LotA
import Derived.Laws.Cover1
namespace Go.Proofs.YteeeekpeokgaeaaDoor
set_option linter.unusedVariables false
open Go.RowKit Go.ChangeShapes
/-- These cells lie where a slice points (nil, too). -/
def Srcs (w : World) (v : Value) (m size : Nat) (news : List Value) : Prop := news.length = m * size ∧ ((∃ ad c, v = .slice ad 0 c ∧ m = 0) ∨ ∃ b off c, v = .slice (some ⟨b, off, none⟩) m c ∧ ∀ j u, news[j]? = some u → w.cell? ⟨b, off + j, none⟩ = some u)
theorem Srcs.stay {w w' : World} {v : Value} {m size : Nat} {news : List Value} (h : Srcs w v m size news) (hb : Below w.heap.size w w') : Srcs w' v m size news := by
  obtain ⟨h1, h2 | ⟨b, off, c, rfl, h2⟩⟩ := h
  · exact ⟨h1, Or.inl h2⟩
  · exact ⟨h1, Or.inr ⟨b, off, c, rfl, fun j u hu => (hb.cell (World.block_lt_of_cell? w _ (h2 j u hu))).trans (h2 j u hu)⟩⟩
/-- What is appended elsewhere leaves them. -/
theorem Srcs.grown {w w' : World} {m size g : Nat} {c : Nat} {off : Nat} {news : List Value} {row : Option Nat} (h : Srcs w (.slice (some ⟨g, off, none⟩) m c) m size news) (hg : w.grownBy w' row) (hr : row ≠ some g) : Srcs w' (.slice (some ⟨g, off, none⟩) m c) m size news := by
  obtain ⟨h1, h2 | ⟨b, off', c', he, h2⟩⟩ := h
  · exact ⟨h1, Or.inl h2⟩
  · refine ⟨h1, Or.inr ⟨b, off', c', he, fun j u hu => ?_⟩⟩
    have hc := h2 j u hu
    have hl := World.block_lt_of_cell? w _ hc
    cases he
    exact (World.cell?_of_block (hg.block g hl (fun e => hr e.symm))).trans hc
theorem addr_plus (b off j : Nat) : (⟨b, off, none⟩ : Addr).add j = ⟨b, off + j, none⟩ := by
  unfold Addr.add; split <;> simp_all
theorem app_src_wp {P : Program} {w : World} {o : Oper} {a : Act} {K : Act → World → Prop} {Q : Exit → Act → World → Prop} (s x : Operand) (t : TypeId)
    (ho : o.op = .call { callee := .builtin .append, args := #[s, x], argTypes := #[t, t] })
    (base : Nat) (e : TypeId) (i : TypeInfo) (z : Value) (size bytes : Nat) (ht : P.underlying t = some (.slice e)) (hi : P.info? e = some i) (hz : i.zero = some z)
    (hsize : i.size = size) (hby : i.bytes = bytes) (hzs : z.cells.size = size) (hsz : 0 < size)
    (v : Value) (n : Nat) (xs : List Value) (hs : a.eval s = v) (hown : w.ownsRow base e size v n xs)
    (v2 : Value) (m : Nat) (news : List Value) (hx : a.eval x = v2) (hb : Srcs w v2 m size news) (h1 : ∀ u ∈ news, u.oneCell' = true)
    (h63 : n + m ≤ maxLen) (hbytes : (n + m) * bytes ≤ 140737488355328) (hbase : base ≤ w.heap.size)
    (h : ∀ v' w', w'.ownsRow base e size v' (n + m) (xs ++ news) → w.grownBy w' v.ownBlock → K (a.put o.dst v') w') : o.wp P a w K Q := by
  obtain ⟨hl, ⟨ad, c, rfl, h0⟩ | ⟨g, off, c, rfl, hb⟩⟩ := hb
  · have hnil : news = [] := List.eq_nil_of_length_eq_zero (by rw [hl, h0, Nat.zero_mul])
    cases ad with
    | none =>
      have hrun := Lns.append_none P w base t o.type e i size ht hi v n c xs hown
      unfold Oper.wp
      simp [execOp, ho, resolve, invoke, builtin, hs, hx, hrun, Result.andThen]
      exact h v w (by rw [hnil, List.append_nil, h0]; exact hown) (World.grownBy.refl _ _)
    | some ad =>
      exact wp_append_own w s x t ho base e i z size bytes ht hi hz hsize hby hzs hsz v n xs hs hown ad 0 c [] hx (by simp) (fun j u hj => by simp at hj) (fun u hu => by simp at hu) (by omega) (by rw [h0] at hbytes; exact hbytes) hbase (fun v' w' h2 h3 _ => h v' w' (by rw [hnil, h0]; exact h2) h3)
  · exact wp_append_own w s x t ho base e i z size bytes ht hi hz hsize hby hzs hsz v n xs hs hown ⟨g, off, none⟩ m c _ hx hl (fun j u hu => by rw [addr_plus]; exact hb j u hu) h1 h63 hbytes hbase (fun v' w' h2 h3 _ => h v' w' h2 h3)
theorem app_src {P : Program} {w : World} {ops : Array Oper} {rest : List Oper} {o : Oper} {a : Act} {Q : Exit → Act → World → Prop} (hgd : o.guard = none) (s x : Operand) (t : TypeId)
    (ho : o.op = .call { callee := .builtin .append, args := #[s, x], argTypes := #[t, t] })
    (base : Nat) (e : TypeId) (i : TypeInfo) (z : Value) (size bytes : Nat) (ht : P.underlying t = some (.slice e)) (hi : P.info? e = some i) (hz : i.zero = some z)
    (hsize : i.size = size) (hby : i.bytes = bytes) (hzs : z.cells.size = size) (hsz : 0 < size)
    (v : Value) (n : Nat) (xs : List Value) (hs : a.eval s = v) (hown : w.ownsRow base e size v n xs)
    (v2 : Value) (m : Nat) (news : List Value) (hx : a.eval x = v2) (hb : Srcs w v2 m size news) (h1 : ∀ u ∈ news, u.oneCell' = true)
    (h63 : n + m ≤ maxLen) (hbytes : (n + m) * bytes ≤ 140737488355328) (hbase : base ≤ w.heap.size)
    (h : ∀ v' w', w'.ownsRow base e size v' (n + m) (xs ++ news) → w.grownBy w' v.ownBlock → wpList P ops Q rest (a.put o.dst v') w') : wpList P ops Q (o :: rest) a w :=
  wpList_plain hgd fun K hK => app_src_wp s x t ho base e i z size bytes ht hi hz hsize hby hzs hsz v n xs hs hown v2 m news hx hb h1 h63 hbytes hbase (fun v' w' h2 h3 => hK _ _ (h v' w' h2 h3))
theorem srcs_own {w : World} {base e size n : Nat} {v : Value} {xs : List Value} (h : w.ownsRow base e size v n xs) : Srcs w v n size xs := by
  have hc := @World.ownsRow.cells _ _ _ _ _ _ _ h
  obtain ⟨hl, ⟨rfl, rfl⟩ | ⟨g, cap, cur, rfl, hg, hh, h3⟩⟩ := h
  · exact ⟨hl, Or.inl ⟨none, 0, rfl, rfl⟩⟩
  · exact ⟨hl, Or.inr ⟨g, 0, cap, rfl, fun j u hu => by have := hc rfl j u hu; rw [addr_plus] at this; exact this⟩⟩
theorem srcs_new (w : World) (cs : Array Value) (t : TypeId) (m size c : Nat) (h : cs.toList.length = m * size) : Srcs (w.alloc (.cells cs t)) (.slice (some ⟨w.heap.size, 0, none⟩) m c) m size cs.toList := by
  refine ⟨h, Or.inr ⟨w.heap.size, 0, c, rfl, fun j u hu => ?_⟩⟩
  have hb : (w.alloc (.cells cs t)).heap[w.heap.size]? = some (.cells cs t (0, 0)) := Array.getElem?_push_size
  have := Go.World.news_of_block hb j u hu
  rw [addr_plus] at this
  exact this
end Go.Proofs.YteeeekpeokgaeaaDoor
