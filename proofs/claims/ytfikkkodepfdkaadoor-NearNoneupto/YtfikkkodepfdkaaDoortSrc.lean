/- What lies where a slice points; append of it; parts of lists. -/
import Derived.Test.YtfikkkodepfdkaaDoortClone
import Derived.Test.YtfikkkodepfdkaaDoortWrd
import Derived.Deep.AppendLies
import Derived.Sort.LotA
import Derived.Laws.Cover1
namespace Go.Proofs.YtfikkkodepfdkaaDoor
set_option linter.unusedVariables false
open Go.RowKit Go.ChangeShapes
/-- These cells lie where a slice points (nil, too). -/
def Srcs (w : World) (v : Value) (m size : Nat) (news : List Value) : Prop := news.length = m * size ∧ ((∃ ad c, v = .slice ad 0 c ∧ m = 0) ∨ ∃ b off c, v = .slice (some ⟨b, off, none⟩) m c ∧ ∀ j u, news[j]? = some u → w.cell? ⟨b, off + j, none⟩ = some u)
theorem Srcs.stay {w w' : World} {v : Value} {m size : Nat} {news : List Value} (h : Srcs w v m size news) (hb : Below w.heap.size w w') : Srcs w' v m size news := by
  obtain ⟨h1, h2 | ⟨b, off, c, rfl, h2⟩⟩ := h
  · exact ⟨h1, Or.inl h2⟩
  · exact ⟨h1, Or.inr ⟨b, off, c, rfl, fun j u hu => (hb.cell (World.block_lt_of_cell? w _ (h2 j u hu))).trans (h2 j u hu)⟩⟩
/-- What is appended elsewhere leaves them. -/
theorem Srcs.grown {w w' : World} {m size g : Nat} {c : Nat} {off : Nat} {news : List Value} {row : Option Nat} (h : Srcs w (.slice (some ⟨g, off, none⟩) m c) m size news) (hg : w.grownBy w' row) (hr : row ≠ some g) : Srcs w' (.slice (some ⟨g, off, none⟩) m c) m size news := by
  obtain ⟨h1, h2 | ⟨b, off', c', he, h2⟩⟩ := h
  · exact ⟨h1, Or.inl h2⟩
  · refine ⟨h1, Or.inr ⟨b, off', c', he, fun j u hu => ?_⟩⟩
    have hc := h2 j u hu
    have hl := World.block_lt_of_cell? w _ hc
    cases he
    exact (World.cell?_of_block (hg.block g hl (fun e => hr e.symm))).trans hc
theorem addr_plus (b off j : Nat) : (⟨b, off, none⟩ : Addr).add j = ⟨b, off + j, none⟩ := by
  unfold Addr.add; split <;> simp_all
theorem append_none (P : Program) (w : World) (base : Nat) (t ty e : TypeId) (i : TypeInfo) (size : Nat) (ht : P.underlying t = some (.slice e)) (hi : P.info? e = some i)
    (v : Value) (n c : Nat) (xs : List Value) (hown : w.ownsRow base e size v n xs) :
    (Builtin.append_ #[t, t] ty #[v, .slice none 0 c]).run P w = .ok v w := by
  rcases hown.2 with ⟨rfl, rfl⟩ | ⟨g, cap, cur, rfl, _, _, hnc, _⟩
  · simp [Builtin.append_, run_underlying ht, sizeOf, typeInfo, hi, Builtin.lenOf, Builtin.firstCells]
  · simp [Builtin.append_, run_underlying ht, sizeOf, typeInfo, hi, Builtin.lenOf, Builtin.firstCells, hnc, storeCells]
theorem app_src_wp {P : Program} {w : World} {o : Oper} {a : Act} {K : Act → World → Prop} {Q : Exit → Act → World → Prop} (s x : Operand) (t : TypeId)
    (ho : o.op = .call { callee := .builtin .append, args := #[s, x], argTypes := #[t, t] })
    (base : Nat) (e : TypeId) (i : TypeInfo) (z : Value) (size bytes : Nat) (ht : P.underlying t = some (.slice e)) (hi : P.info? e = some i) (hz : i.zero = some z)
    (hsize : i.size = size) (hby : i.bytes = bytes) (hzs : z.cells.size = size) (hsz : 0 < size)
    (v : Value) (n : Nat) (xs : List Value) (hs : a.eval s = v) (hown : w.ownsRow base e size v n xs)
    (v2 : Value) (m : Nat) (news : List Value) (hx : a.eval x = v2) (hb : Srcs w v2 m size news) (h1 : ∀ u ∈ news, u.oneCell' = true)
    (h63 : n + m ≤ maxLen) (hbytes : (n + m) * bytes ≤ 140737488355328) (hbase : base ≤ w.heap.size)
    (h : ∀ v' w', w'.ownsRow base e size v' (n + m) (xs ++ news) → w.grownBy w' v.ownBlock → K (a.put o.dst v') w') : o.wp P a w K Q := by
  obtain ⟨hl, ⟨ad, c, rfl, h0⟩ | ⟨g, off, c, rfl, hb⟩⟩ := hb
  · have hnil : news = [] := List.eq_nil_of_length_eq_zero (by rw [hl, h0, Nat.zero_mul])
    cases ad with
    | none =>
      have hrun := append_none P w base t o.type e i size ht hi v n c xs hown
      unfold Oper.wp
      simp [execOp, ho, resolve, invoke, builtin, hs, hx, hrun, Result.andThen]
      exact h v w (by rw [hnil, List.append_nil, h0]; exact hown) (World.grownBy.refl _ _)
    | some ad =>
      exact wp_append_own w s x t ho base e i z size bytes ht hi hz hsize hby hzs hsz v n xs hs hown ad 0 c [] hx (by simp) (fun j u hj => by simp at hj) (fun u hu => by simp at hu) (by omega) (by rw [h0] at hbytes; exact hbytes) hbase (fun v' w' h2 h3 _ => h v' w' (by rw [hnil, h0]; exact h2) h3)
  · exact wp_append_own w s x t ho base e i z size bytes ht hi hz hsize hby hzs hsz v n xs hs hown ⟨g, off, none⟩ m c _ hx hl (fun j u hu => by rw [addr_plus]; exact hb j u hu) h1 h63 hbytes hbase (fun v' w' h2 h3 _ => h v' w' h2 h3)
theorem app_src {P : Program} {w : World} {ops : Array Oper} {rest : List Oper} {o : Oper} {a : Act} {Q : Exit → Act → World → Prop} (hgd : o.guard = none) (s x : Operand) (t : TypeId)
    (ho : o.op = .call { callee := .builtin .append, args := #[s, x], argTypes := #[t, t] })
    (base : Nat) (e : TypeId) (i : TypeInfo) (z : Value) (size bytes : Nat) (ht : P.underlying t = some (.slice e)) (hi : P.info? e = some i) (hz : i.zero = some z)
    (hsize : i.size = size) (hby : i.bytes = bytes) (hzs : z.cells.size = size) (hsz : 0 < size)
    (v : Value) (n : Nat) (xs : List Value) (hs : a.eval s = v) (hown : w.ownsRow base e size v n xs)
    (v2 : Value) (m : Nat) (news : List Value) (hx : a.eval x = v2) (hb : Srcs w v2 m size news) (h1 : ∀ u ∈ news, u.oneCell' = true)
    (h63 : n + m ≤ maxLen) (hbytes : (n + m) * bytes ≤ 140737488355328) (hbase : base ≤ w.heap.size)
    (h : ∀ v' w', w'.ownsRow base e size v' (n + m) (xs ++ news) → w.grownBy w' v.ownBlock → wpList P ops Q rest (a.put o.dst v') w') : wpList P ops Q (o :: rest) a w :=
  wpList_plain hgd fun K hK => app_src_wp s x t ho base e i z size bytes ht hi hz hsize hby hzs hsz v n xs hs hown v2 m news hx hb h1 h63 hbytes hbase (fun v' w' h2 h3 => hK _ _ (h v' w' h2 h3))
theorem srcs_own {w : World} {base e size n : Nat} {v : Value} {xs : List Value} (h : w.ownsRow base e size v n xs) : Srcs w v n size xs := by
  have hc := @World.ownsRow.cells _ _ _ _ _ _ _ h
  obtain ⟨hl, ⟨rfl, rfl⟩ | ⟨g, cap, cur, rfl, hg, hh, h3⟩⟩ := h
  · exact ⟨hl, Or.inl ⟨none, 0, rfl, rfl⟩⟩
  · exact ⟨hl, Or.inr ⟨g, 0, cap, rfl, fun j u hu => by have := hc rfl j u hu; rw [addr_plus] at this; exact this⟩⟩
theorem srcs_new (w : World) (cs : Array Value) (t : TypeId) (m size c : Nat) (h : cs.toList.length = m * size) : Srcs (w.alloc (.cells cs t)) (.slice (some ⟨w.heap.size, 0, none⟩) m c) m size cs.toList := by
  refine ⟨h, Or.inr ⟨w.heap.size, 0, c, rfl, fun j u hu => ?_⟩⟩
  have hb : (w.alloc (.cells cs t)).heap[w.heap.size]? = some (.cells cs t (0, 0)) := Array.getElem?_push_size
  have := Go.World.news_of_block hb j u hu
  rw [addr_plus] at this
  exact this
theorem str_one (L : List ByteArray) : ∀ u ∈ L.map Value.string, u.oneCell' = true := by
  intro u hu
  obtain ⟨x, _, rfl⟩ := List.mem_map.1 hu
  rfl
/-- A part of a list that lies in memory. -/
theorem srcs_part {w : World} {g i m c : Nat} {L M : List ByteArray} (h : ∀ j, (hj : j < L.length) → w.cell? ⟨g, j, none⟩ = some (.string L[j])) (hm : M.length = m) (hM : ∀ j x, M[j]? = some x → L[i + j]? = some x) : Srcs w (.slice (some ⟨g, i, none⟩) m c) m 1 (M.map Value.string) := by
  refine ⟨by simp [hm], Or.inr ⟨g, i, c, rfl, fun j u hu => ?_⟩⟩
  rw [List.getElem?_map] at hu
  cases hx : M[j]? with
  | none => rw [hx] at hu; cases hu
  | some x =>
    rw [hx] at hu
    cases hu
    obtain ⟨h1, h2⟩ := List.getElem?_eq_some_iff.1 (hM j x hx)
    rw [h (i + j) h1, h2]
theorem own_cells {w : World} {base n g cap : Nat} {L : List ByteArray} (h : w.ownsRow base 9 1 (.slice (some ⟨g, 0, none⟩) n cap) n (L.map Value.string)) : ∀ j, (hj : j < L.length) → w.cell? ⟨g, j, none⟩ = some (.string L[j]) := fun j hj => by
  have hl : n = L.length := by have := h.1; simp at this; omega
  rw [h.cellAt j (by omega)]
  simp [hj]
theorem lw_less (x s : ByteArray) : Op.bytesLess x.toList s.toList = lw x s := by
  rw [Lib.toList_data, Lib.toList_data, bytesLess_eq]
  rfl
theorem take_while {p : ByteArray → Bool} : ∀ (L : List ByteArray) (i : Nat), (∀ j, (hj : j < L.length) → j < i → p L[j] = true) → i ≤ L.length → (∀ hi : i < L.length, p L[i] = false) → L.takeWhile p = L.take i ∧ L.dropWhile p = L.drop i
  | [], i, _, hi, _ => by simp at hi; subst hi; simp
  | a :: L, 0, _, _, h2 => by
    have := h2 (by simp)
    simp at this
    simp [this]
  | a :: L, i + 1, h1, hi, h2 => by
    have h0 := h1 0 (by simp) (by omega)
    simp at h0
    obtain ⟨e1, e2⟩ := take_while L i (fun j hj hl => h1 (j + 1) (by simpa using hj) (by omega)) (by simpa using hi) (fun hl => h2 (by simpa using hl))
    simp [h0, e1, e2]
theorem put_split (L : List ByteArray) (s : ByteArray) (i : Nat) (h1 : ∀ j, (hj : j < L.length) → j < i → lw L[j] s = true) (hi : i ≤ L.length) (h2 : ∀ hi : i < L.length, lw L[i] s = false) : putK id L s = L.take i ++ s :: L.drop i := by
  obtain ⟨e1, e2⟩ := take_while (p := fun x => lw x s) L i h1 hi h2
  unfold putK
  show List.takeWhile (fun x => lw x s) L ++ s :: List.dropWhile (fun x => lw x s) L = _
  rw [e1, e2]
theorem info9 : (Tryd.prog.info? 9).map (fun i => (i.zero, i.size, i.bytes)) = some (some (.string ⟨#[]⟩), 1, 16) := by kernel_rfl
theorem one_one (v : Value) (h : v.oneCell' = true) : ∀ u ∈ [v], u.oneCell' = true := by
  intro u hu
  simp at hu
  subst hu
  exact h
end Go.Proofs.YtfikkkodepfdkaaDoor
