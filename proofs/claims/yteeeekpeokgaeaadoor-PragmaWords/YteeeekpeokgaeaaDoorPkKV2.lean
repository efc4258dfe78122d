/- The reference's Lines; Same. -/
import Derived.Test.YteeeekpeokgaeaaDoorkKit
import Derived.Test.YteeeekpeokgaeaaDooryWd
namespace Go.Proofs.YteeeekpeokgaeaaDoor.Lns
set_option linter.unusedVariables false
open Go.RowKit Go.ChangeShapes
theorem rlines_zero (ad : Option Addr) (cap : Nat) (w : World) :
    Calls Tryd.prog 20 #[.slice ad 0 cap] w fun e w' => e = .returned (.slice none 0 0) ∧ w' = w := by
  go_enter Tryd.func20, Tryd.ntmps20
  go_wp2
  go_loopg [3, 4, 5] (0) (fun g l f i wr => l = .slice none 0 0 ∧ f = .int .i64 0 ∧ i = .int .i64 0 ∧ wr = w)
  case atStart => exact ⟨rfl, rfl, rfl, rfl⟩
  case round =>
    obtain ⟨rfl, rfl, rfl, rfl⟩ := hrel
    go_wp2_with fail
    go_ret
    exact ⟨rfl, rfl⟩
set_option maxRecDepth 100000 in
set_option maxHeartbeats 2000000 in
theorem rlines_at (s : ByteArray) (b off cap : Nat) (w : World) (hn : s.size ≤ 40000) (hcap : s.size ≤ cap) (hb : By w b off s) :
    Calls Tryd.prog 20 #[.slice (some ⟨b, off, none⟩) s.size cap] w fun e w' => ∃ v, e = .returned v ∧ w'.ownsRow w.heap.size 9 1 v (nL s) (tcells (line s) (nL s)) ∧ Below w.heap.size w w' := by
  have HB : Hid (By w b off s) := hb
  clear hb
  obtain ⟨i0, hi, hz0, hz1, hz2⟩ := info_parts info9
  go_enter Tryd.func20, Tryd.ntmps20
  go_wp2
  go_loopg [3, 4, 5] (s.size) (fun g l f iv wr => ∃ i c : Nat, i ≤ s.size ∧ g = s.size - i ∧ iv = .int .i64 i ∧ f = .int .i64 (S s c) ∧ Hid (LAt s i c) ∧ Hid (wr.ownsRow w.heap.size 9 1 l c (tcells (line s) c)) ∧ Hid (Up w.heap.size w wr))
  case atStart => exact ⟨0, 0, Nat.zero_le _, rfl, rfl, by rw [S_zero]; rfl, LAt.zero s, ⟨rfl, Or.inl ⟨rfl, rfl⟩⟩, Up.refl w⟩
  case round =>
    obtain ⟨i, c, hin, hg, rfl, rfl, HL, HO, HU⟩ := hrel
    have hcl := Nat.le_trans HL.out.1 (nL_le s)
    by_cases hlt : i < s.size
    · have z0 : (0 : Int) ≤ (i : Int) := by omega
      have z1 : (i : Int) < (s.size : Int) := by omega
      have hbt := (HB.out.stay HU.out.1) i hlt
      by_cases h10 : bt s i = 10
      · obtain ⟨he, hl'⟩ := HL.out.newline hlt h10
        have hsc := HL.out.2.1
        have HL1 : Hid (LAt s (i + 1) (c + 1)) := hl'
        have hcv := str_of (bsl_sub (HB.out.stay HU.out.1) (S s c) (i + 1) (by omega) (by omega) (show i + 1 - S s c ≤ cap - S s c by omega))
        rw [show sub s (S s c) (i + 1) = line s c by unfold line; rw [he]] at hcv
        have HS1 : Hid (S s (c + 1) = i + 1) := he
        have HT : Hid (tcells (line s) (c + 1) = tcells (line s) c ++ [.string (line s c)]) := tcells_succ _ _
        unfold bt at h10
        rw [h10] at hbt
        clear he hl' HL h10
        generalize S s c = f at hsc hcv ⊢
        generalize line s c = tx at hcv HT ⊢
        have y1 : (0 : Int) ≤ (f : Int) := by omega
        have y2 : (f : Int) ≤ (i : Int) + 1 := by omega
        have y3 : (i : Int) + 1 ≤ (cap : Int) := by omega
        have y4 : f < cap := by omega
        go_wp2_with (at_builtin; refine wpList_append_own _ rfl _ _ 25 rfl w.heap.size 9 i0 _ 1 16 Tryd.underlying25 hi hz0 hz1 hz2 rfl (by decide) _ _ _ rfl (HO.out.alloc _) ⟨wr.heap.size, 0, none⟩ 1 1 [.string tx] rfl rfl (one_new _ _ _) (one_one _ rfl) (by unfold maxLen; omega) (by omega) (by have := HU.out.2; simp only [World.size_alloc]; omega) ?_)
        intro v' w2 hown2 hgr hnil
        have HO2 : Hid (w2.ownsRow w.heap.size 9 1 v' (c + 1) (tcells (line s) (c + 1))) := by
          show w2.ownsRow _ _ _ _ _ _
          rw [HT.out]; exact hown2
        have HU2 : Hid (Up w.heap.size w w2) := (HU.out.alloc _).grown hgr (own_base HO.out)
        clear hown2 hgr hnil HO HU hcv hbt HT
        go_wp2
        go_roundg (s.size - (i + 1))
        case measure => omega
        case rel => exact ⟨i + 1, c + 1, hlt, rfl, by go_num, by rw [HS1.out]; go_num, HL1, HO2, HU2⟩
      · have HL1 : Hid (LAt s (i + 1) c) := HL.out.other hlt h10
        unfold bt at h10
        have h10' : ¬ (((s.get! i).toNat : Nat) : Int) = 10 := by omega
        go_wp2
        go_roundg (s.size - (i + 1))
        case measure => omega
        case rel => exact ⟨i + 1, c, hlt, rfl, by go_num, rfl, HL1, HO, HU⟩
    · obtain rfl : i = s.size := by omega
      obtain ⟨hl1, hl2⟩ := HL.out.last
      by_cases hf : S s c < s.size
      · have hc1 := hl1 hf
        have hcv := str_of (bsl_sub (HB.out.stay HU.out.1) (S s c) s.size hf (Nat.le_refl _) (show s.size - S s c ≤ cap - S s c by omega))
        rw [show sub s (S s c) s.size = line s c by unfold line; rw [S_big (show nL s ≤ c + 1 by omega)]] at hcv
        have HT : Hid (tcells (line s) (nL s) = tcells (line s) c ++ [.string (line s c)]) := by
          show _ = _
          rw [← hc1]; exact tcells_succ _ _
        have HC1 : Hid (c + 1 = nL s) := hc1
        clear hl1 hl2 hc1
        generalize S s c = f at hf hcv ⊢
        generalize line s c = tx at hcv HT ⊢
        have y0 : (f : Int) < (s.size : Int) := by omega
        have y1 : (0 : Int) ≤ (f : Int) := by omega
        have y2 : (f : Int) ≤ (s.size : Int) := by omega
        have y4 : f < cap := by omega
        go_wp2_with (at_builtin; refine wpList_append_own _ rfl _ _ 25 rfl w.heap.size 9 i0 _ 1 16 Tryd.underlying25 hi hz0 hz1 hz2 rfl (by decide) _ _ _ rfl (HO.out.alloc _) ⟨wr.heap.size, 0, none⟩ 1 1 [.string tx] rfl rfl (one_new _ _ _) (one_one _ rfl) (by unfold maxLen; omega) (by omega) (by have := HU.out.2; simp only [World.size_alloc]; omega) ?_)
        intro v' w2 hown2 hgr hnil
        have HU2 : Hid (Up w.heap.size w w2) := (HU.out.alloc _).grown hgr (own_base HO.out)
        have HO2 : Hid (w2.ownsRow w.heap.size 9 1 v' (nL s) (tcells (line s) (nL s))) := by
          show w2.ownsRow _ _ _ _ _ _
          rw [HT.out, ← HC1.out]; exact hown2
        clear hown2 hgr hnil HO HU hcv
        go_wp2
        go_ret
        exact ⟨_, rfl, HO2.out, HU2.out.1⟩
      · have HC : Hid (c = nL s) := hl2 hf
        have y0 : ¬ ((S s c : Nat) : Int) < (s.size : Int) := by omega
        clear hl1 hl2
        generalize S s c = f at hf y0 ⊢
        go_wp2
        go_ret
        exact ⟨_, rfl, by rw [← HC.out]; exact HO.out, HU.out.1⟩

theorem rlines_any (s : ByteArray) (v : Value) (w : World) (hn : s.size ≤ 40000) (h : BSl w v s) :
    Calls Tryd.prog 20 #[v] w fun e w' => ∃ v, e = .returned v ∧ w'.ownsRow w.heap.size 9 1 v (nL s) (tcells (line s) (nL s)) ∧ Below w.heap.size w w' := by
  rcases h with ⟨ad, c, rfl, h⟩ | ⟨b, off, c, rfl, h1, h2, h⟩
  · refine (rlines_zero ad c w).mono ?_
    rintro e w' ⟨rfl, rfl⟩
    rw [nL_zero h]
    exact ⟨_, rfl, World.ownsRow_nil _ _ _ _, Below.refl _ _⟩
  · exact rlines_at s b off c w hn h2 h
/-- A slice of texts. -/
def TSl (w : World) (v : Value) (k : Nat) (F : Nat → ByteArray) : Prop := (∃ ad c, v = .slice ad 0 c ∧ k = 0) ∨ ∃ g c, v = .slice (some ⟨g, 0, none⟩) k c ∧ ∀ i, i < k → w.cell? ⟨g, i, none⟩ = some (.string (F i))
theorem TSl.stay {w w' : World} {v : Value} {k : Nat} {F : Nat → ByteArray} (h : TSl w v k F) (hb : Below w.heap.size w w') : TSl w' v k F := by
  rcases h with h | ⟨b, c, rfl, h⟩
  · exact Or.inl h
  · exact Or.inr ⟨b, c, rfl, fun j hj => cell_stay (h j hj) hb⟩
theorem TSl.form {w : World} {v : Value} {k : Nat} {F : Nat → ByteArray} (h : TSl w v k F) : ∃ ad c, v = .slice ad k c := by
  rcases h with ⟨ad, c, rfl, rfl⟩ | ⟨b, c, rfl, _⟩
  · exact ⟨ad, c, rfl⟩
  · exact ⟨_, c, rfl⟩
theorem tsl_own {w : World} {base k : Nat} {v : Value} {F : Nat → ByteArray} (h : w.ownsRow base 9 1 v k (tcells F k)) : TSl w v k F := by
  have h0 := h
  obtain ⟨hl, ⟨rfl, rfl⟩ | ⟨g, cap, cur, rfl, hg, hh, h3⟩⟩ := h
  · exact Or.inl ⟨none, 0, rfl, rfl⟩
  · exact Or.inr ⟨g, cap, rfl, fun i hi => by rw [h0.cellAt i (by omega)]; exact tcells_at F k i hi⟩
end Go.Proofs.YteeeekpeokgaeaaDoor.Lns
/- Rules in memory. -/
namespace Go.Proofs.YteeeekpeokgaeaaDoor
set_option linter.unusedVariables false
open Go.RowKit Go.ChangeShapes Tns
theorem tl_ne {A B : ByteArray} {l : List UInt8} (hB : B.toList = l) (h : ¬ A = B) : (A.toList == l) = false := by
  rw [← hB]
  exact beq_eq_false_iff_ne.2 (fun e => h (Lns.toList_inj e))
theorem tl_eq {A B : ByteArray} {l : List UInt8} (hB : B.toList = l) (h : A = B) : (A.toList == l) = true := by
  rw [h, hB]
  exact beq_self_eq_true _
theorem sMark_l : sMark.toList = [115, 112, 101, 108, 108, 58] := by unfold sMark; go_simp
theorem sOff_l : sOff.toList = [111, 102, 102] := by unfold sOff; go_simp
theorem sLine_l : sLine.toList = [108, 105, 110, 101] := by unfold sLine; go_simp
theorem sOn_l : sOn.toList = [111, 110] := by unfold sOn; go_simp
theorem sNext_l : sNext.toList = [110, 101, 120, 116] := by unfold sNext; go_simp
theorem sWords_l : sWords.toList = [119, 111, 114, 100, 115] := by unfold sWords; go_simp
theorem own_frm3 {w : World} {base e size n : Nat} {v : Value} {xs : List Value} (h : w.ownsRow base e size v n xs) : ∃ a m c, v = .slice a m c := by
  obtain ⟨_, ⟨rfl, _⟩ | ⟨g, c, u, rfl, _⟩⟩ := h
  · exact ⟨_, _, _, rfl⟩
  · exact ⟨_, _, _, rfl⟩
/-- Spans as cells. -/
def spC (l : List (Nat × Nat)) : List Value := l.flatMap fun p => [.int .i64 (p.1 : Int), .int .i64 (p.2 : Int)]
theorem spC_app (l m : List (Nat × Nat)) : spC (l ++ m) = spC l ++ spC m := by simp [spC]
theorem spC_len : ∀ l : List (Nat × Nat), (spC l).length = l.length * 2
  | [] => rfl
  | p :: l => by
    show (([.int .i64 (p.1 : Int), .int .i64 (p.2 : Int)] : List Value) ++ spC l).length = (l.length + 1) * 2
    rw [List.length_append, spC_len l]
    show 2 + _ = _
    omega
theorem spC_at : ∀ (l : List (Nat × Nat)) (i : Nat) (p : Nat × Nat), l[i]? = some p → (spC l)[i * 2]? = some (.int .i64 (p.1 : Int)) ∧ (spC l)[i * 2 + 1]? = some (.int .i64 (p.2 : Int))
  | [], i, p, h => by simp at h
  | x :: l, 0, p, h => by
    obtain rfl : x = p := by simpa using h
    exact ⟨rfl, rfl⟩
  | x :: l, i + 1, p, h => by
    have h' : l[i]? = some p := by simpa using h
    obtain ⟨h1, h2⟩ := spC_at l i p h'
    have e : ∀ j, (spC (x :: l))[(i * 2 + j) + 2]? = (spC l)[i * 2 + j]? := fun j => by
      show ([_, _] ++ spC l)[(i * 2 + j) + 2]? = _
      rw [List.getElem?_append_right (by show 2 ≤ _; omega)]
      congr 1
    exact ⟨by rw [← h1, show (i + 1) * 2 = i * 2 + 0 + 2 by omega, e 0]; rfl, by rw [← h2, show (i + 1) * 2 + 1 = i * 2 + 1 + 2 by omega, e 1]⟩
/-- Spans in a row of their own. -/
def SpR (w : World) (base : Nat) (v : Value) (l : List (Nat × Nat)) : Prop := w.ownsRow base 36 2 v l.length (spC l)
theorem infoSp : (Tryd.prog.info? 36).map (fun i => (i.zero, i.size, i.bytes)) = some (some (.agg #[.int .i64 0, .int .i64 0]), 2, 16) := by kernel_rfl
/-- Two rows of other kinds lie in other blocks. -/
theorem own_oth {w : World} {b1 b2 e1 e2 s1 s2 n1 n2 : Nat} {v1 v2 : Value} {x1 x2 : List Value} (h1 : w.ownsRow b1 e1 s1 v1 n1 x1) (h2 : w.ownsRow b2 e2 s2 v2 n2 x2) (he : e1 ≠ e2) : v1.ownBlock = none ∨ v1.ownBlock ≠ v2.ownBlock := by
  obtain ⟨_, ⟨rfl, _⟩ | ⟨g1, c1, u1, rfl, _, hh1, _⟩⟩ := h1
  · exact Or.inl rfl
  · obtain ⟨_, ⟨rfl, _⟩ | ⟨g2, c2, u2, rfl, _, hh2, _⟩⟩ := h2
    · exact Or.inr (by simp [Value.ownBlock])
    · refine Or.inr (fun e => ?_)
      simp only [Value.ownBlock, Option.some.injEq] at e
      subst e
      rw [hh1] at hh2
      cases hh2
      exact he rfl
/-- A row lies elsewhere than what is no row of its kind. -/
theorem own_ne {w : World} {R : Nat} {cs : Array Value} {T base e size n : Nat} {v : Value} {xs : List Value} (hR : w.heap[R]? = some (.cells cs T)) (h : w.ownsRow base e size v n xs) (hT : T ≠ e) : some R ≠ v.ownBlock := by
  obtain ⟨_, ⟨rfl, _⟩ | ⟨g, c, u, rfl, _, hh, _⟩⟩ := h
  · simp [Value.ownBlock]
  · intro e1
    simp only [Value.ownBlock, Option.some.injEq] at e1
    subst e1
    rw [hR] at hh
    cases hh
    exact hT rfl
theorem own_put {w : World} {R i : Nat} {u : Value} {base e size n : Nat} {v : Value} {xs : List Value} (h : w.ownsRow base e size v n xs) (hne : some R ≠ v.ownBlock) : (w.setCell ⟨R, i, none⟩ u).ownsRow base e size v n xs := by
  obtain ⟨hl, ⟨rfl, rfl⟩ | ⟨g, cap, cur, rfl, hg, hh, h3⟩⟩ := h
  · exact ⟨hl, Or.inl ⟨rfl, rfl⟩⟩
  · have hgR : g ≠ R := fun e1 => hne (by simp [Value.ownBlock, e1])
    exact ⟨hl, Or.inr ⟨g, cap, cur, rfl, hg, by rw [Below.heap_setCell w ⟨R, i, none⟩ u g hgR]; exact hh, h3⟩⟩
theorem cells_set {w : World} {b : Nat} {cs : Array Value} {T : TypeId} (h : w.heap[b]? = some (.cells cs T)) (i : Nat) (v : Value) : (w.setCell ⟨b, i, none⟩ v).heap[b]? = some (.cells (cs.setIfInBounds i v) T) := by
  obtain ⟨hlt, he⟩ := Array.getElem?_eq_some_iff.1 h
  show (w.heap.modify b _)[b]? = _
  rw [Array.getElem?_eq_getElem (by rw [Array.size_modify]; exact hlt), Array.getElem_modify_self, he]
  simp
theorem cells_oth {w : World} {b R i : Nat} {cs : Array Value} {T : TypeId} {u : Value} (h : w.heap[b]? = some (.cells cs T)) (hne : b ≠ R) : (w.setCell ⟨R, i, none⟩ u).heap[b]? = some (.cells cs T) := by
  rw [Below.heap_setCell w ⟨R, i, none⟩ u b hne]
  exact h
theorem up_set {a w : World} {B R i : Nat} {u : Value} (h : Up B a w) (hR : B ≤ R) : Up B a (w.setCell ⟨R, i, none⟩ u) :=
  ⟨h.1.setCell hR _, by have := h.2; simp only [World.setCell, Array.size_modify]; exact this⟩
/-- The reference's rules: where its two rows are named; what was there stays. -/
def RM (w0 w1 w : World) (R : Nat) (va vb : Value) (rows : List (Nat × Nat)) (ws : List ByteArray) : Prop :=
  (Up w0.heap.size w0 w ∧ w0.heap.size ≤ w1.heap.size ∧ w1.heap.size ≤ w.heap.size) ∧ (w0.heap.size ≤ R) ∧ (∀ k, k < w1.heap.size → k ≠ R → w.heap[k]? = w1.heap[k]?) ∧ w.heap[R]? = some (.cells #[va, vb] 32) ∧ SpR w w1.heap.size va rows ∧ SS w w1.heap.size vb ws
theorem RM.lt {w0 w1 w : World} {R : Nat} {va vb : Value} {rows : List (Nat × Nat)} {ws : List ByteArray} (h : RM w0 w1 w R va vb rows ws) : R < w.heap.size :=
  (Array.getElem?_eq_some_iff.1 h.2.2.2.1).1
theorem RM.stay {w0 w1 w w' : World} {R : Nat} {va vb : Value} {rows : List (Nat × Nat)} {ws : List ByteArray} (h : RM w0 w1 w R va vb rows ws) (hb : Below w.heap.size w w') : RM w0 w1 w' R va vb rows ws := by
  have hl := h.lt
  obtain ⟨⟨h1, h0, h7⟩, h2, h3, h4, h5, h6⟩ := h
  exact ⟨⟨h1.stay hb, h0, Nat.le_trans h7 hb.size⟩, h2, fun k hk hn => by rw [hb.block k (by omega)]; exact h3 k hk hn, by rw [hb.block R hl]; exact h4, own_stay h5 hb, own_stay h6 hb⟩
theorem RM.cells {w0 w1 w : World} {R : Nat} {va vb : Value} {rows : List (Nat × Nat)} {ws : List ByteArray} (h : RM w0 w1 w R va vb rows ws) : w.cell? ⟨R, 0, none⟩ = some va ∧ w.cell? ⟨R, 1, none⟩ = some vb ∧ w.frozen? ⟨R, 0, none⟩ = false ∧ w.frozen? ⟨R, 1, none⟩ = false := by
  have h4 := h.2.2.2.1
  refine ⟨?_, ?_, ?_, ?_⟩ <;> simp [World.cell?, World.frozen?, h4]
theorem RM.old {w0 w1 w : World} {R : Nat} {va vb : Value} {rows : List (Nat × Nat)} {ws : List ByteArray} (h : RM w0 w1 w R va vb rows ws) {a : Addr} {u : Value} (ha : w1.cell? a = some u) (hR : a.block ≠ R) : w.cell? a = some u := by
  have hl := World.block_lt_of_cell? w1 _ ha
  have e := h.2.2.1 a.block hl hR
  rw [← ha]
  exact World.cell?_of_block e
theorem grown_size {w w' : World} {row : Option Nat} (h : w.grownBy w' row) : w.heap.size ≤ w'.heap.size := h.size
/-- Behind an append to the lines. -/
theorem RM.rows {w0 w1 w w3 : World} {R : Nat} {va vb v' : Value} {rows rows' : List (Nat × Nat)} {ws : List ByteArray} (h : RM w0 w1 w R va vb rows ws) (hg : w.grownBy w3 va.ownBlock) (hr : SpR w3 w1.heap.size v' rows') : RM w0 w1 (w3.setCell ⟨R, 0, none⟩ v') R v' vb rows' ws := by
  have hl := h.lt
  obtain ⟨⟨h1, h0, h7⟩, h2, h3, h4, h5, h6⟩ := h
  have q1 := own_ne h4 h5 (by decide)
  have hb := own_base h5
  have e4 : w3.heap[R]? = some (.cells #[va, vb] 32) := by rw [hg.block R hl q1]; exact h4
  have e6 : SS w3 w1.heap.size vb ws := World.ownsRow.kept h6 hg (own_oth h6 h5 (by decide))
  refine ⟨⟨up_set (h1.grown hg (fun k hk => Nat.le_trans h0 (hb k hk))) h2, h0, ?_⟩, h2, fun k hk hn => ?_, ?_, own_put hr (own_ne e4 hr (by decide)), own_put e6 (own_ne e4 e6 (by decide))⟩
  · simp only [World.setCell, Array.size_modify]
    exact Nat.le_trans h7 hg.size
  · rw [Below.heap_setCell w3 ⟨R, 0, none⟩ v' k hn, hg.block k (by omega) (fun e => by have := hb k e.symm; omega)]
    exact h3 k hk hn
  · rw [cells_set e4]
    rfl
/-- Behind an append to the words. -/
theorem RM.words {w0 w1 w w3 : World} {R : Nat} {va vb v' : Value} {rows : List (Nat × Nat)} {ws ws' : List ByteArray} (h : RM w0 w1 w R va vb rows ws) (hg : w.grownBy w3 vb.ownBlock) (hr : SS w3 w1.heap.size v' ws') : RM w0 w1 (w3.setCell ⟨R, 1, none⟩ v') R va v' rows ws' := by
  have hl := h.lt
  obtain ⟨⟨h1, h0, h7⟩, h2, h3, h4, h5, h6⟩ := h
  have q1 := own_ne h4 h6 (by decide)
  have hb := own_base h6
  have e4 : w3.heap[R]? = some (.cells #[va, vb] 32) := by rw [hg.block R hl q1]; exact h4
  have e5 : SpR w3 w1.heap.size va rows := World.ownsRow.kept h5 hg (own_oth h5 h6 (by decide))
  refine ⟨⟨up_set (h1.grown hg (fun k hk => Nat.le_trans h0 (hb k hk))) h2, h0, ?_⟩, h2, fun k hk hn => ?_, ?_, own_put e5 (own_ne e4 e5 (by decide)), own_put hr (own_ne e4 hr (by decide))⟩
  · simp only [World.setCell, Array.size_modify]
    exact Nat.le_trans h7 hg.size
  · rw [Below.heap_setCell w3 ⟨R, 1, none⟩ v' k hn, hg.block k (by omega) (fun e => by have := hb k e.symm; omega)]
    exact h3 k hk hn
  · rw [cells_set e4]
    rfl
/-- The tables that all of it reads. -/
def PT (w : World) : Prop := Lns.Tabs w ∧ ∃ m : Int, w.cell? ⟨0, 0, none⟩ = some (.int .i64 m)
theorem PT.stay {w w' : World} (h : PT w) (hb : Below w.heap.size w w') : PT w' := by
  obtain ⟨h1, m, h2⟩ := h
  exact ⟨Lns.tabs_stay h1 hb, m, cell_stay h2 hb⟩
end Go.Proofs.YteeeekpeokgaeaaDoor
