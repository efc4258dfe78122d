/- trie.step. -/
import Derived.Test.YtfikkkodepfdkaaDoortGrow
import Derived.Deep.DeepCutAuto
namespace Go.Proofs.YtfikkkodepfdkaaDoor
set_option linter.unusedVariables false
open Go.RowKit Go.ChangeShapes
/-- What the trie's cells hold at a node. -/
theorem TrieM.at {w : World} {base T m : Nat} {vN : Value} {l : List Nd} (h : TrieM w base T m vN l) {i : Nat} {n : Nd} (hn : l[i]? = some n) :
    ∃ g cap, vN = .slice (some ⟨g, 0, none⟩) l.length cap ∧ w.cell? ⟨T, 0, none⟩ = some (.int .i64 (m : Int)) ∧ w.cell? ⟨T, 1, none⟩ = some vN ∧
      w.cell? ⟨g, i * 3, none⟩ = some n.r ∧ w.cell? ⟨g, i * 3 + 1, none⟩ = some n.k ∧ w.cell? ⟨g, i * 3 + 2, none⟩ = some (.bool n.p.e) := by
  have hi : i < l.length := (List.getElem?_eq_some_iff.1 hn).1
  obtain ⟨g, cap, rfl, _, _⟩ := h.nodes.form (by omega)
  obtain ⟨a, b, c⟩ := ndC_at l i n hn
  refine ⟨g, cap, rfl, ?_, ?_, ?_, ?_, ?_⟩
  · rw [cell_of_row w T 0 _ _ _ h.blk]; rfl
  · rw [cell_of_row w T 1 _ _ _ h.blk]; rfl
  · rw [h.nodes.cellAt _ (by omega)]; exact a
  · rw [h.nodes.cellAt _ (by omega)]; exact b
  · rw [h.nodes.cellAt _ (by omega)]; exact c
theorem step_old {w : World} {base T m : Nat} {vN : Value} {l : List Nd} (h : TrieM w base T m vN l) {i : Nat} {n : Nd} (hn : l[i]? = some n) (h63 : l.length ≤ 1000000) (R : List Int) (r : Int) (hR : n.p.R = R ++ [r]) (K : List Nat) (c : Nat) (hK : n.p.K = K ++ [c]) (hl : R.length = K.length) (hRl : R.length ≤ 1000000) :
    Calls Tryd.prog 47 #[.pointer (some ⟨T, 0, none⟩), .int .i64 (i : Int), .int .i32 r] w fun e w' => e = .returned (.int .i64 (c : Int)) ∧ w' = w := by
  have hi : i < l.length := (List.getElem?_eq_some_iff.1 hn).1
  obtain ⟨g, cap, rfl, c0, c1, c2, c3, c4⟩ := h.at hn
  have hr := h.rr i n hn
  have hk := h.kk i n hn
  rw [hR] at hr
  rw [hK] at hk
  rw [List.length_append] at hr hk
  obtain ⟨gr, cr, er, _, _⟩ := hr.form (by simp)
  obtain ⟨gk, ck, ek, _, _⟩ := hk.form (by simp)
  rw [er] at hr c2
  rw [ek] at hk c3
  have d1 := hr.cellAt R.length (by simp)
  have d2 := hk.cellAt K.length (by simp)
  rw [List.map_append, List.getElem?_append_right (by simp)] at d1 d2
  simp only [List.length_map, Nat.sub_self, List.map_cons, List.getElem?_cons_zero, i32c, i64c, List.length_cons, List.length_nil] at d1 d2 c2 c3
  rw [← hl] at d2 c3
  clear hr hk er ek hn h hR hK hl
  generalize R.length = q at d1 d2 c2 c3 hRl
  rw [show q + (0 + 1) = q + 1 by omega] at c2 c3
  have z1 : ((i : Nat) : Int) < (l.length : Int) := by omega
  have z2 : (0 : Int) ≤ (i : Int) := by omega
  have z3 : ((q + 1 : Nat) : Int) - 1 = (q : Int) := by omega
  have z4 : (q : Int) < ((q + 1 : Nat) : Int) := by omega
  have z5 : (0 : Int) ≤ (q : Int) := by omega
  go_enter Tryd.func47, Tryd.ntmps47
  go_wp2
  go_ret
  exact ⟨rfl, rfl⟩
theorem infoI : (Tryd.prog.info? 3).map (fun i => (i.zero, i.size, i.bytes)) = some (some (.int .i64 0), 1, 8) := by kernel_rfl
theorem infoN : (Tryd.prog.info? 70).map (fun i => (i.zero, i.size, i.bytes)) = some (some (.agg #[.slice none 0 0, .slice none 0 0, .bool false]), 3, 56) := by kernel_rfl
theorem TrieM.cells2 {w : World} {base T m g q c : Nat} {l : List Nd} (h : TrieM w base T m (.slice (some ⟨g, 0, none⟩) q c) l) {i : Nat} {n : Nd} (hn : l[i]? = some n) :
    w.cell? ⟨T, 0, none⟩ = some (.int .i64 (m : Int)) ∧ w.cell? ⟨T, 1, none⟩ = some (.slice (some ⟨g, 0, none⟩) q c) ∧ w.cell? ⟨g, i * 3, none⟩ = some n.r ∧ w.cell? ⟨g, i * 3 + 1, none⟩ = some n.k ∧ w.cell? ⟨g, i * 3 + 2, none⟩ = some (.bool n.p.e) ∧
      (∀ j, w.frozen? ⟨g, j, none⟩ = false) ∧ (∀ j, w.frozen? ⟨T, j, none⟩ = false) ∧ q = l.length := by
  obtain ⟨g', cap, e, c0, c1, c2, c3, c4⟩ := h.at hn
  injection e with e1 e2 e3
  injection e1 with e1
  injection e1 with e1 _ _
  subst e1 e2 e3
  exact ⟨c0, c1, c2, c3, c4, fun j => h.nodes.frozenAt j, fun j => frozen_of_row w T j _ _ h.blk, rfl⟩
theorem TrieM.far1 {w w1 : World} {base T m g q c : Nat} {l : List Nd} (h : TrieM w base T m (.slice (some ⟨g, 0, none⟩) q c) l) {o : Obj} {v : Value} {b e s n : Nat} {xs : List Value} (hv : w.ownsRow b e s v n xs) (hg : (w.alloc o).grownBy w1 v.ownBlock) :
    (e ≠ 70 → w1.heap[g]? = w.heap[g]?) ∧ (e ≠ 57 → w1.heap[T]? = w.heap[T]?) := by
  have hlt := h.nodes.lt g rfl
  have hltT := lt_of_heap h.blk
  have hsz : (w.alloc o).heap.size = w.heap.size + 1 := by simp
  refine ⟨fun he => ?_, fun he => ?_⟩
  · exact (hg.block g (by omega) (fun e1 => own_type hv h.nodes he g e1.symm rfl)).trans ((World.grownBy_alloc w o none).block g hlt.2 (by simp))
  · exact (hg.block T (by omega) (fun e1 => own_blk hv h.blk he e1.symm)).trans ((World.grownBy_alloc w o none).block T hltT (by simp))
theorem one_new {w : World} {v : Value} {B : Nat} {o : Obj} (ho : o = .cells #[v] B) : ∀ j u, [v][j]? = some u → (w.alloc o).cell? ((⟨w.heap.size, 0, none⟩ : Addr).add j) = some u := by
  subst ho
  exact World.news_of_block (heap_alloc_new w _)
theorem oneCell_i32 (r : Int) : ∀ u ∈ [Value.int .i32 r], u.oneCell' = true := by
  intro u hu
  simp at hu
  rw [hu]; rfl
theorem oneCell_i64 (r : Int) : ∀ u ∈ [Value.int .i64 r], u.oneCell' = true := by
  intro u hu
  simp at hu
  rw [hu]; rfl
theorem oneCell_slices : ∀ u ∈ [Value.slice none 0 0, .slice none 0 0, .bool false], u.oneCell' = true := by
  intro u hu
  simp at hu
  rcases hu with rfl | rfl <;> rfl
set_option maxHeartbeats 1000000 in
set_option maxRecDepth 100000 in
theorem step_new {w : World} {base T m : Nat} {vN : Value} {l : List Nd} (h : TrieM w base T m vN l) {i : Nat} {nr nk : Value} {R0 : List Int} {K0 : List Nat} {e0 : Bool} (hn : l[i]? = some ⟨nr, nk, ⟨R0, K0, e0⟩⟩) (h63 : l.length ≤ 1000000) (r : Int) (hKl : K0.length ≤ 1000000) (hRl : R0.length ≤ 1000000) (hR : R0.getLast? ≠ some r) (hb : base ≤ w.heap.size) :
    Calls Tryd.prog 47 #[.pointer (some ⟨T, 0, none⟩), .int .i64 (i : Int), .int .i32 r] w fun e w' => ∃ vN' rv kv, e = .returned (.int .i64 (l.length : Int)) ∧
      TrieM w' base T m vN' (l.set i ⟨rv, kv, ⟨R0 ++ [r], K0 ++ [l.length], e0⟩⟩ ++ [nd0]) ∧ Went w w' (Foot T vN l) (Foot T vN' (l.set i ⟨rv, kv, ⟨R0 ++ [r], K0 ++ [l.length], e0⟩⟩ ++ [nd0])) := by
  have hi : i < l.length := (List.getElem?_eq_some_iff.1 hn).1
  obtain ⟨g, cap, rfl, -⟩ := h.at hn
  obtain ⟨c0, c1, c2, c3, c4, f1, -, -⟩ := h.cells2 hn
  replace f1 : Hid (∀ j, w.frozen? ⟨g, j, none⟩ = false) := f1
  dsimp only at c2 c3 c4
  have HR : Hid (w.ownsRow base 21 1 nr R0.length (R0.map i32c)) := h.rr i _ hn
  have HK : Hid (w.ownsRow base 3 1 nk K0.length (K0.map i64c)) := h.kk i _ hn
  have z1 : ((i : Nat) : Int) < (l.length : Int) := by omega
  have z2 : (0 : Int) ≤ (i : Int) := by omega
  obtain ⟨i1, hi1, hz0, hz1, hz2⟩ := info_parts info21
  obtain ⟨i2, hi2, hy0, hy1, hy2⟩ := info_parts infoI
  obtain ⟨i3, hi3, hx0, hx1, hx2⟩ := info_parts infoN
  have H : Hid (TrieM w base T m (.slice (some ⟨g, 0, none⟩) l.length cap) l) := h
  clear h
  rcases List.eq_nil_or_concat R0 with hR0 | ⟨R, x, hR0⟩
  · obtain ⟨cr, ad, rfl⟩ : ∃ cr ad, nr = .slice ad 0 cr := by
      have h0 := HR.out
      rw [hR0] at h0
      obtain ⟨_, ⟨e, _⟩ | ⟨g1, c1, _, e, _⟩⟩ := h0
      · exact ⟨_, _, e⟩
      · exact ⟨_, _, e⟩
    clear hR0 hR
    go_enter Tryd.func47, Tryd.ntmps47
    go_upto_region 6 with fail
    go_wp2_with (at_builtin; refine wpList_append_lies _ rfl _ _ 37 rfl base 21 i1 _ 1 4 Tryd.underlying37 hi1 hz0 hz1 hz2 rfl (by decide) _ _ _ rfl (HR.out.alloc _) ⟨w.heap.size, 0, none⟩ 1 1 [.int .i32 r] rfl rfl (World.news_of_block (heap_alloc_new _ _)) (oneCell_i32 r) (by omega) (by unfold maxLen; omega) (by omega) (by simp; omega) (w.heap.size + 1) (by simp) ?_)
    intro g1 cap1 w1 ho1 hg1 ha1 _
    have ho1' : w1.ownsRow base 21 1 (.slice (some ⟨g1, 0, none⟩) (R0.length + 1) cap1) (R0.length + 1) ((R0 ++ [r]).map i32c) := by rw [List.map_append]; exact ho1
    have b1 := (H.out.far1 HR.out hg1).1 (by decide)
    have e1 := (World.cell?_of_block (a := ⟨g, i * 3, none⟩) b1).trans c2
    have e2 := (World.frozen?_of_block (a := ⟨g, i * 3, none⟩) b1).trans (f1.out _)
    obtain ⟨HT2, HW2⟩ := H.out.putR hn (by simp) ho1' hg1 ha1
    dsimp only at HT2 HW2
    have H2 : Hid (TrieM _ _ _ _ _ _) := HT2
    have W2 : Hid (Went _ _ _ _) := HW2
    clear HT2 HW2 ho1 ho1' hg1 ha1 b1 c0 c1 c2 c3 c4
    go_upto_region 7 with fail
    generalize w1.setCell ⟨g, i * 3, none⟩ (.slice (some ⟨g1, 0, none⟩) (R0.length + 1) cap1) = w2 at *
    clear e1 e2
    have hn2 : (l.set i ⟨.slice (some ⟨g1, 0, none⟩) (R0.length + 1) cap1, nk, ⟨R0 ++ [r], K0, e0⟩⟩)[i]? = some ⟨.slice (some ⟨g1, 0, none⟩) (R0.length + 1) cap1, nk, ⟨R0 ++ [r], K0, e0⟩⟩ := by rw [List.getElem?_set_self hi]
    obtain ⟨-, c1, c2, c3, -, f3, -, -⟩ := H2.out.cells2 hn2
    dsimp only at c2 c3
    have F3 : Hid _ := f3
    clear f3
    have HK2 : Hid (w2.ownsRow base 3 1 nk K0.length (K0.map i64c)) := H2.out.kk i _ hn2
    have s2 := W2.out.size
    go_wp2_with (at_builtin; refine wpList_append_lies _ rfl _ _ 50 rfl base 3 i2 _ 1 8 Tryd.underlying50 hi2 hy0 hy1 hy2 rfl (by decide) _ _ _ rfl (HK2.out.alloc _) ⟨w2.heap.size, 0, none⟩ 1 1 [.int .i64 (l.length : Int)] rfl rfl (World.news_of_block (heap_alloc_new _ _)) (oneCell_i64 _) (by omega) (by unfold maxLen; omega) (by omega) (by simp; omega) (w2.heap.size + 1) (by simp) ?_)
    intro g2 cap2 w3 ho2 hg2 ha2 _
    have ho2' : w3.ownsRow base 3 1 (.slice (some ⟨g2, 0, none⟩) (K0.length + 1) cap2) (K0.length + 1) ((K0 ++ [l.length]).map i64c) := by rw [List.map_append]; exact ho2
    have b1 := (H2.out.far1 HK2.out hg2).1 (by decide)
    have e1 := (World.cell?_of_block (a := ⟨g, i * 3 + 1, none⟩) b1).trans c3
    have e2 := (World.frozen?_of_block (a := ⟨g, i * 3 + 1, none⟩) b1).trans (F3.out _)
    obtain ⟨HT3, HW3⟩ := H2.out.putK hn2 (by simp) ho2' hg2 ha2
    rw [List.set_set] at HT3 HW3
    dsimp only at HT3 HW3
    have H3 : Hid (TrieM _ _ _ _ _ _) := HT3
    have W3 : Hid (Went _ _ _ _) := W2.out.trans HW3
    clear HT3 HW3 ho2 ho2' hg2 ha2 b1 c1 c2 c3 H2 W2 F3 HK2 hn2
    go_upto_region 8 with fail
    generalize w3.setCell ⟨g, i * 3 + 1, none⟩ (.slice (some ⟨g2, 0, none⟩) (K0.length + 1) cap2) = w4 at *
    clear e1 e2
    have hn3 : (l.set i ⟨.slice (some ⟨g1, 0, none⟩) (R0.length + 1) cap1, .slice (some ⟨g2, 0, none⟩) (K0.length + 1) cap2, ⟨R0 ++ [r], K0 ++ [l.length], e0⟩⟩)[i]? = some ⟨.slice (some ⟨g1, 0, none⟩) (R0.length + 1) cap1, .slice (some ⟨g2, 0, none⟩) (K0.length + 1) cap2, ⟨R0 ++ [r], K0 ++ [l.length], e0⟩⟩ := by rw [List.getElem?_set_self hi]
    obtain ⟨-, c1, -, -, -, -, f3, -⟩ := H3.out.cells2 hn3
    have F3 : Hid _ := f3
    clear f3
    have HN : Hid (w4.ownsRow base 70 3 (.slice (some ⟨g, 0, none⟩) l.length cap) l.length (ndC (l.set i ⟨.slice (some ⟨g1, 0, none⟩) (R0.length + 1) cap1, .slice (some ⟨g2, 0, none⟩) (K0.length + 1) cap2, ⟨R0 ++ [r], K0 ++ [l.length], e0⟩⟩))) := by have := H3.out.nodes; rw [List.length_set] at this; exact this
    have s2 := W3.out.size
    go_wp2_with (at_builtin; refine wpList_append_lies _ rfl _ _ 55 rfl base 70 i3 _ 3 56 Tryd.underlying55 hi3 hx0 hx1 hx2 rfl (by decide) _ _ _ rfl (HN.out.alloc _) ⟨w4.heap.size, 0, none⟩ 1 1 [.slice none 0 0, .slice none 0 0, .bool false] rfl rfl (World.news_of_block (heap_alloc_new _ _)) oneCell_slices (by omega) (by unfold maxLen; omega) (by omega) (by simp; omega) (w4.heap.size + 1) (by simp) ?_)
    intro g3 cap3 w5 ho3 hg3 ha3 _
    have b1 := (H3.out.far1 HN.out hg3).2 (by decide)
    have e1 := (World.cell?_of_block (a := ⟨T, 1, none⟩) b1).trans c1
    have e2 := (World.frozen?_of_block (a := ⟨T, 1, none⟩) b1).trans (F3.out _)
    obtain ⟨HT4, HW4⟩ := H3.out.grow (by rw [List.length_set]) ho3 hg3 ha3
    have H4 : Hid (TrieM _ _ _ _ _ _) := HT4
    have W4 : Hid (Went _ _ _ _) := W3.out.trans HW4
    clear HT4 HW4 ho3 hg3 ha3 b1 c1 H3 W3 F3 HN hn3
    go_wp2
    go_ret
    exact ⟨_, _, _, rfl, H4, W4⟩
  · have hx : (x == r) = false := by
      rw [hR0, List.concat_eq_append, List.getLast?_append] at hR
      simpa using hR
    have hq : R0.length = R.length + 1 := by rw [hR0]; simp
    obtain ⟨gr, cr, enr, -, -⟩ := HR.out.form (by omega)
    have d0 := HR.out
    rw [enr] at d0
    have d1 := d0.cellAt R.length (by omega)
    clear d0
    rw [hR0, List.concat_eq_append, List.map_append, List.getElem?_append_right (by simp)] at d1
    simp only [List.length_map, Nat.sub_self, List.map_cons, List.getElem?_cons_zero, i32c] at d1
    rw [hq] at enr
    subst enr
    have hq' : R.length + 1 ≤ R0.length := by omega
    have hq2 : R.length ≤ 1000000 := by omega
    clear hR0 hR
    generalize R.length = q at *
    have z3 : ((q + 1 : Nat) : Int) - 1 = (q : Int) := by omega
    have z4 : (q : Int) < ((q + 1 : Nat) : Int) := by omega
    have z5 : (0 : Int) ≤ (q : Int) := by omega
    have z6 : ¬ x = r := by simpa using hx
    have HQ : Hid (R0.length = q + 1) := hq
    clear hq hq'
    go_enter Tryd.func47, Tryd.ntmps47
    go_upto_region 6 with fail
    go_wp2_with (at_builtin; refine wpList_append_lies _ rfl _ _ 37 rfl base 21 i1 _ 1 4 Tryd.underlying37 hi1 hz0 hz1 hz2 rfl (by decide) _ _ _ rfl (HR.out.alloc _) ⟨w.heap.size, 0, none⟩ 1 1 [.int .i32 r] rfl rfl (World.news_of_block (heap_alloc_new _ _)) (oneCell_i32 r) (by omega) (by unfold maxLen; omega) (by omega) (by simp; omega) (w.heap.size + 1) (by simp) ?_)
    intro g1 cap1 w1 ho1 hg1 ha1 _
    have ho1' : w1.ownsRow base 21 1 (.slice (some ⟨g1, 0, none⟩) (R0.length + 1) cap1) (R0.length + 1) ((R0 ++ [r]).map i32c) := by rw [List.map_append]; exact ho1
    have b1 := (H.out.far1 HR.out hg1).1 (by decide)
    have e1 := (World.cell?_of_block (a := ⟨g, i * 3, none⟩) b1).trans c2
    have e2 := (World.frozen?_of_block (a := ⟨g, i * 3, none⟩) b1).trans (f1.out _)
    obtain ⟨HT2, HW2⟩ := H.out.putR hn (by simp) ho1' hg1 ha1
    dsimp only at HT2 HW2
    have H2 : Hid (TrieM _ _ _ _ _ _) := HT2
    have W2 : Hid (Went _ _ _ _) := HW2
    clear HT2 HW2 ho1 ho1' hg1 ha1 b1 c0 c1 c2 c3 c4
    go_upto_region 7 with fail
    generalize w1.setCell ⟨g, i * 3, none⟩ (.slice (some ⟨g1, 0, none⟩) (R0.length + 1) cap1) = w2 at *
    clear e1 e2
    have hn2 : (l.set i ⟨.slice (some ⟨g1, 0, none⟩) (R0.length + 1) cap1, nk, ⟨R0 ++ [r], K0, e0⟩⟩)[i]? = some ⟨.slice (some ⟨g1, 0, none⟩) (R0.length + 1) cap1, nk, ⟨R0 ++ [r], K0, e0⟩⟩ := by rw [List.getElem?_set_self hi]
    obtain ⟨-, c1, c2, c3, -, f3, -, -⟩ := H2.out.cells2 hn2
    dsimp only at c2 c3
    have F3 : Hid _ := f3
    clear f3
    have HK2 : Hid (w2.ownsRow base 3 1 nk K0.length (K0.map i64c)) := H2.out.kk i _ hn2
    have s2 := W2.out.size
    go_wp2_with (at_builtin; refine wpList_append_lies _ rfl _ _ 50 rfl base 3 i2 _ 1 8 Tryd.underlying50 hi2 hy0 hy1 hy2 rfl (by decide) _ _ _ rfl (HK2.out.alloc _) ⟨w2.heap.size, 0, none⟩ 1 1 [.int .i64 (l.length : Int)] rfl rfl (World.news_of_block (heap_alloc_new _ _)) (oneCell_i64 _) (by omega) (by unfold maxLen; omega) (by omega) (by simp; omega) (w2.heap.size + 1) (by simp) ?_)
    intro g2 cap2 w3 ho2 hg2 ha2 _
    have ho2' : w3.ownsRow base 3 1 (.slice (some ⟨g2, 0, none⟩) (K0.length + 1) cap2) (K0.length + 1) ((K0 ++ [l.length]).map i64c) := by rw [List.map_append]; exact ho2
    have b1 := (H2.out.far1 HK2.out hg2).1 (by decide)
    have e1 := (World.cell?_of_block (a := ⟨g, i * 3 + 1, none⟩) b1).trans c3
    have e2 := (World.frozen?_of_block (a := ⟨g, i * 3 + 1, none⟩) b1).trans (F3.out _)
    obtain ⟨HT3, HW3⟩ := H2.out.putK hn2 (by simp) ho2' hg2 ha2
    rw [List.set_set] at HT3 HW3
    dsimp only at HT3 HW3
    have H3 : Hid (TrieM _ _ _ _ _ _) := HT3
    have W3 : Hid (Went _ _ _ _) := W2.out.trans HW3
    clear HT3 HW3 ho2 ho2' hg2 ha2 b1 c1 c2 c3 H2 W2 F3 HK2 hn2
    go_upto_region 8 with fail
    generalize w3.setCell ⟨g, i * 3 + 1, none⟩ (.slice (some ⟨g2, 0, none⟩) (K0.length + 1) cap2) = w4 at *
    clear e1 e2
    have hn3 : (l.set i ⟨.slice (some ⟨g1, 0, none⟩) (R0.length + 1) cap1, .slice (some ⟨g2, 0, none⟩) (K0.length + 1) cap2, ⟨R0 ++ [r], K0 ++ [l.length], e0⟩⟩)[i]? = some ⟨.slice (some ⟨g1, 0, none⟩) (R0.length + 1) cap1, .slice (some ⟨g2, 0, none⟩) (K0.length + 1) cap2, ⟨R0 ++ [r], K0 ++ [l.length], e0⟩⟩ := by rw [List.getElem?_set_self hi]
    obtain ⟨-, c1, -, -, -, -, f3, -⟩ := H3.out.cells2 hn3
    have F3 : Hid _ := f3
    clear f3
    have HN : Hid (w4.ownsRow base 70 3 (.slice (some ⟨g, 0, none⟩) l.length cap) l.length (ndC (l.set i ⟨.slice (some ⟨g1, 0, none⟩) (R0.length + 1) cap1, .slice (some ⟨g2, 0, none⟩) (K0.length + 1) cap2, ⟨R0 ++ [r], K0 ++ [l.length], e0⟩⟩))) := by have := H3.out.nodes; rw [List.length_set] at this; exact this
    have s2 := W3.out.size
    go_wp2_with (at_builtin; refine wpList_append_lies _ rfl _ _ 55 rfl base 70 i3 _ 3 56 Tryd.underlying55 hi3 hx0 hx1 hx2 rfl (by decide) _ _ _ rfl (HN.out.alloc _) ⟨w4.heap.size, 0, none⟩ 1 1 [.slice none 0 0, .slice none 0 0, .bool false] rfl rfl (World.news_of_block (heap_alloc_new _ _)) oneCell_slices (by omega) (by unfold maxLen; omega) (by omega) (by simp; omega) (w4.heap.size + 1) (by simp) ?_)
    intro g3 cap3 w5 ho3 hg3 ha3 _
    have b1 := (H3.out.far1 HN.out hg3).2 (by decide)
    have e1 := (World.cell?_of_block (a := ⟨T, 1, none⟩) b1).trans c1
    have e2 := (World.frozen?_of_block (a := ⟨T, 1, none⟩) b1).trans (F3.out _)
    obtain ⟨HT4, HW4⟩ := H3.out.grow (by rw [List.length_set]) ho3 hg3 ha3
    have H4 : Hid (TrieM _ _ _ _ _ _) := HT4
    have W4 : Hid (Went _ _ _ _) := W3.out.trans HW4
    clear HT4 HW4 ho3 hg3 ha3 b1 c1 H3 W3 F3 HN hn3
    go_wp2
    go_ret
    exact ⟨_, _, _, rfl, H4, W4⟩
end Go.Proofs.YtfikkkodepfdkaaDoor
