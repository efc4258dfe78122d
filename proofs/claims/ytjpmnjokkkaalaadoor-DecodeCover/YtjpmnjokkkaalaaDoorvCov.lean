/- span.Cover of spans side by side; a part's spans. -/
import Derived.Test.YtjpmnjokkkaalaaDoorvRu
import Derived.Deep.AppendLies
import Derived.Deep.DeepCutAuto
namespace Go.Proofs.YtjpmnjokkkaalaaDoor
set_option linter.unusedVariables false
open Go.RowKit Go.ChangeShapes
def Bk (w : World) (b : Nat) (cs : Array Value) (t : TypeId) : Prop := w.heap[b]? = some (.cells cs t (0, 0))
theorem Bk.new (w : World) (cs : Array Value) (t : TypeId) : Bk (w.alloc (.cells cs t)) w.heap.size cs t := heap_alloc_new _ _
theorem Bk.lt {w : World} {b : Nat} {cs : Array Value} {t : TypeId} (h : Bk w b cs t) : b < w.heap.size := lt_of_heap h
theorem Bk.cell {w : World} {b : Nat} {cs : Array Value} {t : TypeId} (h : Bk w b cs t) (i : Nat) {v : Value} (hv : cs[i]? = some v) : w.cell? ⟨b, i, none⟩ = some v := by
  have h' : w.heap[b]? = some (.cells cs t (0, 0)) := h
  simp [World.cell?, h', hv]
theorem Bk.stay {w w' : World} {b : Nat} {cs : Array Value} {t : TypeId} (h : Bk w b cs t) (hb : Below w.heap.size w w') : Bk w' b cs t := (hb.block b h.lt).trans h
theorem Bk.grown {w w' : World} {b : Nat} {cs : Array Value} {t : TypeId} {row : Option Nat} (h : Bk w b cs t) (hb : w.grownBy w' row) (hne : some b ≠ row) : Bk w' b cs t := (hb.block b h.lt hne).trans h
theorem Bk.alloc {w : World} {b : Nat} {cs : Array Value} {t : TypeId} (h : Bk w b cs t) (o : Obj) : Bk (w.alloc o) b cs t := h.stay ((Below.refl _ _).alloc (Nat.le_refl _) o)
/-- Spans side by side, none of them empty, from a place up to another one. -/
def Chn : Nat → List (Nat × Nat) → Nat → Prop
  | a, [], e => a = e
  | a, s :: r, e => s.1 = a ∧ 0 < s.2 ∧ Chn (a + s.2) r e
theorem chn_le : ∀ (p : List (Nat × Nat)) (a e : Nat), Chn a p e → a ≤ e
  | [], a, e, h => Nat.le_of_eq h
  | s :: r, a, e, h => by
    have := chn_le r _ _ h.2.2
    have := h.2.1
    omega
def spC (l : List (Nat × Nat)) : List Value := l.flatMap fun s => [.int .i64 (s.1 : Int), .int .i64 (s.2 : Int)]
theorem spC_len : ∀ l : List (Nat × Nat), (spC l).length = l.length * 2
  | [] => rfl
  | s :: l => by show (spC l).length + 1 + 1 = _; rw [spC_len l, List.length_cons]; omega
theorem spC_app (l m : List (Nat × Nat)) : spC (l ++ m) = spC l ++ spC m := by simp [spC]
theorem spC_at : ∀ (l : List (Nat × Nat)) (i : Nat) (s : Nat × Nat), l[i]? = some s → (spC l)[i * 2]? = some (.int .i64 (s.1 : Int)) ∧ (spC l)[i * 2 + 1]? = some (.int .i64 (s.2 : Int))
  | [], i, s, h => by simp at h
  | x :: l, 0, s, h => by
    obtain rfl : x = s := by simpa using h
    exact ⟨rfl, rfl⟩
  | x :: l, i + 1, s, h => by
    obtain ⟨h1, h2⟩ := spC_at l i s (by simpa using h)
    exact ⟨by rw [← h1, show (i + 1) * 2 = i * 2 + 1 + 1 by omega]; rfl, by rw [← h2, show (i + 1) * 2 + 1 = i * 2 + 1 + 1 + 1 by omega]; rfl⟩
def SP (w : World) (base : Nat) (v : Value) (l : List (Nat × Nat)) : Prop := w.ownsRow base 35 2 v l.length (spC l)
theorem SP.stay {w w' : World} {base : Nat} {v : Value} {l : List (Nat × Nat)} (h : SP w base v l) (hb : Below w.heap.size w w') : SP w' base v l := own_stay h hb
theorem SP.form {w : World} {base : Nat} {v : Value} {l : List (Nat × Nat)} (h : SP w base v l) : ∃ ad c, v = .slice ad l.length c := own_form h
theorem SP.cells {w : World} {base g n c : Nat} {l : List (Nat × Nat)} (h : SP w base (.slice (some ⟨g, 0, none⟩) n c) l) (hn : n = l.length) {i : Nat} {s : Nat × Nat} (hs : l[i]? = some s) :
    w.cell? ⟨g, i * 2, none⟩ = some (.int .i64 (s.1 : Int)) ∧ w.cell? ⟨g, i * 2 + 1, none⟩ = some (.int .i64 (s.2 : Int)) := by
  subst hn
  obtain ⟨a, b⟩ := spC_at l i s hs
  have hi : i < l.length := (List.getElem?_eq_some_iff.1 hs).1
  unfold SP at h
  exact ⟨by rw [h.cellAt _ (by omega)]; exact a, by rw [h.cellAt _ (by omega)]; exact b⟩
theorem drop_at2 {l : List (Nat × Nat)} {j : Nat} (h : j < l.length) : ∃ s, l[j]? = some s ∧ l.drop j = s :: l.drop (j + 1) := ⟨l[j], List.getElem?_eq_getElem h, List.drop_eq_getElem_cons h⟩

theorem infoP : (Tryd.prog.info? 35).map (fun i => (i.zero, i.size, i.bytes)) = some (some (.agg #[.int .i64 0, .int .i64 0]), 2, 16) := by kernel_rfl
theorem sp_cells (a n : Int) : ∀ u ∈ [Value.int .i64 a, .int .i64 n], u.oneCell' = true := by
  intro u hu
  simp only [List.mem_cons, List.not_mem_nil, or_false] at hu
  rcases hu with rfl | rfl <;> rfl
theorem inFile_any (x : Int) (h : 0 ≤ x) (h2 : x ≤ 65536) (w : World) : Calls Tryd.prog 57 #[.int .i64 x] w fun e w' => e = .returned (.bool true) ∧ w' = w := by
  go_enter Tryd.func57, Tryd.ntmps57
  go_wp2
  go_ret
  exact ⟨rfl, rfl⟩
theorem sound_any (a n : Int) (h1 : 0 ≤ a) (h2 : a ≤ 65536) (h3 : 0 ≤ n) (h4 : n ≤ 65536) (w : World) : Calls Tryd.prog 42 #[.agg #[.int .i64 a, .int .i64 n]] w fun e w' => e = .returned (.bool true) ∧ Up w.heap.size w w' := by
  have HU : Hid (Up w.heap.size w (w.alloc (.cells #[.int .i64 a, .int .i64 n] 35))) := (Up.refl w).alloc _
  go_enter Tryd.func42, Tryd.ntmps42
  go_wp2_with fail
  refine (inFile_any a h1 h2 _).mono ?_
  rintro e w1 ⟨rfl, hw⟩
  subst w1
  go_wp2_with fail
  refine (inFile_any n h3 h4 _).mono ?_
  rintro e w1 ⟨rfl, hw⟩
  subst w1
  go_wp2
  go_ret
  exact ⟨rfl, HU.out⟩
theorem end_any (a n : Int) (h1 : 0 ≤ a) (h2 : a ≤ 65536) (h3 : 0 ≤ n) (h4 : n ≤ 65536) (w : World) : Calls Tryd.prog 43 #[.agg #[.int .i64 a, .int .i64 n]] w fun e w' => e = .returned (.int .i64 (a + n)) ∧ Up w.heap.size w w' := by
  have hw : IntKind.i64.wrap (a + n) = a + n := IntWalk.i64_in _ (by omega)
  go_enter Tryd.func43, Tryd.ntmps43
  go_wp2
  go_ret
  exact ⟨rfl, (Up.refl w).alloc _⟩
set_option maxHeartbeats 1000000 in
set_option maxRecDepth 100000 in
theorem cover_any {w : World} {base n : Nat} {v : Value} {l : List (Nat × Nat)} (h : SP w base v l) (hG : Chn 0 l n) (hn : n ≤ 65536) (hl : l.length ≤ 65536) : Calls Tryd.prog 22 #[v, .int .i64 n] w fun e w' => e = .returned (.bool true) ∧ Up w.heap.size w w' := by
  obtain ⟨ad, c, rfl⟩ := h.form
  have H : Hid (SP w base (.slice ad l.length c) l) := h
  have HG : Hid (Chn 0 l n) := hG
  obtain ⟨m, em⟩ : ∃ m, l.length = m := ⟨_, rfl⟩
  have HM : Hid (l.length = m) := em
  rw [em] at H hl ⊢
  clear h hG em
  go_enter Tryd.func22, Tryd.ntmps22
  go_wp2
  go_loopg [5, 10] m (fun q av iv wr => ∃ j a : Nat, j ≤ m ∧ q = m - j ∧ av = .int .i64 a ∧ iv = .int .i64 j ∧ Hid (Chn a (l.drop j) n) ∧ Hid (Up w.heap.size w wr))
  case atStart => exact ⟨0, 0, Nat.zero_le _, rfl, rfl, rfl, HG.out, Up.refl w⟩
  case round =>
    obtain ⟨j, a, hj, hq, rfl, rfl, HD, HU⟩ := hrel
    by_cases hlt : j < m
    · have z1 : (j : Int) < (m : Int) := by omega
      have z2 : (0 : Int) ≤ (j : Int) := by omega
      obtain ⟨s, hs, hd⟩ := drop_at2 (l := l) (j := j) (by rw [HM.out]; exact hlt)
      have hz := HD.out
      rw [hd] at hz
      obtain ⟨h1, h2, h5⟩ := hz
      have hle := chn_le _ _ _ h5
      obtain ⟨gp, rfl, -, -⟩ := own_at (n := m) (by have := H.out; unfold SP at this; rw [HM.out] at this; exact this) (by omega)
      obtain ⟨c1, c2⟩ := (H.out.stay HU.out.1).cells HM.out.symm hs
      obtain ⟨sa, sn⟩ := s
      dsimp only at c1 c2 h1 h2 hle h5
      subst h1
      have HH : Hid (Chn (sa + sn) (l.drop (j + 1)) n) := h5
      clear hd h5 hs HD
      obtain ⟨W, hW⟩ : ∃ W, wr.alloc (.cells #[.int .i64 (sa : Int), .int .i64 (sn : Int)] 35) = W := ⟨_, rfl⟩
      have hB : Bk W wr.heap.size #[.int .i64 (sa : Int), .int .i64 (sn : Int)] 35 := by rw [← hW]; exact Bk.new _ _ _
      have HUW : Hid (Up w.heap.size w W) := by show Up _ _ _; rw [← hW]; exact HU.out.alloc _
      have b1 := hB.cell 0 rfl
      have b2 := hB.cell 1 rfl
      have HB : Hid (Bk W wr.heap.size #[.int .i64 (sa : Int), .int .i64 (sn : Int)] 35) := hB
      have z3 : ¬ ((sn : Int) = 0) := by omega
      have z4 : ((sn : Int) == 0) = false := by simpa using z3
      clear hB
      go_wp2_with fail
      refine (sound_any sa sn (by omega) (by omega) (by omega) (by omega) W).mono ?_
      rintro e w1 ⟨rfl, hU⟩
      have hB := HB.out.stay hU.1
      have HB1 : Hid (Bk w1 wr.heap.size #[.int .i64 (sa : Int), .int .i64 (sn : Int)] 35) := hB
      have HU1 : Hid (Up w.heap.size w w1) := HUW.out.stay hU.1
      clear b1 b2 hU HB HUW hW
      have b1 := hB.cell 0 rfl
      have b2 := hB.cell 1 rfl
      clear hB
      go_wp2_with fail
      refine (end_any sa sn (by omega) (by omega) (by omega) (by omega) w1).mono ?_
      rintro e w2 ⟨rfl, hU⟩
      have HU2 : Hid (Up w.heap.size w w2) := HU1.out.stay hU.1
      clear hU HU1 HB1 b1 b2
      go_wp2
      go_roundg (m - (j + 1))
      case measure => omega
      case rel => exact ⟨j + 1, sa + sn, by omega, rfl, by go_num, by go_num, HH, HU2⟩
    · obtain rfl : j = m := by omega
      have z1 : ¬ (j : Int) < (j : Int) := by omega
      have hz := HD.out
      rw [List.drop_of_length_le (by rw [HM.out]; exact Nat.le_refl _)] at hz
      have hz' : a = n := hz
      subst hz'
      clear hz HD HG
      go_wp2
      go_ret
      exact ⟨rfl, HU.out⟩

/-- A part's spans. -/
def spU (l : List U3) : List (Nat × Nat) := l.map fun u => (u.a.toNat, u.n.toNat)
theorem un_chn {f l : Int} {c : Nat → Int} {e : Nat} (hc : ∀ j, j < e → 0 ≤ c j ∧ c j ≤ 255) : ∀ d i, e - i = d → i ≤ e → Chn i (spU (un f l c e i)) e := by
  intro d
  induction d using Nat.strongRecOn with
  | ind d ih =>
    intro i hd hi
    rcases Nat.lt_or_ge i e with h | h
    · obtain ⟨⟨r, k⟩, hu⟩ : ∃ x, u1 f l (fun j => c (i + j)) (e - i) = x := ⟨_, rfl⟩
      have h1 := u1_le (f := f) (l := l) (c := fun j => c (i + j)) (n := e - i) (by omega) (fun h => hc _ (by omega))
      rw [hu] at h1
      dsimp only at h1
      rw [un_step hc h hu]
      exact ⟨by show (i : Int).toNat = i; omega, by show 0 < (k : Int).toNat; omega, by
        show Chn (i + (k : Int).toNat) _ e
        rw [show (k : Int).toNat = k by omega]
        exact ih (e - (i + k)) (by omega) (i + k) rfl (by omega)⟩
    · rw [un_end h]
      exact (by omega : i = e)

end Go.Proofs.YtjpmnjokkkaalaaDoor
