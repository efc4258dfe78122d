/- Pairs and words in rows; whether two lists of them are the same. -/
import Derived.Test.YtbhjkkbempnjeaaDooruRun
import Derived.ChangeKeysEq
namespace Go.Proofs.YtbhjkkbempnjeaaDoor
set_option linter.unusedVariables false
open Go.RowKit Go.ChangeShapes
/-- Pairs, wherever they lie. -/
def PAs (w : World) (v : Value) (l : List (Nat × Nat)) : Prop := ∃ ad cap, v = .slice ad l.length cap ∧ l.length ≤ cap ∧ ∀ i x, l[i]? = some x → ∃ b off, ad = some ⟨b, off, none⟩ ∧ b < w.heap.size ∧ w.cell? ⟨b, off + i * 2, none⟩ = some (.int .i64 (x.1 : Int)) ∧ w.cell? ⟨b, off + i * 2 + 1, none⟩ = some (.int .i64 (x.2 : Int))
theorem PAs.stay {w w' : World} {v : Value} {l : List (Nat × Nat)} (h : PAs w v l) (hb : Below w.heap.size w w') : PAs w' v l := by
  obtain ⟨ad, cap, e, hc, hh⟩ := h
  refine ⟨ad, cap, e, hc, fun i x hx => ?_⟩
  obtain ⟨b, off, e2, hl, h1, h2⟩ := hh i x hx
  exact ⟨b, off, e2, Nat.lt_of_lt_of_le hl hb.size, cell_stay h1 hb, cell_stay h2 hb⟩
theorem PR.any {w : World} {base : Nat} {v : Value} {l : List (Nat × Nat)} (h : PR w base v l) : PAs w v l := by
  have h0 := h
  unfold PR at h
  obtain ⟨_, ⟨rfl, h2⟩ | ⟨g, cap, cur, rfl, _, hh, hc, _⟩⟩ := h
  · have : l = [] := List.eq_nil_of_length_eq_zero h2
    subst this
    exact ⟨none, 0, rfl, Nat.le_refl _, fun i x hx => by simp at hx⟩
  · refine ⟨_, _, rfl, hc, fun i x hx => ⟨g, 0, rfl, lt_of_heap hh, ?_⟩⟩
    obtain ⟨a0, a1⟩ := pC_at l i x hx
    have hi : i < l.length := (List.getElem?_eq_some_iff.1 hx).1
    have hl := pC_len l
    unfold PR at h0
    refine ⟨?_, ?_⟩
    · rw [Nat.zero_add, h0.cellAt (i * 2) (by omega)]; exact a0
    · rw [Nat.zero_add, h0.cellAt (i * 2 + 1) (by omega)]; exact a1
theorem pair_eq (a b : Int) (w : World) : (Op.equalIn 10000 23 (.agg #[.int .i64 a, .int .i64 b]) (.agg #[.int .i64 a, .int .i64 b])).run Tryd.prog w = .ok true w := by
  obtain ⟨i0, hi, -, -, -⟩ := info_parts (show (Tryd.prog.info? 3).map (fun i => (i.zero, i.size, i.bytes)) = some (some (.int .i64 0), 1, 8) by kernel_rfl)
  have hc : Tryd.prog.cellsOf 3 = 1 := by kernel_rfl
  have hu : Tryd.prog.underlying 3 = some (.int .i64) := by kernel_rfl
  have hp : ∀ (w : World) (i : Nat) (v : Value), (#[.int .i64 a, .int .i64 b] : Array Value)[i]? = some v → (part 3 #[.int .i64 a, .int .i64 b] i).run Tryd.prog w = .ok v w := fun w i v hv => by
    have hagg : (isAgg 3).run Tryd.prog w = .ok false w := by
      unfold isAgg
      rw [Sem.run_bind, run_underlying hu w]
      rfl
    simp [part, Sem.run_bind, hagg, hv]
  have he : ∀ (w : World) (x : Int), (Op.equalIn 9999 3 (.int .i64 x) (.int .i64 x)).run Tryd.prog w = .ok true w := fun w x => by
    show (Op.equalIn (9998 + 1) 3 (.int .i64 x) (.int .i64 x)).run Tryd.prog w = .ok true w
    generalize 9998 = D
    rw [Op.equalIn, Sem.run_bind, run_underlying hu]
    simp
  show (Op.equalIn (9999 + 1) 23 (.agg #[.int .i64 a, .int .i64 b]) (.agg #[.int .i64 a, .int .i64 b])).run Tryd.prog w = .ok true w
  rw [run_equalIn_array w 9999 _ _ (show Tryd.prog.underlying 23 = some (.array 2 3) by kernel_rfl) hi, hc, show List.range 2 = [0, 1] from rfl]
  simp [Op.eqItems, Sem.run_bind, hp _ 0 _ rfl, hp _ 1 _ rfl, he]
set_option maxRecDepth 100000 in
set_option maxHeartbeats 2000000 in
theorem same_any {w : World} {v v' : Value} {l : List (Nat × Nat)} (h : PAs w v l) (h' : PAs w v' l) (hn : l.length ≤ 100000) :
    Calls Tryd.prog 13 #[v, v'] w fun e w' => e = .returned (.bool true) ∧ Below w.heap.size w w' := by
  obtain ⟨ad, cap, rfl, hcap, hh⟩ := h
  obtain ⟨ad', cap', rfl, hcap', hh'⟩ := h'
  have HH : Hid (PAs w (.slice ad l.length cap) l) := ⟨ad, cap, rfl, hcap, hh⟩
  have HH' : Hid (PAs w (.slice ad' l.length cap') l) := ⟨ad', cap', rfl, hcap', hh'⟩
  obtain ⟨k, hk⟩ : ∃ k, l.length = k := ⟨_, rfl⟩
  have HK : Hid (l.length = k) := hk
  rw [hk] at hn hcap hcap' ⊢
  rw [hk] at HH HH'
  have kk : ((k : Int) != (k : Int)) = false := by simp
  clear hh hh' hk
  go_enter Tryd.func13, Tryd.ntmps13
  go_wp2
  go_loopg [13] k (fun n i wr => ∃ j : Nat, j ≤ k ∧ n = k - j ∧ i = .int .i64 j ∧ Hid (Up w.heap.size w wr))
  case atStart => exact ⟨0, Nat.zero_le _, rfl, rfl, Up.refl w⟩
  case round =>
    obtain ⟨j, hj, hq, rfl, HU⟩ := hrel
    by_cases hlt : j < k
    · have z0 : (0 : Int) ≤ (j : Int) := by omega
      have z1 : (j : Int) < (k : Int) := by omega
      obtain ⟨x, hx⟩ : ∃ x, l[j]? = some x := ⟨_, List.getElem?_eq_getElem (by rw [HK.out]; exact hlt)⟩
      obtain ⟨A, C, eA, -, hA⟩ := HH.out.stay HU.out.1
      obtain ⟨A', C', eA', -, hA'⟩ := HH'.out.stay HU.out.1
      injection eA with eA _ _
      injection eA' with eA' _ _
      subst eA eA'
      obtain ⟨b, off, rfl, hbl, a1, a2⟩ := hA j x hx
      obtain ⟨b', off', rfl, hbl', b1, b2⟩ := hA' j x hx
      have hEQ := pair_eq (x.1 : Int) (x.2 : Int)
      clear hA hA' hx
      go_wp2_with fail
      go_quiet (fail)
      go_wp2
      go_roundg (k - (j + 1))
      case measure => omega
      case rel => exact ⟨j + 1, by omega, rfl, by go_num, HU.out.stay (Go.below_drewN (Below.refl _ _) _)⟩
    · have z1 : ¬ (j : Int) < (k : Int) := by omega
      go_wp2_with fail
      go_ret
      exact ⟨rfl, HU.out.1⟩
/-- A word. -/
structure W4 where
  t : ByteArray
  a : Int
  n : Int
  l : Bool
def W4.cs (x : W4) : List Value := [.string x.t, .int .i64 x.a, .int .i64 x.n, .bool x.l]
def wC (l : List W4) : List Value := l.flatMap W4.cs
theorem wC_app (l m : List W4) : wC (l ++ m) = wC l ++ wC m := by simp [wC]
theorem wC_len : ∀ l : List W4, (wC l).length = l.length * 4
  | [] => rfl
  | u :: l => by
    show (u.cs ++ wC l).length = _
    rw [List.length_append, wC_len l, List.length_cons]
    show 4 + _ = _
    omega
theorem wC_at : ∀ (l : List W4) (i : Nat) (u : W4), l[i]? = some u → (wC l)[i * 4]? = some (.string u.t) ∧ (wC l)[i * 4 + 1]? = some (.int .i64 u.a) ∧ (wC l)[i * 4 + 2]? = some (.int .i64 u.n) ∧ (wC l)[i * 4 + 3]? = some (.bool u.l)
  | [], i, u, h => by simp at h
  | x :: l, 0, u, h => by
    obtain rfl : x = u := by simpa using h
    exact ⟨rfl, rfl, rfl, rfl⟩
  | x :: l, i + 1, u, h => by
    have h' : l[i]? = some u := by simpa using h
    obtain ⟨h1, h2, h3, h4⟩ := wC_at l i u h'
    have e : ∀ j, (wC (x :: l))[(i * 4 + j) + 4]? = (wC l)[i * 4 + j]? := fun j => by
      show (x.cs ++ wC l)[(i * 4 + j) + 4]? = _
      rw [List.getElem?_append_right (by show 4 ≤ _; omega)]
      congr 1
    exact ⟨by rw [← h1, show (i + 1) * 4 = i * 4 + 0 + 4 by omega, e 0]; rfl, by rw [← h2, show (i + 1) * 4 + 1 = i * 4 + 1 + 4 by omega, e 1], by rw [← h3, show (i + 1) * 4 + 2 = i * 4 + 2 + 4 by omega, e 2], by rw [← h4, show (i + 1) * 4 + 3 = i * 4 + 3 + 4 by omega, e 3]⟩
/-- Words in a row of their own. -/
def WR (w : World) (base : Nat) (v : Value) (l : List W4) : Prop := w.ownsRow base 51 4 v l.length (wC l)
theorem WR.stay {w w' : World} {base : Nat} {v : Value} {l : List W4} (h : WR w base v l) (hb : Below w.heap.size w w') : WR w' base v l := own_stay h hb
theorem infoW : (Tryd.prog.info? 51).map (fun i => (i.zero, i.size, i.bytes)) = some (some (.agg #[.string ByteArray.empty, .int .i64 0, .int .i64 0, .bool false]), 4, 40) := by kernel_rfl
/-- Words, wherever they lie. -/
def WS (w : World) (v : Value) (l : List W4) : Prop := ∃ ad cap, v = .slice ad l.length cap ∧ l.length ≤ cap ∧ ∀ i x, l[i]? = some x → ∃ b off, ad = some ⟨b, off, none⟩ ∧ b < w.heap.size ∧ w.cell? ⟨b, off + i * 4, none⟩ = some (.string x.t) ∧ w.cell? ⟨b, off + i * 4 + 1, none⟩ = some (.int .i64 x.a) ∧ w.cell? ⟨b, off + i * 4 + 2, none⟩ = some (.int .i64 x.n) ∧ w.cell? ⟨b, off + i * 4 + 3, none⟩ = some (.bool x.l)
theorem WS.stay {w w' : World} {v : Value} {l : List W4} (h : WS w v l) (hb : Below w.heap.size w w') : WS w' v l := by
  obtain ⟨ad, cap, e, hc, hh⟩ := h
  refine ⟨ad, cap, e, hc, fun i x hx => ?_⟩
  obtain ⟨b, off, e2, hl, h1, h2, h3, h4⟩ := hh i x hx
  exact ⟨b, off, e2, Nat.lt_of_lt_of_le hl hb.size, cell_stay h1 hb, cell_stay h2 hb, cell_stay h3 hb, cell_stay h4 hb⟩
theorem WR.any {w : World} {base : Nat} {v : Value} {l : List W4} (h : WR w base v l) : WS w v l := by
  have h0 := h
  unfold WR at h
  obtain ⟨_, ⟨rfl, h2⟩ | ⟨g, cap, cur, rfl, _, hh, hc, _⟩⟩ := h
  · have : l = [] := List.eq_nil_of_length_eq_zero h2
    subst this
    exact ⟨none, 0, rfl, Nat.le_refl _, fun i x hx => by simp at hx⟩
  · refine ⟨_, _, rfl, hc, fun i x hx => ⟨g, 0, rfl, lt_of_heap hh, ?_⟩⟩
    obtain ⟨a0, a1, a2, a3⟩ := wC_at l i x hx
    have hi : i < l.length := (List.getElem?_eq_some_iff.1 hx).1
    have hl := wC_len l
    unfold WR at h0
    refine ⟨?_, ?_, ?_, ?_⟩
    · rw [Nat.zero_add, h0.cellAt (i * 4) (by omega)]; exact a0
    · rw [Nat.zero_add, h0.cellAt (i * 4 + 1) (by omega)]; exact a1
    · rw [Nat.zero_add, h0.cellAt (i * 4 + 2) (by omega)]; exact a2
    · rw [Nat.zero_add, h0.cellAt (i * 4 + 3) (by omega)]; exact a3
set_option maxRecDepth 100000 in
set_option maxHeartbeats 2000000 in
theorem rsamew_any {w : World} {v v' : Value} {l : List W4} (h : WS w v l) (h' : WS w v' l) (hn : l.length ≤ 100000) :
    Calls Tryd.prog 18 #[v, v'] w fun e w' => e = .returned (.bool true) ∧ Below w.heap.size w w' := by
  obtain ⟨ad, cap, rfl, hcap, hh⟩ := h
  obtain ⟨ad', cap', rfl, hcap', hh'⟩ := h'
  have HH : Hid (WS w (.slice ad l.length cap) l) := ⟨ad, cap, rfl, hcap, hh⟩
  have HH' : Hid (WS w (.slice ad' l.length cap') l) := ⟨ad', cap', rfl, hcap', hh'⟩
  obtain ⟨k, hk⟩ : ∃ k, l.length = k := ⟨_, rfl⟩
  have HK : Hid (l.length = k) := hk
  rw [hk] at hn hcap hcap' ⊢
  rw [hk] at HH HH'
  have kk : ((k : Int) != (k : Int)) = false := by simp
  clear hh hh' hk
  go_enter Tryd.func18, Tryd.ntmps18
  go_wp2
  go_loopg [5] k (fun n i wr => ∃ j : Nat, j ≤ k ∧ n = k - j ∧ i = .int .i64 j ∧ Hid (Up w.heap.size w wr))
  case atStart => exact ⟨0, Nat.zero_le _, rfl, rfl, Up.refl w⟩
  case round =>
    obtain ⟨j, hj, hq, rfl, HU⟩ := hrel
    by_cases hlt : j < k
    · have z0 : (0 : Int) ≤ (j : Int) := by omega
      have z1 : (j : Int) < (k : Int) := by omega
      obtain ⟨x, hx⟩ : ∃ x, l[j]? = some x := ⟨_, List.getElem?_eq_getElem (by rw [HK.out]; exact hlt)⟩
      obtain ⟨A, C, eA, -, hA⟩ := HH.out.stay HU.out.1
      obtain ⟨A', C', eA', -, hA'⟩ := HH'.out.stay HU.out.1
      injection eA with eA _ _
      injection eA' with eA' _ _
      subst eA eA'
      obtain ⟨b, off, rfl, hbl, a1, a2, a3, a4⟩ := hA j x hx
      obtain ⟨b', off', rfl, hbl', b1, b2, b3, b4⟩ := hA' j x hx
      clear hA hA' hx
      go_wp2_with fail
      go_quiet (fail)
      go_wp2
      go_roundg (k - (j + 1))
      case measure => omega
      case rel => exact ⟨j + 1, by omega, rfl, by go_num, HU.out.stay (Go.below_drewN (Below.refl _ _) _)⟩
    · have z1 : ¬ (j : Int) < (k : Int) := by omega
      go_wp2_with fail
      go_ret
      exact ⟨rfl, HU.out.1⟩
end Go.Proofs.YtbhjkkbempnjeaaDoor
