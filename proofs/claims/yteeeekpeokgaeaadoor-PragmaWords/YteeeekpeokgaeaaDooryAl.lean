/- The reference: Alone, Knows. -/
import Derived.Test.YteeeekpeokgaeaaDoorPkKV2
import Derived.Test.YteeeekpeokgaeaaDoorRFld
import Derived.BigQuiet
namespace Go.Proofs.YteeeekpeokgaeaaDoor
set_option linter.unusedVariables false
open Go.RowKit Go.ChangeShapes Tns
/-- Spans, wherever they lie. -/
def SpA (w : World) (v : Value) (l : List (Nat × Nat)) : Prop := ∃ ad cap, v = .slice ad l.length cap ∧ l.length ≤ cap ∧ ∀ i x, l[i]? = some x → ∃ b off, ad = some ⟨b, off, none⟩ ∧ b < w.heap.size ∧ w.cell? ⟨b, off + i * 2, none⟩ = some (.int .i64 (x.1 : Int)) ∧ w.cell? ⟨b, off + i * 2 + 1, none⟩ = some (.int .i64 (x.2 : Int))
theorem SpA.stay {w w' : World} {v : Value} {l : List (Nat × Nat)} (h : SpA w v l) (hb : Below w.heap.size w w') : SpA w' v l := by
  obtain ⟨ad, cap, e, hc, hh⟩ := h
  refine ⟨ad, cap, e, hc, fun i x hx => ?_⟩
  obtain ⟨b, off, e2, hl, h1, h2⟩ := hh i x hx
  exact ⟨b, off, e2, Nat.lt_of_lt_of_le hl hb.size, cell_stay h1 hb, cell_stay h2 hb⟩
theorem SpR.any {w : World} {base : Nat} {v : Value} {l : List (Nat × Nat)} (h : SpR w base v l) : SpA w v l := by
  have h0 := h
  unfold SpR at h
  obtain ⟨_, ⟨rfl, h2⟩ | ⟨g, cap, cur, rfl, _, hh, hc, _⟩⟩ := h
  · have : l = [] := List.eq_nil_of_length_eq_zero h2
    subst this
    exact ⟨none, 0, rfl, Nat.le_refl _, fun i x hx => by simp at hx⟩
  · refine ⟨_, _, rfl, hc, fun i x hx => ⟨g, 0, rfl, lt_of_heap hh, ?_⟩⟩
    obtain ⟨a0, a1⟩ := spC_at l i x hx
    have hi : i < l.length := (List.getElem?_eq_some_iff.1 hx).1
    have hl := spC_len l
    unfold SpR at h0
    refine ⟨?_, ?_⟩
    · rw [Nat.zero_add, h0.cellAt (i * 2) (by omega)]; exact a0
    · rw [Nat.zero_add, h0.cellAt (i * 2 + 1) (by omega)]; exact a1
theorem offB_cons (p : Nat × Nat) (l : List (Nat × Nat)) (a : Int) : offB (p :: l) a = (decide ((p.1 : Int) ≤ a) && decide (a < ((p.1 + p.2 : Nat) : Int)) || offB l a) := rfl
set_option maxHeartbeats 4000000 in
set_option maxRecDepth 100000 in
theorem ral_any {w : World} {va vb : Value} {rows : List (Nat × Nat)} (h : SpA w va rows) (hvb : ∃ a m c, vb = .slice a m c) (at_ : Int) (hl : rows.length ≤ 100000) (hr : ∀ p ∈ rows, p.1 + p.2 ≤ 100000) :
    Calls Tryd.prog 15 #[.agg #[va, vb], .int .i64 at_] w fun e w' => e = .returned (.bool (offB rows at_)) ∧ Below w.heap.size w w' := by
  obtain ⟨x1, x2, x3, rfl⟩ := hvb
  have HA : Hid (SpA w va rows) := h
  obtain ⟨ad, cap, rfl, hcap, -⟩ := h
  obtain ⟨n, hn⟩ : ∃ n, rows.length = n := ⟨_, rfl⟩
  have HN : Hid (rows.length = n) := hn
  have HRr : Hid (∀ p ∈ rows, p.1 + p.2 ≤ 100000) := hr
  obtain ⟨B, hB⟩ : ∃ B, offB rows at_ = B := ⟨_, rfl⟩
  have HB : Hid (offB rows at_ = B) := hB
  rw [hB]
  rw [hn] at hl hcap ⊢
  obtain ⟨W0, hW0⟩ : ∃ W0, w.alloc (.cells #[.slice ad n cap, .slice x1 x2 x3] 32) = W0 := ⟨_, rfl⟩
  obtain ⟨D, hD⟩ : ∃ D, w.heap.size = D := ⟨_, rfl⟩
  have HU0 : Hid (Up w.heap.size w W0) := by rw [← hW0]; exact (Up.refl w).alloc _
  have hcl : W0.heap[D]? = some (.cells #[.slice ad n cap, .slice x1 x2 x3] 32) := by rw [← hW0, ← hD]; exact heap_alloc_new _ _
  have HK : Hid (W0.cell? ⟨D, 0, none⟩ = some (.slice ad n cap)) := by show _ = _; simp [World.cell?, hcl]
  clear hn hB hr hcl
  go_enter Tryd.func15, Tryd.ntmps15
  go_wp2
  (try rw [hW0])
  (try rw [hD])
  clear hW0 hD
  go_loopg [5] n (fun q iv wr => ∃ i : Nat, i ≤ n ∧ q = n - i ∧ iv = .int .i64 (i : Int) ∧ Hid (offB (rows.drop i) at_ = B) ∧ Hid (Up W0.heap.size W0 wr))
  case atStart => exact ⟨0, Nat.zero_le _, rfl, rfl, HB, Up.refl _⟩
  case round =>
    obtain ⟨i, hi, hq, rfl, HBi, HU⟩ := hrel
    have k0 := cell_stay HK.out HU.out.1
    by_cases hlt : i < n
    · have z0 : (0 : Int) ≤ (i : Int) := by omega
      have z1 : (i : Int) < (n : Int) := by omega
      obtain ⟨p, hp⟩ : ∃ p, rows[i]? = some p := ⟨_, List.getElem?_eq_getElem (by rw [HN.out]; exact hlt)⟩
      have hpb := HRr.out p (List.mem_of_getElem? hp)
      obtain ⟨ad', cap', eA, -, hh⟩ := HA.out
      injection eA with eA1 eA2 eA3
      subst eA1 eA3
      clear eA2
      obtain ⟨b, off, rfl, -, a1, a2⟩ := hh i p hp
      have hb2 := HU0.out.stay HU.out.1
      have a1 := cell_stay a1 hb2.1
      have a2 := cell_stay a2 hb2.1
      have hdr : rows.drop i = p :: rows.drop (i + 1) := by
        have hlt' : i < rows.length := by rw [HN.out]; exact hlt
        rw [List.drop_eq_getElem_cons hlt']
        rw [List.getElem?_eq_getElem hlt'] at hp
        rw [Option.some.inj hp]
      have hb3 : (decide ((p.1 : Int) ≤ at_) && decide (at_ < ((p.1 + p.2 : Nat) : Int)) || offB (rows.drop (i + 1)) at_) = B := by
        rw [← HBi.out, hdr, offB_cons]
      obtain ⟨p1, hp1⟩ : ∃ z, p.1 = z := ⟨_, rfl⟩
      obtain ⟨p2, hp2⟩ : ∃ z, p.2 = z := ⟨_, rfl⟩
      rw [hp1, hp2] at hb3 hpb
      rw [hp1] at a1
      rw [hp2] at a2
      obtain ⟨P, hP⟩ : ∃ P, p1 + p2 = P := ⟨_, rfl⟩
      rw [hP] at hb3 hpb
      have z2 : IntKind.i64.wrap ((p1 : Int) + (p2 : Int)) = (P : Int) := by rw [IntWalk.i64_in _ (by omega)]; omega
      have HB3 : Hid ((decide ((p1 : Int) ≤ at_) && decide (at_ < (P : Int)) || offB (rows.drop (i + 1)) at_) = B) := hb3
      clear hb3 hh hp hdr hp1 hp2 hP hb2 HBi
      by_cases c1 : (p1 : Int) ≤ at_
      · by_cases c2 : at_ < (P : Int)
        · have HBT : Hid (B = true) := by
            show _ = _
            rw [← HB3.out, show decide ((p1 : Int) ≤ at_) = true by simpa using c1, show decide (at_ < (P : Int)) = true by simpa using c2]
            rfl
          clear HB3
          go_upto_region 4 with fail
          go_quiet (fail)
          have hbd := below_drewN (Below.refl wr.heap.size wr) nq
          have HUq : Hid (Up W0.heap.size W0 (wr.drewN nq)) := HU.out.stay hbd
          clear hbd
          go_wp2
          go_ret
          exact ⟨by rw [HBT.out]; rfl, (HU0.out.stay HUq.out.1).1⟩
        · have HBi : Hid (offB (rows.drop (i + 1)) at_ = B) := by
            show _ = _
            rw [← HB3.out, show decide (at_ < (P : Int)) = false by simpa using c2, Bool.and_false, Bool.false_or]
          clear HB3
          go_upto_region 4 with fail
          go_quiet (fail)
          have hbd := below_drewN (Below.refl wr.heap.size wr) nq
          have HUq : Hid (Up W0.heap.size W0 (wr.drewN nq)) := HU.out.stay hbd
          clear hbd
          go_wp2
          go_roundg (n - (i + 1))
          case measure => omega
          case rel => exact ⟨i + 1, by omega, rfl, by go_num, HBi, HUq⟩
      · have HBi : Hid (offB (rows.drop (i + 1)) at_ = B) := by
          show _ = _
          rw [← HB3.out, show decide ((p1 : Int) ≤ at_) = false by simpa using c1, Bool.false_and, Bool.false_or]
        clear HB3
        go_upto_region 4 with fail
        go_quiet (fail)
        have hbd := below_drewN (Below.refl wr.heap.size wr) nq
        have HUq : Hid (Up W0.heap.size W0 (wr.drewN nq)) := HU.out.stay hbd
        clear hbd
        go_wp2
        go_roundg (n - (i + 1))
        case measure => omega
        case rel => exact ⟨i + 1, by omega, rfl, by go_num, HBi, HUq⟩
    · have z1 : ¬ (i : Int) < (n : Int) := by omega
      have HBF : Hid (B = false) := by
        show _ = _
        rw [← HBi.out, List.drop_eq_nil_of_le (by rw [HN.out]; omega)]
        rfl
      go_wp2
      go_ret
      exact ⟨by rw [HBF.out]; rfl, (HU0.out.stay HU.out.1).1⟩
/-- Is a text among texts? -/
def knB (l : List ByteArray) (t : ByteArray) : Bool := l.any fun x => decide (x = t)
/-- Texts, wherever they lie. -/
def StA (w : World) (v : Value) (l : List ByteArray) : Prop := ∃ ad cap, v = .slice ad l.length cap ∧ l.length ≤ cap ∧ ∀ i x, l[i]? = some x → ∃ b off, ad = some ⟨b, off, none⟩ ∧ b < w.heap.size ∧ w.cell? ⟨b, off + i, none⟩ = some (.string x)
theorem StA.stay {w w' : World} {v : Value} {l : List ByteArray} (h : StA w v l) (hb : Below w.heap.size w w') : StA w' v l := by
  obtain ⟨ad, cap, e, hc, hh⟩ := h
  refine ⟨ad, cap, e, hc, fun i x hx => ?_⟩
  obtain ⟨b, off, e2, hl, h1⟩ := hh i x hx
  exact ⟨b, off, e2, Nat.lt_of_lt_of_le hl hb.size, cell_stay h1 hb⟩
theorem SS.any {w : World} {base : Nat} {v : Value} {l : List ByteArray} (h : SS w base v l) : StA w v l := by
  have h0 := h
  unfold SS at h
  obtain ⟨_, ⟨rfl, h2⟩ | ⟨g, cap, cur, rfl, _, hh, hc, _⟩⟩ := h
  · have : l = [] := List.eq_nil_of_length_eq_zero h2
    subst this
    exact ⟨none, 0, rfl, Nat.le_refl _, fun i x hx => by simp at hx⟩
  · refine ⟨_, _, rfl, hc, fun i x hx => ⟨g, 0, rfl, lt_of_heap hh, ?_⟩⟩
    have hi : i < l.length := (List.getElem?_eq_some_iff.1 hx).1
    unfold SS at h0
    rw [Nat.zero_add, h0.cellAt i (by omega), List.getElem?_map, hx]
    rfl
theorem knB_cons (x : ByteArray) (l : List ByteArray) (t : ByteArray) : knB (x :: l) t = (decide (x = t) || knB l t) := rfl
set_option maxHeartbeats 4000000 in
set_option maxRecDepth 100000 in
theorem rkn_any {w : World} {va vb : Value} {ws : List ByteArray} (h : StA w vb ws) (hva : ∃ a m c, va = .slice a m c) (t : ByteArray) (ht : t.size ≤ 5000) (hl : ws.length ≤ maxLen) :
    Calls Tryd.prog 17 #[.agg #[va, vb], .string t] w fun e w' => e = .returned (.bool (knB ws (fld t))) ∧ Below w.heap.size w w' := by
  obtain ⟨x1, x2, x3, rfl⟩ := hva
  have HA : Hid (StA w vb ws) := h
  obtain ⟨ad, cap, rfl, hcap, -⟩ := h
  obtain ⟨n, hn⟩ : ∃ n, ws.length = n := ⟨_, rfl⟩
  have HN : Hid (ws.length = n) := hn
  have CF := fun w' => rfold_any t w' ht
  obtain ⟨F, hF⟩ : ∃ F, fld t = F := ⟨_, rfl⟩
  rw [hF] at CF ⊢
  obtain ⟨B, hB⟩ : ∃ B, knB ws F = B := ⟨_, rfl⟩
  have HB : Hid (knB ws F = B) := hB
  rw [hB]
  rw [hn] at hl hcap ⊢
  unfold maxLen at hl
  obtain ⟨W0, hW0⟩ : ∃ W0, w.alloc (.cells #[.slice x1 x2 x3, .slice ad n cap] 32) = W0 := ⟨_, rfl⟩
  obtain ⟨D, hD⟩ : ∃ D, w.heap.size = D := ⟨_, rfl⟩
  have HU0 : Hid (Up w.heap.size w W0) := by rw [← hW0]; exact (Up.refl w).alloc _
  have hcl : W0.heap[D]? = some (.cells #[.slice x1 x2 x3, .slice ad n cap] 32) := by rw [← hW0, ← hD]; exact heap_alloc_new _ _
  have HK : Hid (W0.cell? ⟨D, 1, none⟩ = some (.slice ad n cap)) := by show _ = _; simp [World.cell?, hcl]
  have cf := CF W0
  clear hn hB hcl CF hF ht
  go_enter Tryd.func17, Tryd.ntmps17
  go_wp2_with fail
  refine cf.mono ?_
  rintro e W1 ⟨rfl, hb1⟩
  have HU1 : Hid (Up W0.heap.size W0 W1) := ⟨hb1, hb1.size⟩
  clear cf hb1 hW0 hD
  go_wp2
  go_loopg [5] n (fun q iv wr => ∃ i : Nat, i ≤ n ∧ q = n - i ∧ iv = .int .i64 (i : Int) ∧ Hid (knB (ws.drop i) F = B) ∧ Hid (Up W0.heap.size W0 wr))
  case atStart => exact ⟨0, Nat.zero_le _, rfl, rfl, HB, HU1⟩
  case round =>
    obtain ⟨i, hi, hq, rfl, HBi, HU⟩ := hrel
    have k0 := cell_stay HK.out HU.out.1
    by_cases hlt : i < n
    · have z0 : (0 : Int) ≤ (i : Int) := by omega
      have z1 : (i : Int) < (n : Int) := by omega
      obtain ⟨x, hx⟩ : ∃ x, ws[i]? = some x := ⟨_, List.getElem?_eq_getElem (by rw [HN.out]; exact hlt)⟩
      obtain ⟨ad', cap', eA, -, hh⟩ := HA.out
      injection eA with eA1 eA2 eA3
      subst eA1 eA3
      clear eA2
      obtain ⟨b, off, rfl, -, a1⟩ := hh i x hx
      have a1 := cell_stay a1 (HU0.out.stay HU.out.1).1
      have hdr : ws.drop i = x :: ws.drop (i + 1) := by
        have hlt' : i < ws.length := by rw [HN.out]; exact hlt
        rw [List.drop_eq_getElem_cons hlt']
        rw [List.getElem?_eq_getElem hlt'] at hx
        rw [Option.some.inj hx]
      have HB3 : Hid ((decide (x = F) || knB (ws.drop (i + 1)) F) = B) := by
        show _ = _
        rw [← HBi.out, hdr, knB_cons]
      clear hh hx hdr HBi
      by_cases hxF : x = F
      · have e1 : (x.toList == F.toList) = true := tl_eq rfl hxF
        have HBT : Hid (B = true) := by
          show _ = _
          rw [← HB3.out, show decide (x = F) = true from decide_eq_true hxF]
          rfl
        clear HB3 hxF
        go_wp2
        go_ret
        exact ⟨by rw [HBT.out]; rfl, (HU0.out.stay HU.out.1).1⟩
      · have e1 : (x.toList == F.toList) = false := tl_ne rfl hxF
        have HBi : Hid (knB (ws.drop (i + 1)) F = B) := by
          show _ = _
          rw [← HB3.out, show decide (x = F) = false from decide_eq_false hxF, Bool.false_or]
        clear HB3 hxF
        go_wp2
        go_roundg (n - (i + 1))
        case measure => omega
        case rel => exact ⟨i + 1, by omega, rfl, by go_num, HBi, HU⟩
    · have z1 : ¬ (i : Int) < (n : Int) := by omega
      have HBF : Hid (B = false) := by
        show _ = _
        rw [← HBi.out, List.drop_eq_nil_of_le (by rw [HN.out]; omega)]
        rfl
      go_wp2
      go_ret
      exact ⟨by rw [HBF.out]; rfl, (HU0.out.stay HU.out.1).1⟩
end Go.Proofs.YteeeekpeokgaeaaDoor
