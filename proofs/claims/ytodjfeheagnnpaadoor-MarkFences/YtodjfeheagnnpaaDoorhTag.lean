/- html: Read. -/
import Derived.Test.YtodjfeheagnnpaaDoorhAtt
import Derived.Test.YtodjfeheagnnpaaDoorlSegP
import Derived.Deep.AppendLies
namespace Go.Proofs.YtodjfeheagnnpaaDoor
set_option linter.unusedVariables false
open Go.RowKit Go.ChangeShapes
/-- Spans as cells, in a row of their own. -/
def prC (l : List (Nat × Nat)) : List Value := l.flatMap fun p => [.int .i64 (p.1 : Int), .int .i64 (p.2 : Int)]
theorem prC_len (l : List (Nat × Nat)) : (prC l).length = l.length * 2 := by
  induction l with
  | nil => rfl
  | cons x l ih =>
    show (_ :: _ :: prC l).length = _
    rw [List.length_cons, List.length_cons, ih, List.length_cons]
    omega
theorem prC_app (l m : List (Nat × Nat)) : prC (l ++ m) = prC l ++ prC m := by simp [prC]
theorem prC_at (l : List (Nat × Nat)) (i : Nat) (p : Nat × Nat) (h : l[i]? = some p) : (prC l)[i * 2]? = some (.int .i64 (p.1 : Int)) ∧ (prC l)[i * 2 + 1]? = some (.int .i64 (p.2 : Int)) := by
  induction l generalizing i with
  | nil => simp at h
  | cons x l ih =>
    have hc : prC (x :: l) = .int .i64 (x.1 : Int) :: .int .i64 (x.2 : Int) :: prC l := rfl
    rw [hc]
    match i, h with
    | 0, h =>
      simp at h; subst h
      exact ⟨rfl, rfl⟩
    | i + 1, h =>
      have h' : l[i]? = some p := by simpa using h
      obtain ⟨a, b⟩ := ih i h'
      rw [show (i + 1) * 2 = i * 2 + 2 by omega]
      exact ⟨a, b⟩
def PR (w : World) (base : Nat) (v : Value) (l : List (Nat × Nat)) : Prop := w.ownsRow base 29 2 v l.length (prC l)
theorem PR.stay {w w' : World} {base : Nat} {v : Value} {l : List (Nat × Nat)} (h : PR w base v l) (hb : Below w.heap.size w w') : PR w' base v l := own_stay h hb
theorem PR.form {w : World} {base : Nat} {v : Value} {l : List (Nat × Nat)} (h : PR w base v l) : ∃ ad c, v = .slice ad l.length c := own_form h
theorem PR.mono {w : World} {base base' : Nat} {v : Value} {l : List (Nat × Nat)} (h : PR w base v l) (hb : base' ≤ base) : PR w base' v l := own_mono h hb
theorem PR.cells {w : World} {base g n c : Nat} {l : List (Nat × Nat)} (h : PR w base (.slice (some ⟨g, 0, none⟩) n c) l) (hn : n = l.length) {i : Nat} {p : Nat × Nat} (hs : l[i]? = some p) :
    w.cell? ⟨g, i * 2, none⟩ = some (.int .i64 (p.1 : Int)) ∧ w.cell? ⟨g, i * 2 + 1, none⟩ = some (.int .i64 (p.2 : Int)) := by
  subst hn
  have hlt := (List.getElem?_eq_some_iff.1 hs).1
  obtain ⟨a, b⟩ := prC_at l i p hs
  exact ⟨(World.ownsRow.cellAt h _ (by omega)).trans a, (World.ownsRow.cellAt h _ (by omega)).trans b⟩
theorem infoPr : (Tryd.prog.info? 29).map (fun i => (i.zero, i.size, i.bytes)) = some (some (.agg #[.int .i64 0, .int .i64 0]), 2, 16) := by kernel_rfl
theorem pr_one (a n : Int) : ∀ u ∈ [Value.int .i64 a, .int .i64 n], u.oneCell' = true := by
  intro u hu
  simp only [List.mem_cons, List.not_mem_nil, or_false] at hu
  rcases hu with rfl | rfl <;> rfl
theorem own_keep {w w' : World} {base e size n : Nat} {v : Value} {xs : List Value} (h : w.ownsRow base e size v n xs) (hb : ∀ g, base ≤ g → g < w.heap.size → w'.heap[g]? = w.heap[g]?) : w'.ownsRow base e size v n xs := by
  obtain ⟨h1, h2 | ⟨g, cap, cur, rfl, hg, hh, h3⟩⟩ := h
  · exact ⟨h1, Or.inl h2⟩
  · refine ⟨h1, Or.inr ⟨g, cap, cur, rfl, hg, ?_, h3⟩⟩
    rw [hb g hg (lt_of_heap hh)]; exact hh
theorem own_set {w : World} {base e size n : Nat} {v : Value} {xs : List Value} (h : w.ownsRow base e size v n xs) {p : Addr} (hp : p.block < base) (u : Value) : (w.setCell p u).ownsRow base e size v n xs :=
  own_keep h fun g hg _ => heap_setCell_other w p g u (by omega)
/-- A tag: where it ends, its name, whether it closes, what of it is prose. -/
structure Tg where
  e : Nat
  nm : List Int
  cl : Bool
  pr : List (Nat × Nat)
def tg (c : Nat → Int) (n i : Nat) : Option Tg := if bg c i = true then (rd c n (ps nmB c n (tgF c i)) []).map fun r => ⟨r.1, nm c (tgF c i) (ps nmB c n (tgF c i)), c (i + 1) == 47, r.2⟩ else none
/-- What Read answers. -/
def RdP (c : Nat → Int) (n i : Nat) (w : World) (ev : Ending) (w' : World) : Prop :=
  (tg c n i = none ∧ ev = .returned (.tuple #[.agg #[.int .i64 0, .string ⟨#[]⟩, .bool false, .slice none 0 0], .bool false]) ∧ Below w.heap.size w w') ∨
  ∃ t pv, tg c n i = some t ∧ ev = .returned (.tuple #[.agg #[.int .i64 (t.e : Int), .string (strOfNums t.nm), .bool t.cl, pv], .bool true]) ∧ PR w' w.heap.size pv t.pr ∧ Below w.heap.size w w'
theorem read_out {w : World} {ad : Option Addr} {n cap : Nat} (i : Int) (hi : i < 0 ∨ (n : Int) ≤ i) :
    Calls Tryd.prog 10 #[.slice ad n cap, .int .i64 i] w fun ev w' => ev = .returned (.tuple #[.agg #[.int .i64 0, .string ⟨#[]⟩, .bool false, .slice none 0 0], .bool false]) ∧ Below w.heap.size w w' := by
  have ct := begins_no (w := w.alloc (.cells #[.int .i64 0, .string ⟨#[]⟩, .bool false, .slice none 0 0] 31)) (ad := ad) (n := n) (cap := cap) i hi
  clear hi
  go_enter Tryd.func10, Tryd.ntmps10
  go_wp2_with fail
  refine ct.mono ?_
  rintro e w1 ⟨rfl, hw⟩
  subst w1
  go_wp2
  exact bodyPost_ret (v := .tuple #[.agg #[.int .i64 0, .string ⟨#[]⟩, .bool false, .slice none 0 0], .bool false]) (by simp [results, Tryd.results10, go_sem]) rfl ⟨rfl, by (repeat (first | exact Below.refl _ _ | (refine Below.alloc ?_ (by simp <;> omega) _) | (refine Below.setCell ?_ (by simp <;> omega) _)))⟩
set_option maxRecDepth 100000 in
set_option maxHeartbeats 2000000 in
theorem read_any {w : World} {b off n cap : Nat} {c : Nat → Int} (hC : Ch c n) (h : BC w (some ⟨b, off, none⟩) n c) (hn : n ≤ 1000000) (hcap : n ≤ cap) (i : Nat) (hi : i < n) :
    Calls Tryd.prog 10 #[.slice (some ⟨b, off, none⟩) n cap, .int .i64 i] w (RdP c n i w) := by
  obtain ⟨W, hW⟩ : ∃ W, w.alloc (.cells #[.int .i64 0, .string ⟨#[]⟩, .bool false, .slice none 0 0] 31) = W := ⟨_, rfl⟩
  have hBW : Below w.heap.size w W := by rw [← hW]; exact below_alloc w _
  have hW0 : W.heap[w.heap.size]? = some (.cells #[.int .i64 0, .string ⟨#[]⟩, .bool false, .slice none 0 0] 31) := by rw [← hW]; exact heap_alloc_new _ _
  have ct := begins_any hC (h.stay hBW) (by omega) hcap i hi
  have HB : Hid (BC w (some ⟨b, off, none⟩) n c ∧ Ch c n) := ⟨h, hC⟩
  obtain ⟨Q, hQ⟩ : ∃ Q, RdP c n i w = Q := ⟨_, rfl⟩
  rw [hQ]
  have HQ : Hid (RdP c n i w = Q) := hQ
  clear h hQ hC
  cases hb : bg c i with
  | false =>
    rw [hb] at ct
    have htg : tg c n i = none := by unfold tg; rw [if_neg (by rw [hb]; exact Bool.false_ne_true)]
    go_enter Tryd.func10, Tryd.ntmps10
    go_wp2_with fail
    refine ct.mono ?_
    rintro e w1 ⟨rfl, hb1⟩
    have h1 := blk_stay hW0 hb1
    have HB1 : Hid (Below w.heap.size w w1) := hBW.trans (hb1.mono hBW.size)
    have HT : Hid (tg c n i = none) := htg
    have y0 : w1.frozen? ⟨w.heap.size, 0, none⟩ = false := by simp [World.frozen?, h1]
    have y1 : w1.frozen? ⟨w.heap.size, 1, none⟩ = false := by simp [World.frozen?, h1]
    have y2 : w1.frozen? ⟨w.heap.size, 2, none⟩ = false := by simp [World.frozen?, h1]
    have y3 : w1.frozen? ⟨w.heap.size, 3, none⟩ = false := by simp [World.frozen?, h1]
    have x0 : w1.cell? ⟨w.heap.size, 0, none⟩ = some (.int .i64 0) := by simp [World.cell?, h1]
    have x1 : w1.cell? ⟨w.heap.size, 1, none⟩ = some (.string ⟨#[]⟩) := by simp [World.cell?, h1]
    have x2 : w1.cell? ⟨w.heap.size, 2, none⟩ = some (.bool false) := by simp [World.cell?, h1]
    have x3 : w1.cell? ⟨w.heap.size, 3, none⟩ = some (.slice none 0 0) := by simp [World.cell?, h1]
    clear hb htg ct hb1 h1 hW hBW hW0
    go_wp2
    refine bodyPost_ret (v := .tuple #[.agg #[.int .i64 0, .string ⟨#[]⟩, .bool false, .slice none 0 0], .bool false]) (by simp [results, Tryd.results10, go_sem, *]) rfl ?_
    rw [← HQ.out]
    exact Or.inl ⟨HT.out, rfl, by (repeat (first | exact HB1.out | (refine Below.setCell ?_ (by simp <;> omega) _)))⟩
  | true =>
    rw [hb] at ct
    have hlF : ltB (c (tgF c i)) = true := by unfold bg at hb; simp only [Bool.and_eq_true] at hb; exact hb.2
    have hF : tgF c i < n := by
      rcases Nat.lt_or_ge (tgF c i) n with h1 | h1
      · exact h1
      · rw [HB.out.2.2 _ h1] at hlF; exact absurd hlF (by decide)
    have hF1 : i + 1 ≤ tgF c i := by unfold tgF; split <;> omega
    have htg : tg c n i = (rd c n (ps nmB c n (tgF c i)) []).map fun r => ⟨r.1, nm c (tgF c i) (ps nmB c n (tgF c i)), c (i + 1) == 47, r.2⟩ := by unfold tg; rw [if_pos hb]
    have HT : Hid (tg c n i = (rd c n (ps nmB c n (tgF c i)) []).map fun r => ⟨r.1, nm c (tgF c i) (ps nmB c n (tgF c i)), c (i + 1) == 47, r.2⟩) := htg
    obtain ⟨cl, hcl⟩ : ∃ cl, (c (i + 1) == 47) = cl := ⟨_, rfl⟩
    have hFc : tgF c i = if cl = true then i + 2 else i + 1 := by
      unfold tgF
      by_cases e : c (i + 1) = 47
      · rw [if_pos e, ← hcl, e]; rfl
      · rw [if_neg e, ← hcl, if_neg (by simpa using e)]
    rw [hcl] at HT
    obtain ⟨F, hFe⟩ : ∃ F, tgF c i = F := ⟨_, rfl⟩
    rw [hFe] at hF hF1 HT hFc
    obtain ⟨E, hE⟩ : ∃ E, ps nmB c n F = E := ⟨_, rfl⟩
    rw [hE] at HT
    have hE1 : F ≤ E := by rw [← hE]; exact ps_ge _ _ _ _
    have hE2 : E ≤ n := by rw [← hE]; exact ps_le _ _ (by omega)
    have HE : Hid (ps nmB c n F = E) := hE
    have z0 : (0 : Int) ≤ (i : Int) + 1 := by omega
    have z1 : (i : Int) + 1 < (n : Int) := by omega
    obtain ⟨x, hx⟩ : ∃ x, c (i + 1) = x := ⟨_, rfl⟩
    rw [hx] at hcl
    have HX : Hid (c (i + 1) = x) := hx
    clear hb htg hlF hFe hE hx
    go_enter Tryd.func10, Tryd.ntmps10
    go_wp2_with fail
    refine ct.mono ?_
    rintro e w1 ⟨rfl, hb1⟩
    have h1 := blk_stay hW0 hb1
    have HB1 : Hid (Below w.heap.size w w1) := hBW.trans (hb1.mono hBW.size)
    have hbc1 := HB.out.1.stay HB1.out
    obtain ⟨b', off', eq', hc⟩ := hbc1 (i + 1) (by omega)
    injection eq' with eq'
    injection eq' with e1 e2 _
    subst e1 e2
    rw [HX.out] at hc
    clear ct hb1 hW hBW hW0
    go_upto_if 24 with fail
    go_cut [6] (fun v wx => v = .int .i64 (F : Int) ∧ wx = w1)
    case first =>
      cases cl with
      | true =>
        have HF2 : Hid (F = i + 2) := hFc
        clear hFc
        go_wp2
        go_meet
        case rel => exact ⟨by rw [HF2.out]; go_num, rfl⟩
      | false =>
        have HF2 : Hid (F = i + 1) := hFc
        clear hFc
        go_wp2
        go_meet
        case rel => exact ⟨by rw [HF2.out]; go_num, rfl⟩
    case rest =>
      obtain ⟨rfl, hwc⟩ := hcut
      subst wc
      have ct1 := pass_any (cap := cap) hbc1 (by omega) F 22 nmB enN inName_any
      rw [HE.out] at ct1
      have hfr := BC.from hbc1 F (by omega) hcap
      rw [if_neg (show ¬ cap = F by omega)] at hfr
      have ct2 := small_any (cap := cap - F) (hfr.upto (m := E - F) (by omega)) (by omega)
      rw [nm_shift] at ct2
      obtain ⟨X, hX⟩ : ∃ X, strOfNums (nm c F E) = X := ⟨_, rfl⟩
      rw [hX] at ct2
      have HXN : Hid (strOfNums (nm c F E) = X) := hX
      have z2 : (F : Int) ≤ (E : Int) := by omega
      have z3 : (E : Int) ≤ (cap : Int) := by omega
      have z4 : (0 : Int) ≤ (F : Int) := by omega
      have z5 : ¬ cap = F := by omega
      clear hX hfr hbc1 hc hFc
      go_wp2_with fail
      refine ct1.mono ?_
      rintro e w2 ⟨rfl, hw⟩
      subst w2
      clear ct1
      go_wp2_with fail
      refine ct2.mono ?_
      rintro e w2 ⟨rfl, hb2⟩
      have HB2 : Hid (Below w.heap.size w w2) := HB1.out.trans (hb2.mono HB1.out.size)
      have h2 := blk_stay h1 hb2
      clear ct2 hb2 h1
      obtain ⟨V, hV⟩ : ∃ V, w2.alloc (.cells #[.int .i64 0, .string X, .bool cl, .slice none 0 0] 31) = V := ⟨_, rfl⟩
      obtain ⟨T, hT0⟩ : ∃ T, w2.heap.size = T := ⟨_, rfl⟩
      have HT0 : Hid (w2.heap.size = T) := hT0
      have HTV : Hid (V.heap[T]? = some (.cells #[.int .i64 0, .string X, .bool cl, .slice none 0 0] 31)) := by
        show _ = _
        rw [← hV, ← hT0]; exact heap_alloc_new _ _
      have HZV : Hid (V.heap[w.heap.size]? = some (.cells #[.int .i64 0, .string ⟨#[]⟩, .bool false, .slice none 0 0] 31)) := by
        show _ = _
        rw [← hV]; exact blk_stay h2 (below_alloc w2 _)
      have HUV : Hid (Up w.heap.size w V) := by
        show Up _ _ _
        rw [← hV]; exact Up.stay ⟨HB2.out, HB2.out.size⟩ (below_alloc w2 _)
      have HSV : Hid (V.heap.size = T + 1) := by
        show _ = _
        rw [← hV, ← hT0]; simp
      have HWT : Hid (w.heap.size < T) := by
        show _ < _
        rw [← hT0]
        exact lt_of_heap h2
      have HVV : Hid (w2.alloc (.cells #[.int .i64 0, .string X, .bool cl, .slice none 0 0] 31) = V) := hV
      clear h2 hT0 hV
      go_wp2_with fail
      rw [HVV.out, HT0.out]
      clear HVV HT0 HB2
      obtain ⟨i0, hi0, hz0, hz1, hz2⟩ := info_parts infoPr
      go_loopg [8] (n - E) (fun q iv wr => ∃ (k : Nat) (pd : Option Addr) (pn pc : Nat), k ≤ n ∧ q = n - k ∧ iv = .int .i64 k ∧ pn ≤ k ∧ Hid (wr.heap[T]? = some (.cells #[.int .i64 0, .string X, .bool cl, .slice pd pn pc] 31)) ∧ Hid (wr.heap[w.heap.size]? = some (.cells #[.int .i64 0, .string ⟨#[]⟩, .bool false, .slice none 0 0] 31)) ∧ Hid (∃ l, l.length = pn ∧ PR wr (T + 1) (.slice pd pn pc) l ∧ rd c n k l = rd c n E []) ∧ Hid (Up w.heap.size w wr) ∧ Hid (T + 1 ≤ wr.heap.size))
      case atStart => exact ⟨E, none, 0, 0, hE2, rfl, rfl, Nat.zero_le _, HTV, HZV, ⟨[], rfl, World.ownsRow_nil _ _ _ _, rfl⟩, HUV, (show T + 1 ≤ V.heap.size by rw [HSV.out]; exact Nat.le_refl _)⟩
      case round =>
        obtain ⟨k, pd, pn, pc, hk, hq, rfl, hpn, HTk, HZk, HL, HU, HS⟩ := hrel
        obtain ⟨l, hl, hpr, hrd⟩ := HL.out
        have HL2 : Hid (l.length = pn ∧ PR wr (T + 1) (.slice pd pn pc) l ∧ rd c n k l = rd c n E []) := ⟨hl, hpr, hrd⟩
        clear hl hpr hrd HL
        have y0 : wr.frozen? ⟨w.heap.size, 0, none⟩ = false := by simp [World.frozen?, HZk.out]
        have y1 : wr.frozen? ⟨w.heap.size, 1, none⟩ = false := by simp [World.frozen?, HZk.out]
        have y2 : wr.frozen? ⟨w.heap.size, 2, none⟩ = false := by simp [World.frozen?, HZk.out]
        have y3 : wr.frozen? ⟨w.heap.size, 3, none⟩ = false := by simp [World.frozen?, HZk.out]
        have x0 : wr.cell? ⟨w.heap.size, 0, none⟩ = some (.int .i64 0) := by simp [World.cell?, HZk.out]
        have x1 : wr.cell? ⟨w.heap.size, 1, none⟩ = some (.string ⟨#[]⟩) := by simp [World.cell?, HZk.out]
        have x2 : wr.cell? ⟨w.heap.size, 2, none⟩ = some (.bool false) := by simp [World.cell?, HZk.out]
        have x3 : wr.cell? ⟨w.heap.size, 3, none⟩ = some (.slice none 0 0) := by simp [World.cell?, HZk.out]
        by_cases hlt : k < n
        · have z6 : (k : Int) < (n : Int) := by omega
          have z7 : (0 : Int) ≤ (k : Int) := by omega
          obtain ⟨b', off', eq', hc⟩ := (HB.out.1.stay HU.out.1) k hlt
          injection eq' with eq'
          injection eq' with e1 e2 _
          subst e1 e2
          obtain ⟨ck, hck⟩ : ∃ ck, c k = ck := ⟨_, rfl⟩
          rw [hck] at hc
          have HCK : Hid (c k = ck) := hck
          clear hck
          by_cases h62 : ck = 62
          · subst h62
            have HN : Hid (tg c n i = some ⟨k + 1, nm c F E, cl, l⟩) := by
              show _ = _
              rw [HT.out, ← HL2.out.2.2, rd_shut HB.out.2.2 hlt HCK.out]
              rfl
            have t0 : wr.cell? ⟨T, 0, none⟩ = some (.int .i64 0) := by simp [World.cell?, HTk.out]
            have t1 : wr.cell? ⟨T, 1, none⟩ = some (.string X) := by simp [World.cell?, HTk.out]
            have t2 : wr.cell? ⟨T, 2, none⟩ = some (.bool cl) := by simp [World.cell?, HTk.out]
            have t3 : wr.cell? ⟨T, 3, none⟩ = some (.slice pd pn pc) := by simp [World.cell?, HTk.out]
            have f0 : wr.frozen? ⟨T, 0, none⟩ = false := by simp [World.frozen?, HTk.out]
            have hne : ¬ w.heap.size = T := by have := HWT.out; omega
            have hne2 : ¬ T = w.heap.size := by have := HWT.out; omega
            have hwk : IntKind.i64.wrap ((k : Int) + 1) = (k : Int) + 1 := (wrap_is _).trans (IntWalk.wrap64_in _ (by omega))
            go_wp2
            refine bodyPost_ret (v := .tuple #[.agg #[.int .i64 ((k : Int) + 1), .string X, .bool cl, .slice pd pn pc], .bool true]) (by simp [results, Tryd.results10, go_sem, *]) rfl ?_
            rw [← HQ.out]
            have hlw := HWT.out
            refine Or.inr ⟨⟨k + 1, nm c F E, cl, l⟩, .slice pd pn pc, HN.out, ?_, ?_, by (repeat (first | exact HU.out.1 | (refine Below.setCell ?_ (by simp <;> omega) _)))⟩
            · rw [HXN.out]; rfl
            · have hp := HL2.out.2.1
              unfold PR at hp ⊢
              refine own_mono ?_ (show w.heap.size ≤ T + 1 by omega)
              refine own_set (own_set (own_set (own_set (own_set ?_ (by simp <;> omega) _) (by simp <;> omega) _) (by simp <;> omega) _) (by simp <;> omega) _) (by simp <;> omega) _
              exact hp
          · by_cases h47 : ck = 47
            · subst h47
              go_wp2
              go_roundg (n - (k + 1))
              case measure => omega
              case rel => exact ⟨k + 1, pd, pn, pc, by omega, rfl, by go_num, by omega, HTk, HZk, ⟨l, HL2.out.1, HL2.out.2.1, (rd_skip HB.out.2.2 hlt (by rw [HCK.out]; decide) (Or.inl HCK.out) l).symm.trans HL2.out.2.2⟩, HU, HS⟩
            · have k1 : (ck == 62) = false := by simpa using h62
              have k2 : (ck == 47) = false := by simpa using h47
              have cb := blank_any ck wr
              cases hbk : bkB ck with
              | true =>
                rw [hbk] at cb
                have HBK : Hid (bkB (c k) = true) := by show _ = _; rw [HCK.out]; exact hbk
                clear hbk
                go_wp2_with fail
                refine cb.mono ?_
                rintro e w' ⟨rfl, hw⟩
                subst w'
                go_wp2
                go_roundg (n - (k + 1))
                case measure => omega
                case rel => exact ⟨k + 1, pd, pn, pc, by omega, rfl, by go_num, by omega, HTk, HZk, ⟨l, HL2.out.1, HL2.out.2.1, (rd_skip HB.out.2.2 hlt (by rw [HCK.out]; exact h62) (Or.inr HBK.out) l).symm.trans HL2.out.2.2⟩, HU, HS⟩
              | false =>
                rw [hbk] at cb
                have HAT : Hid (rd c n (atE c n k) (l ++ prL (atP c n k)) = rd c n E []) := by
                  show _ = _
                  rw [← HL2.out.2.2]
                  exact (rd_attr HB.out.2.2 hlt (by rw [HCK.out]; exact h62) (by rw [HCK.out, hbk]; simp [h47]) l).symm
                have hAE := atE_le HB.out.2.2 hlt
                obtain ⟨wA, hwA⟩ : ∃ wA, wr.alloc (.cells #[.int .i64 0, .int .i64 0] 29) = wA := ⟨_, rfl⟩
                have hbA : Below wr.heap.size wr wA := by rw [← hwA]; exact below_alloc wr _
                have hSA : wA.heap[wr.heap.size]? = some (.cells #[.int .i64 0, .int .i64 0] 29) := by rw [← hwA]; exact heap_alloc_new _ _
                have ca := attr_any HB.out.2 ((HB.out.1.stay HU.out.1).stay hbA) (by omega) hcap k hlt
                obtain ⟨A, hA⟩ : ∃ A, atE c n k = A := ⟨_, rfl⟩
                obtain ⟨⟨P1, P2⟩, hP⟩ : ∃ P, atP c n k = P := ⟨_, rfl⟩
                rw [hA, hP] at ca
                rw [hA, hP] at HAT
                rw [hA] at hAE
                have HWA : Hid (wr.alloc (.cells #[.int .i64 0, .int .i64 0] 29) = wA) := hwA
                clear hbk hA hP hwA
                go_wp2_with (refine cb.mono ?_; rintro e w' ⟨rfl, hw⟩; subst w'; clear cb)
                rw [HWA.out]
                refine ca.mono ?_
                rintro e w3 ⟨rfl, hb3⟩
                have hbr : Below wr.heap.size wr w3 := hbA.trans (hb3.mono hbA.size)
                have hS3 := blk_stay hSA hb3
                have HT3 : Hid (w3.heap[T]? = some (.cells #[.int .i64 0, .string X, .bool cl, .slice pd pn pc] 31)) := blk_stay HTk.out hbr
                have HZ3 : Hid (w3.heap[w.heap.size]? = some (.cells #[.int .i64 0, .string ⟨#[]⟩, .bool false, .slice none 0 0] 31)) := blk_stay HZk.out hbr
                have HU3 : Hid (Up w.heap.size w w3) := HU.out.stay hbr
                have HP3 : Hid (PR w3 (T + 1) (.slice pd pn pc) l) := HL2.out.2.1.stay hbr
                have HS3 : Hid (T + 1 ≤ wr.heap.size ∧ wr.heap.size < w3.heap.size) := ⟨HS.out, lt_of_heap hS3⟩
                have g0 : w3.cell? ⟨wr.heap.size, 0, none⟩ = some (.int .i64 0) := by simp [World.cell?, hS3]
                have g1 : w3.cell? ⟨wr.heap.size, 1, none⟩ = some (.int .i64 0) := by simp [World.cell?, hS3]
                have f0 : w3.frozen? ⟨wr.heap.size, 0, none⟩ = false := by simp [World.frozen?, hS3]
                have f1 : w3.frozen? ⟨wr.heap.size, 1, none⟩ = false := by simp [World.frozen?, hS3]
                have HG3 : Hid (w3.heap[wr.heap.size]? = some (.cells #[.int .i64 0, .int .i64 0] 29)) := hS3
                obtain ⟨S, hS⟩ : ∃ S, wr.heap.size = S := ⟨_, rfl⟩
                rw [hS] at g0 g1 f0 f1 HS3 HG3 ⊢
                obtain ⟨W4, hW4⟩ : ∃ W4, (w3.setCell ⟨S, 0, none⟩ (.int .i64 P1)).setCell ⟨S, 1, none⟩ (.int .i64 P2) = W4 := ⟨_, rfl⟩
                have hn1 : S ≠ T := by have := HS3.out; omega
                have hn2 : S ≠ w.heap.size := by have := HS3.out; have := HWT.out; omega
                have oth : ∀ j, S ≠ j → W4.heap[j]? = w3.heap[j]? := fun j hj => by
                  rw [← hW4, heap_setCell_other _ _ _ _ (by simpa using fun e => hj e.symm), heap_setCell_other _ _ _ _ (by simpa using fun e => hj e.symm)]
                have HT4 : Hid (W4.heap[T]? = some (.cells #[.int .i64 0, .string X, .bool cl, .slice pd pn pc] 31)) := (oth T hn1).trans HT3.out
                have HZ4 : Hid (W4.heap[w.heap.size]? = some (.cells #[.int .i64 0, .string ⟨#[]⟩, .bool false, .slice none 0 0] 31)) := (oth _ hn2).trans HZ3.out
                have HS4 : Hid (W4.heap[S]? = some (.cells #[.int .i64 P1, .int .i64 P2] 29)) := by
                  show _ = _
                  rw [← hW4]
                  exact heap_setCell_same _ S 1 #[.int .i64 P1, .int .i64 0] _ _ (heap_setCell_same _ S 0 #[.int .i64 0, .int .i64 0] _ _ HG3.out)
                have HU4 : Hid (Up w.heap.size w W4) := by
                  show Up _ _ _
                  rw [← hW4]
                  have := HS3.out
                  have := HWT.out
                  exact (HU3.out.setCell (by simp <;> omega) _).setCell (by simp <;> omega) _
                have hz4 : W4.heap.size = w3.heap.size := by rw [← hW4]; simp
                have HP4 : Hid (PR W4 (T + 1) (.slice pd pn pc) l) :=
                  own_keep HL2.out.2.1 fun g hg hlt' => (oth g (by omega)).trans (hbr.block g hlt')
                have HL4 : Hid (l.length = pn) := HL2.out.1
                have hs4 : T + 1 ≤ W4.heap.size := by rw [hz4]; have := HS3.out; omega
                have a0 : W4.cell? ⟨S, 0, none⟩ = some (.int .i64 P1) := by simp [World.cell?, HS4.out]
                have a1 : W4.cell? ⟨S, 1, none⟩ = some (.int .i64 P2) := by simp [World.cell?, HS4.out]
                clear oth ca hb3 hbr hS3 hSA hbA hn1 hn2 x0 x1 x2 x3 y0 y1 y2 y3 hS hc hz4
                by_cases hP2 : P2 = 0
                · have q1 : ¬ (0 : Int) < (P2 : Int) := by omega
                  have HPL : Hid (prL (P1, P2) = []) := by
                    show prL _ = _
                    unfold prL
                    rw [if_neg (show ¬ 0 < P2 by omega)]
                  clear hP2
                  go_wp2
                  go_roundg (n - A)
                  case measure => omega
                  case rel => exact ⟨A, pd, pn, pc, by omega, rfl, rfl, by omega, HT4, HZ4, ⟨l, HL4.out, HP4.out, by have := HAT.out; rw [HPL.out, List.append_nil] at this; exact this⟩, HU4, hs4⟩
                · have q1 : (0 : Int) < (P2 : Int) := by omega
                  have HPL : Hid (prL (P1, P2) = [(P1, P2)]) := by
                    show prL _ = _
                    unfold prL
                    rw [if_pos (show 0 < P2 by omega)]
                  have t3 : W4.cell? ⟨T, 3, none⟩ = some (.slice pd pn pc) := by simp [World.cell?, HT4.out]
                  have HO : Hid (W4.ownsRow (T + 1) 29 2 (.slice pd pn pc) pn (prC l)) := by
                    have := HP4.out
                    unfold PR at this
                    rw [HL4.out] at this
                    exact this
                  go_wp2_with (at_builtin; refine wpList_append_lies _ rfl _ _ 26 rfl (T + 1) 29 i0 _ 2 16 Tryd.underlying26 hi0 hz0 hz1 hz2 rfl (by decide) _ _ _ rfl (HO.out.alloc _) ⟨W4.heap.size, 0, none⟩ 1 1 [.int .i64 (P1 : Int), .int .i64 (P2 : Int)] rfl rfl (World.news_of_block (heap_alloc_new _ _)) (pr_one _ _) (by omega) (by unfold maxLen; omega) (by omega) (by simp; omega) (W4.heap.size + 1) (by simp) ?_)
                  intro g1 cap1 w5 ho1 hg1 ha1 hlt1
                  have hob : ∀ j, j < T + 1 → some j ≠ (Value.slice pd pn pc).ownBlock := fun j hj e => by
                    have := own_base HO.out j e.symm
                    omega
                  have HT5 : Hid (w5.heap[T]? = some (.cells #[.int .i64 0, .string X, .bool cl, .slice pd pn pc] 31)) := by
                    have h1 := blk_stay HT4.out (below_alloc W4 (.cells #[.int .i64 P1, .int .i64 P2] 29))
                    exact (hg1.block T (lt_of_heap h1) (hob T (by omega))).trans h1
                  have HZ5 : Hid (w5.heap[w.heap.size]? = some (.cells #[.int .i64 0, .string ⟨#[]⟩, .bool false, .slice none 0 0] 31)) := by
                    have h1 := blk_stay HZ4.out (below_alloc W4 (.cells #[.int .i64 P1, .int .i64 P2] 29))
                    exact (hg1.block _ (lt_of_heap h1) (hob _ (by have := HWT.out; omega))).trans h1
                  have HU5 : Hid (Up w.heap.size w w5) := (HU4.out.alloc _).grown hg1 (fun j hj => by
                    have := own_base HO.out j hj
                    have := HWT.out
                    omega)
                  have HO5 : Hid (w5.ownsRow (T + 1) 29 2 (.slice (some ⟨g1, 0, none⟩) (pn + 1) cap1) (pn + 1) (prC l ++ [.int .i64 (P1 : Int), .int .i64 (P2 : Int)])) := ho1
                  have HS5 : Hid (T + 1 ≤ w5.heap.size) := by
                    have h1 := hg1.size
                    have h2 : (W4.alloc (.cells #[.int .i64 P1, .int .i64 P2] 29)).heap.size = W4.heap.size + 1 := by simp
                    show T + 1 ≤ _
                    omega
                  have t5 : w5.cell? ⟨T, 3, none⟩ = some (.slice pd pn pc) := by simp [World.cell?, HT5.out]
                  have f5 : w5.frozen? ⟨T, 3, none⟩ = false := by simp [World.frozen?, HT5.out]
                  clear ho1 hg1 ha1 hlt1 hob
                  go_wp2
                  go_roundg (n - A)
                  case measure => omega
                  case rel =>
                    refine ⟨A, some ⟨g1, 0, none⟩, pn + 1, cap1, by omega, rfl, rfl, by omega, ?_, ?_, ⟨l ++ [(P1, P2)], ?_, ?_, ?_⟩, ?_, ?_⟩
                    · exact heap_setCell_same _ T 3 #[.int .i64 0, .string X, .bool cl, .slice pd pn pc] _ _ HT5.out
                    · show (World.setCell _ _ _).heap[w.heap.size]? = _
                      rw [heap_setCell_other _ _ _ _ (by simp; have := HWT.out; omega)]
                      exact HZ5.out
                    · rw [List.length_append, HL4.out]; rfl
                    · unfold PR
                      rw [List.length_append, HL4.out, prC_app]
                      exact own_set HO5.out (by simp) _
                    · have := HAT.out
                      rw [HPL.out] at this
                      exact this
                    · exact HU5.out.setCell (by simp; have := HWT.out; omega) _
                    · show T + 1 ≤ (World.setCell _ _ _).heap.size
                      have := HS5.out
                      simpa using this
        · have z6 : ¬ (k : Int) < (n : Int) := by omega
          have HN : Hid (tg c n i = none) := by
            show _ = _
            rw [HT.out, ← HL2.out.2.2, rd_end (by omega)]
            rfl
          go_wp2
          refine bodyPost_ret (v := .tuple #[.agg #[.int .i64 0, .string ⟨#[]⟩, .bool false, .slice none 0 0], .bool false]) (by simp [results, Tryd.results10, go_sem, *]) rfl ?_
          rw [← HQ.out]
          exact Or.inl ⟨HN.out, rfl, by (repeat (first | exact HU.out.1 | (refine Below.setCell ?_ (by simp <;> omega) _)))⟩
end Go.Proofs.YtodjfeheagnnpaaDoor
