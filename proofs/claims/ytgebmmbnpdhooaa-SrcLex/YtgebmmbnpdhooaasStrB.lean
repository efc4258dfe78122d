/- src: where strings are over, what is gone over at once. -/
import Derived.Test.YtgebmmbnpdhooaasStr
namespace Go.Proofs.Ytgebmmbnpdhooaa
set_option linter.unusedVariables false
open Go.RowKit Go.ChangeShapes
theorem GdQ.ne {q : Qt} (hq : GdQ q) : q.mark ≠ [] := by
  have := hq.pos
  intro e
  rw [e] at this
  exact absurd this (by decide)
theorem qcells {w W : World} {a0 a1 a2 a3 a4 : Value} {T : Nat} (hW : w.alloc (.cells #[a0, a1, a2, a3, a4] T) = W) : W.cell? ⟨w.heap.size, 0, none⟩ = some a0 ∧ W.cell? ⟨w.heap.size, 1, none⟩ = some a1 ∧ W.cell? ⟨w.heap.size, 2, none⟩ = some a2 ∧ W.cell? ⟨w.heap.size, 3, none⟩ = some a3 ∧ W.cell? ⟨w.heap.size, 4, none⟩ = some a4 := by
  subst hW
  have h := heap_alloc_new w (.cells #[a0, a1, a2, a3, a4] T)
  simp only [World.cell?, h]
  exact ⟨rfl, rfl, rfl, rfl, rfl⟩
theorem ends_any {w : World} {b off n cap : Nat} {c : Nat → Int} (hC : Ch c n) (h : BC w (some ⟨b, off, none⟩) n c) (hcap : n ≤ cap) (hbig : cap ≤ 9223372036854775807) {q : Qt} (hq : GdQ q) (h0 : 0 < n) :
    Calls Try.prog 42 #[qv q, .slice (some ⟨b, off, none⟩) n cap] w fun ev w' => ev = .returned (.bool (enB q c 0)) ∧ Below w.heap.size w w' := by
  obtain ⟨W, hW⟩ : ∃ W, w.alloc (.cells #[.string (strOfNums q.mark), .int .u8 q.inn, .bool q.esc, .bool q.dbl, .bool q.lng] 72) = W := ⟨_, rfl⟩
  have hb : Below w.heap.size w W := by rw [← hW]; exact below_alloc w _
  have ct := starts_any hC (h.stay hb) hcap hbig q.mark hq.byt hq.ne
  have cp := pair_any hC (h.stay hb) hcap hbig hq
  obtain ⟨b', off', e, hc0⟩ := h.stay hb 0 h0
  injection e with e
  injection e with e1 e2 _
  subst e1 e2
  have z1 : (0 : Int) < (n : Int) := by omega
  rw [Nat.add_zero] at hc0
  unfold enB
  unfold qv at cp ⊢
  cases q with
  | mk mk inn esc dbl lng =>
  dsimp only at *
  obtain ⟨M, hM⟩ : ∃ M, strOfNums mk = M := ⟨_, rfl⟩
  rw [hM] at ct cp hW ⊢
  obtain ⟨r, hr⟩ : ∃ r, oc mk c 0 = r := ⟨_, rfl⟩
  rw [hr] at ct ⊢
  obtain ⟨p, hp⟩ : ∃ p, prB ⟨mk, inn, esc, dbl, lng⟩ c 0 = p := ⟨_, rfl⟩
  rw [hp] at cp ⊢
  obtain ⟨x, hx⟩ : ∃ x, c 0 = x := ⟨_, rfl⟩
  rw [hx] at hc0 ⊢
  have HB : Hid (Below w.heap.size w W) := hb
  obtain ⟨y0, y1, y2, y3, y4⟩ := qcells hW
  clear h hC hr hM hq hp hx hb h0
  by_cases hx : x = 10
  · subst hx
    cases lng with
    | false =>
      clear ct cp
      go_enter Try.func42, Try.ntmps42
      go_wp2
      go_ret
      exact ⟨rfl, HB.out⟩
    | true =>
      cases r with
      | true =>
        go_enter Try.func42, Try.ntmps42
        go_wp2_with fail
        refine ct.mono ?_
        rintro ev w1 ⟨rfl, hw⟩
        subst w1
        go_wp2_with fail
        refine cp.mono ?_
        rintro ev w1 ⟨rfl, hb1⟩
        have HB1 : Hid (Below w.heap.size w w1) := HB.out.trans (hb1.mono HB.out.size)
        clear hb1
        go_wp2
        go_ret
        exact ⟨by simp, HB1.out⟩
      | false =>
        clear cp
        go_enter Try.func42, Try.ntmps42
        go_wp2_with fail
        refine ct.mono ?_
        rintro ev w1 ⟨rfl, hw⟩
        subst w1
        go_wp2
        go_ret
        exact ⟨by simp, HB.out⟩
  · have k1 : (x == 10) = false := by simpa using hx
    rw [k1]
    clear hx
    cases r with
    | true =>
      go_enter Try.func42, Try.ntmps42
      go_wp2_with fail
      refine ct.mono ?_
      rintro ev w1 ⟨rfl, hw⟩
      subst w1
      go_wp2_with fail
      refine cp.mono ?_
      rintro ev w1 ⟨rfl, hb1⟩
      have HB1 : Hid (Below w.heap.size w w1) := HB.out.trans (hb1.mono HB.out.size)
      clear hb1
      go_wp2
      go_ret
      exact ⟨by simp, HB1.out⟩
    | false =>
      clear cp
      go_enter Try.func42, Try.ntmps42
      go_wp2_with fail
      refine ct.mono ?_
      rintro ev w1 ⟨rfl, hw⟩
      subst w1
      go_wp2
      go_ret
      exact ⟨by simp, HB.out⟩
theorem taken_any {w : World} {b off n cap : Nat} {c : Nat → Int} (hC : Ch c n) (h : BC w (some ⟨b, off, none⟩) n c) (hcap : n ≤ cap) (hbig : cap ≤ 9223372036854775807) {q : Qt} (hq : GdQ q) (h0 : 0 < n) :
    Calls Try.prog 43 #[qv q, .slice (some ⟨b, off, none⟩) n cap] w fun ev w' => ev = .returned (.int .i64 (tkN q c 0 : Nat)) ∧ Below w.heap.size w w' := by
  obtain ⟨W, hW⟩ : ∃ W, w.alloc (.cells #[.string (strOfNums q.mark), .int .u8 q.inn, .bool q.esc, .bool q.dbl, .bool q.lng] 72) = W := ⟨_, rfl⟩
  have hb : Below w.heap.size w W := by rw [← hW]; exact below_alloc w _
  have cp := pair_any hC (h.stay hb) hcap hbig hq
  have hsz : (strOfNums q.mark).size = q.mark.length := strOfNums_size q.mark
  have hfw := hq.few
  have HH : Hid (Ch c n ∧ BC W (some ⟨b, off, none⟩) n c ∧ n ≤ cap ∧ cap ≤ 9223372036854775807 ∧ 0 < n) := ⟨hC, h.stay hb, hcap, hbig, h0⟩
  have z1 : (0 : Int) < (n : Int) := by omega
  have z2 : (1 : Int) ≤ (n : Int) := by omega
  have z3 : (n : Int) ≤ (cap : Int) := by omega
  unfold tkN
  have HB : Hid (Below w.heap.size w W) := hb
  unfold qv at cp ⊢
  unfold esB
  cases q with
  | mk mk inn esc dbl lng =>
  dsimp only at *
  obtain ⟨M, hM⟩ : ∃ M, strOfNums mk = M := ⟨_, rfl⟩
  rw [hM] at cp hW hsz ⊢
  obtain ⟨m, hm⟩ : ∃ m, mk.length = m := ⟨_, rfl⟩
  rw [hm] at hsz hfw ⊢
  obtain ⟨p, hp⟩ : ∃ p, prB ⟨mk, inn, esc, dbl, lng⟩ c 0 = p := ⟨_, rfl⟩
  rw [hp] at cp ⊢
  obtain ⟨y0, y1, y2, y3, y4⟩ := qcells hW
  have z9 : IntKind.i64.wrap (2 * (m : Int)) = ((2 * m : Nat) : Int) := by
    rw [Go.IntWalk.i64_in _ (by omega)]; omega
  clear h hC hM hm hq hp hb h0 hcap hbig
  cases p with
  | true =>
    go_enter Try.func43, Try.ntmps43
    go_wp2_with fail
    refine cp.mono ?_
    rintro ev w1 ⟨rfl, hb1⟩
    have HB1 : Hid (Below w.heap.size w w1) := HB.out.trans (hb1.mono HB.out.size)
    have x0 := cell_stay y0 hb1
    clear hb1 y0 y1 y2 y3 y4 cp
    go_wp2
    go_ret
    exact ⟨rfl, HB1.out⟩
  | false =>
    obtain ⟨b', off', e, hc0⟩ := HH.out.2.1 0 HH.out.2.2.2.2
    injection e with e
    injection e with e1 e2 _
    subst e1 e2
    rw [Nat.add_zero] at hc0
    have hfr := BC.from HH.out.2.1 1 (by have := HH.out.2.2.2.2; omega) HH.out.2.2.1
    obtain ⟨ad, ha⟩ : ∃ ad, (if cap = 1 then some (⟨b, off, none⟩ : Addr) else some ⟨b, off + 1, none⟩) = ad := ⟨_, rfl⟩
    rw [ha] at hfr
    obtain ⟨x, hx⟩ : ∃ x, c 0 = x := ⟨_, rfl⟩
    rw [hx] at hc0 ⊢
    rw [if_neg Bool.false_ne_true]
    have HS : Hid (∀ w1, Below W.heap.size W w1 → Calls Try.prog 36 #[.slice ad (n - 1) (cap - 1), .string (strOfNums [10])] w1 fun ev w' => ev = .returned (.bool (c (0 + 1) == 10)) ∧ w' = w1) := fun w1 hb1 => by
      have e1 : ∃ off2, ad = some ⟨b, off2, none⟩ := by
        rw [← ha]
        split
        · exact ⟨_, rfl⟩
        · exact ⟨_, rfl⟩
      obtain ⟨off2, e1⟩ := e1
      rw [e1] at hfr ⊢
      have := starts_any (HH.out.1.from 1 (by have := HH.out.2.2.2.2; omega)) (hfr.stay hb1) (show n - 1 ≤ cap - 1 by have := HH.out.2.2.1; omega) (by have := HH.out.2.2.2.1; omega) [10] (byt1 10 (by decide)) (by simp)
      rw [oc1] at this
      exact this
    obtain ⟨y, hy⟩ : ∃ y, (c (0 + 1) == 10) = y := ⟨_, rfl⟩
    rw [hy] at HS ⊢
    have HA : Hid ((if cap = 1 then some (⟨b, off, none⟩ : Addr) else some ⟨b, off + 1, none⟩) = ad) := ha
    clear hy hfr hx ha
    cases esc with
    | false =>
      go_enter Try.func43, Try.ntmps43
      go_wp2_with fail
      refine cp.mono ?_
      rintro ev w1 ⟨rfl, hb1⟩
      have HB1 : Hid (Below w.heap.size w w1) := HB.out.trans (hb1.mono HB.out.size)
      have x2 := cell_stay y2 hb1
      have x4 := cell_stay y4 hb1
      have xc := cell_stay hc0 hb1
      have cs := HS.out w1 hb1
      clear hb1 y0 y1 y2 y3 y4 cp hc0
      clear cs
      go_wp2
      go_ret
      exact ⟨rfl, HB1.out⟩
    | true =>
      by_cases hx : x = 92
      · subst hx
        cases lng with
        | true =>
          go_enter Try.func43, Try.ntmps43
          go_wp2_with fail
          refine cp.mono ?_
          rintro ev w1 ⟨rfl, hb1⟩
          have HB1 : Hid (Below w.heap.size w w1) := HB.out.trans (hb1.mono HB.out.size)
          have x2 := cell_stay y2 hb1
          have x4 := cell_stay y4 hb1
          have xc := cell_stay hc0 hb1
          have cs := HS.out w1 hb1
          clear hb1 y0 y1 y2 y3 y4 cp hc0
          clear cs
          go_wp2
          go_ret
          exact ⟨rfl, HB1.out⟩
        | false =>
          have ha := HA.out
          go_enter Try.func43, Try.ntmps43
          go_wp2_with fail
          refine cp.mono ?_
          rintro ev w1 ⟨rfl, hb1⟩
          have HB1 : Hid (Below w.heap.size w w1) := HB.out.trans (hb1.mono HB.out.size)
          have x2 := cell_stay y2 hb1
          have x4 := cell_stay y4 hb1
          have xc := cell_stay hc0 hb1
          have cs := HS.out w1 hb1
          clear hb1 y0 y1 y2 y3 y4 cp hc0
          go_wp2_with fail
          refine cs.mono ?_
          rintro ev w2 ⟨rfl, hw⟩
          subst w2
          cases y with
          | true =>
            go_wp2
            go_ret
            exact ⟨rfl, HB1.out⟩
          | false =>
            go_wp2
            go_ret
            exact ⟨rfl, HB1.out⟩
      · have k1 : (x == 92) = false := by simpa using hx
        rw [k1]
        clear hx
        go_enter Try.func43, Try.ntmps43
        go_wp2_with fail
        refine cp.mono ?_
        rintro ev w1 ⟨rfl, hb1⟩
        have HB1 : Hid (Below w.heap.size w w1) := HB.out.trans (hb1.mono HB.out.size)
        have x2 := cell_stay y2 hb1
        have x4 := cell_stay y4 hb1
        have xc := cell_stay hc0 hb1
        have cs := HS.out w1 hb1
        clear hb1 y0 y1 y2 y3 y4 cp hc0
        clear cs
        go_wp2
        go_ret
        exact ⟨rfl, HB1.out⟩
end Go.Proofs.Ytgebmmbnpdhooaa
