/- Off, Spans. -/
import Derived.Test.YteeeekpeokgaeaaDooryAl
import Derived.Test.YteeeekpeokgaeaaDoorySrc
import Derived.Lib.LazyBuf
namespace Go.Proofs.YteeeekpeokgaeaaDoor
set_option linter.unusedVariables false
open Go.RowKit Go.ChangeShapes Tns
/-- Spans rise, apart. -/
def Ris (l : List (Nat × Nat)) : Prop := ∀ (i j : Nat) (p q : Nat × Nat), i < j → l[i]? = some p → l[j]? = some q → p.1 + p.2 ≤ q.1
theorem ris_nil : Ris [] := fun i j p q _ h => by simp at h
theorem ris_app {l : List (Nat × Nat)} {x : Nat × Nat} (h : Ris l) (hx : ∀ p ∈ l, p.1 + p.2 ≤ x.1) : Ris (l ++ [x]) := fun i j p q hij hp hq => by
  rcases Nat.lt_trichotomy j l.length with hj | hj | hj
  · rw [List.getElem?_append_left hj] at hq
    rw [List.getElem?_append_left (by omega)] at hp
    exact h i j p q hij hp hq
  · subst hj
    rw [List.getElem?_append_right (Nat.le_refl _), Nat.sub_self] at hq
    rw [List.getElem?_append_left hij] at hp
    obtain rfl : x = q := by simpa using hq
    exact hx p (List.mem_of_getElem? hp)
  · rw [List.getElem?_append_right (by omega)] at hq
    have : 1 ≤ j - l.length := by omega
    rw [List.getElem?_eq_none (by simpa using this)] at hq
    cases hq
/-- Where the search ends: all ahead of it end at the place or before it, the others behind it. -/
def AtO (l : List (Nat × Nat)) (a : Int) (i : Nat) : Prop := i ≤ l.length ∧ (∀ t p, t < i → l[t]? = some p → ((p.1 + p.2 : Nat) : Int) ≤ a) ∧ (∀ t p, i ≤ t → l[t]? = some p → a < ((p.1 + p.2 : Nat) : Int))
theorem off_end {l : List (Nat × Nat)} {a : Int} {i : Nat} (h : AtO l a i) (hi : l.length ≤ i) : offB l a = false := by
  unfold offB
  rw [List.any_eq_false]
  intro p hp
  obtain ⟨t, ht⟩ := List.mem_iff_getElem?.1 hp
  have h1 := (List.getElem?_eq_some_iff.1 ht).1
  have h2 := h.2.1 t p (by omega) ht
  rw [decide_eq_false (show ¬ a < ((p.1 + p.2 : Nat) : Int) by omega), Bool.and_false]
  decide
theorem off_at_i {l : List (Nat × Nat)} {a : Int} {i : Nat} {x : Nat × Nat} (hr : Ris l) (h : AtO l a i) (hx : l[i]? = some x) : offB l a = decide ((x.1 : Int) ≤ a) := by
  have hxe := h.2.2 i x (Nat.le_refl _) hx
  by_cases hc : (x.1 : Int) ≤ a
  · rw [decide_eq_true hc]
    unfold offB
    rw [List.any_eq_true]
    refine ⟨x, List.mem_of_getElem? hx, ?_⟩
    rw [decide_eq_true hc, decide_eq_true hxe]
    rfl
  · rw [decide_eq_false hc]
    unfold offB
    rw [List.any_eq_false]
    intro p hp
    obtain ⟨t, ht⟩ := List.mem_iff_getElem?.1 hp
    rcases Nat.lt_trichotomy t i with h1 | h1 | h1
    · have h2 := h.2.1 t p h1 ht
      rw [decide_eq_false (show ¬ a < ((p.1 + p.2 : Nat) : Int) by omega), Bool.and_false]
      decide
    · subst h1
      rw [hx] at ht
      obtain rfl := Option.some.inj ht
      rw [decide_eq_false hc, Bool.false_and]
      decide
    · have h2 := hr i t x p h1 hx ht
      rw [decide_eq_false (show ¬ (p.1 : Int) ≤ a by omega), Bool.false_and]
      decide
set_option maxHeartbeats 4000000 in
set_option maxRecDepth 100000 in
theorem sea_ask {w : World} {B1 B2 R b off n c i p1 p2 P : Nat} {a : Int} (hi : i < n) (hP : p1 + p2 = P) (hle : P ≤ 100000) (c1 : w.cell? ⟨B1, 0, none⟩ = some (.pointer (some ⟨R, 0, none⟩))) (c2 : w.cell? ⟨B2, 0, none⟩ = some (.int .i64 a))
    (c3 : w.cell? ⟨R, 0, none⟩ = some (.slice (some ⟨b, off, none⟩) n c)) (c4 : w.cell? ⟨b, off + i * 2, none⟩ = some (.int .i64 (p1 : Int))) (c5 : w.cell? ⟨b, off + i * 2 + 1, none⟩ = some (.int .i64 (p2 : Int))) :
    Calls Tryd.prog 24 #[.int .i64 (i : Int), .pointer (some ⟨B1, 0, none⟩), .pointer (some ⟨B2, 0, none⟩)] w fun e w' => e = .returned (.bool (decide (a < (P : Int)))) ∧ ∃ m, w' = w.drewN m := by
  have z0 : (0 : Int) ≤ (i : Int) := by omega
  have z1 : (i : Int) < (n : Int) := by omega
  have z2 : IntKind.i64.wrap ((p1 : Int) + (p2 : Int)) = (P : Int) := by rw [IntWalk.i64_in _ (by omega)]; omega
  clear hP hle
  by_cases hx : a < (P : Int)
  · rw [decide_eq_true hx]
    go_enter Tryd.func24, Tryd.ntmps24
    go_wp2_with fail
    go_quiet (fail)
    go_wp2
    go_ret
    exact ⟨by first | rfl | (rw [decide_eq_true hx]; rfl), nq, rfl⟩
  · rw [decide_eq_false hx]
    go_enter Tryd.func24, Tryd.ntmps24
    go_wp2_with fail
    go_quiet (fail)
    go_wp2
    go_ret
    exact ⟨by first | rfl | (rw [decide_eq_false (show ¬ a < (P : Int) by omega)]; rfl), nq, rfl⟩
theorem cell_drewN {w : World} {x : Addr} {v : Value} (h : w.cell? x = some v) (m : Nat) : (w.drewN m).cell? x = some v := cell_stay h (Go.below_drewN (Below.refl _ _) m)
set_option maxHeartbeats 4000000 in
set_option maxRecDepth 100000 in
theorem sea_at {w : World} {B1 B2 R b off n c : Nat} {a : Int} {l : List (Nat × Nat)} (hn : l.length = n) (hk : n ≤ 100000) (hr : Ris l) (hb : ∀ p ∈ l, p.1 + p.2 ≤ 100000) (c1 : w.cell? ⟨B1, 0, none⟩ = some (.pointer (some ⟨R, 0, none⟩))) (c2 : w.cell? ⟨B2, 0, none⟩ = some (.int .i64 a))
    (c3 : w.cell? ⟨R, 0, none⟩ = some (.slice (some ⟨b, off, none⟩) n c)) (hc : ∀ i x, l[i]? = some x → w.cell? ⟨b, off + i * 2, none⟩ = some (.int .i64 (x.1 : Int)) ∧ w.cell? ⟨b, off + i * 2 + 1, none⟩ = some (.int .i64 (x.2 : Int))) :
    Calls Tryd.prog 23 #[.int .i64 n, .func (.func 24) #[] #[.pointer (some ⟨B1, 0, none⟩), .pointer (some ⟨B2, 0, none⟩)]] w fun e w' => ∃ i : Nat, e = .returned (.int .i64 i) ∧ AtO l a i ∧ ∃ m, w' = w.drewN m := by
  have HR : Hid (Ris l ∧ (∀ p ∈ l, p.1 + p.2 ≤ 100000) ∧ l.length = n) := ⟨hr, hb, hn⟩
  have HC : Hid (∀ i x, l[i]? = some x → w.cell? ⟨b, off + i * 2, none⟩ = some (.int .i64 (x.1 : Int)) ∧ w.cell? ⟨b, off + i * 2 + 1, none⟩ = some (.int .i64 (x.2 : Int))) := hc
  have C1 : Hid (w.cell? ⟨B1, 0, none⟩ = some (.pointer (some ⟨R, 0, none⟩)) ∧ w.cell? ⟨B2, 0, none⟩ = some (.int .i64 a) ∧ w.cell? ⟨R, 0, none⟩ = some (.slice (some ⟨b, off, none⟩) n c)) := ⟨c1, c2, c3⟩
  clear hr hb hn hc c1 c2 c3
  go_enter Tryd.func23, Tryd.ntmps23
  go_wp2
  go_loopg [5, 6] n (fun g vi vj wr => ∃ i j : Nat, i ≤ j ∧ j ≤ n ∧ g = j - i ∧ vi = .int .i64 i ∧ vj = .int .i64 j ∧ Hid ((∀ t p, t < i → l[t]? = some p → ((p.1 + p.2 : Nat) : Int) ≤ a) ∧ (∀ t p, j ≤ t → l[t]? = some p → a < ((p.1 + p.2 : Nat) : Int))) ∧ Hid (∃ m, wr = w.drewN m))
  case atStart => exact ⟨0, n, Nat.zero_le _, Nat.le_refl _, rfl, rfl, rfl, ⟨fun t p ht => absurd ht (Nat.not_lt_zero t), fun t p h1 h2 => absurd (List.getElem?_eq_some_iff.1 h2).1 (by rw [HR.out.2.2]; omega)⟩, ⟨0, rfl⟩⟩
  case round =>
    obtain ⟨i, j, hij, hjk, hg, rfl, rfl, HI, HD⟩ := hrel
    obtain ⟨m, rfl⟩ := HD.out
    clear HD
    by_cases hlt : i < j
    · have z1 : (i : Int) < (j : Int) := by omega
      obtain ⟨h, hh⟩ : ∃ h : Nat, h = (i + j) / 2 := ⟨_, rfl⟩
      have hh1 : i ≤ h := by omega
      have hh2 : h < j := by omega
      obtain ⟨x, hx⟩ : ∃ x, l[h]? = some x := ⟨_, List.getElem?_eq_getElem (by rw [HR.out.2.2]; omega)⟩
      have HX : Hid (l[h]? = some x) := hx
      obtain ⟨a1, a2⟩ := HC.out h x hx
      have hxb := HR.out.2.1 x (List.mem_of_getElem? hx)
      obtain ⟨P, hPe⟩ : ∃ P, x.1 + x.2 = P := ⟨_, rfl⟩
      have ca := sea_ask (w := w.drewN m) (show h < n by omega) hPe (by omega) (cell_drewN C1.out.1 m) (cell_drewN C1.out.2.1 m) (cell_drewN C1.out.2.2 m) (cell_drewN a1 m) (cell_drewN a2 m)
      have HPe : Hid (x.1 + x.2 = P) := hPe
      have e1 : ((i : Int) + (j : Int)) / 2 = ((h : Nat) : Int) := by omega
      clear hx a1 a2 hxb hPe hh
      go_wp2_with fail
      (try rw [e1])
      refine ca.mono ?_
      rintro e w1 ⟨rfl, m1, rfl⟩
      by_cases hx : a < (P : Int)
      · rw [decide_eq_true hx]
        have HI2 : Hid ((∀ t p, t < i → l[t]? = some p → ((p.1 + p.2 : Nat) : Int) ≤ a) ∧ (∀ t p, h ≤ t → l[t]? = some p → a < ((p.1 + p.2 : Nat) : Int))) := ⟨HI.out.1, fun t p h1 h2 => by
          rcases Nat.eq_or_lt_of_le h1 with h3 | h3
          · subst h3
            rw [HX.out] at h2
            obtain rfl := Option.some.inj h2
            rw [HPe.out]
            exact hx
          · have h4 := HR.out.1 h t x p h3 HX.out h2
            have h5 := HPe.out
            omega⟩
        clear ca HI hx
        go_wp2
        go_roundg (h - i)
        case measure => omega
        case rel => exact ⟨i, h, hh1, by omega, rfl, rfl, (by first | rfl | exact congrArg (Value.int .i64) (by omega)), HI2, ⟨_, rfl⟩⟩
      · rw [decide_eq_false hx]
        have HI2 : Hid ((∀ t p, t < h + 1 → l[t]? = some p → ((p.1 + p.2 : Nat) : Int) ≤ a) ∧ (∀ t p, j ≤ t → l[t]? = some p → a < ((p.1 + p.2 : Nat) : Int))) := ⟨fun t p h1 h2 => by
          rcases Nat.eq_or_lt_of_le (Nat.le_of_lt_succ h1) with h3 | h3
          · subst h3
            rw [HX.out] at h2
            obtain rfl := Option.some.inj h2
            rw [HPe.out]
            omega
          · have h4 := HR.out.1 t h p x h3 h2 HX.out
            have h5 := HPe.out
            omega, HI.out.2⟩
        clear ca HI hx
        go_wp2
        go_roundg (j - (h + 1))
        case measure => omega
        case rel => exact ⟨h + 1, j, hh2, hjk, rfl, by go_num, rfl, HI2, ⟨_, rfl⟩⟩
    · have z1 : ¬ (i : Int) < (j : Int) := by omega
      obtain rfl : i = j := by omega
      go_wp2_with fail
      go_ret
      exact ⟨i, rfl, ⟨by rw [HR.out.2.2]; exact hjk, HI.out.1, HI.out.2⟩, m, rfl⟩
theorem sea_zero (f : Value) (w : World) :
    Calls Tryd.prog 23 #[.int .i64 0, f] w fun e w' => e = .returned (.int .i64 0) ∧ w' = w := by
  go_enter Tryd.func23, Tryd.ntmps23
  go_wp2
  go_loopg [5, 6] (0) (fun g vi vj wr => vi = .int .i64 0 ∧ vj = .int .i64 0 ∧ wr = w)
  case atStart => exact ⟨rfl, rfl, rfl⟩
  case round =>
    obtain ⟨rfl, rfl, rfl⟩ := hrel
    go_wp2_with fail
    go_ret
    exact ⟨rfl, rfl⟩
set_option maxHeartbeats 4000000 in
set_option maxRecDepth 100000 in
theorem off_at {w : World} {R : Nat} {va mb : Value} {l : List (Nat × Nat)} {a : Int} (hR : w.heap[R]? = some (.cells #[va, mb] 49)) (hS : SpA w va l) (hr : Ris l) (hl : l.length ≤ 100000) (hb : ∀ p ∈ l, p.1 + p.2 ≤ 100000) :
    Calls Tryd.prog 14 #[.pointer (some ⟨R, 0, none⟩), .int .i64 a] w fun e w' => e = .returned (.bool (offB l a)) ∧ Below w.heap.size w w' := by
  have hmf : ∀ (fn : Fn) (first cap : Array Value) (w : World), (Instr.makeFunc fn first cap).run Tryd.prog w = .ok (.func fn first cap) w := fun _ _ _ _ => rfl
  obtain ⟨n, hn⟩ : ∃ n, l.length = n := ⟨_, rfl⟩
  have HR : Hid (Ris l ∧ (∀ p ∈ l, p.1 + p.2 ≤ 100000) ∧ l.length = n) := ⟨hr, hb, hn⟩
  have HS : Hid (SpA w va l) := hS
  obtain ⟨ad, cap, rfl, hcap, hh⟩ := hS
  obtain ⟨W, hW⟩ : ∃ W, (w.alloc (.cells #[.pointer (some ⟨R, 0, none⟩)] 28)).alloc (.cells #[.int .i64 a] 3) = W := ⟨_, rfl⟩
  have HU : Hid (Up w.heap.size w W) := by rw [← hW]; exact ((Up.refl w).alloc _).alloc _
  have c1 : W.cell? ⟨w.heap.size, 0, none⟩ = some (.pointer (some ⟨R, 0, none⟩)) := by rw [← hW]; simp
  have c2 : W.cell? ⟨w.heap.size + 1, 0, none⟩ = some (.int .i64 a) := by rw [← hW]; simp
  have c3 : W.cell? ⟨R, 0, none⟩ = some (.slice ad l.length cap) := by
    have hRl : R < w.heap.size := (Array.getElem?_eq_some_iff.1 hR).1
    refine cell_stay (w := w) ?_ HU.out.1
    simp [World.cell?, hR]
  rw [hn] at c3
  obtain ⟨D, hD⟩ : ∃ D, w.heap.size = D := ⟨_, rfl⟩
  rw [hD] at c1 c2
  have HL : Hid (n ≤ 100000) := by show _ ≤ _; omega
  obtain ⟨B, hB⟩ : ∃ B, offB l a = B := ⟨_, rfl⟩
  have HB : Hid (offB l a = B) := hB
  rw [hB]
  have HBe : Hid (Below w.heap.size w W) := HU.out.1
  rcases Nat.eq_zero_or_pos n with h0 | h0
  · subst h0
    have HF : Hid (B = false) := by
      show _ = _
      rw [← HB.out]
      exact off_end (i := 0) ⟨Nat.zero_le _, fun t p ht => absurd ht (Nat.not_lt_zero t), fun t p _ h2 => absurd (List.getElem?_eq_some_iff.1 h2).1 (by rw [HR.out.2.2]; omega)⟩ (by rw [HR.out.2.2]; exact Nat.le_refl _)
    have cs := fun f => sea_zero f W
    clear hR hr hl hb hn hcap hh hB
    go_enter Tryd.func14, Tryd.ntmps14
    go_wp2_with fail
    (try rw [hW])
    (try rw [hD])
    refine (cs _).mono ?_
    rintro e w1 ⟨rfl, rfl⟩
    clear cs hW hD
    go_upto_region 4 with fail
    go_quiet (fail)
    go_wp2
    go_ret
    exact ⟨by rw [HF.out]; rfl, Go.below_drewN HBe.out nq⟩
  · have hcs : ∃ b off, ad = some ⟨b, off, none⟩ := by
      obtain ⟨x, hx⟩ : ∃ x, l[0]? = some x := ⟨_, List.getElem?_eq_getElem (by omega)⟩
      obtain ⟨b, off, e, _⟩ := hh 0 x hx
      exact ⟨b, off, e⟩
    obtain ⟨b, off, rfl⟩ := hcs
    have HC : Hid (∀ i x, l[i]? = some x → W.cell? ⟨b, off + i * 2, none⟩ = some (.int .i64 (x.1 : Int)) ∧ W.cell? ⟨b, off + i * 2 + 1, none⟩ = some (.int .i64 (x.2 : Int))) := fun i x hx => by
      obtain ⟨b', off', e, _, h1, h2⟩ := hh i x hx
      injection e with e
      injection e with e1 e2
      subst e1 e2
      exact ⟨cell_stay h1 HU.out.1, cell_stay h2 HU.out.1⟩
    have cs := sea_at (a := a) HR.out.2.2 HL.out HR.out.1 HR.out.2.1 c1 c2 c3 HC.out
    clear hR hr hl hb hn hcap hh hB
    go_enter Tryd.func14, Tryd.ntmps14
    go_wp2_with fail
    (try rw [hW])
    (try rw [hD])
    refine cs.mono ?_
    rintro e w1 ⟨i, rfl, hA, m, rfl⟩
    have HA : Hid (AtO l a i) := hA
    have HBm : Hid (Below w.heap.size w (W.drewN m)) := Go.below_drewN HBe.out m
    have c1 := cell_drewN c1 m
    have c2 := cell_drewN c2 m
    have c3 := cell_drewN c3 m
    obtain ⟨V, hV⟩ : ∃ V, W.drewN m = V := ⟨_, rfl⟩
    have hile : i ≤ n := by rw [← HR.out.2.2]; exact hA.1
    by_cases hlt : i < n
    · obtain ⟨x, hx⟩ : ∃ x, l[i]? = some x := ⟨_, List.getElem?_eq_getElem (by rw [HR.out.2.2]; exact hlt)⟩
      have c4 := cell_drewN (HC.out i x hx).1 m
      have HBx : Hid (B = decide ((x.1 : Int) ≤ a)) := by
        show _ = _
        rw [← HB.out]
        exact off_at_i HR.out.1 HA.out hx
      obtain ⟨p, hp⟩ : ∃ p, x.1 = p := ⟨_, rfl⟩
      rw [hp] at c4 HBx
      have z0 : (0 : Int) ≤ (i : Int) := by omega
      have z1 : (i : Int) < (n : Int) := by omega
      rw [hV] at c1 c2 c3 c4 HBm ⊢
      clear cs hW hD hA hx hp hV hlt
      by_cases hc : (p : Int) ≤ a
      · have HF : Hid (B = true) := by
          show _ = _
          rw [HBx.out]
          exact decide_eq_true hc
        go_upto_region 4 with fail
        go_quiet (fail)
        go_wp2
        go_ret
        exact ⟨by rw [HF.out]; first | rfl | (rw [decide_eq_true hc]; rfl), Go.below_drewN HBm.out nq⟩
      · have HF : Hid (B = false) := by
          show _ = _
          rw [HBx.out]
          exact decide_eq_false hc
        go_upto_region 4 with fail
        go_quiet (fail)
        go_wp2
        go_ret
        exact ⟨by rw [HF.out]; first | rfl | (rw [decide_eq_false (show ¬ (p : Int) ≤ a by omega)]; rfl), Go.below_drewN HBm.out nq⟩
    · have z1 : ¬ (i : Int) < (n : Int) := by omega
      have HF : Hid (B = false) := by
        show _ = _
        rw [← HB.out]
        exact off_end HA.out (by rw [HR.out.2.2]; omega)
      rw [hV] at c1 c2 c3 HBm ⊢
      clear cs hW hD hA hV
      go_upto_region 4 with fail
      go_quiet (fail)
      go_wp2
      go_ret
      exact ⟨by rw [HF.out]; rfl, Go.below_drewN HBm.out nq⟩
theorem sp_one : ∀ l : List (Nat × Nat), ∀ u ∈ spC l, u.oneCell' = true := by
  intro l u hu
  unfold spC at hu
  rw [List.mem_flatMap] at hu
  obtain ⟨p, _, hp⟩ := hu
  simp only [List.mem_cons, List.not_mem_nil, or_false] at hp
  rcases hp with rfl | rfl <;> rfl
set_option maxHeartbeats 4000000 in
set_option maxRecDepth 100000 in
theorem clone_sp {w : World} {base : Nat} {v : Value} {l : List (Nat × Nat)} (hS : SpR w base v l) (hl : l.length ≤ 100000) :
    Calls Tryd.prog 22 #[v] w fun e w' => ∃ v', e = .returned v' ∧ SpR w' w.heap.size v' l ∧ Below w.heap.size w w' := by
  have heq := fun (a : Option Addr) (m c : Nat) => Go.run_eql_slice_nil (P := Tryd.prog) w 30 36 a m c Tryd.underlying30
  obtain ⟨iS, hi, hS0, hSa, hSb⟩ := info_parts infoSp
  have HR : Hid (SpR w base v l) := hS
  unfold SpR at hS
  obtain ⟨_, ⟨rfl, h2⟩ | ⟨g, cap, cur, rfl, _⟩⟩ := hS
  · obtain rfl : l = [] := List.eq_nil_of_length_eq_zero h2
    have heq := heq none 0 0
    go_enter Tryd.func22, Tryd.ntmps22
    go_wp2
    go_ret
    exact ⟨_, rfl, World.ownsRow_nil w _ _ _, Below.refl _ _⟩
  · have heq := heq (some ⟨g, 0, none⟩) l.length cap
    have hlen := spC_len l
    obtain ⟨n, hn⟩ : ∃ n, l.length = n := ⟨_, rfl⟩
    have HN : Hid (l.length = n) := hn
    rw [hn] at heq HR hl hlen ⊢
    obtain ⟨W, hW⟩ : ∃ W, w.alloc (.cells #[] 36) = W := ⟨_, rfl⟩
    have HU : Hid (Up w.heap.size w W) := by rw [← hW]; exact (Up.refl w).alloc _
    have HO : Hid (W.ownsRow w.heap.size 36 2 (.slice (some ⟨w.heap.size, 0, none⟩) 0 0) 0 []) := by rw [← hW]; exact World.ownsRow_lit w #[] 0 (Nat.le_refl _) (Nat.zero_le _) rfl
    have HSr : Hid (Srcs W (.slice (some ⟨g, 0, none⟩) n cap) n 2 (spC l)) := by
      have h := srcs_own HR.out
      rw [HN.out] at h
      exact h.stay HU.out.1
    clear hn
    go_enter Tryd.func22, Tryd.ntmps22
    go_wp2_with (at_builtin; (try rw [hW]); refine app_src rfl (.tmp 5) (.tmp 6) 30 rfl w.heap.size 36 iS _ 2 16 Tryd.underlying30 hi hS0 hSa hSb rfl (by decide) _ _ _ rfl HO.out _ _ _ rfl HSr.out (sp_one l) (by unfold maxLen; omega) (by omega) HU.out.2 ?_; intro v' w3 hown hgr)
    have HF : Hid (w3.ownsRow w.heap.size 36 2 v' (0 + n) ([] ++ spC l) ∧ Below w.heap.size w w3) := ⟨hown, (HU.out.grown hgr (fun k hk => by have e : some w.heap.size = some k := hk; injection e with e; omega)).1⟩
    obtain ⟨v9a, v9m, v9c, rfl⟩ := own_frm3 hown
    clear hown hgr
    go_wp2
    go_ret
    refine ⟨_, rfl, ?_, HF.out.2⟩
    have h := HF.out.1
    rw [Nat.zero_add, List.nil_append] at h
    unfold SpR
    rw [HN.out]
    exact h
set_option maxRecDepth 100000 in
theorem spans_at {w : World} {base R : Nat} {va mb : Value} {l : List (Nat × Nat)} (hR : w.heap[R]? = some (.cells #[va, mb] 49)) (hS : SpR w base va l) (hl : l.length ≤ 100000) :
    Calls Tryd.prog 13 #[.pointer (some ⟨R, 0, none⟩)] w fun e w' => ∃ v, e = .returned v ∧ SpR w' w.heap.size v l ∧ Below w.heap.size w w' := by
  have cc := clone_sp hS hl
  have c3 : w.cell? ⟨R, 0, none⟩ = some va := by simp [World.cell?, hR]
  clear hS hR
  go_enter Tryd.func13, Tryd.ntmps13
  go_wp2_with fail
  refine cc.mono ?_
  rintro e w1 ⟨v1, rfl, h1, h2⟩
  have HF : Hid (SpR w1 w.heap.size v1 l ∧ Below w.heap.size w w1) := ⟨h1, h2⟩
  clear cc h1 h2
  go_wp2
  go_ret
  exact ⟨_, rfl, HF.out⟩
set_option maxRecDepth 100000 in
theorem off_nil (w : World) (a : Int) : Calls Tryd.prog 14 #[.pointer none, .int .i64 a] w fun e w' => e = .returned (.bool false) ∧ Below w.heap.size w w' := by
  have HB : Hid (Below w.heap.size w ((w.alloc (.cells #[.pointer none] 28)).alloc (.cells #[.int .i64 a] 3))) := (((Up.refl w).alloc _).alloc _).1
  go_enter Tryd.func14, Tryd.ntmps14
  go_wp2
  go_ret
  exact ⟨rfl, HB.out⟩
theorem knows_nil (w : World) (t : ByteArray) : Calls Tryd.prog 16 #[.pointer none, .string t] w fun e w' => e = .returned (.bool false) ∧ Below w.heap.size w w' := by
  go_enter Tryd.func16, Tryd.ntmps16
  go_wp2
  go_ret
  exact ⟨rfl, Below.refl _ _⟩
theorem spans_nil (w : World) : Calls Tryd.prog 13 #[.pointer none] w fun e w' => ∃ a c, e = .returned (.slice a 0 c) ∧ Below w.heap.size w w' := by
  go_enter Tryd.func13, Tryd.ntmps13
  go_wp2
  go_ret
  exact ⟨_, _, rfl, Below.refl _ _⟩
end Go.Proofs.YteeeekpeokgaeaaDoor
