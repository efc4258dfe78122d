/- LinesCover. -/
import Derived.Test.YtihplafalbokdaaDoorWalksZ
import Derived.Test.YtihplafalbokdaaDoorLPureB
namespace Go.Proofs.YtihplafalbokdaaDoor
set_option linter.unusedVariables false
open Go.RowKit Go.ChangeShapes
theorem inFile_ok (n : Int) (w : World) (h0 : 0 ≤ n) (h1 : n ≤ 65536) :
    Calls Tryd.prog 30 #[.int .i64 n] w fun e w' => e = .returned (.bool true) ∧ w' = w := by
  go_enter Tryd.func30, Tryd.ntmps30
  go_wp2
  go_ret
  exact ⟨rfl, rfl⟩
theorem sound_ok (a l : Int) (w : World) (h0 : 0 ≤ a) (h1 : a ≤ 65536) (h2 : 0 ≤ l) (h3 : l ≤ 65536) :
    Calls Tryd.prog 24 #[.agg #[.int .i64 a, .int .i64 l]] w fun e w' => e = .returned (.bool true) ∧ w' = w.alloc (.cells #[.int .i64 a, .int .i64 l] 31) := by
  go_enter Tryd.func24, Tryd.ntmps24
  go_wp2_with fail
  refine (inFile_ok a _ h0 h1).mono ?_
  rintro e w' ⟨rfl, rfl⟩
  go_wp2_with fail
  refine (inFile_ok l _ h2 h3).mono ?_
  rintro e w' ⟨rfl, rfl⟩
  go_wp2
  go_ret
  exact ⟨rfl, rfl⟩
theorem end_ok (a l : Int) (w : World) (h0 : 0 ≤ a) (h1 : a ≤ 65536) (h2 : 0 ≤ l) (h3 : l ≤ 65536) :
    Calls Tryd.prog 25 #[.agg #[.int .i64 a, .int .i64 l]] w fun e w' => e = .returned (.int .i64 (a + l)) ∧ w' = w.alloc (.cells #[.int .i64 a, .int .i64 l] 31) := by
  go_enter Tryd.func25, Tryd.ntmps25
  go_wp2
  go_ret
  exact ⟨rfl, rfl⟩
theorem has_ok (a l p : Int) (w : World) (h0 : 0 ≤ a) (h1 : a ≤ 65536) (h2 : 0 ≤ l) (h3 : l ≤ 65536) (h4 : a ≤ p) (h5 : p < a + l) :
    Calls Tryd.prog 19 #[.agg #[.int .i64 a, .int .i64 l], .int .i64 p] w fun e w' => e = .returned (.bool true) ∧ Below w.heap.size w w' := by
  go_enter Tryd.func19, Tryd.ntmps19
  go_wp2_with fail
  refine (sound_ok a l _ h0 h1 h2 h3).mono ?_
  rintro e w1 ⟨rfl, rfl⟩
  go_wp2_with fail
  refine (end_ok a l _ h0 h1 h2 h3).mono ?_
  rintro e w2 ⟨rfl, rfl⟩
  go_wp2
  go_ret
  exact ⟨rfl, (((Up.refl w).alloc _).alloc _).alloc _ |>.1⟩
/-- The spans of so many lines. -/
def lcells (s : ByteArray) (k : Nat) : List Value := (List.range k).flatMap fun j => [.int .i64 (S s j), .int .i64 ((S s (j + 1) : Int) - S s j)]
theorem lcells_succ (s : ByteArray) (k : Nat) : lcells s (k + 1) = lcells s k ++ [.int .i64 (S s k), .int .i64 ((S s (k + 1) : Int) - S s k)] := by
  simp [lcells, List.range_succ]
theorem lcells_len (s : ByteArray) : ∀ k, (lcells s k).length = k * 2
  | 0 => rfl
  | k + 1 => by rw [lcells_succ, List.length_append, lcells_len s k]; simp; omega
theorem lcells_at (s : ByteArray) : ∀ k i, i < k → (lcells s k)[i * 2]? = some (.int .i64 (S s i)) ∧ (lcells s k)[i * 2 + 1]? = some (.int .i64 ((S s (i + 1) : Int) - S s i))
  | 0, i, h => absurd h (Nat.not_lt_zero i)
  | k + 1, i, h => by
    have hl := lcells_len s k
    rw [lcells_succ]
    by_cases hi : i < k
    · obtain ⟨a, b⟩ := lcells_at s k i hi
      rw [List.getElem?_append_left (by omega), List.getElem?_append_left (by omega)]
      exact ⟨a, b⟩
    · obtain rfl : i = k := by omega
      rw [List.getElem?_append_right (by omega), List.getElem?_append_right (by omega), hl]
      rw [show i * 2 - i * 2 = 0 by omega, show i * 2 + 1 - i * 2 = 1 by omega]
      exact ⟨rfl, rfl⟩
theorem cover_zero (ad : Option Addr) (c : Nat) (w : World) :
    Calls Tryd.prog 20 #[.slice ad 0 c, .int .i64 0] w fun e w' => e = .returned (.bool true) ∧ w' = w := by
  go_enter Tryd.func20, Tryd.ntmps20
  go_wp2
  go_loopg [5, 10] (0) (fun g l i wr => l = .int .i64 0 ∧ i = .int .i64 0 ∧ wr = w)
  case atStart => exact ⟨rfl, rfl, rfl⟩
  case round =>
    obtain ⟨rfl, rfl, rfl⟩ := hrel
    go_wp2_with fail
    go_ret
    exact ⟨rfl, rfl⟩
set_option maxHeartbeats 1000000 in
theorem cover_at (s : ByteArray) (base g cap : Nat) (w : World) (hs : s.size ≤ 5000) (h : w.ownsRow base 31 2 (.slice (some ⟨g, 0, none⟩) (nL s) cap) (nL s) (lcells s (nL s))) :
    Calls Tryd.prog 20 #[.slice (some ⟨g, 0, none⟩) (nL s) cap, .int .i64 s.size] w fun e w' => e = .returned (.bool true) ∧ Below w.heap.size w w' := by
  have HS : Hid (w.ownsRow base 31 2 (.slice (some ⟨g, 0, none⟩) (nL s) cap) (nL s) (lcells s (nL s))) := h
  have hn := nL_le s
  clear h
  go_enter Tryd.func20, Tryd.ntmps20
  go_wp2
  go_loopg [5, 10] (nL s) (fun m l i wr => ∃ k : Nat, k ≤ nL s ∧ m = nL s - k ∧ i = .int .i64 k ∧ l = .int .i64 (S s k) ∧ Hid (Up w.heap.size w wr))
  case atStart => exact ⟨0, Nat.zero_le _, rfl, rfl, by rw [S_zero]; rfl, Up.refl w⟩
  case round =>
    obtain ⟨k, hk, hm, rfl, rfl, HU⟩ := hrel
    by_cases hlt : k < nL s
    · have z0 : (0 : Int) ≤ (k : Int) := by omega
      have z1 : (k : Int) < (nL s : Int) := by omega
      have ho := own_stay HS.out HU.out.1
      obtain ⟨l0, l1⟩ := lcells_at s (nL s) k hlt
      have c0 : wr.cell? ⟨g, k * 2, none⟩ = some (.int .i64 (S s k)) := by rw [ho.cellAt _ (by omega)]; exact l0
      have c1 : wr.cell? ⟨g, k * 2 + 1, none⟩ = some (.int .i64 ((S s (k + 1) : Int) - S s k)) := by rw [ho.cellAt _ (by omega)]; exact l1
      have y1 := S_mono (s := s) (i := k) (j := k + 1) (by omega) hlt
      have y2 := S_le s (k + 1)
      clear ho l0 l1
      obtain ⟨d, hd⟩ : ∃ d : Nat, S s (k + 1) = S s k + d := ⟨S s (k + 1) - S s k, by omega⟩
      have HN : Hid (S s (k + 1) = S s k + d) := hd
      rw [show ((S s (k + 1) : Nat) : Int) - (S s k : Int) = (d : Int) by omega] at c1
      have y3 : 0 < d := by omega
      have y4 : S s k + d ≤ 5000 := by omega
      have y0 : ¬ (d : Int) = 0 := by omega
      clear hd y1 y2
      generalize S s k = p at c0 c1 HN y4 ⊢
      go_wp2_with (first | (go_at_call 24; refine (sound_ok _ _ _ (by omega) (by omega) (by omega) (by omega)).mono ?_; rintro e w' ⟨rfl, rfl⟩) | (go_at_call 25; refine (end_ok _ _ _ (by omega) (by omega) (by omega) (by omega)).mono ?_; rintro e w' ⟨rfl, rfl⟩))
      go_roundg (nL s - (k + 1))
      case measure => omega
      case rel => exact ⟨k + 1, by omega, rfl, by go_num, by rw [HN.out]; simp, ((HU.out.alloc _).alloc _).alloc _⟩
    · obtain rfl : k = nL s := by omega
      rw [S_big (Nat.le_refl _)]
      go_wp2_with fail
      go_ret
      exact ⟨rfl, HU.out.1⟩
theorem cover_any (s : ByteArray) (base : Nat) (v : Value) (w : World) (hs : s.size ≤ 5000) (h : w.ownsRow base 31 2 v (nL s) (lcells s (nL s))) :
    Calls Tryd.prog 20 #[v, .int .i64 s.size] w fun e w' => e = .returned (.bool true) ∧ Below w.heap.size w w' := by
  have h0 := h
  obtain ⟨_, ⟨rfl, h1⟩ | ⟨g, cap, cur, rfl, _⟩⟩ := h
  · have hz : s.size = 0 := by
      rcases Nat.eq_zero_or_pos s.size with h2 | h2
      · exact h2
      · have := nL_pos h2; omega
    rw [hz]
    refine (cover_zero none 0 w).mono ?_
    rintro e w' ⟨rfl, rfl⟩
    exact ⟨rfl, Below.refl _ _⟩
  · exact cover_at s base g cap w hs h0
theorem covers_big (s : ByteArray) (v : Value) (w : World) (hm : s.size ≤ maxLen) (hs : 300 < s.size) (hT : Tabs w) (h : BSl w v s) :
    Calls Tryd.prog 5 #[v] w fun e w' => e = .returned (.bool true) ∧ Below w.heap.size w w' := by
  obtain ⟨ad, c, rfl⟩ := h.form
  clear h
  have hs' : (300 : Int) < (s.size : Int) := by omega
  go_enter Tryd.func5, Tryd.ntmps5
  go_wp2_with fail
  refine (awake_any _ hT).mono ?_
  rintro e w1 ⟨rfl, hb1⟩
  go_wp2
  go_ret
  exact ⟨rfl, hb1⟩
theorem info31 : (Tryd.prog.info? 31).map (fun i => (i.zero, i.size, i.bytes)) = some (some (.agg #[.int .i64 0, .int .i64 0]), 2, 16) := by kernel_rfl
theorem new_two (w : World) (A : Obj) (x y : Value) (t : TypeId) : ∀ j u, [x, y][j]? = some u → ((w.alloc A).alloc (.cells #[x, y] t)).cell? ((⟨w.heap.size + 1, 0, none⟩ : Addr).add j) = some u := by
  intro m u hmu
  match m, hmu with
  | 0, hmu => simp at hmu; subst hmu; simp [Addr.add]
  | 1, hmu => simp at hmu; subst hmu; simp [Addr.add]
  | (m + 2), hmu => simp at hmu
theorem two_one (x y : Value) (hx : x.oneCell' = true) (hy : y.oneCell' = true) : ∀ u ∈ [x, y], u.oneCell' = true := by
  intro u hu; simp at hu; rcases hu with rfl | rfl
  · exact hx
  · exact hy
set_option maxRecDepth 100000 in
set_option maxHeartbeats 4000000 in
theorem covers_small (s : ByteArray) (v : Value) (w : World) (hs : s.size ≤ 300) (hT : Tabs w) (h : BSl w v s) :
    Calls Tryd.prog 5 #[v] w fun e w' => e = .returned (.bool true) ∧ Below w.heap.size w w' := by
  obtain ⟨ad, c, rfl⟩ := h.form
  have HB : Hid (BSl w (.slice ad s.size c) s) := h
  have HT : Hid (Tabs w) := hT
  have hs' : ¬ (300 : Int) < (s.size : Int) := by omega
  have hnl := nL_le s
  obtain ⟨i1, hi1, hy0, hy1, hy2⟩ := info_parts info31
  clear h hT
  go_enter Tryd.func5, Tryd.ntmps5
  go_wp2_with fail
  refine (awake_any _ HT.out).mono ?_
  rintro e w1 ⟨rfl, hb1⟩
  have HU1 : Hid (Up w.heap.size w w1) := (Up.refl w).stay hb1
  clear hb1
  go_wp2_with fail
  refine (new_any s _ w1 (by omega) (tabs_stay HT.out HU1.out.1) (HB.out.stay HU1.out.1)).mono ?_
  rintro e w2 ⟨K, x, rfl, hx, hb2⟩
  have HX2 : Hid (Idx w2 x s K) := hx
  have HU2 : Hid (Up w.heap.size w w2) := HU1.out.stay hb2
  clear hx hb2 HU1
  go_wp2_with fail
  refine (lines_any s K x w2 HX2.out).mono ?_
  rintro e w3 ⟨rfl, rfl⟩
  go_wp2
  go_loopg [4, 25] (nL s) (fun m l iv wr => ∃ i : Nat, i ≤ nL s ∧ m = nL s - i ∧ iv = .int .i64 i ∧ Hid (wr.ownsRow w3.heap.size 31 2 l i (lcells s i)) ∧ Hid (Up w3.heap.size w3 wr))
  case atStart => exact ⟨0, Nat.zero_le _, rfl, rfl, ⟨rfl, Or.inl ⟨rfl, rfl⟩⟩, Up.refl w3⟩
  case round =>
  obtain ⟨i, hin, hm, rfl, HO, HU⟩ := hrel
  by_cases hlt : i < nL s
  · have z0 : (0 : Int) ≤ (i : Int) := by omega
    have z1 : (i : Int) < (nL s : Int) := by omega
    go_wp2_with fail
    refine (span_ok s K x i wr (by omega) hlt (HX2.out.stay HU.out.1)).mono ?_
    rintro e w4 ⟨rfl, hb4⟩
    have HO4 : Hid (w4.ownsRow w3.heap.size 31 2 u4 i (lcells s i)) := own_stay HO.out hb4
    have HU4 : Hid (Up w3.heap.size w3 w4) := HU.out.stay hb4
    have HLC : Hid (lcells s (i + 1) = lcells s i ++ [.int .i64 (S s i), .int .i64 ((S s (i + 1) : Int) - S s i)]) := lcells_succ s i
    clear hb4 HO HU
    generalize ((S s (i + 1) : Nat) : Int) - (S s i : Int) = d at HLC ⊢
    generalize S s i = p at HLC ⊢
    go_wp2_with (at_builtin; refine wpList_append_own _ rfl _ _ 47 rfl w3.heap.size 31 i1 _ 2 16 Tryd.underlying47 hi1 hy0 hy1 hy2 rfl (by decide) _ _ _ rfl ((HO4.out.alloc _).alloc _) ⟨w4.heap.size + 1, 0, none⟩ 1 1 [.int .i64 p, .int .i64 d] rfl rfl (new_two _ _ _ _ _) (two_one _ _ rfl rfl) (by unfold maxLen; omega) (by omega) (by have := HU4.out.2; simp only [World.size_alloc]; omega) ?_)
    intro v2 w9 hown9 hgr9 hnil9
    have HO9 : Hid (w9.ownsRow w3.heap.size 31 2 v2 (i + 1) (lcells s (i + 1))) := by show w9.ownsRow _ _ _ _ _ _; rw [HLC.out]; exact hown9
    have HU9 : Hid (Up w3.heap.size w3 w9) := ((HU4.out.alloc _).alloc _).grown hgr9 (own_base HO4.out)
    clear hown9 hgr9 hnil9 HO4 HU4
    go_wp2
    go_roundg (nL s - (i + 1))
    case measure => omega
    case rel => exact ⟨i + 1, by omega, rfl, by go_num, HO9, HU9⟩
  · obtain rfl : i = nL s := by omega
    have HX8 : Hid (Idx wr x s K) := HX2.out.stay HU.out.1
    have HU8 : Hid (Up w.heap.size w wr) := HU2.out.stay HU.out.1
    have HO8 : Hid (wr.ownsRow w3.heap.size 31 2 u4 (nL s) (lcells s (nL s))) := HO.out
    clear HO HU HX2 HU2 hlt
    obtain ⟨wT, rfl⟩ : ∃ wT, wT = wr := ⟨wr, rfl⟩
    go_wp2
    go_loopg [43] s.size (fun m iv wr => ∃ p : Nat, ∃ ml cl : Nat, p ≤ s.size ∧ m = s.size - p ∧ iv = .int .i64 p ∧ Hid (wr.heap[wT.heap.size]? = some (.cells #[.int .i64 ml, .int .i64 cl] 40 (0, 0))) ∧ Hid (Up wT.heap.size wT wr) ∧ Hid ((p = 0 ∧ ml = 0 ∧ cl = 0) ∨ (0 < p ∧ Plc s (p - 1) ml cl)))
    case atStart => exact ⟨0, 0, 0, Nat.zero_le _, rfl, rfl, heap_alloc_new _ _, (Up.refl wT).alloc _, Or.inl ⟨rfl, rfl, rfl⟩⟩
    case round =>
    obtain ⟨p, ml, cl, hps, hmm, rfl, HL, HQ, HLS⟩ := hrel
    by_cases hlt : p < s.size
    · have z0 : (0 : Int) ≤ (p : Int) := by omega
      have z1 : (p : Int) < (s.size : Int) := by omega
      go_wp2_with fail
      refine (line_ok s K x p wr (by omega) (by omega) (HX8.out.stay HQ.out.1)).mono ?_
      rintro e w4 ⟨m, rfl, ho, hb4⟩
      obtain ⟨j, rfl, hj, hj1, hj2⟩ := ho.in hlt
      have HO4 : Hid (OnL s p (j + 1)) := ho
      have HQ4 : Hid (Up wT.heap.size wT w4) := HQ.out.stay hb4
      have HL4 : Hid (w4.heap[wT.heap.size]? = some (.cells #[.int .i64 ml, .int .i64 cl] 40 (0, 0))) := (hb4.block _ (Array.getElem?_eq_some_iff.1 HL.out).1).trans HL.out
      clear ho hb4 HQ HL
      rw [show ((j + 1 : Nat) : Int) = (j : Int) + 1 by omega]
      go_wp2_with fail
      refine (place_ok s K x p w4 (by omega) (by omega) (HX8.out.stay HQ4.out.1)).mono ?_
      rintro e w5 ⟨m2, cc, rfl, hp5, hb5⟩
      obtain rfl : m2 = j + 1 := hp5.onL.one HO4.out
      have HP5 : Hid (Plc s p (j + 1) cc) := hp5
      have hrise : ml ≤ j + 1 ∧ (ml = j + 1 → cl ≤ cc) ∧ 1 ≤ cc := by
        have h1 := (hp5.rise hp5 (Nat.le_refl _)).2.2
        rcases HLS.out with ⟨_, h2, h3⟩ | ⟨h2, h3⟩
        · exact ⟨by omega, fun _ => by omega, h1⟩
        · have h4 := h3.rise hp5 (by omega)
          exact ⟨h4.1, h4.2.1, h1⟩
      have HR : Hid (ml ≤ j + 1 ∧ (ml = j + 1 → cl ≤ cc) ∧ 1 ≤ cc) := hrise
      have hlt5 : wT.heap.size < w4.heap.size := (Array.getElem?_eq_some_iff.1 HL4.out).1
      have HQ5 : Hid (Up wT.heap.size wT w5) := HQ4.out.stay hb5
      have HL5 : Hid (w5.heap[wT.heap.size]? = some (.cells #[.int .i64 ml, .int .i64 cl] 40 (0, 0))) := (hb5.block _ hlt5).trans HL4.out
      have hsz5 := hb5.size
      clear hp5 hb5 HQ4 HL4 hrise HLS HO4
      rw [show ((j + 1 : Nat) : Int) = (j : Int) + 1 by omega]
      have HQ6 : Hid (Up wT.heap.size wT (w5.alloc (.cells #[.int .i64 ((j : Int) + 1), .int .i64 cc] 40))) := HQ5.out.alloc _
      have HVP : Hid (Up w5.heap.size w5 (w5.alloc (.cells #[.int .i64 ((j : Int) + 1), .int .i64 cc] 40))) := (Up.refl w5).alloc _
      have q0 : (w5.alloc (.cells #[.int .i64 ((j : Int) + 1), .int .i64 cc] 40)).cell? ⟨w5.heap.size, 0, none⟩ = some (.int .i64 ((j : Int) + 1)) := by simp
      have q1 : (w5.alloc (.cells #[.int .i64 ((j : Int) + 1), .int .i64 cc] 40)).cell? ⟨w5.heap.size, 1, none⟩ = some (.int .i64 cc) := by simp
      have ctS := span_ok s K x j (w5.alloc (.cells #[.int .i64 ((j : Int) + 1), .int .i64 cc] 40)) (by omega) hj (HX8.out.stay HQ6.out.1)
      obtain ⟨Pw, hPw⟩ : ∃ W, w5.alloc (.cells #[.int .i64 ((j : Int) + 1), .int .i64 cc] 40) = W := ⟨_, rfl⟩
      rw [hPw] at HQ6 HVP q0 q1 ctS
      go_wp2_with fail
      refine ctS.mono ?_
      rintro e w6 ⟨rfl, hb6⟩
      have hV6 : Up Pw.heap.size Pw (w6.alloc (.cells #[.int .i64 (S s j), .int .i64 ((S s (j + 1) : Int) - S s j)] 31)) := ((Up.refl Pw).stay hb6).alloc _
      have HQ7 : Hid (Up wT.heap.size wT (w6.alloc (.cells #[.int .i64 (S s j), .int .i64 ((S s (j + 1) : Int) - S s j)] 31))) := HQ6.out.stay hV6.1
      have v0 : (w6.alloc (.cells #[.int .i64 (S s j), .int .i64 ((S s (j + 1) : Int) - S s j)] 31)).cell? ⟨w6.heap.size, 0, none⟩ = some (.int .i64 (S s j)) := by simp
      have v1 : (w6.alloc (.cells #[.int .i64 (S s j), .int .i64 ((S s (j + 1) : Int) - S s j)] 31)).cell? ⟨w6.heap.size, 1, none⟩ = some (.int .i64 ((S s (j + 1) : Int) - S s j)) := by simp
      have r0 := hV6.cell q0
      have r1 := hV6.cell q1
      have HL7 : Hid ((w6.alloc (.cells #[.int .i64 (S s j), .int .i64 ((S s (j + 1) : Int) - S s j)] 31)).heap[wT.heap.size]? = some (.cells #[.int .i64 ml, .int .i64 cl] 40 (0, 0))) := ((HVP.out.stay hV6.1).1.block _ (by omega)).trans HL5.out
      have hse := S_le s (j + 1)
      have ctH := has_ok (S s j) ((S s (j + 1) : Int) - S s j) p (w6.alloc (.cells #[.int .i64 (S s j), .int .i64 ((S s (j + 1) : Int) - S s j)] 31)) (by omega) (by omega) (by omega) (by omega) (by omega) (by omega)
      obtain ⟨Qw, hQw⟩ : ∃ W, w6.alloc (.cells #[.int .i64 (S s j), .int .i64 ((S s (j + 1) : Int) - S s j)] 31) = W := ⟨_, rfl⟩
      rw [hQw] at HQ7 r0 r1 HL7 ctH v0 v1
      clear hb6 hV6 q0 q1 HQ6 HVP HQ5 HL5 ctS hPw
      go_wp2_with fail
      refine ctH.mono ?_
      rintro e w7 ⟨rfl, hb7⟩
      have hV7 : Up Qw.heap.size Qw w7 := (Up.refl Qw).stay hb7
      have HQ8 : Hid (Up wT.heap.size wT w7) := HQ7.out.stay hb7
      have t0 := hV7.cell r0
      have t1 := hV7.cell r1
      have hL8 : w7.heap[wT.heap.size]? = some (.cells #[.int .i64 ml, .int .i64 cl] 40 (0, 0)) := (hb7.block _ (Array.getElem?_eq_some_iff.1 HL7.out).1).trans HL7.out
      have l0 : w7.cell? ⟨wT.heap.size, 0, none⟩ = some (.int .i64 ml) := by simp [World.cell?, hL8]
      have l1 : w7.cell? ⟨wT.heap.size, 1, none⟩ = some (.int .i64 cl) := by simp [World.cell?, hL8]
      have f0 : w7.frozen? ⟨wT.heap.size, 0, none⟩ = false := by simp [World.frozen?, hL8]
      have f1 : w7.frozen? ⟨wT.heap.size, 1, none⟩ = false := by simp [World.frozen?, hL8]
      have HL8 : Hid (w7.heap[wT.heap.size]? = some (.cells #[.int .i64 ml, .int .i64 cl] 40 (0, 0))) := hL8
      have hne : w5.heap.size ≠ wT.heap.size := by omega
      clear hb7 hV7 r0 r1 v0 v1 HQ7 HL7 ctH hQw hL8
      have e1 : ¬ (j : Int) + 1 < (ml : Int) := by have := HR.out.1; omega
      have e2 : ¬ (cc : Int) < 1 := by have := HR.out.2.2; omega
      have fin : ((w7.setCell ⟨wT.heap.size, 0, none⟩ (.int .i64 ((j : Int) + 1))).setCell ⟨wT.heap.size, 1, none⟩ (.int .i64 cc)).heap[wT.heap.size]? = some (.cells #[.int .i64 ((j : Int) + 1), .int .i64 cc] 40 (0, 0)) := by
        have h1 := heap_setCell_same w7 wT.heap.size 0 _ 40 (.int .i64 ((j : Int) + 1)) HL8.out
        rw [heap_setCell_same _ wT.heap.size 1 _ 40 (.int .i64 cc) h1]
        rfl
      have HFIN : Hid (((w7.setCell ⟨wT.heap.size, 0, none⟩ (.int .i64 ((j : Int) + 1))).setCell ⟨wT.heap.size, 1, none⟩ (.int .i64 cc)).heap[wT.heap.size]? = some (.cells #[.int .i64 ((j : Int) + 1), .int .i64 cc] 40 (0, 0))) := fin
      clear fin
      by_cases hml : ml = j + 1
      · have e3 : ((j : Int) + 1 == (ml : Int)) = true := by rw [beq_iff_eq]; omega
        have e4 : ¬ (cc : Int) < (cl : Int) := by have := HR.out.2.1 hml; omega
        clear hml
        go_wp2
        go_roundg (s.size - (p + 1))
        case measure => omega
        case rel => exact ⟨p + 1, j + 1, cc, by omega, rfl, by go_num, HFIN.out, ⟨(HQ8.out.1.setCell (Nat.le_refl _) _).setCell (Nat.le_refl _) _, by simp only [World.size_setCell]; exact HQ8.out.2⟩, Or.inr ⟨by omega, HP5.out⟩⟩
      · have e3 : ((j : Int) + 1 == (ml : Int)) = false := by rw [beq_eq_false_iff_ne]; omega
        go_wp2
        go_roundg (s.size - (p + 1))
        case measure => omega
        case rel => exact ⟨p + 1, j + 1, cc, by omega, rfl, by go_num, HFIN.out, ⟨(HQ8.out.1.setCell (Nat.le_refl _) _).setCell (Nat.le_refl _) _, by simp only [World.size_setCell]; exact HQ8.out.2⟩, Or.inr ⟨by omega, HP5.out⟩⟩
    · obtain rfl : p = s.size := by omega
      have HOE := own_stay HO8.out HQ.out.1
      go_wp2_with fail
      refine (cover_any s w3.heap.size _ wr (by omega) HOE).mono ?_
      rintro e wz ⟨rfl, hbz⟩
      have HUZ : Hid (Up w.heap.size w wz) := (HU8.out.stay HQ.out.1).stay hbz
      clear hbz HOE
      go_wp2
      go_ret
      exact ⟨rfl, HUZ.out.1⟩
theorem covers_all (s : ByteArray) (v : Value) (w : World) (hm : s.size ≤ maxLen) (hT : Tabs w) (h : BSl w v s) :
    Calls Tryd.prog 5 #[v] w fun e w' => e = .returned (.bool true) ∧ Below w.heap.size w w' := by
  by_cases hs : 300 < s.size
  · exact covers_big s v w hm hs hT h
  · exact covers_small s v w (by omega) hT h
end Go.Proofs.YtihplafalbokdaaDoor
