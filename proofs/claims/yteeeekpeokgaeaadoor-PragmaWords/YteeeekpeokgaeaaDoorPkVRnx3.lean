/- ref.Next. -/
import Derived.Test.YteeeekpeokgaeaaDoorxUD
import Derived.Test.YteeeekpeokgaeaaDoorPkKA3
import Derived.Test.YteeeekpeokgaeaaDoorPkKS3
import Derived.Test.YteeeekpeokgaeaaDoorPkChk2
import Derived.Test.YteeeekpeokgaeaaDoorkKit
namespace Go.Proofs.YteeeekpeokgaeaaDoor.Lns
set_option linter.unusedVariables false
open Go.RowKit Go.ChangeShapes
theorem rnext_at (s : ByteArray) (p b off cap : Nat) (w : World) (hp : p < s.size) (hb : By w b off s) :
    Calls Tryd.prog 47 #[.slice (some ⟨b, off + p, none⟩) (s.size - p) cap] w fun e w' => e = .returned (.tuple #[.int .i32 (rn s p), .int .i64 (wd s p)]) ∧ Below w.heap.size w w' := by
  unfold rn wd
  rw [Go.Lib.decode_at]
  exact rnext_n b (off + p) (s.size - p) cap _ _ _ _ w (by omega) (hb p hp) (fun h => by rw [Nat.add_assoc]; exact hb (p + 1) (by omega)) (fun h => by rw [Nat.add_assoc]; exact hb (p + 2) (by omega)) (fun h => by rw [Nat.add_assoc]; exact hb (p + 3) (by omega)) (bt_lt s p) (bt_lt s (p + 1)) (bt_lt s (p + 2)) (bt_lt s (p + 3))
set_option maxRecDepth 100000 in
theorem rnext_zero (ad : Option Addr) (cap : Nat) (w : World) :
    Calls Tryd.prog 47 #[.slice ad 0 cap] w fun e w' => e = .returned (.tuple #[.int .i32 (-1), .int .i64 0]) ∧ w' = w := by
  go_enter Tryd.func47, Tryd.ntmps47
  go_wp2
  go_ret2
  exact ⟨rfl, rfl⟩
end Go.Proofs.YteeeekpeokgaeaaDoor.Lns
/- The reference: Units. -/
namespace Go.Proofs.YteeeekpeokgaeaaDoor.Lns
set_option linter.unusedVariables false
open Go.RowKit Go.ChangeShapes
set_option maxHeartbeats 1000000 in
theorem runits_any (s : ByteArray) (b off cap : Nat) (w : World) (hn : s.size ≤ 40000) (hcap : s.size ≤ cap) (hb : By w b off s) :
    Calls Tryd.prog 34 #[.slice (some ⟨b, off, none⟩) s.size cap] w fun e w' => ∃ k v, e = .returned v ∧ Ends s k ∧ w'.ownsRow w.heap.size 74 3 v k (ucells s k) ∧ Below w.heap.size w w' := by
  have HB : Hid (By w b off s) := hb
  clear hb
  obtain ⟨i0, hi, hz0, hz1, hz2⟩ := info_parts info58
  go_enter Tryd.func34, Tryd.ntmps34
  go_wp2
  go_loopg [3, 4] (s.size) (fun g l i wr => ∃ k, g = s.size - pos s k ∧ i = .int .i64 (pos s k) ∧ Hid (∀ j, j < k → pos s j < s.size) ∧ Hid (wr.ownsRow w.heap.size 74 3 l k (ucells s k)) ∧ Hid (Up w.heap.size w wr))
  case atStart => exact ⟨0, rfl, rfl, fun j hj => absurd hj (Nat.not_lt_zero j), ⟨rfl, Or.inl ⟨rfl, rfl⟩⟩, Up.refl w⟩
  case round =>
    obtain ⟨k, hg, rfl, HP, HO, HU⟩ := hrel
    have hle := pos_le s k HP.out
    by_cases hlt : pos s k < s.size
    · have z0 : (0 : Int) ≤ (pos s k : Int) := by omega
      have z1 : ((pos s k : Nat) : Int) < (s.size : Int) := by omega
      have z2 : ((pos s k : Nat) : Int) ≤ (s.size : Int) := by omega
      have z3 : ((s.size : Nat) : Int) ≤ (cap : Int) := by omega
      obtain ⟨y1, y2, y3⟩ := wd_pos s (pos s k) hlt
      have hk := pos_ge s k HP.out
      have c9 := rnext_at s (pos s k) b off (cap - pos s k) wr hlt (HB.out.stay HU.out.1)
      go_wp2_with fail
      refine c9.mono ?_
      rintro e w1 ⟨rfl, hb1⟩
      have HO1 : Hid (w1.ownsRow w.heap.size 74 3 u3 k (ucells s k)) := own_stay HO.out hb1
      have HU1 : Hid (Up w.heap.size w w1) := HU.out.stay hb1
      clear hb1 c9 HO HU
      go_wp2_with (at_builtin; refine wpList_append_own _ rfl _ _ 71 rfl w.heap.size 74 i0 _ 3 24 Tryd.underlying71 hi hz0 hz1 hz2 rfl (by decide) _ _ _ rfl (HO1.out.alloc _) ⟨w1.heap.size, 0, none⟩ 1 1 [.int .i32 (rn s (pos s k)), .int .i64 (pos s k), .int .i64 (wd s (pos s k))] rfl rfl ?c1 ?c2 ?c3 ?c4 ?c5 ?_)
      case c1 =>
        intro j u hj
        match j, hj with
        | 0, hj => simp at hj; subst hj; simp [Addr.add]
        | 1, hj => simp at hj; subst hj; simp [Addr.add]
        | 2, hj => simp at hj; subst hj; simp [Addr.add]
        | (j + 3), hj => simp at hj
      case c2 => intro u hu; simp at hu; rcases hu with rfl | rfl | rfl <;> rfl
      case c3 => unfold maxLen; omega
      case c4 => omega
      case c5 => have := HU1.out.2; simp only [World.size_alloc]; omega
      intro v' w2 hown2 hgr hnil
      have HO2 : Hid (w2.ownsRow w.heap.size 74 3 v' (k + 1) (ucells s (k + 1))) := by
        show w2.ownsRow _ _ _ _ _ _
        rw [ucells_succ]; exact hown2
      have HU2 : Hid (Up w.heap.size w w2) := (HU1.out.alloc _).grown hgr (own_base HO1.out)
      clear hown2 hgr hnil HO1 HU1
      go_wp2
      go_roundg (s.size - pos s (k + 1))
      case measure => simp only [pos]; omega
      case rel => exact ⟨k + 1, rfl, by simp [pos], fun j hj => by
        rcases Nat.lt_succ_iff_lt_or_eq.1 hj with h | h
        · exact HP.out j h
        · rw [h]; exact hlt, HO2, HU2⟩
    · have z1 : ¬ ((pos s k : Nat) : Int) < (s.size : Int) := by omega
      go_wp2_with fail
      go_ret
      exact ⟨k, _, rfl, ⟨by omega, HP.out⟩, HO.out, HU.out.1⟩
theorem runits_zero (ad : Option Addr) (cap : Nat) (w : World) :
    Calls Tryd.prog 34 #[.slice ad 0 cap] w fun e w' => e = .returned (.slice none 0 0) ∧ w' = w := by
  go_enter Tryd.func34, Tryd.ntmps34
  go_wp2
  go_loopg [3, 4] (0) (fun g l i wr => l = .slice none 0 0 ∧ i = .int .i64 0 ∧ wr = w)
  case atStart => exact ⟨rfl, rfl, rfl⟩
  case round =>
    obtain ⟨rfl, rfl, rfl⟩ := hrel
    go_wp2_with fail
    go_ret
    exact ⟨rfl, rfl⟩

theorem rnextS_any (s : ByteArray) (v : Value) (w : World) (h : BSl w v s) :
    Calls Tryd.prog 47 #[v] w fun e w' => e = .returned (.tuple #[.int .i32 (nxR s), .int .i64 (nxN s)]) ∧ Below w.heap.size w w' := by
  rcases h with ⟨ad, c, rfl, h⟩ | ⟨b, off, c, rfl, h1, h2, h⟩
  · refine (rnext_zero ad c w).mono ?_
    rintro e w' ⟨rfl, rfl⟩
    unfold nxR nxN
    rw [if_pos h, if_pos h]
    exact ⟨rfl, Below.refl _ _⟩
  · have c := rnext_at s 0 b off c w h1 h
    unfold nxR nxN
    rw [if_neg (by omega), if_neg (by omega)]
    exact c
theorem runitsS_any (s : ByteArray) (v : Value) (w : World) (hn : s.size ≤ 40000) (h : BSl w v s) :
    Calls Tryd.prog 34 #[v] w fun e w' => ∃ k v, e = .returned v ∧ Ends s k ∧ w'.ownsRow w.heap.size 74 3 v k (ucells s k) ∧ Below w.heap.size w w' := by
  rcases h with ⟨ad, c, rfl, h⟩ | ⟨b, off, c, rfl, h1, h2, h⟩
  · refine (runits_zero ad c w).mono ?_
    rintro e w' ⟨rfl, rfl⟩
    exact ⟨0, _, rfl, ends_zero h, World.ownsRow_nil _ _ _ _, Below.refl _ _⟩
  · exact runits_any s b off c w hn h2 h
end Go.Proofs.YteeeekpeokgaeaaDoor.Lns
/- The reference's Runes and Check. -/
namespace Go.Proofs.YteeeekpeokgaeaaDoor.Tns
set_option linter.unusedVariables false
open Go.RowKit Go.ChangeShapes
theorem bw_below (w : World) (e : TypeId) (s : ByteArray) : Below w.heap.size w (Lib.bytesWorld w e s) :=
  ⟨rfl, rfl, rfl, by rw [Lib.bytesWorld_size]; omega, fun k hk => Lib.bytesWorld_at_old w e s k hk⟩
theorem get_toList (s : ByteArray) (j : Nat) (h : j < s.size) : s.data.toList.getD j 0 = s.get! j := by
  have h' : j < s.data.size := h
  show s.data.toList.getD j 0 = s.data[j]!
  rw [getElem!_pos s.data j h', List.getD, Array.getElem?_toList, Array.getElem?_eq_getElem h', Option.getD_some]
theorem by_conv (w : World) (s : ByteArray) : Lns.By (Lib.bytesWorld w 5 s) w.heap.size 0 s := by
  intro j hj
  rw [Nat.zero_add, Lib.bytesWorld_cell w 5 s j hj, get_toList s j hj]
set_option maxHeartbeats 1000000 in
theorem rrunes_any (s : ByteArray) (w : World) (hn : s.size ≤ 40000) :
    Calls Tryd.prog 38 #[.string s] w fun e w' => ∃ k v, e = .returned v ∧ Ends s k ∧ w'.ownsRow w.heap.size 21 1 v k (rcells s k) ∧ Below w.heap.size w w' := by
  have hcv := Lib.run_convert_string_bytes (P := Tryd.prog) w 9 22 5 s (u := .string) Tryd.underlying9 Tryd.underlying22 Tryd.underlying5
  have cu := Lns.runits_any s w.heap.size 0 (grownCap w s.size 0 5) (Lib.bytesWorld w 5 s) hn (grownCap_ge w s.size 0 5) (by_conv w s)
  have HU0 : Hid (Up w.heap.size w (Lib.bytesWorld w 5 s)) := ⟨bw_below w 5 s, (bw_below w 5 s).size⟩
  generalize Lib.bytesWorld w 5 s = W1 at hcv cu HU0
  generalize grownCap w s.size 0 5 = cap at hcv cu
  obtain ⟨i0, hi, hz0, hz1, hz2⟩ := info_parts info21
  go_enter Tryd.func38, Tryd.ntmps38
  go_wp2_with fail
  refine cu.mono ?_
  rintro e w1 ⟨n, v, rfl, he, hown, hb1⟩
  have HU1 : Hid (Up w.heap.size w w1) := HU0.out.stay hb1
  have HE : Hid (Ends s n) := he
  have hnk := he.le
  clear cu hcv HU0 hb1 he
  have hown0 := hown
  obtain ⟨hl, ⟨rfl, rfl⟩ | ⟨g, c, cur, rfl, _⟩⟩ := hown
  · go_wp2
    go_loopg [3, 5] (0) (fun g l i wr => l = .slice none 0 0 ∧ i = .int .i64 0 ∧ wr = w1)
    case atStart => exact ⟨rfl, rfl, rfl⟩
    case round =>
      obtain ⟨rfl, rfl, rfl⟩ := hrel
      go_wp2_with fail
      go_ret
      exact ⟨0, _, rfl, HE.out, World.ownsRow_nil _ _ _ _, HU1.out.1⟩
  · have HS : Hid (Lns.Us w1 g n s) := Lns.us_of hown0
    clear hown0 hl
    go_wp2
    go_loopg [3, 5] n (fun m l i wr => ∃ k : Nat, k ≤ n ∧ m = n - k ∧ i = .int .i64 k ∧ Hid (wr.ownsRow w1.heap.size 21 1 l k (rcells s k)) ∧ Hid (Up w1.heap.size w1 wr))
    case atStart => exact ⟨0, Nat.zero_le _, rfl, rfl, ⟨rfl, Or.inl ⟨rfl, rfl⟩⟩, Up.refl w1⟩
    case round =>
      obtain ⟨k, hk, hm, rfl, HO, HU⟩ := hrel
      by_cases hlt : k < n
      · have z0 : (0 : Int) ≤ (k : Int) := by omega
        have z1 : (k : Int) < (n : Int) := by omega
        obtain ⟨a0, a1, a2, a3⟩ := (HS.out.stay HU.out.1) k hlt
        go_wp2_with (at_builtin; refine wpList_append_own _ rfl _ _ 79 rfl w1.heap.size 21 i0 _ 1 4 Tryd.underlying79 hi hz0 hz1 hz2 rfl (by decide) _ _ _ rfl (HO.out.alloc _) ⟨wr.heap.size, 0, none⟩ 1 1 [.int .i32 (rn s (pos s k))] rfl rfl ?c1 ?c2 ?c3 ?c4 ?c5 ?_)
        case c1 =>
          intro j u hj
          match j, hj with
          | 0, hj => simp at hj; subst hj; simp [Addr.add]
          | (j + 1), hj => simp at hj
        case c2 => intro u hu; simp at hu; rcases hu with rfl; rfl
        case c3 => unfold maxLen; omega
        case c4 => omega
        case c5 => have := HU.out.2; simp only [World.size_alloc]; omega
        intro v' w3 hown2 hgr hnil
        have HO2 : Hid (w3.ownsRow w1.heap.size 21 1 v' (k + 1) (rcells s (k + 1))) := by
          show w3.ownsRow _ _ _ _ _ _
          rw [rcells_succ]; exact hown2
        have HU2 : Hid (Up w1.heap.size w1 w3) := (HU.out.alloc _).grown hgr (own_base HO.out)
        clear hown2 hgr hnil HO HU a0 a1 a2 a3
        go_wp2
        go_roundg (n - (k + 1))
        case measure => omega
        case rel => exact ⟨k + 1, by omega, rfl, by go_num, HO2, HU2⟩
      · obtain rfl : k = n := by omega
        go_wp2_with fail
        go_ret
        exact ⟨k, _, rfl, HE.out, Lns.own_mono HO.out HU1.out.2, HU1.out.1.trans (HU.out.1.mono HU1.out.2)⟩
/-- Is the i-th a letter, or an apostrophe between two? -/
def good (L : List Int) (i : Nat) : Bool := lB (L.getD i 0) || ((L.getD i 0 == 39) && decide (0 < i) && decide (i + 1 < L.length) && lB (L.getD (i - 1) 0) && lB (L.getD (i + 1) 0))
def pb (L : List Int) (i : Nat) : Bool := decide (0 < i) && lB (L.getD (i - 1) 0)
theorem drop_at (L : List Int) (i : Nat) (h : i < L.length) : L.drop i = L.getD i 0 :: L.drop (i + 1) := by
  rw [List.drop_eq_getElem_cons h]
  simp [List.getD, h]
theorem pb_succ (L : List Int) (i : Nat) : pb L (i + 1) = lB (L.getD i 0) := by simp [pb]
theorem okw_all (L : List Int) (h0 : L.length ≠ 0) (h : ∀ i, i < L.length → good L i = true) : ∀ d i, i + d = L.length → okw (pb L i) (L.drop i) = true
  | 0, i, hi => by
    rw [List.drop_eq_nil_of_le (by omega)]
    unfold okw
    have hg := h (i - 1) (by omega)
    unfold good at hg
    have hn : decide (i - 1 + 1 < L.length) = false := by simp; omega
    rw [hn] at hg
    simp at hg
    unfold pb
    simp [hg]
    omega
  | d + 1, i, hi => by
    have ih := okw_all L h0 h d (i + 1) (by omega)
    rw [pb_succ] at ih
    rw [drop_at L i (by omega)]
    unfold okw
    have hg := h i (by omega)
    cases hl : lB (L.getD i 0)
    · rw [hl] at ih
      unfold good at hg
      rw [hl] at hg
      simp only [Bool.false_or, Bool.and_eq_true] at hg
      obtain ⟨⟨⟨⟨a, b⟩, c⟩, e⟩, f⟩ := hg
      have hp : pb L i = true := by unfold pb; rw [b, e]; rfl
      rw [hp, a]
      exact ih
    · rw [hl] at ih
      exact ih
theorem okw_true (L : List Int) (h0 : L.length ≠ 0) (h : ∀ i, i < L.length → good L i = true) : okw false L = true := by
  have := okw_all L h0 h L.length 0 (by omega)
  simpa [pb] using this
theorem okw_step (L : List Int) (h : okw false L = true) : ∀ i, i ≤ L.length → okw (pb L i) (L.drop i) = true
  | 0, _ => by simpa [pb] using h
  | i + 1, hi => by
    have ih := okw_step L h i (by omega)
    rw [drop_at L i (by omega)] at ih
    unfold okw at ih
    rw [pb_succ]
    cases hl : lB (L.getD i 0)
    · rw [hl] at ih
      cases hq : ((L.getD i 0 == 39) && pb L i)
      · rw [hq] at ih; cases ih
      · rw [hq] at ih; exact ih
    · rw [hl] at ih; exact ih
theorem okw_good (L : List Int) (h : okw false L = true) (i : Nat) (hi : i < L.length) : good L i = true := by
  have h1 := okw_step L h i (by omega)
  have h2 := okw_step L h (i + 1) (by omega)
  rw [pb_succ] at h2
  rw [drop_at L i hi] at h1
  unfold okw at h1
  unfold good
  cases hl : lB (L.getD i 0)
  · rw [hl] at h1 h2
    cases hq : ((L.getD i 0 == 39) && pb L i)
    · rw [hq] at h1; cases h1
    · unfold pb at hq
      simp only [Bool.and_eq_true] at hq
      by_cases hn : i + 1 < L.length
      · rw [drop_at L (i + 1) hn] at h2
        unfold okw at h2
        have hx : lB (L.getD (i + 1) 0) = true := by
          cases hy : lB (L.getD (i + 1) 0)
          · rw [hy] at h2; simp at h2
          · rfl
        rw [hq.1, hq.2.1, hq.2.2, hx]
        simp [hn]
      · rw [List.drop_eq_nil_of_le (by omega)] at h2
        cases h2
  · rfl
theorem okw_false (L : List Int) (i : Nat) (hi : i < L.length) (h : good L i = false) : okw false L = false := by
  cases e : okw false L
  · rfl
  · rw [okw_good L e i hi] at h; cases h
end Go.Proofs.YteeeekpeokgaeaaDoor.Tns
