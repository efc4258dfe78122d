/- The reference: Units. -/
import Derived.Test.YtkfgfbdalkifjaaDoorvNx
import Derived.Test.YtkfgfbdalkifjaaDoorvRe
import Derived.Test.YtkfgfbdalkifjaaDoorvRs
import Derived.Laws.AppendOwn
namespace Go.Proofs.YtkfgfbdalkifjaaDoor
set_option linter.unusedVariables false
open Go.RowKit Go.ChangeShapes
/-- Signs in a row of their own. -/
def UR (w : World) (base : Nat) (v : Value) (l : List U3) : Prop := w.ownsRow base 53 3 v l.length (uC l)
theorem UR.stay {w w' : World} {base : Nat} {v : Value} {l : List U3} (h : UR w base v l) (hb : Below w.heap.size w w') : UR w' base v l := own_stay h hb
theorem infoU : (Tryd.prog.info? 53).map (fun i => (i.zero, i.size, i.bytes)) = some (some (.agg #[.int .i32 0, .int .i64 0, .int .i64 0]), 3, 24) := by kernel_rfl
theorem nv_amp {c : Nat → Int} {n : Nat} {x : Int × Nat} (h : nv c n = some x) : c 0 = 38 := by
  rcases Int.decEq (c 0) 38 with h0 | h0
  · rw [nv_first (Or.inr h0)] at h; cases h
  · exact h0
/-- What Units leaves. -/
def UnP (w : World) (l : List U3) (ev : Ending) (w' : World) : Prop := ∃ v, ev = .returned (.tuple #[v, .bool true]) ∧ UR w' w.heap.size v l ∧ Below w.heap.size w w'
set_option maxRecDepth 100000 in
set_option maxHeartbeats 8000000 in
theorem runs_p0 {w : World} {ad : Option Addr} {n cap : Nat} {c : Nat → Int} (hC : ∀ j, j < n → 0 ≤ c j ∧ c j < 256) (h : BC w ad n c) (hcap : n ≤ cap) (hn : n ≤ 100000) (hbig : cap ≤ 9223372036854775807) {A M : Nat} (hAM : A + M ≤ n) {f : Int} {l : Int} (h1 : (l == 1) = false) (h5 : (l == 5) = false) :
    Calls Tryd.prog 16 #[.int .u8 f, .slice ad n cap, .agg #[.int .u8 l, .int .i64 (A : Int), .int .i64 (M : Int)]] w (UnP w (un f l c (A + M) A)) := by
  obtain ⟨e, he⟩ : ∃ e, A + M = e := ⟨_, rfl⟩
  have hin : inB (A : Int) (M : Int) n = true := by unfold inB; simp; omega
  obtain ⟨R, hR⟩ : ∃ R, un f l c (A + M) A = R := ⟨_, rfl⟩
  have HR : Hid (un f l c e A = R) := by show _ = _; rw [← hR, he]
  obtain ⟨Q, hQ⟩ : ∃ Q, UnP w (un f l c (A + M) A) = Q := ⟨_, rfl⟩
  have HQ : Hid (UnP w R = Q) := by show _ = _; rw [← hQ, hR]
  rw [hQ]
  obtain ⟨W, hW⟩ : ∃ W, w.alloc (.cells #[.int .u8 l, .int .i64 (A : Int), .int .i64 (M : Int)] 40) = W := ⟨_, rfl⟩
  have hbW : Below w.heap.size w W := by rw [← hW]; exact below_alloc w _
  have hWs : W.heap.size = w.heap.size + 1 := by rw [← hW]; exact World.size_alloc _ _
  have hW0 : W.heap[w.heap.size]? = some (.cells #[.int .u8 l, .int .i64 (A : Int), .int .i64 (M : Int)] 40) := by rw [← hW]; exact heap_alloc_new _ _
  have x0 : W.cell? ⟨w.heap.size, 0, none⟩ = some (.int .u8 l) := by simp [World.cell?, hW0]
  have x1 : W.cell? ⟨w.heap.size, 1, none⟩ = some (.int .i64 (A : Int)) := by simp [World.cell?, hW0]
  have x2 : W.cell? ⟨w.heap.size, 2, none⟩ = some (.int .i64 (M : Int)) := by simp [World.cell?, hW0]
  have HX : Hid (W.cell? ⟨w.heap.size, 0, none⟩ = some (.int .u8 l) ∧ W.cell? ⟨w.heap.size, 1, none⟩ = some (.int .i64 (A : Int)) ∧ W.cell? ⟨w.heap.size, 2, none⟩ = some (.int .i64 (M : Int))) := ⟨x0, x1, x2⟩
  obtain ⟨D, hD⟩ : ∃ D, w.heap.size = D := ⟨_, rfl⟩
  have HH : Hid ((∀ j, j < n → 0 ≤ c j ∧ c j < 256) ∧ BC w ad n c ∧ Below w.heap.size w W ∧ W.heap.size = w.heap.size + 1) := ⟨hC, h, hbW, hWs⟩
  have cin := rin_any (A : Int) (M : Int) n (by omega) W
  rw [hin] at cin
  obtain ⟨i0, hi, hz0, hz1, hz2⟩ := info_parts infoU
  have hAe : A ≤ e := by omega
  have hen : e ≤ n := by omega
  have heI : (A : Int) + (M : Int) = (e : Int) := by omega
  rw [hD] at x0 x1 x2
  clear hC h hin hR hQ hbW hWs hW0 he
  go_enter Tryd.func16, Tryd.ntmps16
  go_wp2_with fail
  refine cin.mono ?_
  rintro ev w1 ⟨rfl, hb1⟩
  have y1 := cell_stay x1 hb1
  have y2 := cell_stay x2 hb1
  have HU1 : Hid (Up W.heap.size W w1) := ⟨hb1, hb1.size⟩
  clear x0 x1 x2 cin hb1 hW
  go_wp2
  (try rw [hD])
  clear y1 y2
  go_loopg [8, 10] (e - A) (fun q ov iv wr => ∃ (i k : Nat), A ≤ i ∧ i ≤ e ∧ q = e - i ∧ iv = .int .i64 i ∧ k ≤ i ∧ Hid (∃ dn : List U3, dn.length = k ∧ wr.ownsRow W.heap.size 53 3 ov k (uC dn) ∧ dn ++ un f l c e i = R) ∧ Hid (Up W.heap.size W wr))
  case atStart => exact ⟨A, 0, Nat.le_refl _, hAe, rfl, rfl, Nat.zero_le _, ⟨[], rfl, World.ownsRow_nil _ _ _ _, HR.out⟩, HU1⟩
  case round =>
    obtain ⟨i, k, hi1, hi2, hq, rfl, hk, HO, HU⟩ := hrel
    have y0 : wr.cell? ⟨D, 0, none⟩ = some (.int .u8 l) := by
      have := cell_stay HX.out.1 HU.out.1
      rw [hD] at this
      exact this
    by_cases hlt : i < e
    · have z0 : (0 : Int) ≤ (i : Int) := by omega
      have z1 : (i : Int) < (e : Int) := by omega
      have z2 : (i : Int) ≤ (e : Int) := by omega
      have z3 : (e : Int) ≤ (cap : Int) := by omega
      obtain ⟨b, off, rfl, -⟩ := HH.out.2.1 i (by omega)
      have hb0 : BC wr (some ⟨b, off, none⟩) n c := (HH.out.2.1.stay HH.out.2.2.1).stay HU.out.1
      have hfr := (BC.from hb0 i (by omega) hcap).upto (m := e - i) (by omega)
      rw [if_neg (by omega)] at hfr
      have HF : Hid (BC wr (some ⟨b, off + i, none⟩) (e - i) (fun j => c (i + j))) := hfr
      have HC : Hid (∀ j, j < e - i → 0 ≤ c (i + j) ∧ c (i + j) < 256) := fun j hj => HH.out.1 (i + j) (by omega)
      have cN := rnx_any (cap := cap - i) HC.out hfr (by omega)
      have hx := nx_le (c := fun j => c (i + j)) (n := e - i) (by omega)
      obtain ⟨r0, k0, hnx⟩ : ∃ r0 k0, nx (fun j => c (i + j)) (e - i) = (r0, k0) := ⟨_, _, rfl⟩
      rw [hnx] at cN hx
      have HX0 : Hid (nx (fun j => c (i + j)) (e - i) = (r0, k0)) := hnx
      have hcC : Hid (∀ j, j < e → 0 ≤ c j ∧ c j ≤ 255) := fun j hj => by have := HH.out.1 j (by omega); omega
      dsimp only at hx cN
      clear hb0 hfr hnx
      go_wp2_with fail
      refine cN.mono ?_
      rintro ev w2 ⟨rfl, hb2⟩
      have y3 := cell_stay y0 hb2
      have HO2 : Hid (∃ dn : List U3, dn.length = k ∧ w2.ownsRow W.heap.size 53 3 u8 k (uC dn) ∧ dn ++ un f l c e i = R) := by
        obtain ⟨dn, d1, d2, d3⟩ := HO.out
        exact ⟨dn, d1, own_stay d2 hb2, d3⟩
      have HU2 : Hid (Up W.heap.size W w2) := HU.out.stay hb2
      have HF2 : Hid (BC w2 (some ⟨b, off + i, none⟩) (e - i) (fun j => c (i + j))) := HF.out.stay hb2
      clear y0 cN HO HU HF hb2
      have hu1 := show u1 f l (fun j => c (i + j)) (e - i) = nx (fun j => c (i + j)) (e - i) by unfold u1; rw [if_neg (fun h => by have := h.1; subst this; cases h1), if_neg (fun h => by have := h.1; subst this; cases h5), if_neg (fun h => by have := h.1; subst this; cases h5)]
      have HUn : Hid (un f l c e i = ⟨r0, (i : Int), ((k0 : Nat) : Int)⟩ :: un f l c e (i + k0)) := un_step hcC.out hlt (hu1.trans HX0.out)
      have hk2 : 1 ≤ k0 ∧ i + k0 ≤ e := by omega
      clear HF2 HC
      obtain ⟨dn, hdl, hdo, hdr⟩ := HO2.out
      go_wp2_with (at_builtin; refine wpList_append_own _ rfl _ _ 41 rfl W.heap.size 53 i0 _ 3 24 Tryd.underlying41 hi hz0 hz1 hz2 rfl (by decide) _ _ _ rfl (World.ownsRow.alloc hdo _) ⟨w2.heap.size, 0, none⟩ 1 1 [.int .i32 r0, .int .i64 (i : Int), .int .i64 ((k0 : Nat) : Int)] rfl rfl ?c1 ?c2 ?c3 ?c4 ?c5 ?_)
      case c1 =>
        intro j u hj
        match j, hj with
        | 0, hj => simp at hj; subst hj; simp [Addr.add]
        | 1, hj => simp at hj; subst hj; simp [Addr.add]
        | 2, hj => simp at hj; subst hj; simp [Addr.add]
        | (j + 3), hj => simp at hj
      case c2 => intro u hu; simp at hu; rcases hu with rfl | rfl | rfl <;> rfl
      case c3 => unfold maxLen; omega
      case c4 => omega
      case c5 => have := HU2.out.2; simp only [World.size_alloc]; omega
      intro v' w3 hown2 hgr hnil
      have HO3 : Hid (∃ dn : List U3, dn.length = k + 1 ∧ w3.ownsRow W.heap.size 53 3 v' (k + 1) (uC dn) ∧ dn ++ un f l c e (i + k0) = R) := by
        refine ⟨dn ++ [⟨r0, (i : Int), ((k0 : Nat) : Int)⟩], by rw [List.length_append, hdl]; rfl, ?_, ?_⟩
        · rw [uC_app]; exact hown2
        · rw [← hdr, HUn.out]; simp
      have HU3 : Hid (Up W.heap.size W w3) := (HU2.out.alloc _).grown hgr (own_base hdo)
      clear hown2 hgr hnil HO2 HU2 hdo hdl hdr y3
      go_wp2
      go_roundg (e - (i + k0))
      case measure => omega
      case rel => exact ⟨i + k0, k + 1, by omega, by omega, rfl, by go_num, by omega, HO3, HU3⟩
    · have z1 : ¬ (i : Int) < (e : Int) := by omega
      obtain ⟨dn, d1, d2, d3⟩ := HO.out
      rw [un_end (by omega), List.append_nil] at d3
      subst d3
      have hfin : UR wr w.heap.size u8 dn := by
        show wr.ownsRow _ _ _ _ _ _
        rw [d1]
        exact own_mono d2 (by have := HH.out.2.2.2; omega)
      have hbw : Below w.heap.size w wr := HH.out.2.2.1.trans (HU.out.1.mono HH.out.2.2.1.size)
      have HFn : Hid (UR wr w.heap.size u8 dn ∧ Below w.heap.size w wr) := ⟨hfin, hbw⟩
      clear d1 d2 hfin hbw HO HU
      go_wp2
      rw [← HQ.out]
      exact ⟨_, rfl, HFn.out.1, HFn.out.2⟩
set_option maxRecDepth 100000 in
set_option maxHeartbeats 8000000 in
theorem runs_p1 {w : World} {ad : Option Addr} {n cap : Nat} {c : Nat → Int} (hC : ∀ j, j < n → 0 ≤ c j ∧ c j < 256) (h : BC w ad n c) (hcap : n ≤ cap) (hn : n ≤ 100000) (hbig : cap ≤ 9223372036854775807) {A M : Nat} (hAM : A + M ≤ n) {f : Int} (h1 : (f == 1) = false) (h2 : (f == 2) = false) :
    Calls Tryd.prog 16 #[.int .u8 f, .slice ad n cap, .agg #[.int .u8 1, .int .i64 (A : Int), .int .i64 (M : Int)]] w (UnP w (un f 1 c (A + M) A)) := by
  obtain ⟨e, he⟩ : ∃ e, A + M = e := ⟨_, rfl⟩
  have hin : inB (A : Int) (M : Int) n = true := by unfold inB; simp; omega
  obtain ⟨R, hR⟩ : ∃ R, un f 1 c (A + M) A = R := ⟨_, rfl⟩
  have HR : Hid (un f 1 c e A = R) := by show _ = _; rw [← hR, he]
  obtain ⟨Q, hQ⟩ : ∃ Q, UnP w (un f 1 c (A + M) A) = Q := ⟨_, rfl⟩
  have HQ : Hid (UnP w R = Q) := by show _ = _; rw [← hQ, hR]
  rw [hQ]
  obtain ⟨W, hW⟩ : ∃ W, w.alloc (.cells #[.int .u8 1, .int .i64 (A : Int), .int .i64 (M : Int)] 40) = W := ⟨_, rfl⟩
  have hbW : Below w.heap.size w W := by rw [← hW]; exact below_alloc w _
  have hWs : W.heap.size = w.heap.size + 1 := by rw [← hW]; exact World.size_alloc _ _
  have hW0 : W.heap[w.heap.size]? = some (.cells #[.int .u8 1, .int .i64 (A : Int), .int .i64 (M : Int)] 40) := by rw [← hW]; exact heap_alloc_new _ _
  have x0 : W.cell? ⟨w.heap.size, 0, none⟩ = some (.int .u8 1) := by simp [World.cell?, hW0]
  have x1 : W.cell? ⟨w.heap.size, 1, none⟩ = some (.int .i64 (A : Int)) := by simp [World.cell?, hW0]
  have x2 : W.cell? ⟨w.heap.size, 2, none⟩ = some (.int .i64 (M : Int)) := by simp [World.cell?, hW0]
  have HX : Hid (W.cell? ⟨w.heap.size, 0, none⟩ = some (.int .u8 1) ∧ W.cell? ⟨w.heap.size, 1, none⟩ = some (.int .i64 (A : Int)) ∧ W.cell? ⟨w.heap.size, 2, none⟩ = some (.int .i64 (M : Int))) := ⟨x0, x1, x2⟩
  obtain ⟨D, hD⟩ : ∃ D, w.heap.size = D := ⟨_, rfl⟩
  have HH : Hid ((∀ j, j < n → 0 ≤ c j ∧ c j < 256) ∧ BC w ad n c ∧ Below w.heap.size w W ∧ W.heap.size = w.heap.size + 1) := ⟨hC, h, hbW, hWs⟩
  have cin := rin_any (A : Int) (M : Int) n (by omega) W
  rw [hin] at cin
  obtain ⟨i0, hi, hz0, hz1, hz2⟩ := info_parts infoU
  have hAe : A ≤ e := by omega
  have hen : e ≤ n := by omega
  have heI : (A : Int) + (M : Int) = (e : Int) := by omega
  rw [hD] at x0 x1 x2
  clear hC h hin hR hQ hbW hWs hW0 he
  go_enter Tryd.func16, Tryd.ntmps16
  go_wp2_with fail
  refine cin.mono ?_
  rintro ev w1 ⟨rfl, hb1⟩
  have y1 := cell_stay x1 hb1
  have y2 := cell_stay x2 hb1
  have HU1 : Hid (Up W.heap.size W w1) := ⟨hb1, hb1.size⟩
  clear x0 x1 x2 cin hb1 hW
  go_wp2
  (try rw [hD])
  clear y1 y2
  go_loopg [8, 10] (e - A) (fun q ov iv wr => ∃ (i k : Nat), A ≤ i ∧ i ≤ e ∧ q = e - i ∧ iv = .int .i64 i ∧ k ≤ i ∧ Hid (∃ dn : List U3, dn.length = k ∧ wr.ownsRow W.heap.size 53 3 ov k (uC dn) ∧ dn ++ un f 1 c e i = R) ∧ Hid (Up W.heap.size W wr))
  case atStart => exact ⟨A, 0, Nat.le_refl _, hAe, rfl, rfl, Nat.zero_le _, ⟨[], rfl, World.ownsRow_nil _ _ _ _, HR.out⟩, HU1⟩
  case round =>
    obtain ⟨i, k, hi1, hi2, hq, rfl, hk, HO, HU⟩ := hrel
    have y0 : wr.cell? ⟨D, 0, none⟩ = some (.int .u8 1) := by
      have := cell_stay HX.out.1 HU.out.1
      rw [hD] at this
      exact this
    by_cases hlt : i < e
    · have z0 : (0 : Int) ≤ (i : Int) := by omega
      have z1 : (i : Int) < (e : Int) := by omega
      have z2 : (i : Int) ≤ (e : Int) := by omega
      have z3 : (e : Int) ≤ (cap : Int) := by omega
      obtain ⟨b, off, rfl, -⟩ := HH.out.2.1 i (by omega)
      have hb0 : BC wr (some ⟨b, off, none⟩) n c := (HH.out.2.1.stay HH.out.2.2.1).stay HU.out.1
      have hfr := (BC.from hb0 i (by omega) hcap).upto (m := e - i) (by omega)
      rw [if_neg (by omega)] at hfr
      have HF : Hid (BC wr (some ⟨b, off + i, none⟩) (e - i) (fun j => c (i + j))) := hfr
      have HC : Hid (∀ j, j < e - i → 0 ≤ c (i + j) ∧ c (i + j) < 256) := fun j hj => HH.out.1 (i + j) (by omega)
      have cN := rnx_any (cap := cap - i) HC.out hfr (by omega)
      have hx := nx_le (c := fun j => c (i + j)) (n := e - i) (by omega)
      obtain ⟨r0, k0, hnx⟩ : ∃ r0 k0, nx (fun j => c (i + j)) (e - i) = (r0, k0) := ⟨_, _, rfl⟩
      rw [hnx] at cN hx
      have HX0 : Hid (nx (fun j => c (i + j)) (e - i) = (r0, k0)) := hnx
      have hcC : Hid (∀ j, j < e → 0 ≤ c j ∧ c j ≤ 255) := fun j hj => by have := HH.out.1 j (by omega); omega
      dsimp only at hx cN
      clear hb0 hfr hnx
      go_wp2_with fail
      refine cN.mono ?_
      rintro ev w2 ⟨rfl, hb2⟩
      have y3 := cell_stay y0 hb2
      have HO2 : Hid (∃ dn : List U3, dn.length = k ∧ w2.ownsRow W.heap.size 53 3 u8 k (uC dn) ∧ dn ++ un f 1 c e i = R) := by
        obtain ⟨dn, d1, d2, d3⟩ := HO.out
        exact ⟨dn, d1, own_stay d2 hb2, d3⟩
      have HU2 : Hid (Up W.heap.size W w2) := HU.out.stay hb2
      have HF2 : Hid (BC w2 (some ⟨b, off + i, none⟩) (e - i) (fun j => c (i + j))) := HF.out.stay hb2
      clear y0 cN HO HU HF hb2
      have hu1 := show u1 f 1 (fun j => c (i + j)) (e - i) = nx (fun j => c (i + j)) (e - i) by unfold u1; rw [if_neg (fun h => h.2.elim (fun q => by subst q; cases h1) (fun q => by subst q; cases h2)), if_neg (fun h => absurd h.1 (by decide)), if_neg (fun h => absurd h.1 (by decide))]
      have HUn : Hid (un f 1 c e i = ⟨r0, (i : Int), ((k0 : Nat) : Int)⟩ :: un f 1 c e (i + k0)) := un_step hcC.out hlt (hu1.trans HX0.out)
      have hk2 : 1 ≤ k0 ∧ i + k0 ≤ e := by omega
      clear HF2 HC
      obtain ⟨dn, hdl, hdo, hdr⟩ := HO2.out
      go_wp2_with (at_builtin; refine wpList_append_own _ rfl _ _ 41 rfl W.heap.size 53 i0 _ 3 24 Tryd.underlying41 hi hz0 hz1 hz2 rfl (by decide) _ _ _ rfl (World.ownsRow.alloc hdo _) ⟨w2.heap.size, 0, none⟩ 1 1 [.int .i32 r0, .int .i64 (i : Int), .int .i64 ((k0 : Nat) : Int)] rfl rfl ?c1 ?c2 ?c3 ?c4 ?c5 ?_)
      case c1 =>
        intro j u hj
        match j, hj with
        | 0, hj => simp at hj; subst hj; simp [Addr.add]
        | 1, hj => simp at hj; subst hj; simp [Addr.add]
        | 2, hj => simp at hj; subst hj; simp [Addr.add]
        | (j + 3), hj => simp at hj
      case c2 => intro u hu; simp at hu; rcases hu with rfl | rfl | rfl <;> rfl
      case c3 => unfold maxLen; omega
      case c4 => omega
      case c5 => have := HU2.out.2; simp only [World.size_alloc]; omega
      intro v' w3 hown2 hgr hnil
      have HO3 : Hid (∃ dn : List U3, dn.length = k + 1 ∧ w3.ownsRow W.heap.size 53 3 v' (k + 1) (uC dn) ∧ dn ++ un f 1 c e (i + k0) = R) := by
        refine ⟨dn ++ [⟨r0, (i : Int), ((k0 : Nat) : Int)⟩], by rw [List.length_append, hdl]; rfl, ?_, ?_⟩
        · rw [uC_app]; exact hown2
        · rw [← hdr, HUn.out]; simp
      have HU3 : Hid (Up W.heap.size W w3) := (HU2.out.alloc _).grown hgr (own_base hdo)
      clear hown2 hgr hnil HO2 HU2 hdo hdl hdr y3
      go_wp2
      go_roundg (e - (i + k0))
      case measure => omega
      case rel => exact ⟨i + k0, k + 1, by omega, by omega, rfl, by go_num, by omega, HO3, HU3⟩
    · have z1 : ¬ (i : Int) < (e : Int) := by omega
      obtain ⟨dn, d1, d2, d3⟩ := HO.out
      rw [un_end (by omega), List.append_nil] at d3
      subst d3
      have hfin : UR wr w.heap.size u8 dn := by
        show wr.ownsRow _ _ _ _ _ _
        rw [d1]
        exact own_mono d2 (by have := HH.out.2.2.2; omega)
      have hbw : Below w.heap.size w wr := HH.out.2.2.1.trans (HU.out.1.mono HH.out.2.2.1.size)
      have HFn : Hid (UR wr w.heap.size u8 dn ∧ Below w.heap.size w wr) := ⟨hfin, hbw⟩
      clear d1 d2 hfin hbw HO HU
      go_wp2
      rw [← HQ.out]
      exact ⟨_, rfl, HFn.out.1, HFn.out.2⟩
set_option maxRecDepth 100000 in
set_option maxHeartbeats 8000000 in
theorem runs_p5a {w : World} {ad : Option Addr} {n cap : Nat} {c : Nat → Int} (hC : ∀ j, j < n → 0 ≤ c j ∧ c j < 256) (h : BC w ad n c) (hcap : n ≤ cap) (hn : n ≤ 100000) (hbig : cap ≤ 9223372036854775807) {A M : Nat} (hAM : A + M ≤ n) {f : Int} (h8 : (f == 8) = false) (h4 : f = 0 ∨ f = 1 ∨ f = 2 ∨ f = 3) :
    Calls Tryd.prog 16 #[.int .u8 f, .slice ad n cap, .agg #[.int .u8 5, .int .i64 (A : Int), .int .i64 (M : Int)]] w (UnP w (un f 5 c (A + M) A)) := by
  obtain ⟨e, he⟩ : ∃ e, A + M = e := ⟨_, rfl⟩
  have hin : inB (A : Int) (M : Int) n = true := by unfold inB; simp; omega
  obtain ⟨R, hR⟩ : ∃ R, un f 5 c (A + M) A = R := ⟨_, rfl⟩
  have HR : Hid (un f 5 c e A = R) := by show _ = _; rw [← hR, he]
  obtain ⟨Q, hQ⟩ : ∃ Q, UnP w (un f 5 c (A + M) A) = Q := ⟨_, rfl⟩
  have HQ : Hid (UnP w R = Q) := by show _ = _; rw [← hQ, hR]
  rw [hQ]
  obtain ⟨W, hW⟩ : ∃ W, w.alloc (.cells #[.int .u8 5, .int .i64 (A : Int), .int .i64 (M : Int)] 40) = W := ⟨_, rfl⟩
  have hbW : Below w.heap.size w W := by rw [← hW]; exact below_alloc w _
  have hWs : W.heap.size = w.heap.size + 1 := by rw [← hW]; exact World.size_alloc _ _
  have hW0 : W.heap[w.heap.size]? = some (.cells #[.int .u8 5, .int .i64 (A : Int), .int .i64 (M : Int)] 40) := by rw [← hW]; exact heap_alloc_new _ _
  have x0 : W.cell? ⟨w.heap.size, 0, none⟩ = some (.int .u8 5) := by simp [World.cell?, hW0]
  have x1 : W.cell? ⟨w.heap.size, 1, none⟩ = some (.int .i64 (A : Int)) := by simp [World.cell?, hW0]
  have x2 : W.cell? ⟨w.heap.size, 2, none⟩ = some (.int .i64 (M : Int)) := by simp [World.cell?, hW0]
  have HX : Hid (W.cell? ⟨w.heap.size, 0, none⟩ = some (.int .u8 5) ∧ W.cell? ⟨w.heap.size, 1, none⟩ = some (.int .i64 (A : Int)) ∧ W.cell? ⟨w.heap.size, 2, none⟩ = some (.int .i64 (M : Int))) := ⟨x0, x1, x2⟩
  obtain ⟨D, hD⟩ : ∃ D, w.heap.size = D := ⟨_, rfl⟩
  have HH : Hid ((∀ j, j < n → 0 ≤ c j ∧ c j < 256) ∧ BC w ad n c ∧ Below w.heap.size w W ∧ W.heap.size = w.heap.size + 1) := ⟨hC, h, hbW, hWs⟩
  have cin := rin_any (A : Int) (M : Int) n (by omega) W
  rw [hin] at cin
  obtain ⟨i0, hi, hz0, hz1, hz2⟩ := info_parts infoU
  have hAe : A ≤ e := by omega
  have hen : e ≤ n := by omega
  have heI : (A : Int) + (M : Int) = (e : Int) := by omega
  rw [hD] at x0 x1 x2
  clear hC h hin hR hQ hbW hWs hW0 he
  go_enter Tryd.func16, Tryd.ntmps16
  go_wp2_with fail
  refine cin.mono ?_
  rintro ev w1 ⟨rfl, hb1⟩
  have y1 := cell_stay x1 hb1
  have y2 := cell_stay x2 hb1
  have HU1 : Hid (Up W.heap.size W w1) := ⟨hb1, hb1.size⟩
  clear x0 x1 x2 cin hb1 hW
  go_wp2
  (try rw [hD])
  clear y1 y2
  go_loopg [8, 10] (e - A) (fun q ov iv wr => ∃ (i k : Nat), A ≤ i ∧ i ≤ e ∧ q = e - i ∧ iv = .int .i64 i ∧ k ≤ i ∧ Hid (∃ dn : List U3, dn.length = k ∧ wr.ownsRow W.heap.size 53 3 ov k (uC dn) ∧ dn ++ un f 5 c e i = R) ∧ Hid (Up W.heap.size W wr))
  case atStart => exact ⟨A, 0, Nat.le_refl _, hAe, rfl, rfl, Nat.zero_le _, ⟨[], rfl, World.ownsRow_nil _ _ _ _, HR.out⟩, HU1⟩
  case round =>
    obtain ⟨i, k, hi1, hi2, hq, rfl, hk, HO, HU⟩ := hrel
    have y0 : wr.cell? ⟨D, 0, none⟩ = some (.int .u8 5) := by
      have := cell_stay HX.out.1 HU.out.1
      rw [hD] at this
      exact this
    by_cases hlt : i < e
    · have z0 : (0 : Int) ≤ (i : Int) := by omega
      have z1 : (i : Int) < (e : Int) := by omega
      have z2 : (i : Int) ≤ (e : Int) := by omega
      have z3 : (e : Int) ≤ (cap : Int) := by omega
      obtain ⟨b, off, rfl, -⟩ := HH.out.2.1 i (by omega)
      have hb0 : BC wr (some ⟨b, off, none⟩) n c := (HH.out.2.1.stay HH.out.2.2.1).stay HU.out.1
      have hfr := (BC.from hb0 i (by omega) hcap).upto (m := e - i) (by omega)
      rw [if_neg (by omega)] at hfr
      have HF : Hid (BC wr (some ⟨b, off + i, none⟩) (e - i) (fun j => c (i + j))) := hfr
      have HC : Hid (∀ j, j < e - i → 0 ≤ c (i + j) ∧ c (i + j) < 256) := fun j hj => HH.out.1 (i + j) (by omega)
      have cN := rnx_any (cap := cap - i) HC.out hfr (by omega)
      have hx := nx_le (c := fun j => c (i + j)) (n := e - i) (by omega)
      obtain ⟨r0, k0, hnx⟩ : ∃ r0 k0, nx (fun j => c (i + j)) (e - i) = (r0, k0) := ⟨_, _, rfl⟩
      rw [hnx] at cN hx
      have HX0 : Hid (nx (fun j => c (i + j)) (e - i) = (r0, k0)) := hnx
      have hcC : Hid (∀ j, j < e → 0 ≤ c j ∧ c j ≤ 255) := fun j hj => by have := HH.out.1 j (by omega); omega
      dsimp only at hx cN
      clear hb0 hfr hnx
      go_wp2_with fail
      refine cN.mono ?_
      rintro ev w2 ⟨rfl, hb2⟩
      have y3 := cell_stay y0 hb2
      have HO2 : Hid (∃ dn : List U3, dn.length = k ∧ w2.ownsRow W.heap.size 53 3 u8 k (uC dn) ∧ dn ++ un f 5 c e i = R) := by
        obtain ⟨dn, d1, d2, d3⟩ := HO.out
        exact ⟨dn, d1, own_stay d2 hb2, d3⟩
      have HU2 : Hid (Up W.heap.size W w2) := HU.out.stay hb2
      have HF2 : Hid (BC w2 (some ⟨b, off + i, none⟩) (e - i) (fun j => c (i + j))) := HF.out.stay hb2
      clear y0 cN HO HU HF hb2
      have hu1 := show u1 f 5 (fun j => c (i + j)) (e - i) = nx (fun j => c (i + j)) (e - i) by unfold u1; rw [if_neg (fun h => absurd h.1 (by decide)), if_neg (fun h => by have q := h.2; subst q; cases h8), if_neg (fun h => by omega)]
      rcases h4 with rfl | rfl | rfl | rfl
      · skip
        have HUn : Hid (un 0 5 c e i = ⟨r0, (i : Int), ((k0 : Nat) : Int)⟩ :: un 0 5 c e (i + k0)) := un_step hcC.out hlt (hu1.trans HX0.out)
        have hk2 : 1 ≤ k0 ∧ i + k0 ≤ e := by omega
        clear HF2 HC
        obtain ⟨dn, hdl, hdo, hdr⟩ := HO2.out
        go_wp2_with (at_builtin; refine wpList_append_own _ rfl _ _ 41 rfl W.heap.size 53 i0 _ 3 24 Tryd.underlying41 hi hz0 hz1 hz2 rfl (by decide) _ _ _ rfl (World.ownsRow.alloc hdo _) ⟨w2.heap.size, 0, none⟩ 1 1 [.int .i32 r0, .int .i64 (i : Int), .int .i64 ((k0 : Nat) : Int)] rfl rfl ?c1 ?c2 ?c3 ?c4 ?c5 ?_)
        case c1 =>
          intro j u hj
          match j, hj with
          | 0, hj => simp at hj; subst hj; simp [Addr.add]
          | 1, hj => simp at hj; subst hj; simp [Addr.add]
          | 2, hj => simp at hj; subst hj; simp [Addr.add]
          | (j + 3), hj => simp at hj
        case c2 => intro u hu; simp at hu; rcases hu with rfl | rfl | rfl <;> rfl
        case c3 => unfold maxLen; omega
        case c4 => omega
        case c5 => have := HU2.out.2; simp only [World.size_alloc]; omega
        intro v' w3 hown2 hgr hnil
        have HO3 : Hid (∃ dn : List U3, dn.length = k + 1 ∧ w3.ownsRow W.heap.size 53 3 v' (k + 1) (uC dn) ∧ dn ++ un 0 5 c e (i + k0) = R) := by
          refine ⟨dn ++ [⟨r0, (i : Int), ((k0 : Nat) : Int)⟩], by rw [List.length_append, hdl]; rfl, ?_, ?_⟩
          · rw [uC_app]; exact hown2
          · rw [← hdr, HUn.out]; simp
        have HU3 : Hid (Up W.heap.size W w3) := (HU2.out.alloc _).grown hgr (own_base hdo)
        clear hown2 hgr hnil HO2 HU2 hdo hdl hdr y3
        go_wp2
        go_roundg (e - (i + k0))
        case measure => omega
        case rel => exact ⟨i + k0, k + 1, by omega, by omega, rfl, by go_num, by omega, HO3, HU3⟩
      · skip
        have HUn : Hid (un 1 5 c e i = ⟨r0, (i : Int), ((k0 : Nat) : Int)⟩ :: un 1 5 c e (i + k0)) := un_step hcC.out hlt (hu1.trans HX0.out)
        have hk2 : 1 ≤ k0 ∧ i + k0 ≤ e := by omega
        clear HF2 HC
        obtain ⟨dn, hdl, hdo, hdr⟩ := HO2.out
        go_wp2_with (at_builtin; refine wpList_append_own _ rfl _ _ 41 rfl W.heap.size 53 i0 _ 3 24 Tryd.underlying41 hi hz0 hz1 hz2 rfl (by decide) _ _ _ rfl (World.ownsRow.alloc hdo _) ⟨w2.heap.size, 0, none⟩ 1 1 [.int .i32 r0, .int .i64 (i : Int), .int .i64 ((k0 : Nat) : Int)] rfl rfl ?c1 ?c2 ?c3 ?c4 ?c5 ?_)
        case c1 =>
          intro j u hj
          match j, hj with
          | 0, hj => simp at hj; subst hj; simp [Addr.add]
          | 1, hj => simp at hj; subst hj; simp [Addr.add]
          | 2, hj => simp at hj; subst hj; simp [Addr.add]
          | (j + 3), hj => simp at hj
        case c2 => intro u hu; simp at hu; rcases hu with rfl | rfl | rfl <;> rfl
        case c3 => unfold maxLen; omega
        case c4 => omega
        case c5 => have := HU2.out.2; simp only [World.size_alloc]; omega
        intro v' w3 hown2 hgr hnil
        have HO3 : Hid (∃ dn : List U3, dn.length = k + 1 ∧ w3.ownsRow W.heap.size 53 3 v' (k + 1) (uC dn) ∧ dn ++ un 1 5 c e (i + k0) = R) := by
          refine ⟨dn ++ [⟨r0, (i : Int), ((k0 : Nat) : Int)⟩], by rw [List.length_append, hdl]; rfl, ?_, ?_⟩
          · rw [uC_app]; exact hown2
          · rw [← hdr, HUn.out]; simp
        have HU3 : Hid (Up W.heap.size W w3) := (HU2.out.alloc _).grown hgr (own_base hdo)
        clear hown2 hgr hnil HO2 HU2 hdo hdl hdr y3
        go_wp2
        go_roundg (e - (i + k0))
        case measure => omega
        case rel => exact ⟨i + k0, k + 1, by omega, by omega, rfl, by go_num, by omega, HO3, HU3⟩
      · skip
        have HUn : Hid (un 2 5 c e i = ⟨r0, (i : Int), ((k0 : Nat) : Int)⟩ :: un 2 5 c e (i + k0)) := un_step hcC.out hlt (hu1.trans HX0.out)
        have hk2 : 1 ≤ k0 ∧ i + k0 ≤ e := by omega
        clear HF2 HC
        obtain ⟨dn, hdl, hdo, hdr⟩ := HO2.out
        go_wp2_with (at_builtin; refine wpList_append_own _ rfl _ _ 41 rfl W.heap.size 53 i0 _ 3 24 Tryd.underlying41 hi hz0 hz1 hz2 rfl (by decide) _ _ _ rfl (World.ownsRow.alloc hdo _) ⟨w2.heap.size, 0, none⟩ 1 1 [.int .i32 r0, .int .i64 (i : Int), .int .i64 ((k0 : Nat) : Int)] rfl rfl ?c1 ?c2 ?c3 ?c4 ?c5 ?_)
        case c1 =>
          intro j u hj
          match j, hj with
          | 0, hj => simp at hj; subst hj; simp [Addr.add]
          | 1, hj => simp at hj; subst hj; simp [Addr.add]
          | 2, hj => simp at hj; subst hj; simp [Addr.add]
          | (j + 3), hj => simp at hj
        case c2 => intro u hu; simp at hu; rcases hu with rfl | rfl | rfl <;> rfl
        case c3 => unfold maxLen; omega
        case c4 => omega
        case c5 => have := HU2.out.2; simp only [World.size_alloc]; omega
        intro v' w3 hown2 hgr hnil
        have HO3 : Hid (∃ dn : List U3, dn.length = k + 1 ∧ w3.ownsRow W.heap.size 53 3 v' (k + 1) (uC dn) ∧ dn ++ un 2 5 c e (i + k0) = R) := by
          refine ⟨dn ++ [⟨r0, (i : Int), ((k0 : Nat) : Int)⟩], by rw [List.length_append, hdl]; rfl, ?_, ?_⟩
          · rw [uC_app]; exact hown2
          · rw [← hdr, HUn.out]; simp
        have HU3 : Hid (Up W.heap.size W w3) := (HU2.out.alloc _).grown hgr (own_base hdo)
        clear hown2 hgr hnil HO2 HU2 hdo hdl hdr y3
        go_wp2
        go_roundg (e - (i + k0))
        case measure => omega
        case rel => exact ⟨i + k0, k + 1, by omega, by omega, rfl, by go_num, by omega, HO3, HU3⟩
      · skip
        have HUn : Hid (un 3 5 c e i = ⟨r0, (i : Int), ((k0 : Nat) : Int)⟩ :: un 3 5 c e (i + k0)) := un_step hcC.out hlt (hu1.trans HX0.out)
        have hk2 : 1 ≤ k0 ∧ i + k0 ≤ e := by omega
        clear HF2 HC
        obtain ⟨dn, hdl, hdo, hdr⟩ := HO2.out
        go_wp2_with (at_builtin; refine wpList_append_own _ rfl _ _ 41 rfl W.heap.size 53 i0 _ 3 24 Tryd.underlying41 hi hz0 hz1 hz2 rfl (by decide) _ _ _ rfl (World.ownsRow.alloc hdo _) ⟨w2.heap.size, 0, none⟩ 1 1 [.int .i32 r0, .int .i64 (i : Int), .int .i64 ((k0 : Nat) : Int)] rfl rfl ?c1 ?c2 ?c3 ?c4 ?c5 ?_)
        case c1 =>
          intro j u hj
          match j, hj with
          | 0, hj => simp at hj; subst hj; simp [Addr.add]
          | 1, hj => simp at hj; subst hj; simp [Addr.add]
          | 2, hj => simp at hj; subst hj; simp [Addr.add]
          | (j + 3), hj => simp at hj
        case c2 => intro u hu; simp at hu; rcases hu with rfl | rfl | rfl <;> rfl
        case c3 => unfold maxLen; omega
        case c4 => omega
        case c5 => have := HU2.out.2; simp only [World.size_alloc]; omega
        intro v' w3 hown2 hgr hnil
        have HO3 : Hid (∃ dn : List U3, dn.length = k + 1 ∧ w3.ownsRow W.heap.size 53 3 v' (k + 1) (uC dn) ∧ dn ++ un 3 5 c e (i + k0) = R) := by
          refine ⟨dn ++ [⟨r0, (i : Int), ((k0 : Nat) : Int)⟩], by rw [List.length_append, hdl]; rfl, ?_, ?_⟩
          · rw [uC_app]; exact hown2
          · rw [← hdr, HUn.out]; simp
        have HU3 : Hid (Up W.heap.size W w3) := (HU2.out.alloc _).grown hgr (own_base hdo)
        clear hown2 hgr hnil HO2 HU2 hdo hdl hdr y3
        go_wp2
        go_roundg (e - (i + k0))
        case measure => omega
        case rel => exact ⟨i + k0, k + 1, by omega, by omega, rfl, by go_num, by omega, HO3, HU3⟩
    · have z1 : ¬ (i : Int) < (e : Int) := by omega
      obtain ⟨dn, d1, d2, d3⟩ := HO.out
      rw [un_end (by omega), List.append_nil] at d3
      subst d3
      have hfin : UR wr w.heap.size u8 dn := by
        show wr.ownsRow _ _ _ _ _ _
        rw [d1]
        exact own_mono d2 (by have := HH.out.2.2.2; omega)
      have hbw : Below w.heap.size w wr := HH.out.2.2.1.trans (HU.out.1.mono HH.out.2.2.1.size)
      have HFn : Hid (UR wr w.heap.size u8 dn ∧ Below w.heap.size w wr) := ⟨hfin, hbw⟩
      clear d1 d2 hfin hbw HO HU
      go_wp2
      rw [← HQ.out]
      exact ⟨_, rfl, HFn.out.1, HFn.out.2⟩
set_option maxRecDepth 100000 in
set_option maxHeartbeats 8000000 in
theorem runs_p5b {w : World} {ad : Option Addr} {n cap : Nat} {c : Nat → Int} (hC : ∀ j, j < n → 0 ≤ c j ∧ c j < 256) (h : BC w ad n c) (hcap : n ≤ cap) (hn : n ≤ 100000) (hbig : cap ≤ 9223372036854775807) {A M : Nat} (hAM : A + M ≤ n) {f : Int} (h8 : (f == 8) = false) (h4 : (4 : Int) ≤ f) (h7 : ¬ f ≤ 7) :
    Calls Tryd.prog 16 #[.int .u8 f, .slice ad n cap, .agg #[.int .u8 5, .int .i64 (A : Int), .int .i64 (M : Int)]] w (UnP w (un f 5 c (A + M) A)) := by
  obtain ⟨e, he⟩ : ∃ e, A + M = e := ⟨_, rfl⟩
  have hin : inB (A : Int) (M : Int) n = true := by unfold inB; simp; omega
  obtain ⟨R, hR⟩ : ∃ R, un f 5 c (A + M) A = R := ⟨_, rfl⟩
  have HR : Hid (un f 5 c e A = R) := by show _ = _; rw [← hR, he]
  obtain ⟨Q, hQ⟩ : ∃ Q, UnP w (un f 5 c (A + M) A) = Q := ⟨_, rfl⟩
  have HQ : Hid (UnP w R = Q) := by show _ = _; rw [← hQ, hR]
  rw [hQ]
  obtain ⟨W, hW⟩ : ∃ W, w.alloc (.cells #[.int .u8 5, .int .i64 (A : Int), .int .i64 (M : Int)] 40) = W := ⟨_, rfl⟩
  have hbW : Below w.heap.size w W := by rw [← hW]; exact below_alloc w _
  have hWs : W.heap.size = w.heap.size + 1 := by rw [← hW]; exact World.size_alloc _ _
  have hW0 : W.heap[w.heap.size]? = some (.cells #[.int .u8 5, .int .i64 (A : Int), .int .i64 (M : Int)] 40) := by rw [← hW]; exact heap_alloc_new _ _
  have x0 : W.cell? ⟨w.heap.size, 0, none⟩ = some (.int .u8 5) := by simp [World.cell?, hW0]
  have x1 : W.cell? ⟨w.heap.size, 1, none⟩ = some (.int .i64 (A : Int)) := by simp [World.cell?, hW0]
  have x2 : W.cell? ⟨w.heap.size, 2, none⟩ = some (.int .i64 (M : Int)) := by simp [World.cell?, hW0]
  have HX : Hid (W.cell? ⟨w.heap.size, 0, none⟩ = some (.int .u8 5) ∧ W.cell? ⟨w.heap.size, 1, none⟩ = some (.int .i64 (A : Int)) ∧ W.cell? ⟨w.heap.size, 2, none⟩ = some (.int .i64 (M : Int))) := ⟨x0, x1, x2⟩
  obtain ⟨D, hD⟩ : ∃ D, w.heap.size = D := ⟨_, rfl⟩
  have HH : Hid ((∀ j, j < n → 0 ≤ c j ∧ c j < 256) ∧ BC w ad n c ∧ Below w.heap.size w W ∧ W.heap.size = w.heap.size + 1) := ⟨hC, h, hbW, hWs⟩
  have cin := rin_any (A : Int) (M : Int) n (by omega) W
  rw [hin] at cin
  obtain ⟨i0, hi, hz0, hz1, hz2⟩ := info_parts infoU
  have hAe : A ≤ e := by omega
  have hen : e ≤ n := by omega
  have heI : (A : Int) + (M : Int) = (e : Int) := by omega
  rw [hD] at x0 x1 x2
  clear hC h hin hR hQ hbW hWs hW0 he
  go_enter Tryd.func16, Tryd.ntmps16
  go_wp2_with fail
  refine cin.mono ?_
  rintro ev w1 ⟨rfl, hb1⟩
  have y1 := cell_stay x1 hb1
  have y2 := cell_stay x2 hb1
  have HU1 : Hid (Up W.heap.size W w1) := ⟨hb1, hb1.size⟩
  clear x0 x1 x2 cin hb1 hW
  go_wp2
  (try rw [hD])
  clear y1 y2
  go_loopg [8, 10] (e - A) (fun q ov iv wr => ∃ (i k : Nat), A ≤ i ∧ i ≤ e ∧ q = e - i ∧ iv = .int .i64 i ∧ k ≤ i ∧ Hid (∃ dn : List U3, dn.length = k ∧ wr.ownsRow W.heap.size 53 3 ov k (uC dn) ∧ dn ++ un f 5 c e i = R) ∧ Hid (Up W.heap.size W wr))
  case atStart => exact ⟨A, 0, Nat.le_refl _, hAe, rfl, rfl, Nat.zero_le _, ⟨[], rfl, World.ownsRow_nil _ _ _ _, HR.out⟩, HU1⟩
  case round =>
    obtain ⟨i, k, hi1, hi2, hq, rfl, hk, HO, HU⟩ := hrel
    have y0 : wr.cell? ⟨D, 0, none⟩ = some (.int .u8 5) := by
      have := cell_stay HX.out.1 HU.out.1
      rw [hD] at this
      exact this
    by_cases hlt : i < e
    · have z0 : (0 : Int) ≤ (i : Int) := by omega
      have z1 : (i : Int) < (e : Int) := by omega
      have z2 : (i : Int) ≤ (e : Int) := by omega
      have z3 : (e : Int) ≤ (cap : Int) := by omega
      obtain ⟨b, off, rfl, -⟩ := HH.out.2.1 i (by omega)
      have hb0 : BC wr (some ⟨b, off, none⟩) n c := (HH.out.2.1.stay HH.out.2.2.1).stay HU.out.1
      have hfr := (BC.from hb0 i (by omega) hcap).upto (m := e - i) (by omega)
      rw [if_neg (by omega)] at hfr
      have HF : Hid (BC wr (some ⟨b, off + i, none⟩) (e - i) (fun j => c (i + j))) := hfr
      have HC : Hid (∀ j, j < e - i → 0 ≤ c (i + j) ∧ c (i + j) < 256) := fun j hj => HH.out.1 (i + j) (by omega)
      have cN := rnx_any (cap := cap - i) HC.out hfr (by omega)
      have hx := nx_le (c := fun j => c (i + j)) (n := e - i) (by omega)
      obtain ⟨r0, k0, hnx⟩ : ∃ r0 k0, nx (fun j => c (i + j)) (e - i) = (r0, k0) := ⟨_, _, rfl⟩
      rw [hnx] at cN hx
      have HX0 : Hid (nx (fun j => c (i + j)) (e - i) = (r0, k0)) := hnx
      have hcC : Hid (∀ j, j < e → 0 ≤ c j ∧ c j ≤ 255) := fun j hj => by have := HH.out.1 j (by omega); omega
      dsimp only at hx cN
      clear hb0 hfr hnx
      go_wp2_with fail
      refine cN.mono ?_
      rintro ev w2 ⟨rfl, hb2⟩
      have y3 := cell_stay y0 hb2
      have HO2 : Hid (∃ dn : List U3, dn.length = k ∧ w2.ownsRow W.heap.size 53 3 u8 k (uC dn) ∧ dn ++ un f 5 c e i = R) := by
        obtain ⟨dn, d1, d2, d3⟩ := HO.out
        exact ⟨dn, d1, own_stay d2 hb2, d3⟩
      have HU2 : Hid (Up W.heap.size W w2) := HU.out.stay hb2
      have HF2 : Hid (BC w2 (some ⟨b, off + i, none⟩) (e - i) (fun j => c (i + j))) := HF.out.stay hb2
      clear y0 cN HO HU HF hb2
      have hu1 := show u1 f 5 (fun j => c (i + j)) (e - i) = nx (fun j => c (i + j)) (e - i) by unfold u1; rw [if_neg (fun h => absurd h.1 (by decide)), if_neg (fun h => by have q := h.2; subst q; cases h8), if_neg (fun h => by omega)]
      have HUn : Hid (un f 5 c e i = ⟨r0, (i : Int), ((k0 : Nat) : Int)⟩ :: un f 5 c e (i + k0)) := un_step hcC.out hlt (hu1.trans HX0.out)
      have hk2 : 1 ≤ k0 ∧ i + k0 ≤ e := by omega
      clear HF2 HC
      obtain ⟨dn, hdl, hdo, hdr⟩ := HO2.out
      go_wp2_with (at_builtin; refine wpList_append_own _ rfl _ _ 41 rfl W.heap.size 53 i0 _ 3 24 Tryd.underlying41 hi hz0 hz1 hz2 rfl (by decide) _ _ _ rfl (World.ownsRow.alloc hdo _) ⟨w2.heap.size, 0, none⟩ 1 1 [.int .i32 r0, .int .i64 (i : Int), .int .i64 ((k0 : Nat) : Int)] rfl rfl ?c1 ?c2 ?c3 ?c4 ?c5 ?_)
      case c1 =>
        intro j u hj
        match j, hj with
        | 0, hj => simp at hj; subst hj; simp [Addr.add]
        | 1, hj => simp at hj; subst hj; simp [Addr.add]
        | 2, hj => simp at hj; subst hj; simp [Addr.add]
        | (j + 3), hj => simp at hj
      case c2 => intro u hu; simp at hu; rcases hu with rfl | rfl | rfl <;> rfl
      case c3 => unfold maxLen; omega
      case c4 => omega
      case c5 => have := HU2.out.2; simp only [World.size_alloc]; omega
      intro v' w3 hown2 hgr hnil
      have HO3 : Hid (∃ dn : List U3, dn.length = k + 1 ∧ w3.ownsRow W.heap.size 53 3 v' (k + 1) (uC dn) ∧ dn ++ un f 5 c e (i + k0) = R) := by
        refine ⟨dn ++ [⟨r0, (i : Int), ((k0 : Nat) : Int)⟩], by rw [List.length_append, hdl]; rfl, ?_, ?_⟩
        · rw [uC_app]; exact hown2
        · rw [← hdr, HUn.out]; simp
      have HU3 : Hid (Up W.heap.size W w3) := (HU2.out.alloc _).grown hgr (own_base hdo)
      clear hown2 hgr hnil HO2 HU2 hdo hdl hdr y3
      go_wp2
      go_roundg (e - (i + k0))
      case measure => omega
      case rel => exact ⟨i + k0, k + 1, by omega, by omega, rfl, by go_num, by omega, HO3, HU3⟩
    · have z1 : ¬ (i : Int) < (e : Int) := by omega
      obtain ⟨dn, d1, d2, d3⟩ := HO.out
      rw [un_end (by omega), List.append_nil] at d3
      subst d3
      have hfin : UR wr w.heap.size u8 dn := by
        show wr.ownsRow _ _ _ _ _ _
        rw [d1]
        exact own_mono d2 (by have := HH.out.2.2.2; omega)
      have hbw : Below w.heap.size w wr := HH.out.2.2.1.trans (HU.out.1.mono HH.out.2.2.1.size)
      have HFn : Hid (UR wr w.heap.size u8 dn ∧ Below w.heap.size w wr) := ⟨hfin, hbw⟩
      clear d1 d2 hfin hbw HO HU
      go_wp2
      rw [← HQ.out]
      exact ⟨_, rfl, HFn.out.1, HFn.out.2⟩
end Go.Proofs.YtkfgfbdalkifjaaDoor
