/- decode.Units. -/
import Derived.Test.YtbhjkkbempnjeaaDoorwSpc
import Derived.Test.YtbhjkkbempnjeaaDoorvRu
namespace Go.Proofs.YtbhjkkbempnjeaaDoor
set_option linter.unusedVariables false
open Go.RowKit Go.ChangeShapes
/-- What the program's variables and the library's tables hold. -/
def Glb (w : World) : Prop := Lns.Tabs w ∧ Ers w ∧ Ent w
theorem Glb.stay {w w' : World} (h : Glb w) (hb : Below w.heap.size w w') : Glb w' := ⟨Lns.tabs_stay h.1 hb, h.2.1.stay hb, h.2.2.stay hb⟩
def erI (b : Bool) : Int := if b = true then 0 else 2
theorem check_any (a m : Int) (n : Nat) (hn : n ≤ 9223372036854775807) (w : World) :
    Calls Tryd.prog 31 #[.agg #[.int .i64 a, .int .i64 m], .int .i64 n] w fun e w' => e = .returned (.int .i64 (erI (inB a m n))) ∧ Below w.heap.size w w' := by
  have hb : Below w.heap.size w (w.alloc (.cells #[.int .i64 a, .int .i64 m] 43)) := below_alloc w _
  obtain ⟨z, hz⟩ : ∃ z, erI (inB a m n) = z := ⟨_, rfl⟩
  rw [hz]
  have HZ : Hid (erI (inB a m n) = z) := hz
  clear hz
  by_cases h1 : 0 ≤ a
  · by_cases h2 : 0 ≤ m
    · by_cases h3 : a ≤ (n : Int)
      · by_cases h4 : m ≤ (n : Int) - a
        · go_enter Tryd.func31, Tryd.ntmps31
          go_wp2
          go_ret
          exact ⟨by rw [← HZ.out]; simp [erI, inB, h1, h2, h3, h4], hb⟩
        · go_enter Tryd.func31, Tryd.ntmps31
          go_wp2
          go_ret
          exact ⟨by rw [← HZ.out]; simp [erI, inB, h1, h2, h3, h4], hb⟩
      · go_enter Tryd.func31, Tryd.ntmps31
        go_wp2
        go_ret
        exact ⟨by rw [← HZ.out]; simp [erI, inB, h1, h2]; omega, hb⟩
    · go_enter Tryd.func31, Tryd.ntmps31
      go_wp2
      go_ret
      exact ⟨by rw [← HZ.out]; simp [erI, inB, h1]; omega, hb⟩
  · go_enter Tryd.func31, Tryd.ntmps31
    go_wp2
    go_ret
    exact ⟨by rw [← HZ.out]; simp [erI, inB]; omega, hb⟩
/-- What Units leaves. -/
def UnQ (w : World) (l : List U3) (ev : Ending) (w' : World) : Prop := ∃ v, ev = .returned (.tuple #[v, .int .i64 0]) ∧ UR w' w.heap.size v l ∧ Below w.heap.size w w'
theorem units_no {w : World} {ad : Option Addr} {n cap : Nat} (hn : n ≤ 9223372036854775807) {f l a m : Int} (hin : inB a m n = false) :
    Calls Tryd.prog 17 #[.int .u8 f, .slice ad n cap, .agg #[.int .u8 l, .int .i64 a, .int .i64 m]] w fun ev w' => ev = .returned (.tuple #[.slice none 0 0, .int .i64 2]) ∧ Below w.heap.size w w' := by
  obtain ⟨W, hW⟩ : ∃ W, w.alloc (.cells #[.int .u8 l, .int .i64 a, .int .i64 m] 45) = W := ⟨_, rfl⟩
  have hbW : Below w.heap.size w W := by rw [← hW]; exact below_alloc w _
  have hW0 : W.heap[w.heap.size]? = some (.cells #[.int .u8 l, .int .i64 a, .int .i64 m] 45) := by rw [← hW]; exact heap_alloc_new _ _
  have x1 : W.cell? ⟨w.heap.size, 1, none⟩ = some (.int .i64 a) := by simp [World.cell?, hW0]
  have x2 : W.cell? ⟨w.heap.size, 2, none⟩ = some (.int .i64 m) := by simp [World.cell?, hW0]
  have HB : Hid (Below w.heap.size w W) := hbW
  have cin := check_any a m n hn W
  rw [hin] at cin
  have cin' : Calls Tryd.prog 31 #[.agg #[.int .i64 a, .int .i64 m], .int .i64 n] W fun e w' => e = .returned (.int .i64 2) ∧ Below W.heap.size W w' := cin
  clear hbW hW0 hin cin
  go_enter Tryd.func17, Tryd.ntmps17
  go_wp2_with fail
  refine cin'.mono ?_
  rintro ev w1 ⟨rfl, hb1⟩
  have HB1 : Hid (Below w.heap.size w w1) := HB.out.trans (hb1.mono HB.out.size)
  clear cin' hb1 hW x1 x2
  go_wp2
  refine bodyPost_ret (v := .tuple #[.slice none 0 0, .int .i64 2]) (by simp [results, Tryd.results17, go_sem]) rfl ?_
  exact ⟨rfl, HB1.out⟩
set_option maxRecDepth 100000 in
set_option maxHeartbeats 8000000 in
theorem units_any {w : World} {ad : Option Addr} {n cap : Nat} {c : Nat → Int} (hC : ∀ j, j < n → 0 ≤ c j ∧ c j < 256) (h : BC w ad n c) (hcap : n ≤ cap) (hn : n ≤ 100000) (hbig : cap ≤ 9223372036854775807) {A M : Nat} (hAM : A + M ≤ n) (f l : Int) (hG : Glb w) :
    Calls Tryd.prog 17 #[.int .u8 f, .slice ad n cap, .agg #[.int .u8 l, .int .i64 (A : Int), .int .i64 (M : Int)]] w (UnQ w (un f l c (A + M) A)) := by
  obtain ⟨e, he⟩ : ∃ e, A + M = e := ⟨_, rfl⟩
  have hin : inB (A : Int) (M : Int) n = true := by unfold inB; simp; omega
  obtain ⟨R, hR⟩ : ∃ R, un f l c (A + M) A = R := ⟨_, rfl⟩
  have HR : Hid (un f l c e A = R) := by show _ = _; rw [← hR, he]
  obtain ⟨Q, hQ⟩ : ∃ Q, UnQ w (un f l c (A + M) A) = Q := ⟨_, rfl⟩
  have HQ : Hid (UnQ w R = Q) := by show _ = _; rw [← hQ, hR]
  rw [hQ]
  obtain ⟨W, hW⟩ : ∃ W, w.alloc (.cells #[.int .u8 l, .int .i64 (A : Int), .int .i64 (M : Int)] 45) = W := ⟨_, rfl⟩
  have hbW : Below w.heap.size w W := by rw [← hW]; exact below_alloc w _
  have hWs : W.heap.size = w.heap.size + 1 := by rw [← hW]; exact World.size_alloc _ _
  have hW0 : W.heap[w.heap.size]? = some (.cells #[.int .u8 l, .int .i64 (A : Int), .int .i64 (M : Int)] 45) := by rw [← hW]; exact heap_alloc_new _ _
  have x0 : W.cell? ⟨w.heap.size, 0, none⟩ = some (.int .u8 l) := by simp [World.cell?, hW0]
  have x1 : W.cell? ⟨w.heap.size, 1, none⟩ = some (.int .i64 (A : Int)) := by simp [World.cell?, hW0]
  have x2 : W.cell? ⟨w.heap.size, 2, none⟩ = some (.int .i64 (M : Int)) := by simp [World.cell?, hW0]
  have HX : Hid (W.cell? ⟨w.heap.size, 0, none⟩ = some (.int .u8 l) ∧ W.cell? ⟨w.heap.size, 1, none⟩ = some (.int .i64 (A : Int)) ∧ W.cell? ⟨w.heap.size, 2, none⟩ = some (.int .i64 (M : Int))) := ⟨x0, x1, x2⟩
  obtain ⟨D, hD⟩ : ∃ D, w.heap.size = D := ⟨_, rfl⟩
  have HH : Hid ((∀ j, j < n → 0 ≤ c j ∧ c j < 256) ∧ BC w ad n c ∧ Below w.heap.size w W ∧ W.heap.size = w.heap.size + 1 ∧ Glb w) := ⟨hC, h, hbW, hWs, hG⟩
  have cin0 := check_any (A : Int) (M : Int) n (by omega) W
  rw [hin] at cin0
  have cin : Calls Tryd.prog 31 #[.agg #[.int .i64 (A : Int), .int .i64 (M : Int)], .int .i64 n] W fun e w' => e = .returned (.int .i64 0) ∧ Below W.heap.size W w' := cin0
  obtain ⟨i0, hi, hz0, hz1, hz2⟩ := info_parts infoU
  have hAe : A ≤ e := by omega
  have hen : e ≤ n := by omega
  have heI : (A : Int) + (M : Int) = (e : Int) := by omega
  have w0 : (0 : Int) ≤ (e : Int) := by omega
  have w3 : (e : Int) ≤ (cap : Int) := by omega
  rw [hD] at x0 x1 x2
  clear hC h hin hR hQ hbW hWs hW0 he cin0 hG
  go_enter Tryd.func17, Tryd.ntmps17
  go_wp2_with fail
  refine cin.mono ?_
  rintro ev w1 ⟨rfl, hb1⟩
  have y1 := cell_stay x1 hb1
  have y2 := cell_stay x2 hb1
  have HU1 : Hid (Up W.heap.size W w1) := ⟨hb1, hb1.size⟩
  clear x0 x1 x2 cin hb1 hW
  go_wp2
  (try rw [hD])
  clear y1 y2
  go_loopg [9, 11] (e - A) (fun q ov iv wr => ∃ (i k : Nat), A ≤ i ∧ i ≤ e ∧ q = e - i ∧ iv = .int .i64 i ∧ k ≤ i ∧ Hid (∃ dn : List U3, dn.length = k ∧ wr.ownsRow W.heap.size 56 3 ov k (uC dn) ∧ dn ++ un f l c e i = R) ∧ Hid (Up W.heap.size W wr))
  case atStart => exact ⟨A, 0, Nat.le_refl _, hAe, rfl, rfl, Nat.zero_le _, ⟨[], rfl, World.ownsRow_nil _ _ _ _, HR.out⟩, HU1⟩
  case round =>
    obtain ⟨i, k, hi1, hi2, hq, rfl, hk, HO, HU⟩ := hrel
    have y0 : wr.cell? ⟨D, 0, none⟩ = some (.int .u8 l) := by
      have := cell_stay HX.out.1 HU.out.1
      rw [hD] at this
      exact this
    by_cases hlt : i < e
    · have z0 : (0 : Int) ≤ (i : Int) := by omega
      have z1 : (i : Int) < (e : Int) := by omega
      have z2 : (i : Int) ≤ (e : Int) := by omega
      have z4 : ¬ cap = i := by omega
      obtain ⟨b, off, rfl, -⟩ := HH.out.2.1 i (by omega)
      have hb0 : BC wr (some ⟨b, off, none⟩) n c := (HH.out.2.1.stay HH.out.2.2.1).stay HU.out.1
      have hfr := (BC.from hb0 i (by omega) hcap).upto (m := e - i) (by omega)
      rw [if_neg (by omega)] at hfr
      have HF : Hid (BC wr (some ⟨b, off + i, none⟩) (e - i) (fun j => c (i + j))) := hfr
      have HC : Hid (∀ j, j < e - i → 0 ≤ c (i + j) ∧ c (i + j) < 256) := fun j hj => HH.out.1 (i + j) (by omega)
      have HG : Hid (Glb wr) := (HH.out.2.2.2.2.stay HH.out.2.2.1).stay HU.out.1
      have hx := nx_le (c := fun j => c (i + j)) (n := e - i) (by omega)
      obtain ⟨r0, k0, hnx⟩ : ∃ r0 k0, nx (fun j => c (i + j)) (e - i) = (r0, k0) := ⟨_, _, rfl⟩
      rw [hnx] at hx
      have HX0 : Hid (nx (fun j => c (i + j)) (e - i) = (r0, k0)) := hnx
      have hcC : Hid (∀ j, j < e → 0 ≤ c j ∧ c j ≤ 255) := fun j hj => by have := HH.out.1 j (by omega); omega
      have hu1 := u1_sp f l (fun j => c (i + j)) (e - i)
      have hu9 := u1_le (f := f) (l := l) (c := fun j => c (i + j)) (n := e - i) (by omega) (fun _ => by have := HH.out.1 (i + 1) (by omega); omega)
      have hsp : ∀ w', Up wr.heap.size wr w' → Calls Tryd.prog 32 #[.int .u8 f, .int .u8 l, .slice (some ⟨b, off + i, none⟩) (e - i) (cap - i)] w' fun e' w'' => e' = .returned (ans (sp f l (fun j => c (i + j)) (e - i))) ∧ Below w'.heap.size w' w'' := fun w' hw' =>
        special_any (fun j hj => HC.out j hj) (HF.out.stay hw'.1) (by omega) (by omega) (by omega) (by omega) (HG.out.stay hw'.1).2.1 (HG.out.stay hw'.1).2.2 f l
      dsimp only at hx
      clear hb0 hfr hnx
      cases hs : sp f l (fun j => c (i + j)) (e - i) with
      | some x =>
        obtain ⟨r1, k1⟩ := x
        rw [hs] at hsp hu1
        have hu2 : u1 f l (fun j => c (i + j)) (e - i) = (r1, k1) := hu1
        rw [hu2] at hu9
        dsimp only at hu9
        have HUn : Hid (un f l c e i = ⟨r1, (i : Int), ((k1 : Nat) : Int)⟩ :: un f l c e (i + k1)) := un_step hcC.out hlt hu2
        have hk2 : 1 ≤ k1 ∧ i + k1 ≤ e := by omega
        clear hu1 hu2 hs hu9 HX0 hx
        have HSP : Hid (∀ w', (w'.cell? ⟨D, 0, none⟩ = some (.int .u8 l) ∧ Up wr.heap.size wr w') → Calls Tryd.prog 32 #[.int .u8 f, .int .u8 l, .slice (some ⟨b, off + i, none⟩) (e - i) (cap - i)] w' fun e' w'' => e' = .returned (.tuple #[.int .i32 r1, .int .i64 ((k1 : Nat) : Int), .bool true]) ∧ (w''.cell? ⟨D, 0, none⟩ = some (.int .u8 l) ∧ Up wr.heap.size wr w'')) := fun w' hw' =>
          (hsp w' hw'.2).mono fun e' w'' he => ⟨he.1.trans rfl, cell_stay hw'.1 he.2, hw'.2.stay he.2⟩
        have HS0 : Hid (wr.drew.cell? ⟨D, 0, none⟩ = some (.int .u8 l) ∧ Up wr.heap.size wr wr.drew) := ⟨by simpa using y0, (Up.refl wr).drew⟩
        clear hsp
        go_upto_region 8 with fail
        go_cut [12, 13, 14] (fun rv kv qv wx => rv = .int .i32 r1 ∧ kv = .int .i64 ((k1 : Nat) : Int) ∧ qv = .bool true ∧ Hid (wx.cell? ⟨D, 0, none⟩ = some (.int .u8 l) ∧ Up wr.heap.size wr wx))
        case first =>
          go_region_held3 (fun w' => w'.cell? ⟨D, 0, none⟩ = some (.int .u8 l) ∧ Up wr.heap.size wr w') (first | exact HS0.out | assumption) (first | (go_at_call 32; refine (HSP.out _ (by first | exact HS0.out | assumption)).mono ?_; rintro e w' ⟨rfl, hw'⟩))
          all_goals
            go_wp2
            go_meet
            case rel => exact ⟨rfl, rfl, rfl, hw'⟩
        case rest =>
          obtain ⟨rfl, rfl, rfl, HW⟩ := hcut
          have HO2 : Hid (∃ dn : List U3, dn.length = k ∧ wc.ownsRow W.heap.size 56 3 u9 k (uC dn) ∧ dn ++ un f l c e i = R) := by
            obtain ⟨dn, d1, d2, d3⟩ := HO.out
            exact ⟨dn, d1, own_stay d2 HW.out.2.1, d3⟩
          have HU2 : Hid (Up W.heap.size W wc) := HU.out.stay HW.out.2.1
          clear y0 HO HU HF HSP HS0 HC HG
          obtain ⟨dn, hdl, hdo, hdr⟩ := HO2.out
          go_wp2_with (at_builtin; refine wpList_append_own _ rfl _ _ 25 rfl W.heap.size 56 i0 _ 3 24 Tryd.underlying25 hi hz0 hz1 hz2 rfl (by decide) _ _ _ rfl (World.ownsRow.alloc hdo _) ⟨wc.heap.size, 0, none⟩ 1 1 [.int .i32 r1, .int .i64 (i : Int), .int .i64 ((k1 : Nat) : Int)] rfl rfl ?c1 ?c2 ?c3 ?c4 ?c5 ?_)
          case c1 =>
            intro j u hj
            match j, hj with
            | 0, hj => simp at hj; subst hj; simp [Addr.add]
            | 1, hj => simp at hj; subst hj; simp [Addr.add]
            | 2, hj => simp at hj; subst hj; simp [Addr.add]
            | (j + 3), hj => simp at hj
          case c2 => intro u hu; simp at hu; rcases hu with rfl | rfl | rfl <;> rfl
          case c3 => unfold maxLen; omega
          case c4 => omega
          case c5 => have := HU2.out.2; simp only [World.size_alloc]; omega
          intro v' w3 hown2 hgr hnil
          have HO3 : Hid (∃ dn : List U3, dn.length = k + 1 ∧ w3.ownsRow W.heap.size 56 3 v' (k + 1) (uC dn) ∧ dn ++ un f l c e (i + k1) = R) := by
            refine ⟨dn ++ [⟨r1, (i : Int), ((k1 : Nat) : Int)⟩], by rw [List.length_append, hdl]; rfl, ?_, ?_⟩
            · rw [uC_app]; exact hown2
            · rw [← hdr, HUn.out]; simp
          have HU3 : Hid (Up W.heap.size W w3) := (HU2.out.alloc _).grown hgr (own_base hdo)
          clear hown2 hgr hnil HO2 HU2 hdo hdl hdr
          go_wp2
          go_roundg (e - (i + k1))
          case measure => omega
          case rel => exact ⟨i + k1, k + 1, by omega, by omega, rfl, by go_num, by omega, HO3, HU3⟩
      | none =>
        rw [hs] at hsp hu1
        have hu2 : u1 f l (fun j => c (i + j)) (e - i) = (r0, k0) := hu1.trans HX0.out
        have HUn : Hid (un f l c e i = ⟨r0, (i : Int), ((k0 : Nat) : Int)⟩ :: un f l c e (i + k0)) := un_step hcC.out hlt hu2
        have hk2 : 1 ≤ k0 ∧ i + k0 ≤ e := by omega
        clear hu1 hu2 hs hu9
        have HSP : Hid (∀ w', (w'.cell? ⟨D, 0, none⟩ = some (.int .u8 l) ∧ Up wr.heap.size wr w') → Calls Tryd.prog 32 #[.int .u8 f, .int .u8 l, .slice (some ⟨b, off + i, none⟩) (e - i) (cap - i)] w' fun e' w'' => e' = .returned (.tuple #[.int .i32 0, .int .i64 0, .bool false]) ∧ (w''.cell? ⟨D, 0, none⟩ = some (.int .u8 l) ∧ Up wr.heap.size wr w'')) := fun w' hw' =>
          (hsp w' hw'.2).mono fun e' w'' he => ⟨he.1.trans rfl, cell_stay hw'.1 he.2, hw'.2.stay he.2⟩
        have HS0 : Hid (wr.drew.cell? ⟨D, 0, none⟩ = some (.int .u8 l) ∧ Up wr.heap.size wr wr.drew) := ⟨by simpa using y0, (Up.refl wr).drew⟩
        clear hsp
        go_upto_region 8 with fail
        go_cut [12, 13, 14] (fun rv kv qv wx => rv = .int .i32 0 ∧ kv = .int .i64 0 ∧ qv = .bool false ∧ Hid (wx.cell? ⟨D, 0, none⟩ = some (.int .u8 l) ∧ Up wr.heap.size wr wx))
        case first =>
          go_region_held3 (fun w' => w'.cell? ⟨D, 0, none⟩ = some (.int .u8 l) ∧ Up wr.heap.size wr w') (first | exact HS0.out | assumption) (first | (go_at_call 32; refine (HSP.out _ (by first | exact HS0.out | assumption)).mono ?_; rintro e w' ⟨rfl, hw'⟩))
          all_goals
            go_wp2
            go_meet
            case rel => exact ⟨rfl, rfl, rfl, hw'⟩
        case rest =>
          obtain ⟨rfl, rfl, rfl, HW⟩ := hcut
          have cN := unx_any (cap := cap - i) (HG.out.stay HW.out.2.1).1 HC.out (HF.out.stay HW.out.2.1) (by omega)
          rw [HX0.out] at cN
          dsimp only at cN
          have HO1 : Hid (∃ dn : List U3, dn.length = k ∧ wc.ownsRow W.heap.size 56 3 u9 k (uC dn) ∧ dn ++ un f l c e i = R) := by
            obtain ⟨dn, d1, d2, d3⟩ := HO.out
            exact ⟨dn, d1, own_stay d2 HW.out.2.1, d3⟩
          have HU1b : Hid (Up W.heap.size W wc) := HU.out.stay HW.out.2.1
          clear y0 HO HU HF HSP HS0 HC HG HX0 hx
          go_wp2_with fail
          refine cN.mono ?_
          rintro ev w2 ⟨rfl, hb2⟩
          have HO2 : Hid (∃ dn : List U3, dn.length = k ∧ w2.ownsRow W.heap.size 56 3 u9 k (uC dn) ∧ dn ++ un f l c e i = R) := by
            obtain ⟨dn, d1, d2, d3⟩ := HO1.out
            exact ⟨dn, d1, own_stay d2 hb2, d3⟩
          have HU2 : Hid (Up W.heap.size W w2) := HU1b.out.stay hb2
          clear cN HO1 HU1b hb2 HW
          obtain ⟨dn, hdl, hdo, hdr⟩ := HO2.out
          go_wp2_with (at_builtin; refine wpList_append_own _ rfl _ _ 25 rfl W.heap.size 56 i0 _ 3 24 Tryd.underlying25 hi hz0 hz1 hz2 rfl (by decide) _ _ _ rfl (World.ownsRow.alloc hdo _) ⟨w2.heap.size, 0, none⟩ 1 1 [.int .i32 r0, .int .i64 (i : Int), .int .i64 ((k0 : Nat) : Int)] rfl rfl ?c1 ?c2 ?c3 ?c4 ?c5 ?_)
          case c1 =>
            intro j u hj
            match j, hj with
            | 0, hj => simp at hj; subst hj; simp [Addr.add]
            | 1, hj => simp at hj; subst hj; simp [Addr.add]
            | 2, hj => simp at hj; subst hj; simp [Addr.add]
            | (j + 3), hj => simp at hj
          case c2 => intro u hu; simp at hu; rcases hu with rfl | rfl | rfl <;> rfl
          case c3 => unfold maxLen; omega
          case c4 => omega
          case c5 => have := HU2.out.2; simp only [World.size_alloc]; omega
          intro v' w3 hown2 hgr hnil
          have HO3 : Hid (∃ dn : List U3, dn.length = k + 1 ∧ w3.ownsRow W.heap.size 56 3 v' (k + 1) (uC dn) ∧ dn ++ un f l c e (i + k0) = R) := by
            refine ⟨dn ++ [⟨r0, (i : Int), ((k0 : Nat) : Int)⟩], by rw [List.length_append, hdl]; rfl, ?_, ?_⟩
            · rw [uC_app]; exact hown2
            · rw [← hdr, HUn.out]; simp
          have HU3 : Hid (Up W.heap.size W w3) := (HU2.out.alloc _).grown hgr (own_base hdo)
          clear hown2 hgr hnil HO2 HU2 hdo hdl hdr
          go_wp2
          go_roundg (e - (i + k0))
          case measure => omega
          case rel => exact ⟨i + k0, k + 1, by omega, by omega, rfl, by go_num, by omega, HO3, HU3⟩
    · have z1 : ¬ (i : Int) < (e : Int) := by omega
      obtain ⟨dn, d1, d2, d3⟩ := HO.out
      rw [un_end (by omega), List.append_nil] at d3
      subst d3
      have hfin : UR wr w.heap.size u9 dn := by
        show wr.ownsRow _ _ _ _ _ _
        rw [d1]
        exact own_mono d2 (by have := HH.out.2.2.2.1; omega)
      have hbw : Below w.heap.size w wr := HH.out.2.2.1.trans (HU.out.1.mono HH.out.2.2.1.size)
      have HFn : Hid (UR wr w.heap.size u9 dn ∧ Below w.heap.size w wr) := ⟨hfin, hbw⟩
      clear d1 d2 hfin hbw HO HU y0
      go_wp2
      rw [← HQ.out]
      exact ⟨_, rfl, HFn.out.1, HFn.out.2⟩
end Go.Proofs.YtbhjkkbempnjeaaDoor
