/- token: one word. -/
import Derived.Test.YtbhjkkbempnjeaaDoorPkVF3
import Derived.Test.YtbhjkkbempnjeaaDoorwTxt
import Derived.Test.YtbhjkkbempnjeaaDoorwLit
namespace Go.Proofs.YtbhjkkbempnjeaaDoor
set_option linter.unusedVariables false
open Go.RowKit Go.ChangeShapes
set_option maxHeartbeats 2000000 in
theorem tacr_any (w : World) (a1 n1 a2 n2 : Int) (h1 : -1000000 ≤ a1 ∧ a1 ≤ 1000000) (h2 : -1000000 ≤ a2 ∧ a2 ≤ 1000000) (h3 : -1000000 ≤ n2 ∧ n2 ≤ 1000000) :
    Calls Tryd.prog 51 #[.agg #[.int .i64 a1, .int .i64 n1], .agg #[.int .i64 a2, .int .i64 n2]] w fun e w' => e = .returned (.agg #[.int .i64 a1, .int .i64 (a2 + n2 - a1)]) ∧ Below w.heap.size w w' := by
  have z1 : IntKind.i64.wrap (a2 - a1) = a2 - a1 := IntWalk.i64_in _ (by omega)
  have z2 : IntKind.i64.wrap (a2 - a1 + n2) = a2 + n2 - a1 := by rw [IntWalk.i64_in _ (by omega)]; omega
  go_enter Tryd.func51, Tryd.ntmps51
  go_wp2
  refine bodyPost_ret (v := .agg #[.int .i64 a1, .int .i64 (a2 + n2 - a1)]) (by simp [results, Tryd.results51, go_sem]) rfl ?_
  exact ⟨rfl, ((((Up.refl w).alloc _).alloc _).alloc _).1⟩
/-- A result's cell that may be written. -/
def SD (w : World) (D : Nat) (w' : World) : Prop := Up w.heap.size w w' ∧ ∃ a b c d, w'.heap[D]? = some (.cells #[a, b, c, d] 51)
theorem sd_stay {w w' w'' : World} {D : Nat} (h : SD w D w') (hb : Below w'.heap.size w' w'') : SD w D w'' := by
  obtain ⟨h1, a, b, c, d, h2⟩ := h
  have hl : D < w'.heap.size := (Array.getElem?_eq_some_iff.1 h2).1
  exact ⟨h1.stay hb, a, b, c, d, by rw [hb.block D hl]; exact h2⟩
theorem sd_drew {w w' : World} {D : Nat} (h : SD w D w') : SD w D w'.drew := sd_stay h (Below.refl _ _).drew
theorem cells_set {w : World} {b : Nat} {cs : Array Value} {T : TypeId} (h : w.heap[b]? = some (.cells cs T)) (i : Nat) (v : Value) : (w.setCell ⟨b, i, none⟩ v).heap[b]? = some (.cells (cs.setIfInBounds i v) T) := by
  obtain ⟨hlt, he⟩ := Array.getElem?_eq_some_iff.1 h
  show (w.heap.modify b _)[b]? = _
  rw [Array.getElem?_eq_getElem (by rw [Array.size_modify]; exact hlt), Array.getElem_modify_self, he]
  simp
set_option maxHeartbeats 4000000 in
set_option maxRecDepth 100000 in
theorem tword_any {w : World} {ad : Option Addr} {n cap : Nat} {c : Nat → Int} (hC : ∀ j, j < n → 0 ≤ c j ∧ c j < 256) (hb : BC w ad n c) (hcap : n ≤ cap) (hn : n ≤ 100000) (hbig : cap ≤ 9223372036854775807)
    {v : Value} {s : List U3} (h : US w v s) (hk : s.length ≤ 5000) (hl : ∀ u ∈ s, -1000000 ≤ u.a ∧ u.a ≤ 1000000 ∧ -1000000 ≤ u.n ∧ u.n ≤ 1000000) {x y : U3} {e : Nat} (he : s.length = e + 1) (hx : s[0]? = some x) (hy : s[e]? = some y) :
    Calls Tryd.prog 33 #[.slice ad n cap, v] w fun ev w' => ev = .returned (.agg #[.string (strOfNums (tU s)), .int .i64 x.a, .int .i64 (y.a + y.n - x.a), .bool (litB c n s)]) ∧ Below w.heap.size w w' := by
  have bx := hl x (List.mem_of_getElem? hx)
  have by' := hl y (List.mem_of_getElem? hy)
  have CT : Hid (∀ w', Up w.heap.size w w' → Calls Tryd.prog 50 #[v] w' fun e w'' => e = .returned (.string (strOfNums (tU s))) ∧ Below w'.heap.size w' w'') := fun w' hu => text_any (h.stay hu.1) hk
  have CA : Hid (∀ w', Calls Tryd.prog 51 #[.agg #[.int .i64 x.a, .int .i64 x.n], .agg #[.int .i64 y.a, .int .i64 y.n]] w' fun e w'' => e = .returned (.agg #[.int .i64 x.a, .int .i64 (y.a + y.n - x.a)]) ∧ Below w'.heap.size w' w'') := fun w' => tacr_any w' x.a x.n y.a y.n (by omega) (by omega) (by omega)
  have CL : Hid (∀ w', Up w.heap.size w w' → Calls Tryd.prog 52 #[.slice ad n cap, v] w' fun e w'' => e = .returned (.bool (litB c n s)) ∧ Below w'.heap.size w' w'') := fun w' hu => lit_any hC (hb.stay hu.1) hcap hn hbig (h.stay hu.1) hk hl
  obtain ⟨tx, htx⟩ : ∃ z, strOfNums (tU s) = z := ⟨_, rfl⟩
  obtain ⟨lt, hlt⟩ : ∃ z, litB c n s = z := ⟨_, rfl⟩
  rw [htx] at CT ⊢
  rw [hlt] at CL ⊢
  obtain ⟨A, C, rfl, hCk, hh⟩ := h
  obtain ⟨b, off, rfl, hbl, -, x1, x2⟩ := hh 0 x hx
  obtain ⟨b', off', eA, -, -, y1, y2⟩ := hh e y hy
  injection eA with eA
  injection eA with eA1 eA2 _
  subst eA1 eA2
  rw [Nat.zero_mul, Nat.add_zero] at x1 x2
  obtain ⟨N, hN⟩ : ∃ N, s.length = N := ⟨_, rfl⟩
  rw [hN] at CT CL hCk hk he ⊢
  obtain ⟨xa, hxa⟩ : ∃ z, x.a = z := ⟨_, rfl⟩
  obtain ⟨xn, hxn⟩ : ∃ z, x.n = z := ⟨_, rfl⟩
  obtain ⟨ya, hya⟩ : ∃ z, y.a = z := ⟨_, rfl⟩
  obtain ⟨yn, hyn⟩ : ∃ z, y.n = z := ⟨_, rfl⟩
  rw [hxa] at CA x1 ⊢
  rw [hxn] at CA x2
  rw [hya] at CA y1 ⊢
  rw [hyn] at CA y2 ⊢
  have z1 : (0 : Int) ≤ (e : Int) := by omega
  have z2 : (e : Int) < (N : Int) := by omega
  have z3 : (N : Int) - 1 = (e : Int) := by omega
  have z4 : (0 : Int) < (N : Int) := by omega
  have z6 : 0 < N := by omega
  have z7 : e < N := by omega
  have z5 : IntKind.i64.wrap (e : Int) = (e : Int) := IntWalk.i64_in _ (by omega)
  have X1 : Hid _ := x1
  have X2 : Hid _ := x2
  have Y1 : Hid _ := y1
  have Y2 : Hid _ := y2
  clear hh hx hy htx hlt hxa hxn hya hyn bx by' hl hC hb hcap hn hbig he hN x1 x2 y1 y2
  go_enter Tryd.func33, Tryd.ntmps33
  have HD : Hid (SD w w.heap.size (w.alloc (.cells #[.string ⟨#[]⟩, .int .i64 0, .int .i64 0, .bool false] 51))) := ⟨(Up.refl w).alloc _, _, _, _, _, heap_alloc_new _ _⟩
  obtain ⟨w1, hw1⟩ : ∃ x, w.alloc (.cells #[.string ⟨#[]⟩, .int .i64 0, .int .i64 0, .bool false] 51) = x := ⟨_, rfl⟩
  obtain ⟨D, hD⟩ : ∃ D, w.heap.size = D := ⟨_, rfl⟩
  go_upto_region 1 with fail
  rw [hw1] at HD
  have HD2 : Hid (SD w D w1) := by
    show SD w D w1
    rw [← hD]
    exact HD.out
  have HDD : Hid (w.heap.size ≤ D) := Nat.le_of_eq hD
  clear hw1 hD HD
  refine wp_region_held_drew (S := fun w' => SD w D w') (by kernel_rfl) (sd_drew HD2.out) (fun hHeld => ?_)
  (try dsimp only at hHeld)
  obtain ⟨x0, hx0⟩ : ∃ x0, w1.drew = x0 := ⟨_, rfl⟩
  rw [hx0] at hHeld ⊢
  clear hx0
  refine takeH (i := 0) (v := ?_) (d := (some 5)) rfl (by kernel_rfl) (by kernel_rfl) (by kernel_rfl) rfl (fun _ _ _ h => h) (Or.inl ⟨by kernel_rfl, ?_⟩) (by assumption) ?_; rotate_left
  · (intro w hSw; (try dsimp only at hSw); first | (go_simp; done) | (go_simp; with_reducible rfl))
  (try simp only [Act.put, List.setIfInBounds_toArray, List.set_cons_zero, List.set_cons_succ])
  refine takeH (i := 2) (v := ?_) (d := (some 7)) rfl (by kernel_rfl) (by kernel_rfl) (by kernel_rfl) rfl (fun _ _ _ h => h) (Or.inl ⟨by kernel_rfl, ?_⟩) (by assumption) ?_; rotate_left
  · (intro w hSw; (try dsimp only at hSw); first | (go_simp; done) | (go_simp; with_reducible rfl))
  (try simp only [Act.put, List.setIfInBounds_toArray, List.set_cons_zero, List.set_cons_succ])
  refine takeH (i := 3) (v := ?_) (d := (some 8)) rfl (by kernel_rfl) (by kernel_rfl) (by kernel_rfl) rfl (fun _ _ _ h => h) (Or.inl ⟨by kernel_rfl, ?_⟩) (by assumption) ?_; rotate_left
  · (intro w hSw; (try dsimp only at hSw); first | (go_simp; done) | (go_simp; with_reducible rfl))
  (try simp only [Act.put, List.setIfInBounds_toArray, List.set_cons_zero, List.set_cons_succ])
  refine takeH (i := 4) (v := ?_) (d := (some 9)) rfl (by kernel_rfl) (by kernel_rfl) (by kernel_rfl) rfl (fun _ _ _ h => h) (Or.inl ⟨by kernel_rfl, ?_⟩) (by assumption) ?_; rotate_left
  · (intro w hSw; (try dsimp only at hSw); first | (go_simp; done) | (go_simp; with_reducible rfl))
  (try simp only [Act.put, List.setIfInBounds_toArray, List.set_cons_zero, List.set_cons_succ])
  refine takeH (i := 5) (v := ?_) (d := (some 10)) rfl (by kernel_rfl) (by kernel_rfl) (by kernel_rfl) rfl (fun _ _ _ h => h) (Or.inl ⟨by kernel_rfl, ?_⟩) (by assumption) ?_; rotate_left
  · (intro w hSw; (try dsimp only at hSw); have q0 := cell_stay X1.out hSw.1.1; have q1 := cell_stay X2.out hSw.1.1; first | (go_simp; done) | (go_simp; with_reducible rfl))
  (try simp only [Act.put, List.setIfInBounds_toArray, List.set_cons_zero, List.set_cons_succ])
  refine takeH (i := 6) (v := ?_) (d := (some 11)) rfl (by kernel_rfl) (by kernel_rfl) (by kernel_rfl) rfl (fun _ _ _ h => h) (Or.inl ⟨by kernel_rfl, ?_⟩) (by assumption) ?_; rotate_left
  · (intro w hSw; (try dsimp only at hSw); first | (go_simp; done) | (go_simp; with_reducible rfl))
  (try simp only [Act.put, List.setIfInBounds_toArray, List.set_cons_zero, List.set_cons_succ])
  refine takeH (i := 7) (v := ?_) (d := (some 12)) rfl (by kernel_rfl) (by kernel_rfl) (by kernel_rfl) rfl (fun _ _ _ h => h) (Or.inl ⟨by kernel_rfl, ?_⟩) (by assumption) ?_; rotate_left
  · (intro w hSw; (try dsimp only at hSw); first | (go_simp; done) | (go_simp; with_reducible rfl))
  (try simp only [Act.put, List.setIfInBounds_toArray, List.set_cons_zero, List.set_cons_succ])
  refine takeH (i := 8) (v := ?_) (d := (some 13)) rfl (by kernel_rfl) (by kernel_rfl) (by kernel_rfl) rfl (fun _ _ _ h => h) (Or.inl ⟨by kernel_rfl, ?_⟩) (by assumption) ?_; rotate_left
  · (intro w hSw; (try dsimp only at hSw); first | (go_simp; done) | (go_simp; with_reducible rfl))
  (try simp only [Act.put, List.setIfInBounds_toArray, List.set_cons_zero, List.set_cons_succ])
  refine takeH (i := 9) (v := ?_) (d := (some 14)) rfl (by kernel_rfl) (by kernel_rfl) (by kernel_rfl) rfl (fun _ _ _ h => h) (Or.inl ⟨by kernel_rfl, ?_⟩) (by assumption) ?_; rotate_left
  · (intro w hSw; (try dsimp only at hSw); first | (go_simp; done) | (go_simp; with_reducible rfl))
  (try simp only [Act.put, List.setIfInBounds_toArray, List.set_cons_zero, List.set_cons_succ])
  refine takeH (i := 10) (v := ?_) (d := (some 15)) rfl (by kernel_rfl) (by kernel_rfl) (by kernel_rfl) rfl (fun _ _ _ h => h) (Or.inl ⟨by kernel_rfl, ?_⟩) (by assumption) ?_; rotate_left
  · (intro w hSw; (try dsimp only at hSw); first | (go_simp; done) | (go_simp; with_reducible rfl))
  (try simp only [Act.put, List.setIfInBounds_toArray, List.set_cons_zero, List.set_cons_succ])
  refine takeH (i := 11) (v := ?_) (d := (some 16)) rfl (by kernel_rfl) (by kernel_rfl) (by kernel_rfl) rfl (fun _ _ _ h => h) (Or.inl ⟨by kernel_rfl, ?_⟩) (by assumption) ?_; rotate_left
  · (intro w hSw; (try dsimp only at hSw); first | (go_simp; done) | (go_simp; with_reducible rfl))
  (try simp only [Act.put, List.setIfInBounds_toArray, List.set_cons_zero, List.set_cons_succ])
  refine takeH (i := 12) (v := ?_) (d := (some 17)) rfl (by kernel_rfl) (by kernel_rfl) (by kernel_rfl) rfl (fun _ _ _ h => h) (Or.inl ⟨by kernel_rfl, ?_⟩) (by assumption) ?_; rotate_left
  · (intro w hSw; (try dsimp only at hSw); have q0 := cell_stay Y1.out hSw.1.1; have q1 := cell_stay Y2.out hSw.1.1; first | (go_simp; done) | (go_simp; with_reducible rfl))
  (try simp only [Act.put, List.setIfInBounds_toArray, List.set_cons_zero, List.set_cons_succ])
  refine takeH (i := 14) (v := ?_) (d := (some 19)) rfl (by kernel_rfl) (by kernel_rfl) (by kernel_rfl) rfl (fun _ _ _ h => h) (Or.inl ⟨by kernel_rfl, ?_⟩) (by assumption) ?_; rotate_left
  · (intro w hSw; (try dsimp only at hSw); first | (go_simp; done) | (go_simp; with_reducible rfl))
  (try simp only [Act.put, List.setIfInBounds_toArray, List.set_cons_zero, List.set_cons_succ])
  refine takeH (i := 15) (v := ?_) (d := (some 20)) rfl (by kernel_rfl) (by kernel_rfl) (by kernel_rfl) rfl (fun _ _ _ h => h) (Or.inl ⟨by kernel_rfl, ?_⟩) (by assumption) ?_; rotate_left
  · (intro w hSw; (try dsimp only at hSw); first | (go_simp; done) | (go_simp; with_reducible rfl))
  (try simp only [Act.put, List.setIfInBounds_toArray, List.set_cons_zero, List.set_cons_succ])
  have HH0 : Hid (SD w D x0) := hHeld
  have cT := CT.out x0 hHeld.1
  refine wpAnyH_ready (rs := [1]) (by kernel_rfl) (by simp) (AllReadyH.cons rfl (fun K hK => ?_) AllReadyH.nil)
  (try rw [if_pos (by kernel_rfl)])
  go_simp
  refine cT.mono ?_
  rintro ev w2 ⟨rfl, hb2⟩
  have HU2 : Hid (SD w D w2) := sd_stay HH0.out hb2
  clear cT hb2 hHeld HH0
  go_wp2_with fail
  refine hK.out _ _ HU2.out (fun hHeld => ?_)
  clear hK K
  (try dsimp only at hHeld)
  (try simp only [Act.put, List.setIfInBounds_toArray, List.set_cons_zero, List.set_cons_succ])
  have cA := CA.out w2
  refine wpAnyH_ready (rs := [13]) (by kernel_rfl) (by simp) (AllReadyH.cons rfl (fun K hK => ?_) AllReadyH.nil)
  (try rw [if_pos (by kernel_rfl)])
  go_simp
  refine cA.mono ?_
  rintro ev w3 ⟨rfl, hb3⟩
  have HU3 : Hid (SD w D w3) := sd_stay HU2.out hb3
  clear cA hb3 hHeld HU2
  go_wp2_with fail
  refine hK.out _ _ HU3.out (fun hHeld => ?_)
  clear hK K
  (try dsimp only at hHeld)
  (try simp only [Act.put, List.setIfInBounds_toArray, List.set_cons_zero, List.set_cons_succ])
  have cL := CL.out w3 HU3.out.1
  refine wpAnyH_ready (rs := [16]) (by kernel_rfl) (by simp) (AllReadyH.cons rfl (fun K hK => ?_) AllReadyH.nil)
  (try rw [if_pos (by kernel_rfl)])
  go_simp
  refine cL.mono ?_
  rintro ev w4 ⟨rfl, hb4⟩
  have HU4 : Hid (SD w D w4) := sd_stay HU3.out hb4
  clear cL hb4 hHeld HU3
  go_wp2_with fail
  refine hK.out _ _ HU4.out (fun hHeld => ?_)
  clear hK K
  (try dsimp only at hHeld)
  (try simp only [Act.put, List.setIfInBounds_toArray, List.set_cons_zero, List.set_cons_succ])
  refine takeH (i := 17) (v := ?_) (d := (some 22)) rfl (by kernel_rfl) (by kernel_rfl) (by kernel_rfl) rfl (fun _ _ _ h => h) (Or.inl ⟨by kernel_rfl, ?_⟩) (by assumption) ?_; rotate_left
  · (intro w hSw; (try dsimp only at hSw); first | (go_simp; done) | (go_simp; with_reducible rfl))
  (try simp only [Act.put, List.setIfInBounds_toArray, List.set_cons_zero, List.set_cons_succ])
  obtain ⟨hu4, va, vb, vc, vd, hc4⟩ := HU4.out
  have HU4 : Hid (Up w.heap.size w w4) := hu4
  have HC4 : Hid (w4.heap[D]? = some (.cells #[va, vb, vc, vd] 51)) := hc4
  clear hu4
  have hq0 : w4.cell? ⟨D, 0, none⟩ = some va := by simp [World.cell?, hc4]
  have hq1 : w4.cell? ⟨D, 1, none⟩ = some vb := by simp [World.cell?, hc4]
  have hq2 : w4.cell? ⟨D, 2, none⟩ = some vc := by simp [World.cell?, hc4]
  have hq3 : w4.cell? ⟨D, 3, none⟩ = some vd := by simp [World.cell?, hc4]
  have hf0 : w4.frozen? ⟨D, 0, none⟩ = false := by simp [World.frozen?, hc4]
  have hf1 : w4.frozen? ⟨D, 1, none⟩ = false := by simp [World.frozen?, hc4]
  have hf2 : w4.frozen? ⟨D, 2, none⟩ = false := by simp [World.frozen?, hc4]
  have hf3 : w4.frozen? ⟨D, 3, none⟩ = false := by simp [World.frozen?, hc4]
  clear hc4
  refine wpAnyH_ready (rs := [18]) (by kernel_rfl) (by simp) (AllReadyH.cons rfl (fun K hK => ?_) AllReadyH.nil)
  (try rw [if_pos (by kernel_rfl)])
  go_simp
  have hc5 : ((((w4.setCell ⟨D, 0, none⟩ (.string tx)).setCell ⟨D, 1, none⟩ (.int .i64 xa)).setCell ⟨D, 2, none⟩ (.int .i64 (ya + yn - xa))).setCell ⟨D, 3, none⟩ (.bool lt)).heap[D]? = some (.cells #[.string tx, .int .i64 xa, .int .i64 (ya + yn - xa), .bool lt] 51) := by
    have e1 := cells_set (cells_set (cells_set (cells_set HC4.out 0 (.string tx)) 1 (.int .i64 xa)) 2 (.int .i64 (ya + yn - xa))) 3 (.bool lt)
    exact e1
  have hu5 : Up w.heap.size w ((((w4.setCell ⟨D, 0, none⟩ (.string tx)).setCell ⟨D, 1, none⟩ (.int .i64 xa)).setCell ⟨D, 2, none⟩ (.int .i64 (ya + yn - xa))).setCell ⟨D, 3, none⟩ (.bool lt)) := ⟨(((HU4.out.1.setCell HDD.out _).setCell HDD.out _).setCell HDD.out _).setCell HDD.out _, by have := HU4.out.2; simp only [World.setCell, Array.size_modify]; exact this⟩
  obtain ⟨w5, hw5⟩ : ∃ x, ((((w4.setCell ⟨D, 0, none⟩ (.string tx)).setCell ⟨D, 1, none⟩ (.int .i64 xa)).setCell ⟨D, 2, none⟩ (.int .i64 (ya + yn - xa))).setCell ⟨D, 3, none⟩ (.bool lt)) = x := ⟨_, rfl⟩
  rw [hw5] at hc5 hu5 ⊢
  clear hw5 hq0 hq1 hq2 hq3 hf0 hf1 hf2 hf3 hHeld HC4 HU4
  have HU5 : Hid (SD w D w5) := ⟨hu5, _, _, _, _, hc5⟩
  have hr0 : w5.cell? ⟨D, 0, none⟩ = some (.string tx) := by simp [World.cell?, hc5]
  have hr1 : w5.cell? ⟨D, 1, none⟩ = some (.int .i64 xa) := by simp [World.cell?, hc5]
  have hr2 : w5.cell? ⟨D, 2, none⟩ = some (.int .i64 (ya + yn - xa)) := by simp [World.cell?, hc5]
  have hr3 : w5.cell? ⟨D, 3, none⟩ = some (.bool lt) := by simp [World.cell?, hc5]
  clear hc5 hu5
  refine hK.out _ _ HU5.out (fun hHeld => ?_)
  clear hK K
  (try dsimp only at hHeld)
  (try simp only [Act.put, List.setIfInBounds_toArray, List.set_cons_zero, List.set_cons_succ])
  refine wpAnyH_done (by kernel_rfl) ?_ _
  go_wp2
  refine bodyPost_ret (v := .agg #[.string tx, .int .i64 xa, .int .i64 (ya + yn - xa), .bool lt]) (by simp [results, Tryd.results33, go_sem, hr0, hr1, hr2, hr3]) rfl ?_
  exact ⟨rfl, HU5.out.1.1⟩
end Go.Proofs.YtbhjkkbempnjeaaDoor
