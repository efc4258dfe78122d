/- near.order: the preferred words' map, the closure, slices.SortFunc of suggestions. -/
import Derived.Test.YtfikkkodepfdkaaDoornOrdP
import Derived.Test.YtfikkkodepfdkaaDoornMem
import Derived.Test.YtfikkkodepfdkaaDoornSort
import Derived.Test.YtfikkkodepfdkaaDoortShelf
import Derived.Test.YtfikkkodepfdkaaDoortMake
import Derived.Maps.OwnSet
import Derived.Maps.AppendAt
import Derived.StringKeys
import Derived.Laws.Cover1
import Derived.Deep.RegionHeld3
namespace Go.Proofs.YtfikkkodepfdkaaDoor
set_option linter.unusedVariables false
open Go.RowKit Go.ChangeShapes Go.Maps Go.Sort Go.Shelf Go.Lib
open Qns (dd far at_)
theorem lawS : Keyed Tryd.prog 9 := string_keyed Tryd.underlying9
theorem str_inj {s t : ByteArray} (h : (Lit.string s.data.toList) = .string t.data.toList) : s = t := by
  injection h with h
  have : s.data = t.data := Array.toList_inj.1 h
  cases s; cases t; simp_all
theorem keyS (s : ByteArray) (hs : s.size ≤ 9223372036854775807) : keyOf Tryd.prog 9 (.string s) = some (.string s.data.toList) := by
  exact WideMaps.keyOf_string_mk Tryd.underlying9 hs
theorem key_ne {s t : ByteArray} (h : s ≠ t) : (Lit.string s.data.toList) ≠ .string t.data.toList := fun e => h (str_inj e)
theorem zeroI (w : World) : (zeroValue 3).run Tryd.prog w = .ok (.int .i64 0) w := by kernel_rfl
set_option maxRecDepth 100000 in
theorem plainI (x : Int) (h : x = 0 ∨ x = -1) : plainElem (H := Unit) Tryd.prog 3 (.int .i64 x) = some (.lit (.int .i64 x), []) := by
  unfold plainElem
  rw [Tryd.underlying3]
  rcases h with rfl | rfl <;> first | rfl | simp
set_option maxRecDepth 100000 in
theorem plainI_inv {v : Value} {x : Int} {ps : List MemPlace} (h : plainElem (H := Unit) Tryd.prog 3 v = some (.lit (.int .i64 x), ps)) : v = .int .i64 x := by
  unfold plainElem at h
  rw [Tryd.underlying3] at h
  cases v <;> simp at h
  obtain ⟨⟨rfl, _⟩, h2⟩ := h
  simp_all
/-- The preferred words' ranks in a map. -/
def BagR (w : World) (b n : Nat) (L : List ByteArray) : Prop := ∃ D : DataW Unit, w.ownsMap Tryd.prog 9 (plainElem Tryd.prog 3) b n D ∧ (∀ s : ByteArray, D.atKey (.string s.data.toList) (.lit (.int .i64 0)) = .lit (.int .i64 (rk L s)))
theorem BagR.lt {w : World} {b n : Nat} {L : List ByteArray} (h : BagR w b n L) : b < w.heap.size := by obtain ⟨D, h, _⟩ := h; exact h.lt
theorem BagR.block {w w' : World} {b n : Nat} {L : List ByteArray} (h : BagR w b n L) (e : w'.heap[b]? = w.heap[b]?) : BagR w' b n L := by
  obtain ⟨D, ⟨es, clock, hb, r⟩, hs⟩ := h
  exact ⟨D, ⟨es, clock, e.trans hb, r⟩, hs⟩
theorem BagR.stay {w w' : World} {b n : Nat} {L : List ByteArray} (h : BagR w b n L) (hb : Below w.heap.size w w') : BagR w' b n L := h.block (hb.block b h.lt)
theorem BagR.made (w : World) : BagR (w.alloc (.map #[] 0)) w.heap.size 0 [] := ⟨.map [], World.ownsMap_made w _ _ _, fun s => by
  rw [Maps.atKey_of_not_has (by simp [Maps.has])]
  simp [rk]⟩
theorem BagR.look {w : World} {b n : Nat} {L : List ByteArray} (h : BagR w b n L) (s : ByteArray) (hs : s.size ≤ 9223372036854775807) : (Instr.lookup 97 (.map (some b)) (.string s) false).run Tryd.prog w = .ok (.int .i64 (rk L s)) w := by
  obtain ⟨D, hown, h1⟩ := h
  obtain ⟨v, ps, hrun, hv⟩ := hown.lookup lawS Tryd.underlying97 (zeroI w) (plainI 0 (Or.inl rfl)) (keyS s hs)
  rw [h1 s] at hv
  rw [hrun, plainI_inv hv]
theorem BagR.put {w : World} {b n : Nat} {L : List ByteArray} (h : BagR w b n L) (s : ByteArray) (hs : s.size ≤ 9223372036854775807) (hn : n < 1000000) :
    ∃ w', (Instr.mapUpdate 97 (.map (some b)) (.string s) (.int .i64 (-1))).run Tryd.prog w = .ok () w' ∧ BagR w' b (n + 1) (L ++ [s]) ∧ w.grownBy w' (some b) := by
  obtain ⟨D, hown, h1⟩ := h
  obtain ⟨w', hrun, r1, r2⟩ := hown.update lawS Tryd.underlying97 (by unfold maxLen; omega) (keyS s hs) (plainI (-1) (Or.inr rfl))
  refine ⟨w', hrun, ⟨_, r1, fun t => ?_⟩, r2⟩
  have hM := hown.isMap
  have hK : WideAt.IsKeyLit (.string s.data.toList) := by first | trivial | exact WideAt.IsKeyLit.string _ | decide
  by_cases e : t = s
  · subst e
    rw [Maps.atKey_put_same hM hK]
    simp [rk]
  · rw [Maps.atKey_put_other (key_ne e), h1 t]
    unfold rk
    by_cases h : t ∈ L
    · rw [if_pos h, if_pos (List.mem_append_left _ h)]
    · rw [if_neg h, if_neg (by simp [h, e])]
/-- The comparison. -/
theorem or_any (a b c : Int) (B : Nat) (w : World) (h0 : w.cell? ⟨B, 0, none⟩ = some (.int .i64 a)) (h1 : w.cell? ⟨B, 1, none⟩ = some (.int .i64 b)) (h2 : w.cell? ⟨B, 2, none⟩ = some (.int .i64 c)) :
    Calls Tryd.prog 53 #[.slice (some ⟨B, 0, none⟩) 3 3] w fun e w' => e = .returned (.int .i64 (if a ≠ 0 then a else if b ≠ 0 then b else c)) ∧ w' = w := by
  obtain ⟨z, hz⟩ : ∃ z, (if a ≠ 0 then a else if b ≠ 0 then b else c) = z := ⟨_, rfl⟩
  rw [hz]
  have HZ : Hid ((if a ≠ 0 then a else if b ≠ 0 then b else c) = z) := hz
  have HC : Hid (w.cell? ⟨B, 0, none⟩ = some (.int .i64 a) ∧ w.cell? ⟨B, 1, none⟩ = some (.int .i64 b) ∧ w.cell? ⟨B, 2, none⟩ = some (.int .i64 c)) := ⟨h0, h1, h2⟩
  clear hz h0 h1 h2
  go_enter Tryd.func53, Tryd.ntmps53
  go_wp2
  go_loopg [8] 3 (fun g jv wx => ∃ j : Nat, j ≤ 3 ∧ g = 3 - j ∧ jv = .int .i64 j ∧ wx = w ∧ Hid ((1 ≤ j → a = 0) ∧ (2 ≤ j → b = 0) ∧ (3 ≤ j → c = 0)))
  case atStart => exact ⟨0, by omega, rfl, rfl, rfl, ⟨fun h => by omega, fun h => by omega, fun h => by omega⟩⟩
  case round =>
    obtain ⟨j, hj, hg, rfl, hw, HJ⟩ := hrel
    subst wr
    have y0 : (0 : Int) ≤ (j : Int) := by omega
    by_cases hlt : j < 3
    · have y1 : (j : Int) < 3 := by omega
      obtain ⟨x, hx, hxz⟩ : ∃ x, w.cell? ⟨B, j, none⟩ = some (.int .i64 x) ∧ ((x ≠ 0 → x = z) ∧ (x = 0 → (1 ≤ j + 1 → a = 0) ∧ (2 ≤ j + 1 → b = 0) ∧ (3 ≤ j + 1 → c = 0))) := by
        obtain ⟨d0, d1, d2⟩ := HC.out
        obtain ⟨j0, j1, j2⟩ := HJ.out
        have hz := HZ.out
        match j, hlt with
        | 0, _ => exact ⟨a, d0, fun h => by rw [if_pos h] at hz; exact hz, fun h => ⟨fun _ => h, fun h2 => by omega, fun h2 => by omega⟩⟩
        | 1, _ =>
          have ha := j0 (by omega)
          exact ⟨b, d1, fun h => by rw [if_neg (by simp [ha]), if_pos h] at hz; exact hz, fun h => ⟨fun _ => ha, fun _ => h, fun h2 => by omega⟩⟩
        | 2, _ =>
          have ha := j0 (by omega)
          have hb := j1 (by omega)
          exact ⟨c, d2, fun h => by rw [if_neg (by simp [ha]), if_neg (by simp [hb])] at hz; exact hz, fun h => ⟨fun _ => ha, fun _ => hb, fun _ => h⟩⟩
      have HX : Hid ((x ≠ 0 → x = z) ∧ (x = 0 → (1 ≤ j + 1 → a = 0) ∧ (2 ≤ j + 1 → b = 0) ∧ (3 ≤ j + 1 → c = 0))) := hxz
      clear hxz
      by_cases hx0 : x = 0
      · have hq := HX.out.2 hx0
        subst hx0
        have HQ : Hid ((1 ≤ j + 1 → a = 0) ∧ (2 ≤ j + 1 → b = 0) ∧ (3 ≤ j + 1 → c = 0)) := hq
        clear hq HX
        go_wp2
        go_roundg (3 - (j + 1))
        case measure => omega
        case rel => exact ⟨j + 1, by omega, rfl, by go_num, rfl, HQ⟩
      · have e := HX.out.1 hx0
        have HE : Hid (x = z) := e
        clear e HX
        go_wp2
        go_ret
        exact ⟨congrArg (fun q => Ending.returned (Value.int .i64 q)) HE.out, rfl⟩
    · obtain rfl : j = 3 := by omega
      have e : z = 0 := by
        obtain ⟨j0, j1, j2⟩ := HJ.out
        have hz := HZ.out
        rw [if_neg (by simp [j0 (by omega)]), if_neg (by simp [j1 (by omega)]), j2 (by omega)] at hz
        exact hz.symm
      have HE : Hid (z = 0) := e
      clear e
      go_wp2
      go_ret
      exact ⟨congrArg (fun q => Ending.returned (Value.int .i64 q)) HE.out.symm, rfl⟩
theorem grow_below {B : Nat} {w0 w : World} {os : Array Obj} (h : Below B w0 w) (hB : B ≤ w.heap.size) : Below B w0 (grow w os) :=
  ⟨h.os, h.tape, h.output, by have := h.size; simp [grow]; omega, fun k hk => by
    rw [← h.block k hk]
    simp only [grow]
    exact Array.getElem?_append_left (by omega)⟩
/-- The world has but grown, and drawn. -/
def Gr (W w' : World) : Prop := ∃ q os', w' = grow (W.drewN q) os'
theorem Gr.refl (W : World) : Gr W W := ⟨0, #[], by rw [grow_empty]; rfl⟩
theorem Gr.alloc {W w : World} (h : Gr W w) (o : Obj) : Gr W (w.alloc o) := by
  obtain ⟨q, os, rfl⟩ := h
  exact ⟨q, os ++ #[o], by rw [alloc_eq_grow, grow_grow]⟩
theorem Gr.drew {W w : World} (h : Gr W w) : Gr W w.drew := by
  obtain ⟨q, os, rfl⟩ := h
  exact ⟨q + 1, os, rfl⟩
theorem Gr.below {W w : World} (h : Gr W w) : Below W.heap.size W w := by
  obtain ⟨q, os, rfl⟩ := h
  refine grow_below ?_ (Nat.le_refl _)
  exact ⟨rfl, rfl, rfl, Nat.le_refl _, fun _ _ => rfl⟩
set_option maxHeartbeats 4000000 in
set_option maxRecDepth 100000 in
theorem clos_any (Pf : List ByteArray) (x y : Nr) (hx : x.s.size ≤ 9223372036854775807) (hy : y.s.size ≤ 9223372036854775807) (R m n : Nat) (W : World) (hR : W.cell? ⟨R, 0, none⟩ = some (.map (some m))) (hM : BagR W m n Pf) :
    Calls Tryd.prog 52 #[.agg #[.string x.s, .int .i64 (x.d : Int)], .agg #[.string y.s, .int .i64 (y.d : Int)], .pointer (some ⟨R, 0, none⟩)] W fun e w' => e = .returned (.int .i64 (cN Pf x y)) ∧ Gr W w' := by
  obtain ⟨xs, xd⟩ := x
  obtain ⟨ys, yd⟩ := y
  dsimp only at hx hy ⊢
  have HM : Hid (BagR W m n Pf) := hM
  have HR : Hid (W.cell? ⟨R, 0, none⟩ = some (.map (some m))) := hR
  obtain ⟨a, ha⟩ : ∃ a, Lib.compareInt (xd : Int) (yd : Int) = a := ⟨_, rfl⟩
  obtain ⟨rx, hrx⟩ : ∃ r, rk Pf xs = r := ⟨_, rfl⟩
  obtain ⟨ry, hry⟩ : ∃ r, rk Pf ys = r := ⟨_, rfl⟩
  obtain ⟨b, hb⟩ : ∃ b, Lib.compareInt rx ry = b := ⟨_, rfl⟩
  obtain ⟨c, hc⟩ : ∃ c, Lib.compareBytes xs.data.toList ys.data.toList = c := ⟨_, rfl⟩
  have hz : cN Pf ⟨xs, xd⟩ ⟨ys, yd⟩ = if a ≠ 0 then a else if b ≠ 0 then b else c := by
    unfold cN
    dsimp only
    rw [ha, hrx, hry, hb, hc]
  rw [hz]
  have c1 := fun w => Tryd.cmp_Compare_int (xd : Int) (yd : Int) w
  have c2 := fun w => Tryd.cmp_Compare_int rx ry w
  have c3 := fun w => Tryd.strings_Compare xs ys w
  rw [ha] at c1
  rw [hb] at c2
  rw [hc] at c3
  have C1 : Hid (∀ w, Calls Tryd.prog 54 #[.int .i64 (xd : Int), .int .i64 (yd : Int)] w fun e w' => e = .returned (.int .i64 a) ∧ w' = w) := c1
  have C2 : Hid (∀ w, Calls Tryd.prog 54 #[.int .i64 rx, .int .i64 ry] w fun e w' => e = .returned (.int .i64 b) ∧ w' = w) := c2
  have C3 : Hid (∀ w, Calls Tryd.prog 55 #[.string xs, .string ys] w fun e w' => e = .returned (.int .i64 c) ∧ w' = w) := c3
  have HLK : Hid (∀ w, Gr W w → w.cell? ⟨R, 0, none⟩ = some (.map (some m)) ∧ (Instr.lookup 97 (.map (some m)) (.string xs) false).run Tryd.prog w = .ok (.int .i64 rx) w ∧ (Instr.lookup 97 (.map (some m)) (.string ys) false).run Tryd.prog w = .ok (.int .i64 ry) w) := fun w hg => by
    have hb := hg.below
    have hM2 := HM.out.stay hb
    refine ⟨cell_stay HR.out hb, ?_, ?_⟩
    · rw [hM2.look xs hx, hrx]
    · rw [hM2.look ys hy, hry]
  obtain ⟨z, hzz⟩ : ∃ z, (if a ≠ 0 then a else if b ≠ 0 then b else c) = z := ⟨_, rfl⟩
  rw [hzz]
  have HZ : Hid ((if a ≠ 0 then a else if b ≠ 0 then b else c) = z) := hzz
  obtain ⟨W1, hW1⟩ : ∃ W1, (W.alloc (.cells #[.string xs, .int .i64 (xd : Int)] 47)).alloc (.cells #[.string ys, .int .i64 (yd : Int)] 47) = W1 := ⟨_, rfl⟩
  have HG1 : Hid (Gr W W1) := by show Gr _ _; rw [← hW1]; exact ((Gr.refl W).alloc _).alloc _
  have HX1 : Hid (W1.cell? ⟨W.heap.size, 0, none⟩ = some (.string xs) ∧ W1.cell? ⟨W.heap.size, 1, none⟩ = some (.int .i64 (xd : Int)) ∧ W1.cell? ⟨W.heap.size + 1, 0, none⟩ = some (.string ys) ∧ W1.cell? ⟨W.heap.size + 1, 1, none⟩ = some (.int .i64 (yd : Int))) := by
    have h1 : W1.heap[W.heap.size]? = some (.cells #[.string xs, .int .i64 (xd : Int)] 47 (0, 0)) := by
      rw [← hW1]
      exact (heap_alloc_old _ _ (by simp)).trans (Array.getElem?_push_size)
    have h2 : W1.heap[W.heap.size + 1]? = some (.cells #[.string ys, .int .i64 (yd : Int)] 47 (0, 0)) := by
      rw [← hW1]
      have := heap_alloc_new (W.alloc (.cells #[.string xs, .int .i64 (xd : Int)] 47)) (.cells #[.string ys, .int .i64 (yd : Int)] 47)
      simpa using this
    refine ⟨?_, ?_, ?_, ?_⟩
    · rw [cell_of_row W1 _ 0 _ _ _ h1]; rfl
    · rw [cell_of_row W1 _ 1 _ _ _ h1]; rfl
    · rw [cell_of_row W1 _ 0 _ _ _ h2]; rfl
    · rw [cell_of_row W1 _ 1 _ _ _ h2]; rfl
  clear hz hzz ha hrx hry hb hc c1 c2 c3 hR hM hx hy
  go_enter Tryd.func52, Tryd.ntmps52
  go_upto_region 1 with fail
  refine wp_region_held_drew (S := fun w' => Gr W w' ∧ Up W1.heap.size W1 w') (by kernel_rfl) ⟨HG1.out.drew, (Up.refl W1).drew⟩ (fun hHeld => ?_)
  (try dsimp only at hHeld)
  obtain ⟨x0, hx0⟩ : ∃ x0, W1.drew = x0 := ⟨_, rfl⟩
  rw [hx0] at hHeld ⊢
  clear hx0
  refine takeH (i := 0) (v := ?_) (d := (some 6)) rfl (by kernel_rfl) (by kernel_rfl) (by kernel_rfl) rfl (fun _ _ _ h => h) (Or.inl ⟨by kernel_rfl, ?_⟩) (by first | assumption | trivial) ?_; rotate_left
  · (intro w hSw; (try dsimp only at hSw); first | (go_simp; done) | (go_simp; with_reducible rfl))
  (try simp only [Act.put, List.setIfInBounds_toArray, List.set_cons_zero, List.set_cons_succ])
  refine takeH (i := 1) (v := ?_) (d := (some 7)) rfl (by kernel_rfl) (by kernel_rfl) (by kernel_rfl) rfl (fun _ _ _ h => h) (Or.inl ⟨by kernel_rfl, ?_⟩) (by first | assumption | trivial) ?_; rotate_left
  · (intro w hSw; (try dsimp only at hSw); have cc := cell_stay HX1.out.2.1 hSw.2.1; first | (go_simp; done) | (go_simp; with_reducible rfl))
  (try simp only [Act.put, List.setIfInBounds_toArray, List.set_cons_zero, List.set_cons_succ])
  refine takeH (i := 2) (v := ?_) (d := (some 8)) rfl (by kernel_rfl) (by kernel_rfl) (by kernel_rfl) rfl (fun _ _ _ h => h) (Or.inl ⟨by kernel_rfl, ?_⟩) (by first | assumption | trivial) ?_; rotate_left
  · (intro w hSw; (try dsimp only at hSw); first | (go_simp; done) | (go_simp; with_reducible rfl))
  (try simp only [Act.put, List.setIfInBounds_toArray, List.set_cons_zero, List.set_cons_succ])
  refine takeH (i := 3) (v := ?_) (d := (some 9)) rfl (by kernel_rfl) (by kernel_rfl) (by kernel_rfl) rfl (fun _ _ _ h => h) (Or.inl ⟨by kernel_rfl, ?_⟩) (by first | assumption | trivial) ?_; rotate_left
  · (intro w hSw; (try dsimp only at hSw); have cc := cell_stay HX1.out.2.2.2 hSw.2.1; first | (go_simp; done) | (go_simp; with_reducible rfl))
  (try simp only [Act.put, List.setIfInBounds_toArray, List.set_cons_zero, List.set_cons_succ])
  refine takeH (i := 5) (v := ?_) (d := (some 11)) rfl (by kernel_rfl) (by kernel_rfl) (by kernel_rfl) rfl (fun _ _ _ h => h) (Or.inl ⟨by kernel_rfl, ?_⟩) (by first | assumption | trivial) ?_; rotate_left
  · (intro w hSw; (try dsimp only at hSw); have cc := (HLK.out w hSw.1).1; first | (go_simp; done) | (go_simp; with_reducible rfl))
  (try simp only [Act.put, List.setIfInBounds_toArray, List.set_cons_zero, List.set_cons_succ])
  refine takeH (i := 6) (v := ?_) (d := (some 12)) rfl (by kernel_rfl) (by kernel_rfl) (by kernel_rfl) rfl (fun _ _ _ h => h) (Or.inl ⟨by kernel_rfl, ?_⟩) (by first | assumption | trivial) ?_; rotate_left
  · (intro w hSw; (try dsimp only at hSw); first | (go_simp; done) | (go_simp; with_reducible rfl))
  (try simp only [Act.put, List.setIfInBounds_toArray, List.set_cons_zero, List.set_cons_succ])
  refine takeH (i := 7) (v := ?_) (d := (some 13)) rfl (by kernel_rfl) (by kernel_rfl) (by kernel_rfl) rfl (fun _ _ _ h => h) (Or.inl ⟨by kernel_rfl, ?_⟩) (by first | assumption | trivial) ?_; rotate_left
  · (intro w hSw; (try dsimp only at hSw); have cc := cell_stay HX1.out.1 hSw.2.1; first | (go_simp; done) | (go_simp; with_reducible rfl))
  (try simp only [Act.put, List.setIfInBounds_toArray, List.set_cons_zero, List.set_cons_succ])
  refine takeH (i := 8) (v := ?_) (d := (some 14)) rfl (by kernel_rfl) (by kernel_rfl) (by kernel_rfl) rfl (fun _ _ _ h => h) (Or.inl ⟨by kernel_rfl, ?_⟩) (by first | assumption | trivial) ?_; rotate_left
  · (intro w hSw; (try dsimp only at hSw); have cc := (HLK.out w hSw.1).2.1; first | (go_simp; done) | (go_simp; with_reducible rfl))
  (try simp only [Act.put, List.setIfInBounds_toArray, List.set_cons_zero, List.set_cons_succ])
  refine takeH (i := 9) (v := ?_) (d := (some 15)) rfl (by kernel_rfl) (by kernel_rfl) (by kernel_rfl) rfl (fun _ _ _ h => h) (Or.inl ⟨by kernel_rfl, ?_⟩) (by first | assumption | trivial) ?_; rotate_left
  · (intro w hSw; (try dsimp only at hSw); have cc := (HLK.out w hSw.1).1; first | (go_simp; done) | (go_simp; with_reducible rfl))
  (try simp only [Act.put, List.setIfInBounds_toArray, List.set_cons_zero, List.set_cons_succ])
  refine takeH (i := 10) (v := ?_) (d := (some 16)) rfl (by kernel_rfl) (by kernel_rfl) (by kernel_rfl) rfl (fun _ _ _ h => h) (Or.inl ⟨by kernel_rfl, ?_⟩) (by first | assumption | trivial) ?_; rotate_left
  · (intro w hSw; (try dsimp only at hSw); first | (go_simp; done) | (go_simp; with_reducible rfl))
  (try simp only [Act.put, List.setIfInBounds_toArray, List.set_cons_zero, List.set_cons_succ])
  refine takeH (i := 11) (v := ?_) (d := (some 17)) rfl (by kernel_rfl) (by kernel_rfl) (by kernel_rfl) rfl (fun _ _ _ h => h) (Or.inl ⟨by kernel_rfl, ?_⟩) (by first | assumption | trivial) ?_; rotate_left
  · (intro w hSw; (try dsimp only at hSw); have cc := cell_stay HX1.out.2.2.1 hSw.2.1; first | (go_simp; done) | (go_simp; with_reducible rfl))
  (try simp only [Act.put, List.setIfInBounds_toArray, List.set_cons_zero, List.set_cons_succ])
  refine takeH (i := 12) (v := ?_) (d := (some 18)) rfl (by kernel_rfl) (by kernel_rfl) (by kernel_rfl) rfl (fun _ _ _ h => h) (Or.inl ⟨by kernel_rfl, ?_⟩) (by first | assumption | trivial) ?_; rotate_left
  · (intro w hSw; (try dsimp only at hSw); have cc := (HLK.out w hSw.1).2.2; first | (go_simp; done) | (go_simp; with_reducible rfl))
  (try simp only [Act.put, List.setIfInBounds_toArray, List.set_cons_zero, List.set_cons_succ])
  refine takeH (i := 14) (v := ?_) (d := (some 20)) rfl (by kernel_rfl) (by kernel_rfl) (by kernel_rfl) rfl (fun _ _ _ h => h) (Or.inl ⟨by kernel_rfl, ?_⟩) (by first | assumption | trivial) ?_; rotate_left
  · (intro w hSw; (try dsimp only at hSw); first | (go_simp; done) | (go_simp; with_reducible rfl))
  (try simp only [Act.put, List.setIfInBounds_toArray, List.set_cons_zero, List.set_cons_succ])
  refine takeH (i := 15) (v := ?_) (d := (some 21)) rfl (by kernel_rfl) (by kernel_rfl) (by kernel_rfl) rfl (fun _ _ _ h => h) (Or.inl ⟨by kernel_rfl, ?_⟩) (by first | assumption | trivial) ?_; rotate_left
  · (intro w hSw; (try dsimp only at hSw); have cc := cell_stay HX1.out.1 hSw.2.1; first | (go_simp; done) | (go_simp; with_reducible rfl))
  (try simp only [Act.put, List.setIfInBounds_toArray, List.set_cons_zero, List.set_cons_succ])
  refine takeH (i := 16) (v := ?_) (d := (some 22)) rfl (by kernel_rfl) (by kernel_rfl) (by kernel_rfl) rfl (fun _ _ _ h => h) (Or.inl ⟨by kernel_rfl, ?_⟩) (by first | assumption | trivial) ?_; rotate_left
  · (intro w hSw; (try dsimp only at hSw); first | (go_simp; done) | (go_simp; with_reducible rfl))
  (try simp only [Act.put, List.setIfInBounds_toArray, List.set_cons_zero, List.set_cons_succ])
  refine takeH (i := 17) (v := ?_) (d := (some 23)) rfl (by kernel_rfl) (by kernel_rfl) (by kernel_rfl) rfl (fun _ _ _ h => h) (Or.inl ⟨by kernel_rfl, ?_⟩) (by first | assumption | trivial) ?_; rotate_left
  · (intro w hSw; (try dsimp only at hSw); have cc := cell_stay HX1.out.2.2.1 hSw.2.1; first | (go_simp; done) | (go_simp; with_reducible rfl))
  (try simp only [Act.put, List.setIfInBounds_toArray, List.set_cons_zero, List.set_cons_succ])
  refine wpAnyH_ready (rs := [4]) (by kernel_rfl) (by simp) (AllReadyH.cons rfl (fun K hK => ?_) AllReadyH.nil)
  go_simp
  refine (C1.out _).mono ?_
  rintro e x1 ⟨rfl, hx1⟩
  subst x1
  go_wp2_with fail
  refine hK.out _ _ hHeld (fun hHeld' => ?_)
  clear hK K hHeld'
  (try simp only [Act.put, List.setIfInBounds_toArray, List.set_cons_zero, List.set_cons_succ])
  refine wpAnyH_ready (rs := [13]) (by kernel_rfl) (by simp) (AllReadyH.cons rfl (fun K hK => ?_) AllReadyH.nil)
  go_simp
  refine (C2.out _).mono ?_
  rintro e x2 ⟨rfl, hx2⟩
  subst x2
  go_wp2_with fail
  refine hK.out _ _ hHeld (fun hHeld' => ?_)
  clear hK K hHeld'
  (try simp only [Act.put, List.setIfInBounds_toArray, List.set_cons_zero, List.set_cons_succ])
  refine wpAnyH_ready (rs := [18]) (by kernel_rfl) (by simp) (AllReadyH.cons rfl (fun K hK => ?_) AllReadyH.nil)
  go_simp
  refine (C3.out _).mono ?_
  rintro e x3 ⟨rfl, hx3⟩
  subst x3
  go_wp2_with fail
  refine hK.out _ _ hHeld (fun hHeld' => ?_)
  clear hK K hHeld'
  (try simp only [Act.put, List.setIfInBounds_toArray, List.set_cons_zero, List.set_cons_succ])
  refine wpAnyH_ready (rs := [19]) (by kernel_rfl) (by simp) (AllReadyH.cons rfl (fun K hK => ?_) AllReadyH.nil)
  rw [if_pos (by kernel_rfl)]
  go_simp
  refine hK.out _ _ (⟨hHeld.1.alloc _, hHeld.2.alloc _⟩) (fun hHeld' => ?_)
  clear hK K hHeld
  have hHeld := hHeld'
  clear hHeld'
  (try dsimp only at hHeld)
  (try simp only [Act.put, List.setIfInBounds_toArray, List.set_cons_zero, List.set_cons_succ])
  have hblk := heap_alloc_new x0 (.cells #[.int .i64 a, .int .i64 b, .int .i64 c] 3)
  have d0 : (x0.alloc (.cells #[.int .i64 a, .int .i64 b, .int .i64 c] 3)).cell? ⟨x0.heap.size, 0, none⟩ = some (.int .i64 a) := by rw [cell_of_row _ _ 0 _ _ _ hblk]; rfl
  have d1 : (x0.alloc (.cells #[.int .i64 a, .int .i64 b, .int .i64 c] 3)).cell? ⟨x0.heap.size, 1, none⟩ = some (.int .i64 b) := by rw [cell_of_row _ _ 1 _ _ _ hblk]; rfl
  have d2 : (x0.alloc (.cells #[.int .i64 a, .int .i64 b, .int .i64 c] 3)).cell? ⟨x0.heap.size, 2, none⟩ = some (.int .i64 c) := by rw [cell_of_row _ _ 2 _ _ _ hblk]; rfl
  have cO := or_any a b c x0.heap.size (x0.alloc (.cells #[.int .i64 a, .int .i64 b, .int .i64 c] 3)) d0 d1 d2
  rw [HZ.out] at cO
  clear d0 d1 d2 hblk
  refine wpAnyH_ready (rs := [20]) (by kernel_rfl) (by simp) (AllReadyH.cons rfl (fun K hK => ?_) AllReadyH.nil)
  go_simp
  refine cO.mono ?_
  rintro e x4 ⟨rfl, hx4⟩
  subst x4
  go_wp2_with fail
  refine hK.out _ _ hHeld (fun hHeld' => ?_)
  clear hK K hHeld'
  (try simp only [Act.put, List.setIfInBounds_toArray, List.set_cons_zero, List.set_cons_succ])
  refine takeH (i := 21) (v := ?_) (d := (some 5)) rfl (by kernel_rfl) (by kernel_rfl) (by kernel_rfl) rfl (fun _ _ _ h => h) (Or.inl ⟨by kernel_rfl, ?_⟩) (by first | assumption | trivial) ?_; rotate_left
  · (intro w hSw; (try dsimp only at hSw); first | (go_simp; done) | (go_simp; with_reducible rfl))
  (try simp only [Act.put, List.setIfInBounds_toArray, List.set_cons_zero, List.set_cons_succ])
  refine wpAnyH_done (by kernel_rfl) ?_ _
  have HG : Hid (Gr W (x0.alloc (.cells #[.int .i64 a, .int .i64 b, .int .i64 c] 3))) := hHeld.1
  clear hHeld cO
  go_wp2
  go_ret
  exact ⟨rfl, HG.out⟩
/-- Suggestions as cells. -/
def nenc (x : Nr) : List Value := [.string x.s, .int .i64 (x.d : Int)]
theorem nr_inh : Nonempty Nr := ⟨⟨⟨#[]⟩, 0⟩⟩
noncomputable def cPf (Pf : List ByteArray) (x y : Nr) : Int := cN Pf x y
theorem lt_cN (Pf : List ByteArray) (x y : Nr) : Proofs.ltOf (cN Pf) x y = true ↔ LtN Pf x y := by
  show decide (cN Pf x y < 0) = true ↔ _
  rw [decide_eq_true_iff, cN_lt]
theorem ltf_cN (Pf : List ByteArray) (x y : Nr) : Proofs.ltOf (cN Pf) x y = false ↔ ¬ LtN Pf x y := by
  rw [← lt_cN, Bool.not_eq_true]
theorem swo_cN (Pf : List ByteArray) : SWO (Proofs.ltOf (cN Pf)) where
  irrefl x := by rw [ltf_cN]; exact ltN_irr Pf x
  trans x y z h1 h2 := by rw [lt_cN] at *; exact ltN_tr h1 h2
  ntrans x y z h1 h2 := by rw [ltf_cN] at *; exact ltN_ntr h1 h2
end Go.Proofs.YtfikkkodepfdkaaDoor
