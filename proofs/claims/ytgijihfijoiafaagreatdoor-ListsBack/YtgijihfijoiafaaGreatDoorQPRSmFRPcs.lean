/- The reference's SameFixes, of two tables that are the same. -/
import Derived.Test.YtgijihfijoiafaaGreatDoorQPRSamWLng
import Derived.Test.YtgijihfijoiafaaGreatDoorQPReaFxs
import Derived.Test.YtgijihfijoiafaaGreatDoorQPSrcRPut
import Derived.Test.YtgijihfijoiafaaGreatDoorQPRFndRTrm
import Derived.Test.YtgijihfijoiafaaGreatDoorQPSplCor
namespace Go.Proofs.YtgijihfijoiafaaGreatDoor
set_option linter.unusedVariables false
open Go.RowKit Go.ChangeShapes
theorem fcells_len2 : ∀ xs : List Fx, (fcells xs).length = xs.length * 2
  | [] => rfl
  | x :: xs => by show (fcells xs).length + 1 + 1 = _; rw [fcells_len2 xs]; simp; omega
theorem fcells_at : ∀ (xs : List Fx) (j : Nat) (hj : j < xs.length), (fcells xs)[j * 2]? = some (.string xs[j].f) ∧ (fcells xs)[j * 2 + 1]? = some xs[j].v
  | [], j, h => by simp at h
  | x :: xs, 0, _ => ⟨rfl, rfl⟩
  | x :: xs, j + 1, h => by
    have ih := fcells_at xs j (by simpa using h)
    rw [show (j + 1) * 2 = j * 2 + 2 by omega]
    exact ih
theorem fx_cells {w : World} {base n g cap : Nat} {xs : List Fx} (h : w.ownsRow base 49 2 (.slice (some ⟨g, 0, none⟩) n cap) n (fcells xs)) (j : Nat) (hj : j < xs.length) : w.cell? ⟨g, j * 2, none⟩ = some (.string xs[j].f) ∧ w.cell? ⟨g, j * 2 + 1, none⟩ = some xs[j].v := by
  have hl : n = xs.length := by have := h.1; rw [fcells_len2] at this; omega
  obtain ⟨h1, h2⟩ := fcells_at xs j hj
  exact ⟨by rw [h.cellAt _ (by omega)]; exact h1, by rw [h.cellAt _ (by omega)]; exact h2⟩
def SF (W : World) (g g' j : Nat) (f : ByteArray) (v v' : Value) (w : World) : Prop := w.cell? ⟨g, j * 2, none⟩ = some (.string f) ∧ w.cell? ⟨g, j * 2 + 1, none⟩ = some v ∧ w.cell? ⟨g', j * 2, none⟩ = some (.string f) ∧ w.cell? ⟨g', j * 2 + 1, none⟩ = some v' ∧ Up W.heap.size W w
theorem cell_keep {w w' : World} {a : Addr} {v : Value} (h : w.cell? a = some v) (hb : Below w.heap.size w w') : w'.cell? a = some v := (hb.cell (World.block_lt_of_cell? w _ h)).trans h
theorem SF.stay {W : World} {g g' j : Nat} {f : ByteArray} {v v' : Value} {w w' : World} (h : SF W g g' j f v v' w) (hb : Below w.heap.size w w') : SF W g g' j f v v' w' := ⟨cell_keep h.1 hb, cell_keep h.2.1 hb, cell_keep h.2.2.1 hb, cell_keep h.2.2.2.1 hb, h.2.2.2.2.stay hb⟩
theorem SF.drew {W : World} {g g' j : Nat} {f : ByteArray} {v v' : Value} {w : World} (h : SF W g g' j f v v' w) : SF W g g' j f v v' w.drew := h.stay (Below.refl _ _).drew
theorem same_SF (W : World) (g g' j : Nat) (f : ByteArray) (l : List ByteArray) (v v' : Value) (b b' : Nat) (w : World) (h : W.ownsRow b 9 1 v l.length (l.map Value.string)) (h' : W.ownsRow b' 9 1 v' l.length (l.map Value.string)) (hw : SF W g g' j f v v' w) :
    Calls Tryz.prog 17 #[v, v'] w fun e w' => e = .returned (.bool true) ∧ SF W g g' j f v v' w' :=
  (rsame_any l b b' v v' w (own_stay h hw.2.2.2.2.1) (own_stay h' hw.2.2.2.2.1)).mono fun e w' ⟨he, hb⟩ => ⟨he, hw.stay hb⟩
theorem fx_same {ys zs : List Fx} (h : ys.map Fx.p = zs.map Fx.p) (j : Nat) (hj : j < ys.length) (hj' : j < zs.length) : ys[j].f = zs[j].f ∧ ys[j].l = zs[j].l := by
  have h1 : (ys.map Fx.p)[j]? = (zs.map Fx.p)[j]? := by rw [h]
  rw [List.getElem?_map, List.getElem?_map, List.getElem?_eq_getElem hj, List.getElem?_eq_getElem hj'] at h1
  simp only [Option.map_some, Option.some.injEq, Fx.p, Prod.mk.injEq] at h1
  exact h1
set_option maxRecDepth 100000 in
set_option maxHeartbeats 1000000 in
theorem rsamef_cells (ys zs : List Fx) (g g' c c' b b' : Nat) (w : World) (hn : ys.length ≤ 9223372036854775807) (hp : ys.map Fx.p = zs.map Fx.p)
    (h : w.ownsRow b 49 2 (.slice (some ⟨g, 0, none⟩) ys.length c) ys.length (fcells ys)) (h' : w.ownsRow b' 49 2 (.slice (some ⟨g', 0, none⟩) ys.length c') ys.length (fcells zs))
    (hy : ∀ x ∈ ys, w.ownsRow b 9 1 x.v x.l.length (x.l.map Value.string)) (hz : ∀ x ∈ zs, w.ownsRow b' 9 1 x.v x.l.length (x.l.map Value.string)) :
    Calls Tryz.prog 20 #[.slice (some ⟨g, 0, none⟩) ys.length c, .slice (some ⟨g', 0, none⟩) ys.length c'] w fun e w' => e = .returned (.bool true) ∧ Below w.heap.size w w' := by
  have hlen : zs.length = ys.length := by have := congrArg List.length hp; simp at this; omega
  have HC : Hid (∀ j, j < ys.length → ∃ (f : ByteArray) (l : List ByteArray) (xa : Option Addr) (xc : Nat) (ya : Option Addr) (yc : Nat), w.cell? ⟨g, j * 2, none⟩ = some (.string f) ∧ w.cell? ⟨g, j * 2 + 1, none⟩ = some (.slice xa l.length xc) ∧ w.cell? ⟨g', j * 2, none⟩ = some (.string f) ∧ w.cell? ⟨g', j * 2 + 1, none⟩ = some (.slice ya l.length yc) ∧
      w.ownsRow b 9 1 (.slice xa l.length xc) l.length (l.map Value.string) ∧ w.ownsRow b' 9 1 (.slice ya l.length yc) l.length (l.map Value.string)) := fun j hj => by
    have hj' : j < zs.length := by omega
    obtain ⟨e1, e2⟩ := fx_same hp j hj hj'
    obtain ⟨a1, a2⟩ := fx_cells h j hj
    obtain ⟨b1, b2⟩ := fx_cells h' j hj'
    rw [← e1] at b1
    refine ⟨ys[j].f, ys[j].l, ys[j].ad, ys[j].c, zs[j].ad, zs[j].c, a1, a2, b1, ?_, hy _ (List.getElem_mem hj), ?_⟩
    · rw [b2, e2]; rfl
    · have := hz _ (List.getElem_mem hj')
      unfold Fx.v at this
      rw [← e2] at this
      exact this
  clear h h' hy hz hp
  obtain ⟨k, hkk⟩ : ∃ k, ys.length = k := ⟨_, rfl⟩
  rw [hkk] at hn HC ⊢
  clear hkk hlen
  go_enter Tryz.func20, Tryz.ntmps20
  go_wp2
  go_loopg [5] k (fun n i wr => ∃ j : Nat, j ≤ k ∧ n = k - j ∧ i = .int .i64 j ∧ Hid (Up w.heap.size w wr))
  case atStart => exact ⟨0, Nat.zero_le _, rfl, rfl, Up.refl w⟩
  case round =>
    obtain ⟨j, hj, hn, rfl, HU⟩ := hrel
    by_cases hlt : j < k
    · have z0 : (0 : Int) ≤ (j : Int) := by omega
      have z1 : (j : Int) < (k : Int) := by omega
      obtain ⟨f, l, xa, xc, ya, yc, a1, a2, b1, b2, o1, o2⟩ := HC.out j hlt
      have hS : SF wr g g' j f (.slice xa l.length xc) (.slice ya l.length yc) wr := ⟨cell_keep a1 HU.out.1, cell_keep a2 HU.out.1, cell_keep b1 HU.out.1, cell_keep b2 HU.out.1, Up.refl _⟩
      have O1 : Hid (wr.ownsRow b 9 1 (.slice xa l.length xc) l.length (l.map Value.string)) := own_stay o1 HU.out.1
      have O2 : Hid (wr.ownsRow b' 9 1 (.slice ya l.length yc) l.length (l.map Value.string)) := own_stay o2 HU.out.1
      clear a1 a2 b1 b2 o1 o2
      go_wp2_with fail
      unfold SF at hS
      go_region_held3 (fun w' => w'.cell? ⟨g, j * 2, none⟩ = some (.string f) ∧ w'.cell? ⟨g, j * 2 + 1, none⟩ = some (.slice xa l.length xc) ∧ w'.cell? ⟨g', j * 2, none⟩ = some (.string f) ∧ w'.cell? ⟨g', j * 2 + 1, none⟩ = some (.slice ya l.length yc) ∧ Up wr.heap.size wr w') (first | assumption | exact SF.drew ‹_›) (first | (go_at_call 17; refine (same_SF wr g g' j f l (.slice xa l.length xc) (.slice ya l.length yc) b b' _ O1.out O2.out (by assumption)).mono ?_; rintro e w' ⟨rfl, hw'⟩))
      go_wp2
      go_roundg (k - (j + 1))
      case measure => omega
      case rel => exact ⟨j + 1, by omega, rfl, by go_num, HU.out.stay hw'.2.2.2.2.1⟩
    · obtain rfl : j = k := by omega
      go_wp2_with fail
      go_ret
      exact ⟨rfl, HU.out.1⟩
theorem rsamef_zero (ad ad' : Option Addr) (c c' : Nat) (w : World) :
    Calls Tryz.prog 20 #[.slice ad 0 c, .slice ad' 0 c'] w fun e w' => e = .returned (.bool true) ∧ w' = w := by
  go_enter Tryz.func20, Tryz.ntmps20
  go_wp2
  go_loopg [5] (0) (fun g i wr => i = .int .i64 0 ∧ wr = w)
  case atStart => exact ⟨rfl, rfl⟩
  case round =>
    obtain ⟨rfl, rfl⟩ := hrel
    go_wp2_with fail
    go_ret
    exact ⟨rfl, rfl⟩
theorem rsamef_any (ys zs : List Fx) (b b' : Nat) (v v' : Value) (w : World) (hp : ys.map Fx.p = zs.map Fx.p)
    (h : w.ownsRow b 49 2 v ys.length (fcells ys)) (h' : w.ownsRow b' 49 2 v' zs.length (fcells zs))
    (hy : ∀ x ∈ ys, w.ownsRow b 9 1 x.v x.l.length (x.l.map Value.string)) (hz : ∀ x ∈ zs, w.ownsRow b' 9 1 x.v x.l.length (x.l.map Value.string)) :
    Calls Tryz.prog 20 #[v, v'] w fun e w' => e = .returned (.bool true) ∧ Below w.heap.size w w' := by
  have hlen : zs.length = ys.length := by have := congrArg List.length hp; simp at this; omega
  rw [hlen] at h'
  have h0 := h
  have h0' := h'
  have hzz : ∀ ad c ad' c', Calls Tryz.prog 20 #[.slice ad 0 c, .slice ad' 0 c'] w fun e w' => e = .returned (.bool true) ∧ Below w.heap.size w w' := fun ad c ad' c' => (rsamef_zero ad ad' c c' w).mono (by
    rintro e w' ⟨rfl, rfl⟩
    exact ⟨rfl, Below.refl _ _⟩)
  obtain ⟨_, ⟨rfl, e1⟩ | ⟨g, cap, cur, rfl, _, _, hnc, hcm, _⟩⟩ := h
  · obtain ⟨_, ⟨rfl, _⟩ | ⟨g', cap', cur', rfl, _⟩⟩ := h'
    · exact hzz _ _ _ _
    · rw [e1]; exact hzz _ _ _ _
  · obtain ⟨_, ⟨rfl, e1⟩ | ⟨g', cap', cur', rfl, _⟩⟩ := h'
    · rw [e1]; exact hzz _ _ _ _
    · exact rsamef_cells ys zs g g' cap cap' b b' w (by unfold maxLen at hcm; omega) hp h0 h0' hy hz
end Go.Proofs.YtgijihfijoiafaaGreatDoor
/- The reference's pieces. -/
namespace Go.Proofs.YtgijihfijoiafaaGreatDoor
set_option linter.unusedVariables false
open Go.RowKit Go.ChangeShapes
theorem comma_index (s : ByteArray) : Lib.index s.data.toList (⟨#[44]⟩ : ByteArray).data.toList = comma s := Lib.index_one _ _
theorem pcs_len : ∀ (f : Nat) (s : ByteArray), s.size ≤ f → (pcs f s).length ≤ s.size + 1
  | 0, s, _ => by simp [pcs]
  | f + 1, s, h => by
    unfold pcs
    split
    · simp
    · rename_i hc
      have hl := comma_lt s hc
      have ih := pcs_len f (s.extract ((comma s).toNat + 1) s.size) (by rw [ByteArray.size_extract]; omega)
      rw [ByteArray.size_extract] at ih
      simp only [List.length_cons]
      omega
set_option maxRecDepth 100000 in
set_option maxHeartbeats 1000000 in
theorem rpieces_any : ∀ (f : Nat) (s : ByteArray) (w : World), s.size ≤ f → f ≤ 5000 →
    Calls Tryz.prog 70 #[.string s] w fun e w' => ∃ u, e = .returned u ∧ w'.ownsRow w.heap.size 9 1 u (pcs f s).length ((pcs f s).map Value.string) ∧ Below w.heap.size w w' := by
  intro f
  induction f with
  | zero =>
    intro s w hs hf
    have cf := rfind_any s ⟨#[44]⟩ w (by omega) (by decide)
    rw [comma_index] at cf
    have hc : comma s < 0 := by
      by_cases h : comma s < 0
      · exact h
      · have := comma_lt s h; omega
    show Calls _ _ _ _ fun e w' => ∃ u, e = .returned u ∧ w'.ownsRow w.heap.size 9 1 u 1 [.string s] ∧ Below w.heap.size w w'
    generalize comma s = z at cf hc
    clear hs hf
    go_enter Tryz.func70, Tryz.ntmps70
    go_wp2_with fail
    refine cf.mono ?_
    rintro e w2 ⟨rfl, hw⟩
    subst w2
    clear cf
    go_wp2
    go_ret
    exact ⟨_, rfl, World.ownsRow_lit w #[.string s] 1 (Nat.le_refl _) (by unfold maxLen; simp) rfl, (Below.refl _ _).alloc (Nat.le_refl _) _⟩
  | succ f ih =>
    intro s w hs hf
    have cf := rfind_any s ⟨#[44]⟩ w (by omega) (by decide)
    rw [comma_index] at cf
    by_cases hc : comma s < 0
    · rw [pcs_last (f + 1) s hc]
      show Calls _ _ _ _ fun e w' => ∃ u, e = .returned u ∧ w'.ownsRow w.heap.size 9 1 u 1 [.string s] ∧ Below w.heap.size w w'
      generalize comma s = z at cf hc
      clear hs hf ih
      go_enter Tryz.func70, Tryz.ntmps70
      go_wp2_with fail
      refine cf.mono ?_
      rintro e w2 ⟨rfl, hw⟩
      subst w2
      clear cf
      go_wp2
      go_ret
      exact ⟨_, rfl, World.ownsRow_lit w #[.string s] 1 (Nat.le_refl _) (by unfold maxLen; simp) rfl, (Below.refl _ _).alloc (Nat.le_refl _) _⟩
    · have hl := comma_lt s hc
      have hz : comma s = ((comma s).toNat : Nat) := by omega
      have hpc : pcs (f + 1) s = s.extract 0 (comma s).toNat :: pcs f (s.extract ((comma s).toNat + 1) s.size) := by conv => lhs; unfold pcs; rw [if_neg hc]
      have hsz : (s.extract ((comma s).toNat + 1) s.size).size ≤ f := by rw [ByteArray.size_extract]; omega
      have hpl := pcs_len f _ hsz
      rw [hpc]
      generalize (comma s).toNat = k at hl hz hpc hsz hpl ⊢
      rw [hz] at cf
      clear hc hz hpc
      have ci := fun w' => ih (s.extract (k + 1) s.size) w' hsz (by omega)
      have hpl2 : (pcs f (s.extract (k + 1) s.size)).length ≤ 5001 := by omega
      show Calls _ _ _ _ fun e w' => ∃ u, e = .returned u ∧ w'.ownsRow w.heap.size 9 1 u ((pcs f (s.extract (k + 1) s.size)).length + 1) (.string (s.extract 0 k) :: (pcs f (s.extract (k + 1) s.size)).map Value.string) ∧ Below w.heap.size w w'
      generalize pcs f (s.extract (k + 1) s.size) = M at ci hpl2 ⊢
      have z0 : (0 : Int) ≤ (k : Int) := by omega
      have z1 : (k : Int) ≤ (s.size : Int) := by omega
      have z2 : (0 : Int) ≤ (k : Int) + 1 := by omega
      have z3 : (k : Int) + 1 ≤ (s.size : Int) := by omega
      have z4 : IntKind.i64.wrap ((k : Int) + 1) = (k : Int) + 1 := Go.IntWalk.i64_in _ (by omega)
      have z5 : ((k : Int) + 1).toNat = k + 1 := by omega
      obtain ⟨i0, hi, hz0, hz1, hz2⟩ := info_parts Lns.info9
      clear hsz hpl ih
      go_enter Tryz.func70, Tryz.ntmps70
      go_wp2_with fail
      refine cf.mono ?_
      rintro e w2 ⟨rfl, hw⟩
      subst w2
      clear cf
      go_wp2_with fail
      refine wp_region_held_drew (S := fun w' => Up w.heap.size w w') (by kernel_rfl) (Lns.Up.drew (Up.refl w)) (fun hHeld => ?_)
      (try dsimp only at hHeld)
      obtain ⟨x0, hx0⟩ : ∃ x0, w.drew = x0 := ⟨_, rfl⟩
      rw [hx0] at hHeld ⊢
      clear hx0
      refine Lns.takeH (i := 0) (v := ?_) (d := (some 10)) rfl (by kernel_rfl) (by kernel_rfl) (by kernel_rfl) rfl (fun _ _ _ h => h) (Or.inl ⟨by kernel_rfl, ?_⟩) (by assumption) ?_; rotate_left
      · (intro w hSw; (try dsimp only at hSw); first | (go_simp; done) | (go_simp; with_reducible rfl))
      (try simp only [Act.put, List.setIfInBounds_toArray, List.set_cons_zero, List.set_cons_succ])
      refine Lns.takeH (i := 1) (v := ?_) (d := (some 11)) rfl (by kernel_rfl) (by kernel_rfl) (by kernel_rfl) rfl (fun _ _ _ h => h) (Or.inl ⟨by kernel_rfl, ?_⟩) (by assumption) ?_; rotate_left
      · (intro w hSw; (try dsimp only at hSw); first | (go_simp; done) | (go_simp; with_reducible rfl))
      (try simp only [Act.put, List.setIfInBounds_toArray, List.set_cons_zero, List.set_cons_succ])
      refine Lns.takeH (i := 2) (v := ?_) (d := (some 12)) rfl (by kernel_rfl) (by kernel_rfl) (by kernel_rfl) rfl (fun _ _ _ h => h) (Or.inl ⟨by kernel_rfl, ?_⟩) (by assumption) ?_; rotate_left
      · (intro w hSw; (try dsimp only at hSw); first | (go_simp; done) | (go_simp; with_reducible rfl))
      (try simp only [Act.put, List.setIfInBounds_toArray, List.set_cons_zero, List.set_cons_succ])
      refine Lns.takeH (i := 4) (v := ?_) (d := (some 14)) rfl (by kernel_rfl) (by kernel_rfl) (by kernel_rfl) rfl (fun _ _ _ h => h) (Or.inl ⟨by kernel_rfl, ?_⟩) (by assumption) ?_; rotate_left
      · (intro w hSw; (try dsimp only at hSw); first | (go_simp; done) | (go_simp; with_reducible rfl))
      (try simp only [Act.put, List.setIfInBounds_toArray, List.set_cons_zero, List.set_cons_succ])
      refine Lns.takeH (i := 5) (v := ?_) (d := (some 15)) rfl (by kernel_rfl) (by kernel_rfl) (by kernel_rfl) rfl (fun _ _ _ h => h) (Or.inl ⟨by kernel_rfl, ?_⟩) (by assumption) ?_; rotate_left
      · (intro w hSw; (try dsimp only at hSw); first | (go_simp; done) | (go_simp; with_reducible rfl))
      (try simp only [Act.put, List.setIfInBounds_toArray, List.set_cons_zero, List.set_cons_succ])
      refine Lns.takeH (i := 6) (v := ?_) (d := (some 16)) rfl (by kernel_rfl) (by kernel_rfl) (by kernel_rfl) rfl (fun _ _ _ h => h) (Or.inl ⟨by kernel_rfl, ?_⟩) (by assumption) ?_; rotate_left
      · (intro w hSw; (try dsimp only at hSw); first | (go_simp; done) | (go_simp; with_reducible rfl))
      (try simp only [Act.put, List.setIfInBounds_toArray, List.set_cons_zero, List.set_cons_succ])
      refine Lns.takeH (i := 7) (v := ?_) (d := (some 17)) rfl (by kernel_rfl) (by kernel_rfl) (by kernel_rfl) rfl (fun _ _ _ h => h) (Or.inl ⟨by kernel_rfl, ?_⟩) (by assumption) ?_; rotate_left
      · (intro w hSw; (try dsimp only at hSw); first | (go_simp; done) | (go_simp; with_reducible rfl))
      (try simp only [Act.put, List.setIfInBounds_toArray, List.set_cons_zero, List.set_cons_succ])
      refine wpAnyH_ready (rs := [3, 8]) (by kernel_rfl) (by simp) (AllReadyH.cons rfl (fun K hK => ?_) (AllReadyH.cons rfl (fun K hK => ?_) AllReadyH.nil))
      · rw [if_pos (by kernel_rfl)]
        go_simp
        have O13 : Hid ((x0.alloc (.cells #[.string (s.extract 0 k)] 9)).ownsRow w.heap.size 9 1 (.slice (some ⟨x0.heap.size, 0, none⟩) 1 1) 1 [.string (s.extract 0 k)]) := World.ownsRow_lit x0 #[.string (s.extract 0 k)] 1 hHeld.2 (by unfold maxLen; simp) rfl
        refine hK.out _ _ (hHeld.alloc _ : Up w.heap.size w _) (fun hHeld => ?_)
        clear hK K
        (try dsimp only at hHeld)
        (try simp only [Act.put, List.setIfInBounds_toArray, List.set_cons_zero, List.set_cons_succ])
        obtain ⟨x1, hx1⟩ : ∃ x1, x0.alloc (.cells #[.string (s.extract 0 k)] 9) = x1 := ⟨_, rfl⟩
        rw [hx1] at hHeld O13 ⊢
        refine wpAnyH_ready (rs := [8]) (by kernel_rfl) (by simp) (AllReadyH.cons rfl (fun K hK => ?_) AllReadyH.nil)
        go_simp
        refine (ci _).mono ?_
        rintro e x2 ⟨u, rfl, hou, hbu⟩
        have O13' := own_stay O13.out hbu
        clear O13
        have O13 : Hid _ := O13'
        clear O13'
        have OU : Hid (x2.ownsRow x1.heap.size 9 1 u M.length (M.map Value.string)) := hou
        have hw2 := hHeld.stay hbu
        clear hou hbu
        go_wp2_with fail
        refine hK.out _ _ (hw2 : Up w.heap.size w _) (fun hHeld => ?_)
        clear hK K
        (try dsimp only at hHeld)
        (try simp only [Act.put, List.setIfInBounds_toArray, List.set_cons_zero, List.set_cons_succ])
        clear hw2
        refine wpAnyH_ready (rs := [9]) (by kernel_rfl) (by simp) (AllReadyH.cons rfl (fun K hK => ?_) AllReadyH.nil)
        rw [if_pos (by kernel_rfl)]
        refine app_src_wp (.tmp 13) (.tmp 18) 28 rfl w.heap.size 9 i0 _ 1 16 Tryz.underlying28 hi hz0 hz1 hz2 rfl (by decide) _ _ _ rfl O13.out _ _ _ rfl (srcs_own OU.out) (str_one _) (by unfold maxLen; omega) (by omega) hHeld.2 ?_
        intro v19 y1 ho19 hg19
        change K (Act.put _ (some 19) _) _
        have hu19 : Up w.heap.size w y1 := hHeld.grown hg19 (own_base O13.out)
        have O19 : Hid (y1.ownsRow w.heap.size 9 1 v19 (M.length + 1) (.string (s.extract 0 k) :: M.map Value.string)) := by
          show y1.ownsRow _ _ _ _ _ _
          rw [Nat.add_comm]
          exact ho19
        clear ho19 hg19
        refine hK.out _ _ (hu19 : Up w.heap.size w _) (fun hHeld => ?_)
        clear hK K
        (try dsimp only at hHeld)
        (try simp only [Act.put, List.setIfInBounds_toArray, List.set_cons_zero, List.set_cons_succ])
        clear hu19
        refine Lns.takeH (i := 10) (v := ?_) (d := (some 2)) rfl (by kernel_rfl) (by kernel_rfl) (by kernel_rfl) rfl (fun _ _ _ h => h) (Or.inl ⟨by kernel_rfl, ?_⟩) (by assumption) ?_; rotate_left
        · (intro w hSw; (try dsimp only at hSw); first | (go_simp; done) | (go_simp; with_reducible rfl))
        (try simp only [Act.put, List.setIfInBounds_toArray, List.set_cons_zero, List.set_cons_succ])
        refine wpAnyH_done (by kernel_rfl) ?_ _
        have HU9 : Hid (Up w.heap.size w y1) := hHeld
        clear hHeld
        go_wp2
        go_ret
        exact ⟨v19, rfl, O19.out, HU9.out.1⟩
      · go_simp
        refine (ci _).mono ?_
        rintro e x1 ⟨u, rfl, hou, hbu⟩
        have OU : Hid (x1.ownsRow x0.heap.size 9 1 u M.length (M.map Value.string)) := hou
        have hw2 := hHeld.stay hbu
        clear hou hbu
        go_wp2_with fail
        refine hK.out _ _ (hw2 : Up w.heap.size w _) (fun hHeld => ?_)
        clear hK K
        (try dsimp only at hHeld)
        (try simp only [Act.put, List.setIfInBounds_toArray, List.set_cons_zero, List.set_cons_succ])
        clear hw2
        refine wpAnyH_ready (rs := [3]) (by kernel_rfl) (by simp) (AllReadyH.cons rfl (fun K hK => ?_) AllReadyH.nil)
        rw [if_pos (by kernel_rfl)]
        go_simp
        have O13 : Hid ((x1.alloc (.cells #[.string (s.extract 0 k)] 9)).ownsRow w.heap.size 9 1 (.slice (some ⟨x1.heap.size, 0, none⟩) 1 1) 1 [.string (s.extract 0 k)]) := World.ownsRow_lit x1 #[.string (s.extract 0 k)] 1 hHeld.2 (by unfold maxLen; simp) rfl
        have OU' := OU.out.alloc (.cells #[.string (s.extract 0 k)] 9)
        clear OU
        have OU : Hid _ := OU'
        clear OU'
        refine hK.out _ _ (hHeld.alloc _ : Up w.heap.size w _) (fun hHeld => ?_)
        clear hK K
        (try dsimp only at hHeld)
        (try simp only [Act.put, List.setIfInBounds_toArray, List.set_cons_zero, List.set_cons_succ])
        obtain ⟨x2, hx2⟩ : ∃ x2, x1.alloc (.cells #[.string (s.extract 0 k)] 9) = x2 := ⟨_, rfl⟩
        rw [hx2] at hHeld O13 OU ⊢
        refine wpAnyH_ready (rs := [9]) (by kernel_rfl) (by simp) (AllReadyH.cons rfl (fun K hK => ?_) AllReadyH.nil)
        rw [if_pos (by kernel_rfl)]
        refine app_src_wp (.tmp 13) (.tmp 18) 28 rfl w.heap.size 9 i0 _ 1 16 Tryz.underlying28 hi hz0 hz1 hz2 rfl (by decide) _ _ _ rfl O13.out _ _ _ rfl (srcs_own OU.out) (str_one _) (by unfold maxLen; omega) (by omega) hHeld.2 ?_
        intro v19 y1 ho19 hg19
        change K (Act.put _ (some 19) _) _
        have hu19 : Up w.heap.size w y1 := hHeld.grown hg19 (own_base O13.out)
        have O19 : Hid (y1.ownsRow w.heap.size 9 1 v19 (M.length + 1) (.string (s.extract 0 k) :: M.map Value.string)) := by
          show y1.ownsRow _ _ _ _ _ _
          rw [Nat.add_comm]
          exact ho19
        clear ho19 hg19
        refine hK.out _ _ (hu19 : Up w.heap.size w _) (fun hHeld => ?_)
        clear hK K
        (try dsimp only at hHeld)
        (try simp only [Act.put, List.setIfInBounds_toArray, List.set_cons_zero, List.set_cons_succ])
        clear hu19
        refine Lns.takeH (i := 10) (v := ?_) (d := (some 2)) rfl (by kernel_rfl) (by kernel_rfl) (by kernel_rfl) rfl (fun _ _ _ h => h) (Or.inl ⟨by kernel_rfl, ?_⟩) (by assumption) ?_; rotate_left
        · (intro w hSw; (try dsimp only at hSw); first | (go_simp; done) | (go_simp; with_reducible rfl))
        (try simp only [Act.put, List.setIfInBounds_toArray, List.set_cons_zero, List.set_cons_succ])
        refine wpAnyH_done (by kernel_rfl) ?_ _
        have HU9 : Hid (Up w.heap.size w y1) := hHeld
        clear hHeld
        go_wp2
        go_ret
        exact ⟨v19, rfl, O19.out, HU9.out.1⟩
end Go.Proofs.YtgijihfijoiafaaGreatDoor
