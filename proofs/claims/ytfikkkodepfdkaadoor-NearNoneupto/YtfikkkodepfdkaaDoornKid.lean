/- A nil trie: it has a root alone, and no word. -/
import Derived.Test.YtfikkkodepfdkaaDoortEnd
import Derived.Test.YtfikkkodepfdkaaDoortClone
namespace Go.Proofs.YtfikkkodepfdkaaDoor
set_option linter.unusedVariables false
open Go.RowKit Go.ChangeShapes
set_option maxHeartbeats 1000000 in
set_option maxRecDepth 100000 in
theorem kids_gen {w : World} {tp : Option Addr} {base : Nat} {i : Nat} {n : Nd} (h0 : w.ownsRow base 21 1 n.r n.p.R.length (n.p.R.map i32c)) (h1 : w.ownsRow base 3 1 n.k n.p.K.length (n.p.K.map i64c)) (c1 : Calls Tryd.prog 29 #[.pointer tp, .int .i64 (i : Int)] w fun e w' => e = .returned (.agg #[n.r, n.k, .bool n.p.e]) ∧ Below w.heap.size w w') (hR : n.p.R.length ≤ 1000000) (hKl : n.p.K.length ≤ 1000000) :
    Calls Tryd.prog 21 #[.pointer tp, .int .i64 (i : Int)] w fun e w' => ∃ vr vk, e = .returned (.tuple #[vr, vk]) ∧ w'.ownsRow w.heap.size 21 1 vr n.p.R.length (n.p.R.map i32c) ∧ w'.ownsRow w.heap.size 3 1 vk n.p.K.length (n.p.K.map i64c) ∧ Below w.heap.size w w' := by
  obtain ⟨nr, nk, p⟩ := n
  dsimp only at hR hKl h0 h1 c1 ⊢
  obtain ⟨ar, cr, er⟩ := own_slice h0
  obtain ⟨ak, ck, ek⟩ := own_slice h1
  subst er ek
  have H0 : Hid (w.ownsRow base 21 1 (.slice ar p.R.length cr) p.R.length (p.R.map i32c)) := h0
  have H1 : Hid (w.ownsRow base 3 1 (.slice ak p.K.length ck) p.K.length (p.K.map i64c)) := h1
  clear h0 h1
  go_enter Tryd.func21, Tryd.ntmps21
  go_wp2_with fail
  refine c1.mono ?_
  rintro e w1 ⟨rfl, hb1⟩
  have HB1 : Hid (Below w.heap.size w w1) := hb1
  clear hb1 c1
  go_upto_region 2 with fail
  have hU1 : Up w.heap.size w (w1.alloc (.cells #[.slice ar p.R.length cr, .slice ak p.K.length ck, .bool p.e] 70)) := ((Up.refl w).stay HB1.out).alloc _
  have hblk := heap_alloc_new w1 (.cells #[.slice ar p.R.length cr, .slice ak p.K.length ck, .bool p.e] 70)
  generalize w1.heap.size = B at *
  generalize w1.alloc (.cells #[.slice ar p.R.length cr, .slice ak p.K.length ck, .bool p.e] 70) = w2 at *
  have b0 : w2.cell? ⟨B, 0, none⟩ = some (.slice ar p.R.length cr) := by rw [cell_of_row w2 B 0 _ _ _ hblk]; rfl
  have b1 : w2.cell? ⟨B, 1, none⟩ = some (.slice ak p.K.length ck) := by rw [cell_of_row w2 B 1 _ _ _ hblk]; rfl
  have HU1 : Hid (Up w.heap.size w w2) := hU1
  have HRR : Hid (w2.ownsRow base 21 1 (.slice ar p.R.length cr) p.R.length (p.R.map i32c)) := own_stay H0.out hU1.1
  have HKK : Hid (w2.ownsRow base 3 1 (.slice ak p.K.length ck) p.K.length (p.K.map i64c)) := own_stay H1.out hU1.1
  clear hU1 hblk HB1
  refine wp_region_held_drew (S := fun w' => Up w2.heap.size w2 w') (by kernel_rfl) (Up.refl w2).drew (fun hHeld => ?_)
  (try dsimp only at hHeld)
  obtain ⟨x0, hx0⟩ : ∃ x0, w2.drew = x0 := ⟨_, rfl⟩
  rw [hx0] at hHeld ⊢
  clear hx0
  refine takeH (i := 0) (v := ?_) (d := (some 10)) rfl (by kernel_rfl) (by kernel_rfl) (by kernel_rfl) rfl (fun _ _ _ h => h) (Or.inl ⟨by kernel_rfl, ?_⟩) (by assumption) ?_; rotate_left
  · (intro w hSw; (try dsimp only at hSw); first | (go_simp; done) | (go_simp; with_reducible rfl))
  (try simp only [Act.put, List.setIfInBounds_toArray, List.set_cons_zero, List.set_cons_succ])
  refine takeH (i := 1) (v := ?_) (d := (some 11)) rfl (by kernel_rfl) (by kernel_rfl) (by kernel_rfl) rfl (fun _ _ _ h => h) (Or.inl ⟨by kernel_rfl, ?_⟩) (by assumption) ?_; rotate_left
  · (intro w hSw; (try dsimp only at hSw); have b0 := cell_stay b0 hSw.1; first | (go_simp; done) | (go_simp; with_reducible rfl))
  (try simp only [Act.put, List.setIfInBounds_toArray, List.set_cons_zero, List.set_cons_succ])
  refine takeH (i := 3) (v := ?_) (d := (some 13)) rfl (by kernel_rfl) (by kernel_rfl) (by kernel_rfl) rfl (fun _ _ _ h => h) (Or.inl ⟨by kernel_rfl, ?_⟩) (by assumption) ?_; rotate_left
  · (intro w hSw; (try dsimp only at hSw); first | (go_simp; done) | (go_simp; with_reducible rfl))
  (try simp only [Act.put, List.setIfInBounds_toArray, List.set_cons_zero, List.set_cons_succ])
  refine takeH (i := 4) (v := ?_) (d := (some 14)) rfl (by kernel_rfl) (by kernel_rfl) (by kernel_rfl) rfl (fun _ _ _ h => h) (Or.inl ⟨by kernel_rfl, ?_⟩) (by assumption) ?_; rotate_left
  · (intro w hSw; (try dsimp only at hSw); have b1 := cell_stay b1 hSw.1; first | (go_simp; done) | (go_simp; with_reducible rfl))
  (try simp only [Act.put, List.setIfInBounds_toArray, List.set_cons_zero, List.set_cons_succ])
  refine wpAnyH_ready (rs := [2]) (by kernel_rfl) (by simp) (AllReadyH.cons rfl (fun K hK => ?_) AllReadyH.nil)
  go_simp
  refine (cloneR p.R (own_stay HRR.out hHeld.1) hR).mono ?_
  have XS0 : Hid (w2.heap.size ≤ x0.heap.size) := hHeld.2
  rintro e x1 ⟨vr, rfl, hor, hb⟩
  go_wp2_with fail
  refine hK.out _ _ (hHeld.stay hb : Up w2.heap.size w2 x1) (fun hHeld' => ?_)
  have Hhor : Hid (x1.ownsRow x0.heap.size 21 1 vr p.R.length (p.R.map i32c)) := hor
  have HBxx1 : Hid (Below x0.heap.size x0 x1) := hb
  clear hK K hHeld hb hor
  have hHeld := hHeld'
  clear hHeld'
  (try dsimp only at hHeld)
  (try simp only [Act.put, List.setIfInBounds_toArray, List.set_cons_zero, List.set_cons_succ])
  refine wpAnyH_ready (rs := [5]) (by kernel_rfl) (by simp) (AllReadyH.cons rfl (fun K hK => ?_) AllReadyH.nil)
  go_simp
  refine (cloneK p.K (own_stay HKK.out hHeld.1) hKl).mono ?_
  have XS1 : Hid (w2.heap.size ≤ x1.heap.size) := hHeld.2
  rintro e x2 ⟨vk, rfl, hok, hb⟩
  go_wp2_with fail
  refine hK.out _ _ (hHeld.stay hb : Up w2.heap.size w2 x2) (fun hHeld' => ?_)
  have Hhok : Hid (x2.ownsRow x1.heap.size 3 1 vk p.K.length (p.K.map i64c)) := hok
  have HBxx2 : Hid (Below x1.heap.size x1 x2) := hb
  clear hK K hHeld hb hok
  have hHeld := hHeld'
  clear hHeld'
  (try dsimp only at hHeld)
  (try simp only [Act.put, List.setIfInBounds_toArray, List.set_cons_zero, List.set_cons_succ])
  refine takeH (i := 6) (v := ?_) (d := (some 4)) rfl (by kernel_rfl) (by kernel_rfl) (by kernel_rfl) rfl (fun _ _ _ h => h) (Or.inl ⟨by kernel_rfl, ?_⟩) (by assumption) ?_; rotate_left
  · (intro w hSw; (try dsimp only at hSw); first | (go_simp; done) | (go_simp; with_reducible rfl))
  (try simp only [Act.put, List.setIfInBounds_toArray, List.set_cons_zero, List.set_cons_succ])
  refine takeH (i := 7) (v := ?_) (d := (some 5)) rfl (by kernel_rfl) (by kernel_rfl) (by kernel_rfl) rfl (fun _ _ _ h => h) (Or.inl ⟨by kernel_rfl, ?_⟩) (by assumption) ?_; rotate_left
  · (intro w hSw; (try dsimp only at hSw); first | (go_simp; done) | (go_simp; with_reducible rfl))
  (try simp only [Act.put, List.setIfInBounds_toArray, List.set_cons_zero, List.set_cons_succ])
  refine wpAnyH_done (by kernel_rfl) ?_ _
  have HU9 : Hid (Up w2.heap.size w2 x2) := hHeld
  clear hHeld
  go_wp2
  go_ret2
  have q1 := HU1.out.2
  refine ⟨vr, vk, rfl, ?_, ?_, HU1.out.1.trans (HU9.out.1.mono HU1.out.2)⟩
  · exact own_mono (own_stay Hhor.out HBxx2.out) (Nat.le_trans HU1.out.2 XS0.out)
  · exact own_mono Hhok.out (Nat.le_trans HU1.out.2 XS1.out)
theorem node_nil (i : Nat) (w : World) : Calls Tryd.prog 29 #[.pointer none, .int .i64 (i : Int)] w fun e w' => e = .returned (.agg #[.slice none 0 0, .slice none 0 0, .bool false]) ∧ Below w.heap.size w w' := by
  go_enter Tryd.func29, Tryd.ntmps29
  go_wp2
  refine bodyPost_ret (v := .agg #[.slice none 0 0, .slice none 0 0, .bool false]) (by simp [results, Tryd.results29, go_sem]) rfl ?_
  exact ⟨rfl, (Below.refl _ _).alloc (Nat.le_refl _) _⟩
theorem kids_nil (i : Nat) (w : World) : Calls Tryd.prog 21 #[.pointer none, .int .i64 (i : Int)] w fun e w' => ∃ vr vk, e = .returned (.tuple #[vr, vk]) ∧ w'.ownsRow w.heap.size 21 1 vr 0 [] ∧ w'.ownsRow w.heap.size 3 1 vk 0 [] ∧ Below w.heap.size w w' :=
  kids_gen (base := 0) (n := ⟨.slice none 0 0, .slice none 0 0, pn0⟩) (World.ownsRow_nil _ _ _ _) (World.ownsRow_nil _ _ _ _) (node_nil i w) (by decide) (by decide)
set_option maxRecDepth 100000 in
theorem ends_nil (i : Nat) (w : World) : Calls Tryd.prog 72 #[.pointer none, .int .i64 (i : Int)] w fun e w' => e = .returned (.bool false) ∧ Below w.heap.size w w' := by
  have c1 := node_nil i w
  have hf : ∀ w : World, (Instr.field 70 (.agg #[.slice none 0 0, .slice none 0 0, .bool false]) 2).run Tryd.prog w = .ok (.bool false) w := fun w => by
    first | rfl | kernel_rfl | (simp [Instr.field, run_underlying Tryd.underlying70, part, go_sem]; done) | (simp [Instr.field, run_underlying Tryd.underlying70])
  go_enter Tryd.func72, Tryd.ntmps72
  go_wp2_with fail
  refine c1.mono ?_
  rintro e w1 ⟨rfl, hb⟩
  have HB : Hid (Below w.heap.size w w1) := hb
  clear c1 hb
  go_wp2
  go_ret
  exact ⟨rfl, HB.out⟩
end Go.Proofs.YtfikkkodepfdkaaDoor
