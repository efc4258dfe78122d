/- Knows. -/
import Derived.Test.YteeeekpeokgaeaaDooryBg
import Derived.Test.YteeeekpeokgaeaaDooryAl
namespace Go.Proofs.YteeeekpeokgaeaaDoor
set_option linter.unusedVariables false
open Go.RowKit Go.ChangeShapes Tns
theorem knB_mem (ws : List ByteArray) (t : ByteArray) : knB ws t = true ↔ t ∈ ws := by
  unfold knB
  rw [List.any_eq_true]
  constructor
  · rintro ⟨x, h1, h2⟩
    rw [decide_eq_true_iff] at h2
    rw [← h2]
    exact h1
  · exact fun h => ⟨t, h, decide_eq_true rfl⟩
theorem bg_know {w : World} {b n : Nat} {L : List ByteArray} (h : BgP w b n L) (s : ByteArray) (hs : s.size ≤ 9223372036854775807) :
    (Instr.lookup 47 (.map (some b)) (.string s) true).run Tryd.prog w = .ok (.tuple #[.agg #[], .bool (knB L s)]) w := by
  obtain ⟨D, hown, h2⟩ := h
  obtain ⟨v, ps, hrun, hv⟩ := hown.look_ok bgK Tryd.underlying47 (bgZ w) (zd := .agg []) (zp := []) unitElem_mk (bgS s hs)
  have e : Maps.has D (.string s.data.toList) = knB L s := by
    rw [Bool.eq_iff_iff, knB_mem]
    exact h2 s
  obtain ⟨rfl, _⟩ := unitElem_inv hv
  rw [e] at hrun
  exact hrun
set_option maxHeartbeats 4000000 in
set_option maxRecDepth 100000 in
theorem knows_at {w : World} (t : ByteArray) (ht : t.size ≤ 5000) (hT : Tabs w) {R b n : Nat} {va : Value} {ws : List ByteArray}
    (hR : w.heap[R]? = some (.cells #[va, .map (some b)] 49)) (hB : BgP w b n ws) :
    Calls Tryd.prog 16 #[.pointer (some ⟨R, 0, none⟩), .string t] w fun e w' => e = .returned (.bool (knB ws (fld t))) ∧ Below w.heap.size w w' := by
  have hRl : R < w.heap.size := (Array.getElem?_eq_some_iff.1 hR).1
  have HT : Hid (Tabs w ∧ t.size ≤ 5000) := ⟨hT, ht⟩
  have HR : Hid (∀ w', Up w.heap.size w w' → w'.cell? ⟨R, 1, none⟩ = some (.map (some b))) := fun w' hu => by
    have e := hu.1.block R hRl
    rw [hR] at e
    simp [World.cell?, e]
  have CF : Hid (∀ w', Up w.heap.size w w' → Calls Tryd.prog 25 #[.string t] w' fun e w'' => e = .returned (.string (fld t)) ∧ Below w'.heap.size w' w'') := fun w' hu => fold_at t w' HT.out.2 (Lns.tabs_stay HT.out.1 hu.1)
  have hf := fld_size t
  obtain ⟨F, hF⟩ : ∃ x, fld t = x := ⟨_, rfl⟩
  rw [hF] at CF hf ⊢
  have HM : Hid (∀ w', Up w.heap.size w w' → (Instr.lookup 47 (.map (some b)) (.string F) true).run Tryd.prog w' = .ok (.tuple #[.agg #[], .bool (knB ws F)]) w') := fun w' hu => bg_know (hB.stay hu.1) F (by omega)
  obtain ⟨B, hBv⟩ : ∃ x, knB ws F = x := ⟨_, rfl⟩
  rw [hBv] at HM ⊢
  clear hF hf hBv hB hR hRl hT ht
  go_enter Tryd.func16, Tryd.ntmps16
  go_upto_region 3 with fail
  refine wp_region_held_drew (S := fun w' => Up w.heap.size w w') (by kernel_rfl) (Up.drew (Up.refl w)) (fun hHeld => ?_)
  (try dsimp only at hHeld)
  obtain ⟨x0, hx0⟩ : ∃ x0, w.drew = x0 := ⟨_, rfl⟩
  rw [hx0] at hHeld ⊢
  clear hx0
  refine takeH (i := 0) (v := ?_) (d := (some 10)) rfl (by kernel_rfl) (by kernel_rfl) (by kernel_rfl) rfl (fun _ _ _ h => h) (Or.inl ⟨by kernel_rfl, ?_⟩) (by assumption) ?_; rotate_left
  · (intro w hSw; (try dsimp only at hSw); first | (go_simp; done) | (go_simp; with_reducible rfl))
  (try simp only [Act.put, List.setIfInBounds_toArray, List.set_cons_zero, List.set_cons_succ])
  refine takeH (i := 1) (v := ?_) (d := (some 11)) rfl (by kernel_rfl) (by kernel_rfl) (by kernel_rfl) rfl (fun _ _ _ h => h) (Or.inl ⟨by kernel_rfl, ?_⟩) (by assumption) ?_; rotate_left
  · (intro w hSw; (try dsimp only at hSw); first | (go_simp; done) | (go_simp; with_reducible rfl))
  (try simp only [Act.put, List.setIfInBounds_toArray, List.set_cons_zero, List.set_cons_succ])
  refine takeH (i := 2) (v := ?_) (d := (some 12)) rfl (by kernel_rfl) (by kernel_rfl) (by kernel_rfl) rfl (fun _ _ _ h => h) (Or.inl ⟨by kernel_rfl, ?_⟩) (by assumption) ?_; rotate_left
  · (intro w hSw; (try dsimp only at hSw); first | (go_simp; done) | (go_simp; with_reducible rfl))
  (try simp only [Act.put, List.setIfInBounds_toArray, List.set_cons_zero, List.set_cons_succ])
  refine takeH (i := 3) (v := ?_) (d := (some 13)) rfl (by kernel_rfl) (by kernel_rfl) (by kernel_rfl) rfl (fun _ _ _ h => h) (Or.inl ⟨by kernel_rfl, ?_⟩) (by assumption) ?_; rotate_left
  · (intro w hSw; (try dsimp only at hSw); have hq := HR.out _ hSw; first | (go_simp; done) | (go_simp; with_reducible rfl))
  (try simp only [Act.put, List.setIfInBounds_toArray, List.set_cons_zero, List.set_cons_succ])
  refine takeH (i := 4) (v := ?_) (d := (some 14)) rfl (by kernel_rfl) (by kernel_rfl) (by kernel_rfl) rfl (fun _ _ _ h => h) (Or.inl ⟨by kernel_rfl, ?_⟩) (by assumption) ?_; rotate_left
  · (intro w hSw; (try dsimp only at hSw); first | (go_simp; done) | (go_simp; with_reducible rfl))
  (try simp only [Act.put, List.setIfInBounds_toArray, List.set_cons_zero, List.set_cons_succ])
  have HU0 : Hid (Up w.heap.size w x0) := hHeld
  refine wpAnyH_ready (rs := [5, 10]) (by kernel_rfl) (by simp) (AllReadyH.cons rfl (fun K hK => ?_) (AllReadyH.cons rfl (fun K hK => ?_) AllReadyH.nil))
  · (try rw [if_pos (by kernel_rfl)])
    go_simp
    refine (CF.out x0 HU0.out).mono ?_
    rintro ev x1 ⟨rfl, hb9⟩
    have HU1 : Hid (Up w.heap.size w x1) := HU0.out.stay hb9
    clear hb9 hHeld HU0
    go_wp2_with fail
    refine hK.out _ _ HU1.out (fun hHeld => ?_)
    clear hK K
    (try dsimp only at hHeld)
    (try simp only [Act.put, List.setIfInBounds_toArray, List.set_cons_zero, List.set_cons_succ])
    refine takeH (i := 6) (v := ?_) (d := (some 16)) rfl (by kernel_rfl) (by kernel_rfl) (by kernel_rfl) rfl (fun _ _ _ h => h) (Or.inl ⟨by kernel_rfl, ?_⟩) (by assumption) ?_; rotate_left
    · (intro w hSw; (try dsimp only at hSw); have hq := HM.out _ hSw; first | (go_simp; done) | (go_simp; with_reducible rfl))
    (try simp only [Act.put, List.setIfInBounds_toArray, List.set_cons_zero, List.set_cons_succ])
    refine takeH (i := 7) (v := ?_) (d := (some 9)) rfl (by kernel_rfl) (by kernel_rfl) (by kernel_rfl) rfl (fun _ _ _ h => h) (Or.inl ⟨by kernel_rfl, ?_⟩) (by assumption) ?_; rotate_left
    · (intro w hSw; (try dsimp only at hSw); first | (go_simp; done) | (go_simp; with_reducible rfl))
    (try simp only [Act.put, List.setIfInBounds_toArray, List.set_cons_zero, List.set_cons_succ])
    refine takeH (i := 8) (v := ?_) (d := (some 17)) rfl (by kernel_rfl) (by kernel_rfl) (by kernel_rfl) rfl (fun _ _ _ h => h) (Or.inl ⟨by kernel_rfl, ?_⟩) (by assumption) ?_; rotate_left
    · (intro w hSw; (try dsimp only at hSw); first | (go_simp; done) | (go_simp; with_reducible rfl))
    (try simp only [Act.put, List.setIfInBounds_toArray, List.set_cons_zero, List.set_cons_succ])
    refine takeH (i := 9) (v := ?_) (d := (some 18)) rfl (by kernel_rfl) (by kernel_rfl) (by kernel_rfl) rfl (fun _ _ _ h => h) (Or.inl ⟨by kernel_rfl, ?_⟩) (by assumption) ?_; rotate_left
    · (intro w hSw; (try dsimp only at hSw); first | (go_simp; done) | (go_simp; with_reducible rfl))
    (try simp only [Act.put, List.setIfInBounds_toArray, List.set_cons_zero, List.set_cons_succ])
    refine wpAnyH_ready (rs := [10]) (by kernel_rfl) (by simp) (AllReadyH.cons rfl (fun K hK => ?_) AllReadyH.nil)
    (try rw [if_pos (by kernel_rfl)])
    go_simp
    obtain ⟨W, hW⟩ : ∃ W, x1.alloc (.cells #[] 56) = W := ⟨_, rfl⟩
    have HU2 : Hid (Up w.heap.size w W) := by rw [← hW]; exact HU1.out.alloc _
    have hst : W.heap[x1.heap.size]? = some (.cells #[] 56) := by rw [← hW]; exact heap_alloc_new _ _
    obtain ⟨D, hD⟩ : ∃ D, x1.heap.size = D := ⟨_, rfl⟩
    rw [hD] at hst
    (try rw [hW])
    (try rw [hD])
    clear hW hD hHeld HU1
    refine hK.out _ _ HU2.out (fun hHeld => ?_)
    clear hK K
    (try dsimp only at hHeld)
    (try simp only [Act.put, List.setIfInBounds_toArray, List.set_cons_zero, List.set_cons_succ])
    refine wpAnyH_ready (rs := [11]) (by kernel_rfl) (by simp) (AllReadyH.cons rfl (fun K hK => ?_) AllReadyH.nil)
    (try rw [if_pos (by kernel_rfl)])
    go_simp
    refine hK.out _ _ HU2.out (fun hHeld => ?_)
    clear hK K
    (try dsimp only at hHeld)
    (try simp only [Act.put, List.setIfInBounds_toArray, List.set_cons_zero, List.set_cons_succ])
    refine takeH (i := 12) (v := ?_) (d := (some 6)) rfl (by kernel_rfl) (by kernel_rfl) (by kernel_rfl) rfl (fun _ _ _ h => h) (Or.inl ⟨by kernel_rfl, ?_⟩) (by assumption) ?_; rotate_left
    · (intro w hSw; (try dsimp only at hSw); first | (go_simp; done) | (go_simp; with_reducible rfl))
    (try simp only [Act.put, List.setIfInBounds_toArray, List.set_cons_zero, List.set_cons_succ])
    refine wpAnyH_done (by kernel_rfl) ?_ _
    clear hHeld
    go_wp2
    go_ret
    exact ⟨rfl, HU2.out.1⟩
  · (try rw [if_pos (by kernel_rfl)])
    go_simp
    obtain ⟨W, hW⟩ : ∃ W, x0.alloc (.cells #[] 56) = W := ⟨_, rfl⟩
    have HU1 : Hid (Up w.heap.size w W) := by rw [← hW]; exact HU0.out.alloc _
    have hst : W.heap[x0.heap.size]? = some (.cells #[] 56) := by rw [← hW]; exact heap_alloc_new _ _
    obtain ⟨D, hD⟩ : ∃ D, x0.heap.size = D := ⟨_, rfl⟩
    rw [hD] at hst
    (try rw [hW])
    (try rw [hD])
    clear hW hD hHeld HU0
    refine hK.out _ _ HU1.out (fun hHeld => ?_)
    clear hK K
    (try dsimp only at hHeld)
    (try simp only [Act.put, List.setIfInBounds_toArray, List.set_cons_zero, List.set_cons_succ])
    refine wpAnyH_ready (rs := [5]) (by kernel_rfl) (by simp) (AllReadyH.cons rfl (fun K hK => ?_) AllReadyH.nil)
    (try rw [if_pos (by kernel_rfl)])
    go_simp
    refine (CF.out W HU1.out).mono ?_
    rintro ev x2 ⟨rfl, hb9⟩
    have HU2 : Hid (Up w.heap.size w x2) := HU1.out.stay hb9
    have hst2 : x2.heap[D]? = some (.cells #[] 56) := by rw [hb9.block D (Array.getElem?_eq_some_iff.1 hst).1]; exact hst
    clear hb9 hHeld HU1 hst
    go_wp2_with fail
    refine hK.out _ _ HU2.out (fun hHeld => ?_)
    clear hK K
    (try dsimp only at hHeld)
    (try simp only [Act.put, List.setIfInBounds_toArray, List.set_cons_zero, List.set_cons_succ])
    refine takeH (i := 6) (v := ?_) (d := (some 16)) rfl (by kernel_rfl) (by kernel_rfl) (by kernel_rfl) rfl (fun _ _ _ h => h) (Or.inl ⟨by kernel_rfl, ?_⟩) (by assumption) ?_; rotate_left
    · (intro w hSw; (try dsimp only at hSw); have hq := HM.out _ hSw; first | (go_simp; done) | (go_simp; with_reducible rfl))
    (try simp only [Act.put, List.setIfInBounds_toArray, List.set_cons_zero, List.set_cons_succ])
    refine takeH (i := 7) (v := ?_) (d := (some 9)) rfl (by kernel_rfl) (by kernel_rfl) (by kernel_rfl) rfl (fun _ _ _ h => h) (Or.inl ⟨by kernel_rfl, ?_⟩) (by assumption) ?_; rotate_left
    · (intro w hSw; (try dsimp only at hSw); first | (go_simp; done) | (go_simp; with_reducible rfl))
    (try simp only [Act.put, List.setIfInBounds_toArray, List.set_cons_zero, List.set_cons_succ])
    refine takeH (i := 8) (v := ?_) (d := (some 17)) rfl (by kernel_rfl) (by kernel_rfl) (by kernel_rfl) rfl (fun _ _ _ h => h) (Or.inl ⟨by kernel_rfl, ?_⟩) (by assumption) ?_; rotate_left
    · (intro w hSw; (try dsimp only at hSw); first | (go_simp; done) | (go_simp; with_reducible rfl))
    (try simp only [Act.put, List.setIfInBounds_toArray, List.set_cons_zero, List.set_cons_succ])
    refine takeH (i := 9) (v := ?_) (d := (some 18)) rfl (by kernel_rfl) (by kernel_rfl) (by kernel_rfl) rfl (fun _ _ _ h => h) (Or.inl ⟨by kernel_rfl, ?_⟩) (by assumption) ?_; rotate_left
    · (intro w hSw; (try dsimp only at hSw); first | (go_simp; done) | (go_simp; with_reducible rfl))
    (try simp only [Act.put, List.setIfInBounds_toArray, List.set_cons_zero, List.set_cons_succ])
    refine wpAnyH_ready (rs := [11]) (by kernel_rfl) (by simp) (AllReadyH.cons rfl (fun K hK => ?_) AllReadyH.nil)
    (try rw [if_pos (by kernel_rfl)])
    go_simp
    refine hK.out _ _ HU2.out (fun hHeld => ?_)
    clear hK K
    (try dsimp only at hHeld)
    (try simp only [Act.put, List.setIfInBounds_toArray, List.set_cons_zero, List.set_cons_succ])
    refine takeH (i := 12) (v := ?_) (d := (some 6)) rfl (by kernel_rfl) (by kernel_rfl) (by kernel_rfl) rfl (fun _ _ _ h => h) (Or.inl ⟨by kernel_rfl, ?_⟩) (by assumption) ?_; rotate_left
    · (intro w hSw; (try dsimp only at hSw); first | (go_simp; done) | (go_simp; with_reducible rfl))
    (try simp only [Act.put, List.setIfInBounds_toArray, List.set_cons_zero, List.set_cons_succ])
    refine wpAnyH_done (by kernel_rfl) ?_ _
    clear hHeld
    go_wp2
    go_ret
    exact ⟨rfl, HU2.out.1⟩
end Go.Proofs.YteeeekpeokgaeaaDoor
