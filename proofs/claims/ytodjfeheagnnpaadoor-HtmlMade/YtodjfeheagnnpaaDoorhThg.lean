/- html: thing. -/
import Derived.Test.YtodjfeheagnnpaaDoorhLexP
namespace Go.Proofs.YtodjfeheagnnpaaDoor
set_option linter.unusedVariables false
open Go.RowKit Go.ChangeShapes
/-- What the package's variables hold. -/
def kdV : List Value := [.string ⟨#[60, 33, 45, 45]⟩, .string ⟨#[45, 45, 62]⟩, .int .u8 3, .string ⟨#[60, 33, 91, 67, 68, 65, 84, 65, 91]⟩, .string ⟨#[93, 93, 62]⟩, .int .u8 6, .string ⟨#[60, 33]⟩, .string ⟨#[62]⟩, .int .u8 2, .string ⟨#[60, 63]⟩, .string ⟨#[62]⟩, .int .u8 2]
def Glo (w : World) : Prop := (∃ m, w.cell? ⟨1, 0, none⟩ = some (.int .i64 m)) ∧ ∀ j v, kdV[j]? = some v → w.cell? ⟨0, j, none⟩ = some v
theorem Glo.stay {w w' : World} (h : Glo w) (hb : Below w.heap.size w w') : Glo w' := by
  obtain ⟨⟨m, hm⟩, hk⟩ := h
  exact ⟨⟨m, cell_stay hm hb⟩, fun j v hv => cell_stay (hk j v hv) hb⟩
theorem Glo.grown {w w' : World} {g : Nat} (h : Glo w) (hb : w.grownBy w' (some g)) (hg : 1 < g) : Glo w' := by
  obtain ⟨⟨m, hm⟩, hk⟩ := h
  exact ⟨⟨m, cell_grown hm hb (by simp; omega)⟩, fun j v hv => cell_grown (hk j v hv) hb (by simp; omega)⟩
theorem kd_at {c : Nat → Int} {i k : Nat} (hk : k < 4) (h : ∀ j, j < k → oc (kdO j) c i = false) (ho : oc (kdO k) c i = true) : kd c i = k := by
  unfold kd
  match k, hk with
  | 0, _ => rw [if_pos ho]
  | 1, _ => rw [if_neg (by rw [h 0 (by omega)]; exact Bool.false_ne_true), if_pos ho]
  | 2, _ => rw [if_neg (by rw [h 0 (by omega)]; exact Bool.false_ne_true), if_neg (by rw [h 1 (by omega)]; exact Bool.false_ne_true), if_pos ho]
  | 3, _ => rw [if_neg (by rw [h 0 (by omega)]; exact Bool.false_ne_true), if_neg (by rw [h 1 (by omega)]; exact Bool.false_ne_true), if_neg (by rw [h 2 (by omega)]; exact Bool.false_ne_true), if_pos ho]
theorem kd_no {c : Nat → Int} {i : Nat} (h : ∀ j, j < 4 → oc (kdO j) c i = false) : kd c i = 4 := by
  unfold kd
  rw [if_neg (by rw [h 0 (by omega)]; exact Bool.false_ne_true), if_neg (by rw [h 1 (by omega)]; exact Bool.false_ne_true), if_neg (by rw [h 2 (by omega)]; exact Bool.false_ne_true), if_neg (by rw [h 3 (by omega)]; exact Bool.false_ne_true)]
set_option maxRecDepth 100000 in
set_option maxHeartbeats 2000000 in
theorem thing_any {w : World} {b off n cap T g : Nat} {c L : Nat → Int} (hC : Ch c n) (h : BC w (some ⟨b, off, none⟩) n c) (hn : n ≤ 65536) (hcap : n ≤ cap) (hS : Sh w T g n L) (hbg : b ≠ g) (hG : Glo w) (hg1 : 1 < g) (i : Nat) (hi : i < n) :
    Calls Tryd.prog 34 #[.pointer (some ⟨T, 0, none⟩), .slice (some ⟨b, off, none⟩) n cap, .int .i64 i] w fun ev w' => ev = .returned (.int .i64 (nxE c n i : Nat)) ∧ Sh w' T g n (nxL L c n i) ∧ w.grownBy w' (some g) := by
  have k0 : w.cell? ⟨0, 0, none⟩ = some (.string (strOfNums (kdO 0))) := hG.2 0 _ rfl
  have k1 : w.cell? ⟨0, 1, none⟩ = some (.string (strOfNums (kdS 0))) := hG.2 1 _ rfl
  have k2 : w.cell? ⟨0, 2, none⟩ = some (.int .u8 3) := hG.2 2 _ rfl
  have k3 : w.cell? ⟨0, 3, none⟩ = some (.string (strOfNums (kdO 1))) := hG.2 3 _ rfl
  have k4 : w.cell? ⟨0, 4, none⟩ = some (.string (strOfNums (kdS 1))) := hG.2 4 _ rfl
  have k5 : w.cell? ⟨0, 5, none⟩ = some (.int .u8 6) := hG.2 5 _ rfl
  have k6 : w.cell? ⟨0, 6, none⟩ = some (.string (strOfNums (kdO 2))) := hG.2 6 _ rfl
  have k7 : w.cell? ⟨0, 7, none⟩ = some (.string (strOfNums (kdS 2))) := hG.2 7 _ rfl
  have k8 : w.cell? ⟨0, 8, none⟩ = some (.int .u8 2) := hG.2 8 _ rfl
  have k9 : w.cell? ⟨0, 9, none⟩ = some (.string (strOfNums (kdO 3))) := hG.2 9 _ rfl
  have k10 : w.cell? ⟨0, 10, none⟩ = some (.string (strOfNums (kdS 3))) := hG.2 10 _ rfl
  have k11 : w.cell? ⟨0, 11, none⟩ = some (.int .u8 2) := hG.2 11 _ rfl
  obtain ⟨so0, hso0⟩ : ∃ s, strOfNums (kdO 0) = s := ⟨_, rfl⟩
  obtain ⟨ss0, hss0⟩ : ∃ s, strOfNums (kdS 0) = s := ⟨_, rfl⟩
  rw [hso0] at k0
  rw [hss0] at k1
  have hz0 : so0.size = 4 := by rw [← hso0]; rfl
  have HO0 : Hid (strOfNums (kdO 0) = so0 ∧ strOfNums (kdS 0) = ss0) := ⟨hso0, hss0⟩
  clear hso0 hss0
  obtain ⟨so1, hso1⟩ : ∃ s, strOfNums (kdO 1) = s := ⟨_, rfl⟩
  obtain ⟨ss1, hss1⟩ : ∃ s, strOfNums (kdS 1) = s := ⟨_, rfl⟩
  rw [hso1] at k3
  rw [hss1] at k4
  have hz1 : so1.size = 9 := by rw [← hso1]; rfl
  have HO1 : Hid (strOfNums (kdO 1) = so1 ∧ strOfNums (kdS 1) = ss1) := ⟨hso1, hss1⟩
  clear hso1 hss1
  obtain ⟨so2, hso2⟩ : ∃ s, strOfNums (kdO 2) = s := ⟨_, rfl⟩
  obtain ⟨ss2, hss2⟩ : ∃ s, strOfNums (kdS 2) = s := ⟨_, rfl⟩
  rw [hso2] at k6
  rw [hss2] at k7
  have hz2 : so2.size = 2 := by rw [← hso2]; rfl
  have HO2 : Hid (strOfNums (kdO 2) = so2 ∧ strOfNums (kdS 2) = ss2) := ⟨hso2, hss2⟩
  clear hso2 hss2
  obtain ⟨so3, hso3⟩ : ∃ s, strOfNums (kdO 3) = s := ⟨_, rfl⟩
  obtain ⟨ss3, hss3⟩ : ∃ s, strOfNums (kdS 3) = s := ⟨_, rfl⟩
  rw [hso3] at k9
  rw [hss3] at k10
  have hz3 : so3.size = 2 := by rw [← hso3]; rfl
  have HO3 : Hid (strOfNums (kdO 3) = so3 ∧ strOfNums (kdS 3) = ss3) := ⟨hso3, hss3⟩
  clear hso3 hss3
  obtain ⟨R, hR⟩ : ∃ R, nxE c n i = R := ⟨_, rfl⟩
  obtain ⟨M, hM⟩ : ∃ M, nxL L c n i = M := ⟨_, rfl⟩
  rw [hR, hM]
  have HR : Hid (nxE c n i = R ∧ nxL L c n i = M) := ⟨hR, hM⟩
  have HH : Hid (BC w (some ⟨b, off, none⟩) n c ∧ Ch c n ∧ Sh w T g n L ∧ Glo w) := ⟨h, hC, hS, hG⟩
  have z1 : (0 : Int) ≤ (i : Int) := by omega
  have z2 : (i : Int) ≤ (n : Int) := by omega
  have z3 : ¬ cap = i := by omega
  clear hR hM h hC hS hG
  go_enter Tryd.func34, Tryd.ntmps34
  go_wp2_with fail
  clear k0 k1 k2 k3 k4 k5 k6 k7 k8 k9 k10 k11
  go_loopg [13] 4 (fun q kv wr => ∃ k : Nat, k ≤ 4 ∧ q = 4 - k ∧ kv = .int .i64 k ∧ Hid (∀ j, j < k → oc (kdO j) c i = false) ∧ Hid (Below w.heap.size w wr))
  case atStart => exact ⟨0, Nat.zero_le _, rfl, rfl, fun j hj => absurd hj (Nat.not_lt_zero _), Below.refl _ _⟩
  case round =>
    obtain ⟨k, hk, hq, rfl, HN, HW⟩ := hrel
    by_cases hlt : k < 4
    · have hcs : k = 0 ∨ k = 1 ∨ k = 2 ∨ k = 3 := by omega
      rcases hcs with rfl | rfl | rfl | rfl
      · have hix : ∀ w, (Instr.index 94 (.agg #[.string so0, .string ss0, .int .u8 3, .string so1, .string ss1, .int .u8 6, .string so2, .string ss2, .int .u8 2, .string so3, .string ss3, .int .u8 2]) (.int .i64 0)).run Tryd.prog w = .ok (.agg #[.string so0, .string ss0, .int .u8 3]) w := fun w => by kernel_rfl
        obtain ⟨V, hV⟩ : ∃ V, wr.alloc (.cells #[.string so0, .string ss0, .int .u8 3] 93) = V := ⟨_, rfl⟩
        have hbV : Below wr.heap.size wr V := by rw [← hV]; exact below_alloc wr _
        have hV0 : V.heap[wr.heap.size]? = some (.cells #[.string so0, .string ss0, .int .u8 3] 93) := by rw [← hV]; exact heap_alloc_new _ _
        obtain ⟨B, hB⟩ : ∃ B, wr.heap.size = B := ⟨_, rfl⟩
        have HBB : Hid (wr.heap.size = B) := hB
        have HV0 : Hid (V.heap[B]? = some (.cells #[.string so0, .string ss0, .int .u8 3] 93) ∧ Below w.heap.size w V) := by rw [← hB]; exact ⟨hV0, HW.out.trans (hbV.mono HW.out.size)⟩
        clear hV0 hbV hB
        go_upto_region 4 with fail
        rw [HBB.out]
        clear HBB hV
        have v0 : V.cell? ⟨B, 0, none⟩ = some (.string so0) := by simp [World.cell?, HV0.out.1]
        refine wp_region_held_drew (S := fun w' => w'.cell? ⟨B, 0, none⟩ = some (.string so0)) (by kernel_rfl) v0 (fun hHeld => ?_)
        refine takeH (i := 0) (v := ?_) (d := (some 16)) rfl (by kernel_rfl) (by kernel_rfl) (by kernel_rfl) rfl (fun _ _ _ h => h) (Or.inl ⟨by kernel_rfl, ?_⟩) (by first | assumption | trivial) ?_; rotate_left
        · (intro w hSw; (try dsimp only at hSw); first | (go_simp; done) | (go_simp; with_reducible rfl))
        (try simp only [Act.put, List.setIfInBounds_toArray, List.set_cons_zero, List.set_cons_succ])
        refine takeH (i := 1) (v := ?_) (d := (some 17)) rfl (by kernel_rfl) (by kernel_rfl) (by kernel_rfl) rfl (fun _ _ _ h => h) (Or.inl ⟨by kernel_rfl, ?_⟩) (by first | assumption | trivial) ?_; rotate_left
        · (intro w hSw; (try dsimp only at hSw); first | (go_simp; done) | (go_simp; with_reducible rfl))
        (try simp only [Act.put, List.setIfInBounds_toArray, List.set_cons_zero, List.set_cons_succ])
        refine takeH (i := 2) (v := ?_) (d := (some 18)) rfl (by kernel_rfl) (by kernel_rfl) (by kernel_rfl) rfl (fun _ _ _ h => h) (Or.inl ⟨by kernel_rfl, ?_⟩) (by first | assumption | trivial) ?_; rotate_left
        · (intro w hSw; (try dsimp only at hSw); first | (go_simp; done) | (go_simp; with_reducible rfl))
        (try simp only [Act.put, List.setIfInBounds_toArray, List.set_cons_zero, List.set_cons_succ])
        refine takeH (i := 3) (v := ?_) (d := (some 19)) rfl (by kernel_rfl) (by kernel_rfl) (by kernel_rfl) rfl (fun _ _ _ h => h) (Or.inl ⟨by kernel_rfl, ?_⟩) (by first | assumption | trivial) ?_; rotate_left
        · (intro w hSw; (try dsimp only at hSw); first | (go_simp; done) | (go_simp; with_reducible rfl))
        (try simp only [Act.put, List.setIfInBounds_toArray, List.set_cons_zero, List.set_cons_succ])
        refine takeH (i := 4) (v := ?_) (d := (some 20)) rfl (by kernel_rfl) (by kernel_rfl) (by kernel_rfl) rfl (fun _ _ _ h => h) (Or.inl ⟨by kernel_rfl, ?_⟩) (by first | assumption | trivial) ?_; rotate_left
        · (intro w hSw; (try dsimp only at hSw); first | (go_simp; done) | (go_simp; with_reducible rfl))
        (try simp only [Act.put, List.setIfInBounds_toArray, List.set_cons_zero, List.set_cons_succ])
        have hcv := Lib.run_convert_string_bytes (P := Tryd.prog) V.drew 9 22 5 so0 Tryd.underlying9 Tryd.underlying22 Tryd.underlying5
        have hbc := conv_bc V.drew (kdO 0) (kdO_byt 0)
        have hbw := conv_below V.drew (strOfNums (kdO 0))
        rw [HO0.out.1] at hbc hbw
        obtain ⟨D, hD⟩ : ∃ D, V.drew = D := ⟨_, rfl⟩
        have hbD : Below V.heap.size V D := by rw [← hD]; exact (Below.refl _ _).drew
        have hsD : V.heap.size = D.heap.size := by rw [← hD]; simp
        rw [hD] at hcv hbc hbw ⊢
        have hbV2 : Below V.heap.size V (Lib.bytesWorld D 5 so0) := hbD.trans (by rw [hsD]; exact hbw)
        generalize Lib.bytesWorld D 5 so0 = W2 at hcv hbc hbw hbV2
        generalize grownCap D so0.size 0 5 = gc at hcv
        have hV2 : W2.heap[B]? = some (.cells #[.string so0, .string ss0, .int .u8 3] 93) := blk_stay HV0.out.1 hbV2
        have HW2 : Hid (Below w.heap.size w W2) := HV0.out.2.trans (hbV2.mono HV0.out.2.size)
        refine wpAnyH_ready (rs := [5]) (by kernel_rfl) (by simp) (AllReadyH.cons rfl (fun K hK => ?_) AllReadyH.nil)
        rw [if_pos (by kernel_rfl)]
        go_simp
        refine hK.out _ _ (by simp [World.cell?, hV2]) (fun hHeld' => ?_)
        clear hK K hHeld hHeld' hcv hbw hbD hD
        (try simp only [Act.put, List.setIfInBounds_toArray, List.set_cons_zero, List.set_cons_succ])
        have hfr := BC.from (HH.out.1.stay HW2.out) i (by omega) hcap
        rw [if_neg z3] at hfr
        have chp := hasP_any (cap := cap - i) (d := gc) (HH.out.2.1.from i (by omega)) hfr (by omega) hbc rfl (kdO_byt 0)
        rw [oc_shift, Nat.add_zero] at chp
        change Calls _ _ #[_, .slice _ 4 _] _ _ at chp
        obtain ⟨ob, hob⟩ : ∃ ob, oc (kdO 0) c i = ob := ⟨_, rfl⟩
        rw [hob] at chp
        have HOB : Hid (oc (kdO 0) c i = ob) := hob
        clear hob
        clear hfr hbc
        refine wpAnyH_ready (rs := [6]) (by kernel_rfl) (by simp) (AllReadyH.cons rfl (fun K hK => ?_) AllReadyH.nil)
        go_simp
        refine chp.mono ?_
        rintro ev w3 ⟨rfl, hw⟩
        subst w3
        go_wp2_with fail
        refine hK.out _ _ (by simp [World.cell?, hV2]) (fun hHeld' => ?_)
        clear hK K hHeld' chp
        (try simp only [Act.put, List.setIfInBounds_toArray, List.set_cons_zero, List.set_cons_succ])
        refine wpAnyH_done (by kernel_rfl) ?_ _
        have y0 : W2.cell? ⟨B, 0, none⟩ = some (.string so0) := by simp [World.cell?, hV2]
        have y1 : W2.cell? ⟨B, 1, none⟩ = some (.string ss0) := by simp [World.cell?, hV2]
        cases ob with
        | false =>
          have HN2 : Hid (∀ j, j < 1 → oc (kdO j) c i = false) := fun j hj => by
            rcases Nat.lt_or_ge j 0 with h1 | h1
            · exact HN.out j h1
            · obtain rfl : j = 0 := by omega
              exact HOB.out
          clear hV2
          go_wp2
          go_roundg (4 - 1)
          case measure => omega
          case rel => exact ⟨1, by omega, rfl, by go_num, HN2, HW2⟩
        | true =>
          have hkd := kd_at (by omega) HN.out HOB.out
          have hle := kdE_le (n := n) HH.out.2.1.2 HOB.out
          obtain ⟨mx, hmx⟩ := (HH.out.2.2.2.stay HW2.out).1
          have cb := behind_any HH.out.2.1 (HH.out.1.stay HW2.out) (by omega) hcap (i + 4) hle.2.2 (kdS 0) (kdS_byt 0) (kdS_ne 0) (by decide) hmx
          rw [HO0.out.2, show ((i + 4 : Nat) : Int) = (i : Int) + 4 by omega] at cb
          change Calls _ _ _ _ (fun ev w' => ev = .returned (.int .i64 (kdE c n i 0 : Nat)) ∧ Below W2.heap.size W2 w') at cb
          have HE : Hid (R = kdE c n i 0 ∧ M = setL L 3 (i : Int) ((kdE c n i 0 : Nat) : Int)) := by
            obtain ⟨h1, h2⟩ := HR.out
            unfold nxE at h1
            unfold nxL at h2
            rw [hkd, if_pos (by omega)] at h1 h2
            exact ⟨h1.symm, h2.symm⟩
          obtain ⟨E, hE⟩ : ∃ E, kdE c n i 0 = E := ⟨_, rfl⟩
          rw [hE] at cb HE
          have HV2 : Hid (W2.heap[B]? = some (.cells #[.string so0, .string ss0, .int .u8 3] 93)) := hV2
          clear hkd hle hmx hE hV2
          go_wp2_with fail
          refine cb.mono ?_
          rintro ev w3 ⟨rfl, hb3⟩
          have h3 := blk_stay HV2.out hb3
          have y2 : w3.cell? ⟨B, 2, none⟩ = some (.int .u8 3) := by simp [World.cell?, h3]
          have HB3 : Hid (Below w.heap.size w w3) := HW2.out.trans (hb3.mono HW2.out.size)
          have cs := set_any (HH.out.2.2.1.stay HB3.out) hn 3 (i : Int) (E : Int)
          clear cb hb3 h3 y0 y1
          go_wp2_with fail
          refine cs.mono ?_
          rintro ev w4 ⟨rfl, h41, h42, -⟩
          have HS4 : Hid (Sh w4 T g n (setL L 3 (i : Int) (E : Int)) ∧ w.grownBy w4 (some g)) := ⟨h41, grown_trans (grown_of HB3.out _) h42⟩
          clear cs h41 h42
          go_wp2
          go_ret
          exact ⟨by rw [HE.out.1]; rfl, by rw [HE.out.2]; exact HS4.out.1, HS4.out.2⟩
      · have hix : ∀ w, (Instr.index 94 (.agg #[.string so0, .string ss0, .int .u8 3, .string so1, .string ss1, .int .u8 6, .string so2, .string ss2, .int .u8 2, .string so3, .string ss3, .int .u8 2]) (.int .i64 1)).run Tryd.prog w = .ok (.agg #[.string so1, .string ss1, .int .u8 6]) w := fun w => by kernel_rfl
        obtain ⟨V, hV⟩ : ∃ V, wr.alloc (.cells #[.string so1, .string ss1, .int .u8 6] 93) = V := ⟨_, rfl⟩
        have hbV : Below wr.heap.size wr V := by rw [← hV]; exact below_alloc wr _
        have hV0 : V.heap[wr.heap.size]? = some (.cells #[.string so1, .string ss1, .int .u8 6] 93) := by rw [← hV]; exact heap_alloc_new _ _
        obtain ⟨B, hB⟩ : ∃ B, wr.heap.size = B := ⟨_, rfl⟩
        have HBB : Hid (wr.heap.size = B) := hB
        have HV0 : Hid (V.heap[B]? = some (.cells #[.string so1, .string ss1, .int .u8 6] 93) ∧ Below w.heap.size w V) := by rw [← hB]; exact ⟨hV0, HW.out.trans (hbV.mono HW.out.size)⟩
        clear hV0 hbV hB
        go_upto_region 4 with fail
        rw [HBB.out]
        clear HBB hV
        have v0 : V.cell? ⟨B, 0, none⟩ = some (.string so1) := by simp [World.cell?, HV0.out.1]
        refine wp_region_held_drew (S := fun w' => w'.cell? ⟨B, 0, none⟩ = some (.string so1)) (by kernel_rfl) v0 (fun hHeld => ?_)
        refine takeH (i := 0) (v := ?_) (d := (some 16)) rfl (by kernel_rfl) (by kernel_rfl) (by kernel_rfl) rfl (fun _ _ _ h => h) (Or.inl ⟨by kernel_rfl, ?_⟩) (by first | assumption | trivial) ?_; rotate_left
        · (intro w hSw; (try dsimp only at hSw); first | (go_simp; done) | (go_simp; with_reducible rfl))
        (try simp only [Act.put, List.setIfInBounds_toArray, List.set_cons_zero, List.set_cons_succ])
        refine takeH (i := 1) (v := ?_) (d := (some 17)) rfl (by kernel_rfl) (by kernel_rfl) (by kernel_rfl) rfl (fun _ _ _ h => h) (Or.inl ⟨by kernel_rfl, ?_⟩) (by first | assumption | trivial) ?_; rotate_left
        · (intro w hSw; (try dsimp only at hSw); first | (go_simp; done) | (go_simp; with_reducible rfl))
        (try simp only [Act.put, List.setIfInBounds_toArray, List.set_cons_zero, List.set_cons_succ])
        refine takeH (i := 2) (v := ?_) (d := (some 18)) rfl (by kernel_rfl) (by kernel_rfl) (by kernel_rfl) rfl (fun _ _ _ h => h) (Or.inl ⟨by kernel_rfl, ?_⟩) (by first | assumption | trivial) ?_; rotate_left
        · (intro w hSw; (try dsimp only at hSw); first | (go_simp; done) | (go_simp; with_reducible rfl))
        (try simp only [Act.put, List.setIfInBounds_toArray, List.set_cons_zero, List.set_cons_succ])
        refine takeH (i := 3) (v := ?_) (d := (some 19)) rfl (by kernel_rfl) (by kernel_rfl) (by kernel_rfl) rfl (fun _ _ _ h => h) (Or.inl ⟨by kernel_rfl, ?_⟩) (by first | assumption | trivial) ?_; rotate_left
        · (intro w hSw; (try dsimp only at hSw); first | (go_simp; done) | (go_simp; with_reducible rfl))
        (try simp only [Act.put, List.setIfInBounds_toArray, List.set_cons_zero, List.set_cons_succ])
        refine takeH (i := 4) (v := ?_) (d := (some 20)) rfl (by kernel_rfl) (by kernel_rfl) (by kernel_rfl) rfl (fun _ _ _ h => h) (Or.inl ⟨by kernel_rfl, ?_⟩) (by first | assumption | trivial) ?_; rotate_left
        · (intro w hSw; (try dsimp only at hSw); first | (go_simp; done) | (go_simp; with_reducible rfl))
        (try simp only [Act.put, List.setIfInBounds_toArray, List.set_cons_zero, List.set_cons_succ])
        have hcv := Lib.run_convert_string_bytes (P := Tryd.prog) V.drew 9 22 5 so1 Tryd.underlying9 Tryd.underlying22 Tryd.underlying5
        have hbc := conv_bc V.drew (kdO 1) (kdO_byt 1)
        have hbw := conv_below V.drew (strOfNums (kdO 1))
        rw [HO1.out.1] at hbc hbw
        obtain ⟨D, hD⟩ : ∃ D, V.drew = D := ⟨_, rfl⟩
        have hbD : Below V.heap.size V D := by rw [← hD]; exact (Below.refl _ _).drew
        have hsD : V.heap.size = D.heap.size := by rw [← hD]; simp
        rw [hD] at hcv hbc hbw ⊢
        have hbV2 : Below V.heap.size V (Lib.bytesWorld D 5 so1) := hbD.trans (by rw [hsD]; exact hbw)
        generalize Lib.bytesWorld D 5 so1 = W2 at hcv hbc hbw hbV2
        generalize grownCap D so1.size 0 5 = gc at hcv
        have hV2 : W2.heap[B]? = some (.cells #[.string so1, .string ss1, .int .u8 6] 93) := blk_stay HV0.out.1 hbV2
        have HW2 : Hid (Below w.heap.size w W2) := HV0.out.2.trans (hbV2.mono HV0.out.2.size)
        refine wpAnyH_ready (rs := [5]) (by kernel_rfl) (by simp) (AllReadyH.cons rfl (fun K hK => ?_) AllReadyH.nil)
        rw [if_pos (by kernel_rfl)]
        go_simp
        refine hK.out _ _ (by simp [World.cell?, hV2]) (fun hHeld' => ?_)
        clear hK K hHeld hHeld' hcv hbw hbD hD
        (try simp only [Act.put, List.setIfInBounds_toArray, List.set_cons_zero, List.set_cons_succ])
        have hfr := BC.from (HH.out.1.stay HW2.out) i (by omega) hcap
        rw [if_neg z3] at hfr
        have chp := hasP_any (cap := cap - i) (d := gc) (HH.out.2.1.from i (by omega)) hfr (by omega) hbc rfl (kdO_byt 1)
        rw [oc_shift, Nat.add_zero] at chp
        change Calls _ _ #[_, .slice _ 9 _] _ _ at chp
        obtain ⟨ob, hob⟩ : ∃ ob, oc (kdO 1) c i = ob := ⟨_, rfl⟩
        rw [hob] at chp
        have HOB : Hid (oc (kdO 1) c i = ob) := hob
        clear hob
        clear hfr hbc
        refine wpAnyH_ready (rs := [6]) (by kernel_rfl) (by simp) (AllReadyH.cons rfl (fun K hK => ?_) AllReadyH.nil)
        go_simp
        refine chp.mono ?_
        rintro ev w3 ⟨rfl, hw⟩
        subst w3
        go_wp2_with fail
        refine hK.out _ _ (by simp [World.cell?, hV2]) (fun hHeld' => ?_)
        clear hK K hHeld' chp
        (try simp only [Act.put, List.setIfInBounds_toArray, List.set_cons_zero, List.set_cons_succ])
        refine wpAnyH_done (by kernel_rfl) ?_ _
        have y0 : W2.cell? ⟨B, 0, none⟩ = some (.string so1) := by simp [World.cell?, hV2]
        have y1 : W2.cell? ⟨B, 1, none⟩ = some (.string ss1) := by simp [World.cell?, hV2]
        cases ob with
        | false =>
          have HN2 : Hid (∀ j, j < 2 → oc (kdO j) c i = false) := fun j hj => by
            rcases Nat.lt_or_ge j 1 with h1 | h1
            · exact HN.out j h1
            · obtain rfl : j = 1 := by omega
              exact HOB.out
          clear hV2
          go_wp2
          go_roundg (4 - 2)
          case measure => omega
          case rel => exact ⟨2, by omega, rfl, by go_num, HN2, HW2⟩
        | true =>
          have hkd := kd_at (by omega) HN.out HOB.out
          have hle := kdE_le (n := n) HH.out.2.1.2 HOB.out
          obtain ⟨mx, hmx⟩ := (HH.out.2.2.2.stay HW2.out).1
          have cb := behind_any HH.out.2.1 (HH.out.1.stay HW2.out) (by omega) hcap (i + 9) hle.2.2 (kdS 1) (kdS_byt 1) (kdS_ne 1) (by decide) hmx
          rw [HO1.out.2, show ((i + 9 : Nat) : Int) = (i : Int) + 9 by omega] at cb
          change Calls _ _ _ _ (fun ev w' => ev = .returned (.int .i64 (kdE c n i 1 : Nat)) ∧ Below W2.heap.size W2 w') at cb
          have HE : Hid (R = kdE c n i 1 ∧ M = setL L 6 (i : Int) ((kdE c n i 1 : Nat) : Int)) := by
            obtain ⟨h1, h2⟩ := HR.out
            unfold nxE at h1
            unfold nxL at h2
            rw [hkd, if_pos (by omega)] at h1 h2
            exact ⟨h1.symm, h2.symm⟩
          obtain ⟨E, hE⟩ : ∃ E, kdE c n i 1 = E := ⟨_, rfl⟩
          rw [hE] at cb HE
          have HV2 : Hid (W2.heap[B]? = some (.cells #[.string so1, .string ss1, .int .u8 6] 93)) := hV2
          clear hkd hle hmx hE hV2
          go_wp2_with fail
          refine cb.mono ?_
          rintro ev w3 ⟨rfl, hb3⟩
          have h3 := blk_stay HV2.out hb3
          have y2 : w3.cell? ⟨B, 2, none⟩ = some (.int .u8 6) := by simp [World.cell?, h3]
          have HB3 : Hid (Below w.heap.size w w3) := HW2.out.trans (hb3.mono HW2.out.size)
          have cs := set_any (HH.out.2.2.1.stay HB3.out) hn 6 (i : Int) (E : Int)
          clear cb hb3 h3 y0 y1
          go_wp2_with fail
          refine cs.mono ?_
          rintro ev w4 ⟨rfl, h41, h42, -⟩
          have HS4 : Hid (Sh w4 T g n (setL L 6 (i : Int) (E : Int)) ∧ w.grownBy w4 (some g)) := ⟨h41, grown_trans (grown_of HB3.out _) h42⟩
          clear cs h41 h42
          go_wp2
          go_ret
          exact ⟨by rw [HE.out.1]; rfl, by rw [HE.out.2]; exact HS4.out.1, HS4.out.2⟩
      · have hix : ∀ w, (Instr.index 94 (.agg #[.string so0, .string ss0, .int .u8 3, .string so1, .string ss1, .int .u8 6, .string so2, .string ss2, .int .u8 2, .string so3, .string ss3, .int .u8 2]) (.int .i64 2)).run Tryd.prog w = .ok (.agg #[.string so2, .string ss2, .int .u8 2]) w := fun w => by kernel_rfl
        obtain ⟨V, hV⟩ : ∃ V, wr.alloc (.cells #[.string so2, .string ss2, .int .u8 2] 93) = V := ⟨_, rfl⟩
        have hbV : Below wr.heap.size wr V := by rw [← hV]; exact below_alloc wr _
        have hV0 : V.heap[wr.heap.size]? = some (.cells #[.string so2, .string ss2, .int .u8 2] 93) := by rw [← hV]; exact heap_alloc_new _ _
        obtain ⟨B, hB⟩ : ∃ B, wr.heap.size = B := ⟨_, rfl⟩
        have HBB : Hid (wr.heap.size = B) := hB
        have HV0 : Hid (V.heap[B]? = some (.cells #[.string so2, .string ss2, .int .u8 2] 93) ∧ Below w.heap.size w V) := by rw [← hB]; exact ⟨hV0, HW.out.trans (hbV.mono HW.out.size)⟩
        clear hV0 hbV hB
        go_upto_region 4 with fail
        rw [HBB.out]
        clear HBB hV
        have v0 : V.cell? ⟨B, 0, none⟩ = some (.string so2) := by simp [World.cell?, HV0.out.1]
        refine wp_region_held_drew (S := fun w' => w'.cell? ⟨B, 0, none⟩ = some (.string so2)) (by kernel_rfl) v0 (fun hHeld => ?_)
        refine takeH (i := 0) (v := ?_) (d := (some 16)) rfl (by kernel_rfl) (by kernel_rfl) (by kernel_rfl) rfl (fun _ _ _ h => h) (Or.inl ⟨by kernel_rfl, ?_⟩) (by first | assumption | trivial) ?_; rotate_left
        · (intro w hSw; (try dsimp only at hSw); first | (go_simp; done) | (go_simp; with_reducible rfl))
        (try simp only [Act.put, List.setIfInBounds_toArray, List.set_cons_zero, List.set_cons_succ])
        refine takeH (i := 1) (v := ?_) (d := (some 17)) rfl (by kernel_rfl) (by kernel_rfl) (by kernel_rfl) rfl (fun _ _ _ h => h) (Or.inl ⟨by kernel_rfl, ?_⟩) (by first | assumption | trivial) ?_; rotate_left
        · (intro w hSw; (try dsimp only at hSw); first | (go_simp; done) | (go_simp; with_reducible rfl))
        (try simp only [Act.put, List.setIfInBounds_toArray, List.set_cons_zero, List.set_cons_succ])
        refine takeH (i := 2) (v := ?_) (d := (some 18)) rfl (by kernel_rfl) (by kernel_rfl) (by kernel_rfl) rfl (fun _ _ _ h => h) (Or.inl ⟨by kernel_rfl, ?_⟩) (by first | assumption | trivial) ?_; rotate_left
        · (intro w hSw; (try dsimp only at hSw); first | (go_simp; done) | (go_simp; with_reducible rfl))
        (try simp only [Act.put, List.setIfInBounds_toArray, List.set_cons_zero, List.set_cons_succ])
        refine takeH (i := 3) (v := ?_) (d := (some 19)) rfl (by kernel_rfl) (by kernel_rfl) (by kernel_rfl) rfl (fun _ _ _ h => h) (Or.inl ⟨by kernel_rfl, ?_⟩) (by first | assumption | trivial) ?_; rotate_left
        · (intro w hSw; (try dsimp only at hSw); first | (go_simp; done) | (go_simp; with_reducible rfl))
        (try simp only [Act.put, List.setIfInBounds_toArray, List.set_cons_zero, List.set_cons_succ])
        refine takeH (i := 4) (v := ?_) (d := (some 20)) rfl (by kernel_rfl) (by kernel_rfl) (by kernel_rfl) rfl (fun _ _ _ h => h) (Or.inl ⟨by kernel_rfl, ?_⟩) (by first | assumption | trivial) ?_; rotate_left
        · (intro w hSw; (try dsimp only at hSw); first | (go_simp; done) | (go_simp; with_reducible rfl))
        (try simp only [Act.put, List.setIfInBounds_toArray, List.set_cons_zero, List.set_cons_succ])
        have hcv := Lib.run_convert_string_bytes (P := Tryd.prog) V.drew 9 22 5 so2 Tryd.underlying9 Tryd.underlying22 Tryd.underlying5
        have hbc := conv_bc V.drew (kdO 2) (kdO_byt 2)
        have hbw := conv_below V.drew (strOfNums (kdO 2))
        rw [HO2.out.1] at hbc hbw
        obtain ⟨D, hD⟩ : ∃ D, V.drew = D := ⟨_, rfl⟩
        have hbD : Below V.heap.size V D := by rw [← hD]; exact (Below.refl _ _).drew
        have hsD : V.heap.size = D.heap.size := by rw [← hD]; simp
        rw [hD] at hcv hbc hbw ⊢
        have hbV2 : Below V.heap.size V (Lib.bytesWorld D 5 so2) := hbD.trans (by rw [hsD]; exact hbw)
        generalize Lib.bytesWorld D 5 so2 = W2 at hcv hbc hbw hbV2
        generalize grownCap D so2.size 0 5 = gc at hcv
        have hV2 : W2.heap[B]? = some (.cells #[.string so2, .string ss2, .int .u8 2] 93) := blk_stay HV0.out.1 hbV2
        have HW2 : Hid (Below w.heap.size w W2) := HV0.out.2.trans (hbV2.mono HV0.out.2.size)
        refine wpAnyH_ready (rs := [5]) (by kernel_rfl) (by simp) (AllReadyH.cons rfl (fun K hK => ?_) AllReadyH.nil)
        rw [if_pos (by kernel_rfl)]
        go_simp
        refine hK.out _ _ (by simp [World.cell?, hV2]) (fun hHeld' => ?_)
        clear hK K hHeld hHeld' hcv hbw hbD hD
        (try simp only [Act.put, List.setIfInBounds_toArray, List.set_cons_zero, List.set_cons_succ])
        have hfr := BC.from (HH.out.1.stay HW2.out) i (by omega) hcap
        rw [if_neg z3] at hfr
        have chp := hasP_any (cap := cap - i) (d := gc) (HH.out.2.1.from i (by omega)) hfr (by omega) hbc rfl (kdO_byt 2)
        rw [oc_shift, Nat.add_zero] at chp
        change Calls _ _ #[_, .slice _ 2 _] _ _ at chp
        obtain ⟨ob, hob⟩ : ∃ ob, oc (kdO 2) c i = ob := ⟨_, rfl⟩
        rw [hob] at chp
        have HOB : Hid (oc (kdO 2) c i = ob) := hob
        clear hob
        clear hfr hbc
        refine wpAnyH_ready (rs := [6]) (by kernel_rfl) (by simp) (AllReadyH.cons rfl (fun K hK => ?_) AllReadyH.nil)
        go_simp
        refine chp.mono ?_
        rintro ev w3 ⟨rfl, hw⟩
        subst w3
        go_wp2_with fail
        refine hK.out _ _ (by simp [World.cell?, hV2]) (fun hHeld' => ?_)
        clear hK K hHeld' chp
        (try simp only [Act.put, List.setIfInBounds_toArray, List.set_cons_zero, List.set_cons_succ])
        refine wpAnyH_done (by kernel_rfl) ?_ _
        have y0 : W2.cell? ⟨B, 0, none⟩ = some (.string so2) := by simp [World.cell?, hV2]
        have y1 : W2.cell? ⟨B, 1, none⟩ = some (.string ss2) := by simp [World.cell?, hV2]
        cases ob with
        | false =>
          have HN2 : Hid (∀ j, j < 3 → oc (kdO j) c i = false) := fun j hj => by
            rcases Nat.lt_or_ge j 2 with h1 | h1
            · exact HN.out j h1
            · obtain rfl : j = 2 := by omega
              exact HOB.out
          clear hV2
          go_wp2
          go_roundg (4 - 3)
          case measure => omega
          case rel => exact ⟨3, by omega, rfl, by go_num, HN2, HW2⟩
        | true =>
          have hkd := kd_at (by omega) HN.out HOB.out
          have hle := kdE_le (n := n) HH.out.2.1.2 HOB.out
          obtain ⟨mx, hmx⟩ := (HH.out.2.2.2.stay HW2.out).1
          have cb := behind_any HH.out.2.1 (HH.out.1.stay HW2.out) (by omega) hcap (i + 2) hle.2.2 (kdS 2) (kdS_byt 2) (kdS_ne 2) (by decide) hmx
          rw [HO2.out.2, show ((i + 2 : Nat) : Int) = (i : Int) + 2 by omega] at cb
          change Calls _ _ _ _ (fun ev w' => ev = .returned (.int .i64 (kdE c n i 2 : Nat)) ∧ Below W2.heap.size W2 w') at cb
          have HE : Hid (R = kdE c n i 2 ∧ M = setL L 2 (i : Int) ((kdE c n i 2 : Nat) : Int)) := by
            obtain ⟨h1, h2⟩ := HR.out
            unfold nxE at h1
            unfold nxL at h2
            rw [hkd, if_pos (by omega)] at h1 h2
            exact ⟨h1.symm, h2.symm⟩
          obtain ⟨E, hE⟩ : ∃ E, kdE c n i 2 = E := ⟨_, rfl⟩
          rw [hE] at cb HE
          have HV2 : Hid (W2.heap[B]? = some (.cells #[.string so2, .string ss2, .int .u8 2] 93)) := hV2
          clear hkd hle hmx hE hV2
          go_wp2_with fail
          refine cb.mono ?_
          rintro ev w3 ⟨rfl, hb3⟩
          have h3 := blk_stay HV2.out hb3
          have y2 : w3.cell? ⟨B, 2, none⟩ = some (.int .u8 2) := by simp [World.cell?, h3]
          have HB3 : Hid (Below w.heap.size w w3) := HW2.out.trans (hb3.mono HW2.out.size)
          have cs := set_any (HH.out.2.2.1.stay HB3.out) hn 2 (i : Int) (E : Int)
          clear cb hb3 h3 y0 y1
          go_wp2_with fail
          refine cs.mono ?_
          rintro ev w4 ⟨rfl, h41, h42, -⟩
          have HS4 : Hid (Sh w4 T g n (setL L 2 (i : Int) (E : Int)) ∧ w.grownBy w4 (some g)) := ⟨h41, grown_trans (grown_of HB3.out _) h42⟩
          clear cs h41 h42
          go_wp2
          go_ret
          exact ⟨by rw [HE.out.1]; rfl, by rw [HE.out.2]; exact HS4.out.1, HS4.out.2⟩
      · have hix : ∀ w, (Instr.index 94 (.agg #[.string so0, .string ss0, .int .u8 3, .string so1, .string ss1, .int .u8 6, .string so2, .string ss2, .int .u8 2, .string so3, .string ss3, .int .u8 2]) (.int .i64 3)).run Tryd.prog w = .ok (.agg #[.string so3, .string ss3, .int .u8 2]) w := fun w => by kernel_rfl
        obtain ⟨V, hV⟩ : ∃ V, wr.alloc (.cells #[.string so3, .string ss3, .int .u8 2] 93) = V := ⟨_, rfl⟩
        have hbV : Below wr.heap.size wr V := by rw [← hV]; exact below_alloc wr _
        have hV0 : V.heap[wr.heap.size]? = some (.cells #[.string so3, .string ss3, .int .u8 2] 93) := by rw [← hV]; exact heap_alloc_new _ _
        obtain ⟨B, hB⟩ : ∃ B, wr.heap.size = B := ⟨_, rfl⟩
        have HBB : Hid (wr.heap.size = B) := hB
        have HV0 : Hid (V.heap[B]? = some (.cells #[.string so3, .string ss3, .int .u8 2] 93) ∧ Below w.heap.size w V) := by rw [← hB]; exact ⟨hV0, HW.out.trans (hbV.mono HW.out.size)⟩
        clear hV0 hbV hB
        go_upto_region 4 with fail
        rw [HBB.out]
        clear HBB hV
        have v0 : V.cell? ⟨B, 0, none⟩ = some (.string so3) := by simp [World.cell?, HV0.out.1]
        refine wp_region_held_drew (S := fun w' => w'.cell? ⟨B, 0, none⟩ = some (.string so3)) (by kernel_rfl) v0 (fun hHeld => ?_)
        refine takeH (i := 0) (v := ?_) (d := (some 16)) rfl (by kernel_rfl) (by kernel_rfl) (by kernel_rfl) rfl (fun _ _ _ h => h) (Or.inl ⟨by kernel_rfl, ?_⟩) (by first | assumption | trivial) ?_; rotate_left
        · (intro w hSw; (try dsimp only at hSw); first | (go_simp; done) | (go_simp; with_reducible rfl))
        (try simp only [Act.put, List.setIfInBounds_toArray, List.set_cons_zero, List.set_cons_succ])
        refine takeH (i := 1) (v := ?_) (d := (some 17)) rfl (by kernel_rfl) (by kernel_rfl) (by kernel_rfl) rfl (fun _ _ _ h => h) (Or.inl ⟨by kernel_rfl, ?_⟩) (by first | assumption | trivial) ?_; rotate_left
        · (intro w hSw; (try dsimp only at hSw); first | (go_simp; done) | (go_simp; with_reducible rfl))
        (try simp only [Act.put, List.setIfInBounds_toArray, List.set_cons_zero, List.set_cons_succ])
        refine takeH (i := 2) (v := ?_) (d := (some 18)) rfl (by kernel_rfl) (by kernel_rfl) (by kernel_rfl) rfl (fun _ _ _ h => h) (Or.inl ⟨by kernel_rfl, ?_⟩) (by first | assumption | trivial) ?_; rotate_left
        · (intro w hSw; (try dsimp only at hSw); first | (go_simp; done) | (go_simp; with_reducible rfl))
        (try simp only [Act.put, List.setIfInBounds_toArray, List.set_cons_zero, List.set_cons_succ])
        refine takeH (i := 3) (v := ?_) (d := (some 19)) rfl (by kernel_rfl) (by kernel_rfl) (by kernel_rfl) rfl (fun _ _ _ h => h) (Or.inl ⟨by kernel_rfl, ?_⟩) (by first | assumption | trivial) ?_; rotate_left
        · (intro w hSw; (try dsimp only at hSw); first | (go_simp; done) | (go_simp; with_reducible rfl))
        (try simp only [Act.put, List.setIfInBounds_toArray, List.set_cons_zero, List.set_cons_succ])
        refine takeH (i := 4) (v := ?_) (d := (some 20)) rfl (by kernel_rfl) (by kernel_rfl) (by kernel_rfl) rfl (fun _ _ _ h => h) (Or.inl ⟨by kernel_rfl, ?_⟩) (by first | assumption | trivial) ?_; rotate_left
        · (intro w hSw; (try dsimp only at hSw); first | (go_simp; done) | (go_simp; with_reducible rfl))
        (try simp only [Act.put, List.setIfInBounds_toArray, List.set_cons_zero, List.set_cons_succ])
        have hcv := Lib.run_convert_string_bytes (P := Tryd.prog) V.drew 9 22 5 so3 Tryd.underlying9 Tryd.underlying22 Tryd.underlying5
        have hbc := conv_bc V.drew (kdO 3) (kdO_byt 3)
        have hbw := conv_below V.drew (strOfNums (kdO 3))
        rw [HO3.out.1] at hbc hbw
        obtain ⟨D, hD⟩ : ∃ D, V.drew = D := ⟨_, rfl⟩
        have hbD : Below V.heap.size V D := by rw [← hD]; exact (Below.refl _ _).drew
        have hsD : V.heap.size = D.heap.size := by rw [← hD]; simp
        rw [hD] at hcv hbc hbw ⊢
        have hbV2 : Below V.heap.size V (Lib.bytesWorld D 5 so3) := hbD.trans (by rw [hsD]; exact hbw)
        generalize Lib.bytesWorld D 5 so3 = W2 at hcv hbc hbw hbV2
        generalize grownCap D so3.size 0 5 = gc at hcv
        have hV2 : W2.heap[B]? = some (.cells #[.string so3, .string ss3, .int .u8 2] 93) := blk_stay HV0.out.1 hbV2
        have HW2 : Hid (Below w.heap.size w W2) := HV0.out.2.trans (hbV2.mono HV0.out.2.size)
        refine wpAnyH_ready (rs := [5]) (by kernel_rfl) (by simp) (AllReadyH.cons rfl (fun K hK => ?_) AllReadyH.nil)
        rw [if_pos (by kernel_rfl)]
        go_simp
        refine hK.out _ _ (by simp [World.cell?, hV2]) (fun hHeld' => ?_)
        clear hK K hHeld hHeld' hcv hbw hbD hD
        (try simp only [Act.put, List.setIfInBounds_toArray, List.set_cons_zero, List.set_cons_succ])
        have hfr := BC.from (HH.out.1.stay HW2.out) i (by omega) hcap
        rw [if_neg z3] at hfr
        have chp := hasP_any (cap := cap - i) (d := gc) (HH.out.2.1.from i (by omega)) hfr (by omega) hbc rfl (kdO_byt 3)
        rw [oc_shift, Nat.add_zero] at chp
        change Calls _ _ #[_, .slice _ 2 _] _ _ at chp
        obtain ⟨ob, hob⟩ : ∃ ob, oc (kdO 3) c i = ob := ⟨_, rfl⟩
        rw [hob] at chp
        have HOB : Hid (oc (kdO 3) c i = ob) := hob
        clear hob
        clear hfr hbc
        refine wpAnyH_ready (rs := [6]) (by kernel_rfl) (by simp) (AllReadyH.cons rfl (fun K hK => ?_) AllReadyH.nil)
        go_simp
        refine chp.mono ?_
        rintro ev w3 ⟨rfl, hw⟩
        subst w3
        go_wp2_with fail
        refine hK.out _ _ (by simp [World.cell?, hV2]) (fun hHeld' => ?_)
        clear hK K hHeld' chp
        (try simp only [Act.put, List.setIfInBounds_toArray, List.set_cons_zero, List.set_cons_succ])
        refine wpAnyH_done (by kernel_rfl) ?_ _
        have y0 : W2.cell? ⟨B, 0, none⟩ = some (.string so3) := by simp [World.cell?, hV2]
        have y1 : W2.cell? ⟨B, 1, none⟩ = some (.string ss3) := by simp [World.cell?, hV2]
        cases ob with
        | false =>
          have HN2 : Hid (∀ j, j < 4 → oc (kdO j) c i = false) := fun j hj => by
            rcases Nat.lt_or_ge j 3 with h1 | h1
            · exact HN.out j h1
            · obtain rfl : j = 3 := by omega
              exact HOB.out
          clear hV2
          go_wp2
          go_roundg (4 - 4)
          case measure => omega
          case rel => exact ⟨4, by omega, rfl, by go_num, HN2, HW2⟩
        | true =>
          have hkd := kd_at (by omega) HN.out HOB.out
          have hle := kdE_le (n := n) HH.out.2.1.2 HOB.out
          obtain ⟨mx, hmx⟩ := (HH.out.2.2.2.stay HW2.out).1
          have cb := behind_any HH.out.2.1 (HH.out.1.stay HW2.out) (by omega) hcap (i + 2) hle.2.2 (kdS 3) (kdS_byt 3) (kdS_ne 3) (by decide) hmx
          rw [HO3.out.2, show ((i + 2 : Nat) : Int) = (i : Int) + 2 by omega] at cb
          change Calls _ _ _ _ (fun ev w' => ev = .returned (.int .i64 (kdE c n i 3 : Nat)) ∧ Below W2.heap.size W2 w') at cb
          have HE : Hid (R = kdE c n i 3 ∧ M = setL L 2 (i : Int) ((kdE c n i 3 : Nat) : Int)) := by
            obtain ⟨h1, h2⟩ := HR.out
            unfold nxE at h1
            unfold nxL at h2
            rw [hkd, if_pos (by omega)] at h1 h2
            exact ⟨h1.symm, h2.symm⟩
          obtain ⟨E, hE⟩ : ∃ E, kdE c n i 3 = E := ⟨_, rfl⟩
          rw [hE] at cb HE
          have HV2 : Hid (W2.heap[B]? = some (.cells #[.string so3, .string ss3, .int .u8 2] 93)) := hV2
          clear hkd hle hmx hE hV2
          go_wp2_with fail
          refine cb.mono ?_
          rintro ev w3 ⟨rfl, hb3⟩
          have h3 := blk_stay HV2.out hb3
          have y2 : w3.cell? ⟨B, 2, none⟩ = some (.int .u8 2) := by simp [World.cell?, h3]
          have HB3 : Hid (Below w.heap.size w w3) := HW2.out.trans (hb3.mono HW2.out.size)
          have cs := set_any (HH.out.2.2.1.stay HB3.out) hn 2 (i : Int) (E : Int)
          clear cb hb3 h3 y0 y1
          go_wp2_with fail
          refine cs.mono ?_
          rintro ev w4 ⟨rfl, h41, h42, -⟩
          have HS4 : Hid (Sh w4 T g n (setL L 2 (i : Int) (E : Int)) ∧ w.grownBy w4 (some g)) := ⟨h41, grown_trans (grown_of HB3.out _) h42⟩
          clear cs h41 h42
          go_wp2
          go_ret
          exact ⟨by rw [HE.out.1]; rfl, by rw [HE.out.2]; exact HS4.out.1, HS4.out.2⟩
    · obtain rfl : k = 4 := by omega
      have z6 : ¬ ((4 : Nat) : Int) < 4 := by omega
      have hkd := kd_no HN.out
      have HE : Hid (R = tgE c n i ∧ M = tgL L c n i) := by
        obtain ⟨h1, h2⟩ := HR.out
        unfold nxE at h1
        unfold nxL at h2
        rw [hkd, if_neg (by omega)] at h1 h2
        exact ⟨h1.symm, h2.symm⟩
      have cb := begins_any HH.out.2.1 (HH.out.1.stay HW.out) (by omega) hcap i hi
      obtain ⟨bb, hbb⟩ : ∃ bb, bg c i = bb := ⟨_, rfl⟩
      rw [hbb] at cb
      have HBB : Hid (bg c i = bb) := hbb
      clear hkd hbb hlt hk hq HN
      go_wp2_with fail
      refine cb.mono ?_
      rintro ev w1 ⟨rfl, hb1⟩
      have HB1 : Hid (Below w.heap.size w w1) := HW.out.trans (hb1.mono HW.out.size)
      clear cb hb1
      cases bb with
      | false =>
        have HT : Hid (R = i + 1 ∧ M = L) := by
          obtain ⟨h1, h2⟩ := HE.out
          have htg : tg c n i = none := by unfold tg; rw [if_neg (by rw [HBB.out]; exact Bool.false_ne_true)]
          unfold tgE at h1
          unfold tgL at h2
          rw [htg] at h1 h2
          dsimp only at h1 h2
          rw [HBB.out, if_neg Bool.false_ne_true] at h1 h2
          exact ⟨h1, h2⟩
        go_wp2
        go_ret
        refine ⟨?_, by rw [HT.out.2]; exact HH.out.2.2.1.stay HB1.out, grown_of HB1.out _⟩
        rw [HT.out.1]
        go_num
      | true =>
        have cr := read_any HH.out.2.1 (HH.out.1.stay HB1.out) (by omega) hcap i hi
        go_wp2_with fail
        refine cr.mono ?_
        intro ev w2 hrd
        rcases hrd with ⟨htg, rfl, hb2⟩ | ⟨t, pv, htg, rfl, hpr, hb2⟩
        · have HT : Hid (R = n ∧ M = setL L 2 (i : Int) (n : Int)) := by
            obtain ⟨h1, h2⟩ := HE.out
            unfold tgE at h1
            unfold tgL at h2
            rw [htg] at h1 h2
            dsimp only at h1 h2
            rw [HBB.out, if_pos rfl] at h1 h2
            exact ⟨h1, h2⟩
          have HB2 : Hid (Below w.heap.size w w2) := HB1.out.trans (hb2.mono HB1.out.size)
          have hb3 := HB2.out.alloc HB2.out.size (.cells #[.int .i64 0, .string ⟨#[]⟩, .bool false, .slice none 0 0] 31)
          have HB3 : Hid (Below w.heap.size w (w2.alloc (.cells #[.int .i64 0, .string ⟨#[]⟩, .bool false, .slice none 0 0] 31))) := hb3
          have cs := set_any (HH.out.2.2.1.stay hb3) hn 2 (i : Int) (n : Int)
          clear cr hb2 hb3 htg
          go_wp2_with fail
          refine cs.mono ?_
          rintro ev w4 ⟨rfl, h41, h42, -⟩
          have HS4 : Hid (Sh w4 T g n (setL L 2 (i : Int) (n : Int)) ∧ w.grownBy w4 (some g)) := ⟨h41, grown_trans (grown_of HB3.out _) h42⟩
          clear cs h41 h42
          go_wp2
          go_ret
          exact ⟨by rw [HT.out.1]; rfl, by rw [HT.out.2]; exact HS4.out.1, HS4.out.2⟩
        · have HT : Hid (R = inE c n t ∧ M = inL (layT L i t) c n t) := by
            obtain ⟨h1, h2⟩ := HE.out
            unfold tgE at h1
            unfold tgL at h2
            rw [htg] at h1 h2
            exact ⟨h1, h2⟩
          have hok := tg_ok HH.out.2.1 htg
          obtain ⟨pd, pc, hpv⟩ := hpr.form
          have HB2 : Hid (Below w.heap.size w w2) := HB1.out.trans (hb2.mono HB1.out.size)
          obtain ⟨V, hV⟩ : ∃ V, w2.alloc (.cells #[.int .i64 (t.e : Int), .string (strOfNums t.nm), .bool t.cl, pv] 31) = V := ⟨_, rfl⟩
          have hbV : Below w2.heap.size w2 V := by rw [← hV]; exact below_alloc w2 _
          have hV0 : V.heap[w2.heap.size]? = some (.cells #[.int .i64 (t.e : Int), .string (strOfNums t.nm), .bool t.cl, pv] 31) := by rw [← hV]; exact heap_alloc_new _ _
          have HBV : Hid (Below w.heap.size w V) := HB2.out.trans (hbV.mono HB2.out.size)
          have cl := lay_tag (HH.out.2.2.1.stay HBV.out) hn i t.e (strOfNums t.nm) t.cl pv t.pr (hpr.stay hbV) hok.2.2.2.2.2.1 (by omega)
          change Calls _ _ _ _ (fun ev w' => ev = .returned (.tuple #[]) ∧ Sh w' T g n (layT L i t) ∧ V.grownBy w' (some g)) at cl
          have y0 : V.cell? ⟨w2.heap.size, 0, none⟩ = some (.int .i64 (t.e : Int)) := by simp [World.cell?, hV0]
          have y1 : V.cell? ⟨w2.heap.size, 1, none⟩ = some (.string (strOfNums t.nm)) := by simp [World.cell?, hV0]
          have y2 : V.cell? ⟨w2.heap.size, 2, none⟩ = some (.bool t.cl) := by simp [World.cell?, hV0]
          have y3 : V.cell? ⟨w2.heap.size, 3, none⟩ = some pv := by simp [World.cell?, hV0]
          have HV0 : Hid (V.heap[w2.heap.size]? = some (.cells #[.int .i64 (t.e : Int), .string (strOfNums t.nm), .bool t.cl, pv] 31) ∧ g < w2.heap.size) := ⟨hV0, (HH.out.2.2.1.stay HB2.out).row.lt⟩
          have CI : Hid (∀ w4, Sh w4 T g n (layT L i t) → V.grownBy w4 (some g) → Calls Tryd.prog 52 #[.pointer (some ⟨T, 0, none⟩), .slice (some ⟨b, off, none⟩) n cap, .agg #[.int .i64 t.e, .string (strOfNums t.nm), .bool t.cl, pv]] w4 fun ev w' => ev = .returned (.int .i64 (inE c n t : Nat)) ∧ Sh w' T g n (inL (layT L i t) c n t) ∧ w4.grownBy w' (some g)) := fun w4 h1 h2 =>
            inside_any HH.out.2.1 ((HH.out.1.stay HBV.out).grown h2 hbg) hn hcap h1 hbg t pv hok.2.1 hok.2.2.1 hok.2.2.2.1 (by omega)
          obtain ⟨E, hE⟩ : ∃ E, inE c n t = E := ⟨_, rfl⟩
          obtain ⟨L2, hL2⟩ : ∃ L2, inL (layT L i t) c n t = L2 := ⟨_, rfl⟩
          obtain ⟨L1, hL1⟩ : ∃ L1, layT L i t = L1 := ⟨_, rfl⟩
          rw [hE, hL2] at CI HT
          rw [hL1] at CI cl
          rw [hpv] at cl CI hV y3 HV0
          generalize t.pr.length = pn at *
          generalize t.e = te at *
          generalize strOfNums t.nm = tn at *
          generalize t.cl = tc at *
          rw [hpv]
          clear cr hb2 htg hpr hbV hV0 hok hE hL2 hL1
          go_wp2_with fail
          refine cl.mono ?_
          rintro ev w4 ⟨rfl, h41, h42⟩
          have h4 := (h42.block w2.heap.size (lt_of_heap HV0.out.1) (fun ee => by injection ee with ee; have := HV0.out; omega)).trans HV0.out.1
          have x0 : w4.cell? ⟨w2.heap.size, 0, none⟩ = some (.int .i64 (te : Int)) := by simp [World.cell?, h4]
          have x1 : w4.cell? ⟨w2.heap.size, 1, none⟩ = some (.string tn) := by simp [World.cell?, h4]
          have x2 : w4.cell? ⟨w2.heap.size, 2, none⟩ = some (.bool tc) := by simp [World.cell?, h4]
          have x3 : w4.cell? ⟨w2.heap.size, 3, none⟩ = some (.slice pd pn pc) := by simp [World.cell?, h4]
          have ci := CI.out w4 h41 h42
          have HG4 : Hid (w.grownBy w4 (some g)) := grown_trans (grown_of HBV.out _) h42
          clear cl h41 h42 h4 hV y0 y1 y2 y3
          go_wp2_with fail
          refine ci.mono ?_
          rintro ev w5 ⟨rfl, h51, h52⟩
          have HS5 : Hid (Sh w5 T g n L2 ∧ w.grownBy w5 (some g)) := ⟨h51, grown_trans HG4.out h52⟩
          clear ci h51 h52
          go_wp2
          go_ret
          exact ⟨by rw [HT.out.1]; rfl, by rw [HT.out.2]; exact HS5.out.1, HS5.out.2⟩
end Go.Proofs.YtodjfeheagnnpaaDoor
