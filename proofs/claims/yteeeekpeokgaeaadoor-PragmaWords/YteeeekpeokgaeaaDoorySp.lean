/- New of any bytes; Split. -/
import Derived.Test.YteeeekpeokgaeaaDoorkW
namespace Go.Proofs.YteeeekpeokgaeaaDoor.Lns
set_option linter.unusedVariables false
open Go.RowKit Go.ChangeShapes
theorem spNz (s : ByteArray) (ad : Option Addr) (cap : Nat) (w : World) (h0 : s.size = 0) :
    Calls Tryd.prog 27 #[.slice ad 0 cap] w fun e w' => ∃ K, ∃ v, e = .returned v ∧ Idx w' v s K ∧ Below w.heap.size w w' := by
  have H0 : Hid (s.size = 0) := h0
  clear h0
  have k0 : (w.alloc (.cells #[.int .i64 0, .slice none 0 0, .slice none 0 0] 83)).cell? ⟨w.heap.size, 0, none⟩ = some (.int .i64 0) := by simp
  have k1 : (w.alloc (.cells #[.int .i64 0, .slice none 0 0, .slice none 0 0] 83)).cell? ⟨w.heap.size, 1, none⟩ = some (.slice none 0 0) := by simp
  have k2 : (w.alloc (.cells #[.int .i64 0, .slice none 0 0, .slice none 0 0] 83)).cell? ⟨w.heap.size, 2, none⟩ = some (.slice none 0 0) := by simp
  have HI : Hid (Idx (w.alloc (.cells #[.int .i64 0, .slice none 0 0, .slice none 0 0] 83)) (.pointer (some ⟨w.heap.size, 0, none⟩)) s 0) := ⟨ends_zero H0.out, w.heap.size, _, _, rfl, by rw [H0.out]; exact k0, k1, k2, Or.inl ⟨none, 0, rfl, nL_zero H0.out⟩, Or.inl ⟨none, 0, rfl, rfl⟩⟩
  have HB : Hid (Below w.heap.size w (w.alloc (.cells #[.int .i64 0, .slice none 0 0, .slice none 0 0] 83))) := ((Up.refl w).alloc _).1
  obtain ⟨W, hW⟩ : ∃ W, w.alloc (.cells #[.int .i64 0, .slice none 0 0, .slice none 0 0] 83) = W := ⟨_, rfl⟩
  rw [hW] at HI HB
  clear k0 k1 k2
  go_enter Tryd.func27, Tryd.ntmps27
  go_wp2_with fail
  refine (units_zero ad cap W).mono ?_
  rintro e w1 ⟨rfl, rfl⟩
  go_wp2
  go_loopg [4, 14] (0) (fun g b i wr => b = .bool true ∧ i = .int .i64 0 ∧ wr = w1)
  case atStart => exact ⟨rfl, rfl, rfl⟩
  case round =>
    obtain ⟨rfl, rfl, rfl⟩ := hrel
    go_wp2_with fail
    go_ret
    exact ⟨0, _, rfl, HI.out, HB.out⟩
theorem spN (s : ByteArray) (v : Value) (w : World) (hs : s.size ≤ 40000) (hT : Tabs w) (h : BSl w v s) :
    Calls Tryd.prog 27 #[v] w fun e w' => ∃ K, ∃ v, e = .returned v ∧ Idx w' v s K ∧ Below w.heap.size w w' := by
  rcases h with ⟨ad, c, rfl, h⟩ | ⟨b, off, c, rfl, h1, h2, h⟩
  · exact spNz s ad c w h
  · exact new_at s b off c w hs h2 hT h
/-- Lines as far as there, and no texts behind them. -/
def spQ (F : Nat → ByteArray) (n i : Nat) : List Value := tcells F i ++ List.replicate (n - i) (.string ByteArray.empty)
theorem spQ_set (F : Nat → ByteArray) (n i : Nat) (h : i < n) : (spQ F n i).set i (.string (F i)) = spQ F n (i + 1) := by
  have h1 := tcells_len F i
  unfold spQ
  rw [List.set_append_right _ _ (by omega), h1, Nat.sub_self, show n - i = (n - (i + 1)) + 1 by omega, List.replicate_succ, List.set_cons_zero, tcells_succ, List.append_assoc]
  rfl
theorem spQ_all (F : Nat → ByteArray) (n : Nat) : spQ F n n = tcells F n := by unfold spQ; rw [Nat.sub_self]; simp
theorem spQ_len (F : Nat → ByteArray) (n i : Nat) (h : i ≤ n) : (spQ F n i).length = n := by unfold spQ; rw [List.length_append, tcells_len, List.length_replicate]; omega
set_option maxRecDepth 100000 in
set_option maxHeartbeats 2000000 in
theorem spl_any (s : ByteArray) (v : Value) (w : World) (hs : s.size ≤ 40000) (hT : Tabs w) (h : BSl w v s) :
    Calls Tryd.prog 18 #[v] w fun e w' => ∃ v, e = .returned v ∧ w'.ownsRow w.heap.size 9 1 v (nL s) (tcells (line s) (nL s)) ∧ Below w.heap.size w w' := by
  have hnl := nL_le s
  obtain ⟨i0, hi, hz0, hz1, hz2⟩ := info_parts info9
  have HB : Hid (BSl w v s) := h
  clear h
  have ctn := spN s v w hs hT HB.out
  obtain ⟨ad, c, rfl⟩ := HB.out.form
  clear hT
  go_enter Tryd.func18, Tryd.ntmps18
  go_wp2_with fail
  refine ctn.mono ?_
  rintro e w1 ⟨K, vx, rfl, hx, hb1⟩
  have HX : Hid (Idx w1 vx s K) := hx
  have HU1 : Hid (Up w.heap.size w w1) := (Up.refl w).stay hb1
  clear hb1 hx ctn
  go_wp2_with fail
  refine (lines_any s K vx w1 HX.out).mono ?_
  rintro e w2 ⟨rfl, rfl⟩
  have hmk := run_make (P := Tryd.prog) w2 25 9 i0 (.string ByteArray.empty) Tryd.underlying25 hi hz0 .i64 .i64 (nL s : Int) (nL s : Int) (by omega) (by omega) (by rw [hz2]; omega) (by omega)
  rw [hz1, Nat.mul_one, Int.toNat_natCast] at hmk
  have HX2 : Hid (Idx (w2.alloc (.cells (madeCells #[.string ByteArray.empty] (nL s)) 9)) vx s K) := HX.out.stay ((Up.refl w2).alloc _).1
  have HU2 : Hid (Up w.heap.size w (w2.alloc (.cells (madeCells #[.string ByteArray.empty] (nL s)) 9))) := HU1.out.alloc _
  have HB2 : Hid (BSl (w2.alloc (.cells (madeCells #[.string ByteArray.empty] (nL s)) 9)) (.slice ad s.size c) s) := HB.out.stay HU2.out.1
  have HO2 : Hid ((w2.alloc (.cells (madeCells #[.string ByteArray.empty] (nL s)) 9)).ownsRow w2.heap.size 9 1 (.slice (some ⟨w2.heap.size, 0, none⟩) (nL s) (nL s)) (nL s) (spQ (line s) (nL s) 0)) := by
    have h5 := World.ownsRow_lit (base := w2.heap.size) (e := 9) (size := 1) w2 (madeCells #[.string ByteArray.empty] (nL s)) (nL s) (Nat.le_refl _) (by unfold maxLen; omega) (by rw [← Array.length_toList, toList_madeCells_one]; simp)
    rw [toList_madeCells_one] at h5
    exact h5
  obtain ⟨W, hW⟩ : ∃ W, w2.alloc (.cells (madeCells #[.string ByteArray.empty] (nL s)) 9) = W := ⟨_, rfl⟩
  rw [show (Value.string ByteArray.empty).cells = #[.string ByteArray.empty] from rfl, hW] at hmk
  rw [hW] at HX2 HU2 HB2 HO2
  have hgw : w.heap.size ≤ w2.heap.size := HU1.out.2
  have HB1 : Hid (BSl w2 (.slice ad s.size c) s) := HB.out.stay HU1.out.1
  have HV2 : Hid (Up w2.heap.size w2 W) := by rw [← hW]; exact (Up.refl w2).alloc _
  clear HB
  go_wp2_with fail
  refine (lines_any s K vx W HX2.out).mono ?_
  rintro e w3 ⟨rfl, rfl⟩
  clear hmk hW HX2 HB2
  go_wp2
  go_loopg [15] (nL s) (fun g iv wr => ∃ i : Nat, i ≤ nL s ∧ g = nL s - i ∧ iv = .int .i64 i ∧ Hid (wr.ownsRow w2.heap.size 9 1 (.slice (some ⟨w2.heap.size, 0, none⟩) (nL s) (nL s)) (nL s) (spQ (line s) (nL s) i)) ∧ Hid (Up w2.heap.size w2 wr))
  case atStart => exact ⟨0, Nat.zero_le _, rfl, rfl, HO2, HV2⟩
  case round =>
    obtain ⟨i, hin, hg, rfl, HO, HU⟩ := hrel
    by_cases hlt : i < nL s
    · have z0 : (0 : Int) ≤ (i : Int) := by omega
      have z1 : (i : Int) < (nL s : Int) := by omega
      have HPS := spQ_set (line s) (nL s) i hlt
      have HP : Hid ((spQ (line s) (nL s) i).set i (.string (line s i)) = spQ (line s) (nL s) (i + 1)) := HPS
      clear HPS
      have hbs : ∃ b off, ad = some ⟨b, off, none⟩ ∧ s.size ≤ c ∧ By w2 b off s := by
        rcases HB1.out with ⟨ad', c', hv, hz⟩ | ⟨b, off, c', hv, h1, h2, h3⟩
        · have := nL_zero hz; omega
        · injection hv with hv1 hv2 hv3
          subst hv3
          exact ⟨b, off, hv1, h2, h3⟩
      obtain ⟨b, off, rfl, hcap, hby⟩ := hbs
      have HBY : Hid (By w2 b off s) := hby
      clear hby
      go_wp2_with fail
      refine (span_ok s K vx i wr hs hlt (HX.out.stay HU.out.1)).mono ?_
      rintro e w4 ⟨rfl, hb4⟩
      have HO4 : Hid (w4.ownsRow w2.heap.size 9 1 (.slice (some ⟨w2.heap.size, 0, none⟩) (nL s) (nL s)) (nL s) (spQ (line s) (nL s) i)) := own_stay HO.out hb4
      have HU4 : Hid (Up w2.heap.size w2 w4) := HU.out.stay hb4
      clear hb4 HO HU
      have hsl := S_lt hlt
      have hsm := S_mono (s := s) (i := i) (j := i + 1) (by omega) hlt
      have hse := S_le s (i + 1)
      have hcv := str_of (bsl_sub (HBY.out.stay HU4.out.1) (S s i) (S s (i + 1)) hsm hse (show S s (i + 1) - S s i ≤ c - S s i by omega))
      have hcv2 := str_of (w := w4.alloc (.cells #[.int .i64 (S s i), .int .i64 ((S s (i + 1) : Int) - S s i)] 36)) (bsl_sub (HBY.out.stay (HU4.out.alloc _).1) (S s i) (S s (i + 1)) hsm hse (show S s (i + 1) - S s i ≤ c - S s i by omega))
      rw [show sub s (S s i) (S s (i + 1)) = line s i from rfl] at hcv hcv2
      have hc1 : w4.cell? ⟨w2.heap.size, i, none⟩ = some (.string ByteArray.empty) := by
        rw [HO4.out.cellAt i (by omega)]
        unfold spQ
        rw [List.getElem?_append_right (by rw [tcells_len]; omega), tcells_len, Nat.sub_self, List.getElem?_replicate, if_pos (by omega)]
      have hf1 := HO4.out.frozenAt i
      have hlt2 : w2.heap.size < w4.heap.size := World.block_lt_of_cell? w4 _ hc1
      generalize line s i = tx at hcv hcv2 HP ⊢
      generalize S s i = p at hsl hsm hcv hcv2 ⊢
      generalize S s (i + 1) = q at hsm hse hcv hcv2 ⊢
      have y1 : (0 : Int) ≤ (p : Int) := by omega
      have y2 : (p : Int) ≤ (q : Int) := by omega
      have y3 : (q : Int) ≤ (c : Int) := by omega
      have y4 : p < c := by omega
      have y5 : (p : Int) + ((q : Int) - (p : Int)) = (q : Int) := by omega
      go_wp2
      go_roundg (nL s - (i + 1))
      case measure => omega
      case rel => exact ⟨i + 1, hlt, rfl, by go_num, (by rw [← HP.out]; exact ((HO4.out.stored i (.string tx)).1).alloc _), ((HU4.out.grown (HO4.out.stored i (.string tx)).2 (fun k hk => by injection hk with hk; omega)).alloc _)⟩
    · obtain rfl : i = nL s := by omega
      go_wp2
      go_ret
      refine ⟨_, rfl, ?_, (HU1.out.stay HU.out.1).1⟩
      have h5 := HO.out
      rw [spQ_all] at h5
      exact own_mono h5 hgw
end Go.Proofs.YteeeekpeokgaeaaDoor.Lns
