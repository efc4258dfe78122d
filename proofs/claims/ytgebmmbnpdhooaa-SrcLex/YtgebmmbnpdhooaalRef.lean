/- The reference's All, Segs, SameSegs. -/
import Derived.Test.YtgebmmbnpdhooaalSegs
namespace Go.Proofs.Ytgebmmbnpdhooaa
set_option linter.unusedVariables false
open Go.RowKit Go.ChangeShapes
theorem rall_any (n : Nat) (hn : n ≤ 65536) (l : Int) (w : World) : Calls Try.prog 21 #[.int .i64 n, .int .u8 l] w fun e w' => ∃ g, e = .returned (.slice (some ⟨g, 0, none⟩) n n) ∧ w.heap.size ≤ g ∧ LR w' g n (fun _ => l) ∧ Up w.heap.size w w' := by
  have hmk : ∀ (w : World), (Instr.makeSlice 35 (.int .i64 (n : Int)) (.int .i64 (n : Int))).run Try.prog w = .ok (.slice (some ⟨w.heap.size, 0, none⟩) n n) (w.alloc (.cells (madeCells #[Value.int .u8 0] n) 43)) := run_make_row' (P := Try.prog) 35 43 (.int .u8 0) 1 Try.underlying35 infoL rfl .i64 .i64 n (by omega) (by omega)
  go_enter Try.func21, Try.ntmps21
  go_wp2
  go_loopg [6] n (fun q iv wr => ∃ i : Nat, i ≤ n ∧ q = n - i ∧ iv = .int .i64 i ∧ Hid (∃ N, LR wr w.heap.size n N ∧ ∀ j, j < i → N j = l) ∧ Hid (Up w.heap.size w wr))
  case atStart => exact ⟨0, Nat.zero_le _, rfl, rfl, ⟨fun _ => 0, made_lr w n, fun j hj => by omega⟩, (Up.refl w).alloc _⟩
  case round =>
    obtain ⟨i, hi, hg, rfl, HN, HU⟩ := hrel
    by_cases hlt : i < n
    · have z1 : (i : Int) < (n : Int) := by omega
      have z2 : (0 : Int) ≤ (i : Int) := by omega
      have z3 : ¬ (i : Int) < 0 := by omega
      obtain ⟨N, hN, hj⟩ := HN.out
      have hc := hN.cell hlt
      have hf := hN.frozen i
      have HN2 : Hid (LR wr w.heap.size n N) := hN
      have HJ : Hid (∀ j, j < i → N j = l) := hj
      clear hN hj HN
      go_wp2
      go_roundg (n - (i + 1))
      case measure => omega
      case rel =>
        refine ⟨i + 1, by omega, rfl, by go_num, ⟨setN N i l, HN2.out.set i _, ?_⟩, HU.out.setCell (Nat.le_refl _) _⟩
        intro j hj
        unfold setN
        by_cases e : j = i
        · rw [if_pos e]
        · rw [if_neg e]; exact HJ.out j (by omega)
    · obtain rfl : i = n := by omega
      have z1 : ¬ (i : Int) < (i : Int) := by omega
      go_wp2
      go_ret
      obtain ⟨N, hN, hj⟩ := HN.out
      exact ⟨w.heap.size, rfl, Nat.le_refl _, hN.congr hj, HU.out⟩
set_option maxHeartbeats 1000000 in
set_option maxRecDepth 100000 in
theorem rsegs_any {w : World} {g n : Nat} {L : Nat → Int} (h : LR w g n L) (hn : n ≤ 65536) : Calls Try.prog 16 #[.slice (some ⟨g, 0, none⟩) n n] w fun e w' =>
    ∃ v, e = .returned v ∧ SR w' w.heap.size v (sg L n) ∧ Up w.heap.size w w' := by
  have HL : Hid (LR w g n L) := h
  obtain ⟨i0, hi0, hz0, hz1, hz2⟩ := info_parts infoS
  clear h
  go_enter Try.func16, Try.ntmps16
  go_wp2
  go_loopg [3, 4] n (fun q pv iv wr => ∃ i : Nat, i ≤ n ∧ q = n - i ∧ iv = .int .i64 i ∧ Hid (SR wr w.heap.size pv (sg L i)) ∧ Hid (i < n → begB L i = true) ∧ Hid (Up w.heap.size w wr))
  case atStart => exact ⟨0, Nat.zero_le _, rfl, rfl, World.ownsRow_nil _ _ _ _, fun _ => begB_zero L, Up.refl w⟩
  case round =>
    obtain ⟨i, hi, hq, rfl, HS, HB, HU⟩ := hrel
    obtain ⟨ad, c, rfl⟩ := HS.out.form
    by_cases hlt : i < n
    · have z1 : (i : Int) < (n : Int) := by omega
      have z2 : (0 : Int) ≤ (i : Int) := by omega
      have hc := (HL.out.stay HU.out.1).cell hlt
      have hb := HB.out hlt
      have HB2 : Hid (begB L i = true) := hb
      clear HB hb
      obtain ⟨x, ex⟩ : ∃ x, L i = x := ⟨_, rfl⟩
      rw [ex] at hc
      have HX : Hid (L i = x) := ex
      clear ex
      obtain ⟨m, em⟩ : ∃ m, (sg L i).length = m := ⟨_, rfl⟩
      have HM : Hid ((sg L i).length = m) := em
      rw [em] at HS ⊢
      have hm : m ≤ 65536 := by have := sg_len L i; omega
      have HO : Hid (wr.ownsRow w.heap.size 50 3 (.slice ad m c) m (sgC (sg L i))) := by
        have := HS.out
        unfold SR at this
        rw [HM.out] at this
        exact this
      clear em
      obtain ⟨wT, hwT⟩ : ∃ wT, wT = wr := ⟨_, rfl⟩
      rw [← hwT] at HS HU HO hc ⊢
      clear hwT wr
      go_wp2_with fail
      go_loopg [5] (n - i) (fun q kv wr => ∃ k : Nat, i ≤ k ∧ k ≤ n ∧ q = n - k ∧ kv = .int .i64 k ∧ Hid (∀ j, i ≤ j → j < k → L j = x) ∧ Hid (Below wT.heap.size wT wr))
      case atStart => exact ⟨i, Nat.le_refl _, hi, rfl, rfl, fun j h1 h2 => by omega, Below.refl _ _⟩
      case round =>
        obtain ⟨k, hk1, hk2, hq2, rfl, HK, HW⟩ := hrel
        have hcx := cell_stay hc HW.out
        by_cases hlt2 : k < n
        · have y1 : (k : Int) < (n : Int) := by omega
          have y2 : (0 : Int) ≤ (k : Int) := by omega
          have hc2 := (HL.out.stay (HU.out.stay HW.out).1).cell hlt2
          obtain ⟨y, ey⟩ : ∃ y, L k = y := ⟨_, rfl⟩
          rw [ey] at hc2
          have HY : Hid (L k = y) := ey
          clear ey
          by_cases hxy : y = x
          · subst hxy
            have y6 : (y == y) = true := by simp
            have hwp : IntKind.i64.wrap (k : Int) = (k : Int) := (wrap_is _).trans (IntWalk.wrap64_in _ (by omega))
            go_upto_region 5 with fail
            go_quiet (fail)
            go_wp2
            go_roundg (n - (k + 1))
            case measure => omega
            case rel =>
              refine ⟨k + 1, by omega, by omega, rfl, by go_num, fun j h1 h2 => ?_, ?_⟩
              · by_cases e : j = k
                · rw [e]; exact HY.out
                · exact HK.out j h1 (by omega)
              · exact below_drewN HW.out _
          · have y6 : (y == x) = false := by simpa using hxy
            have HKI : Hid (i < k) := by
              show i < k
              rcases Nat.lt_or_ge i k with e | e
              · exact e
              · obtain rfl : k = i := by omega
                exact absurd (HY.out.symm.trans HX.out) hxy
            have HBK : Hid (k < n → begB L k = true) := fun _ => by
              obtain ⟨k', rfl⟩ : ∃ k', k = k' + 1 := ⟨k - 1, by have := HKI.out; omega⟩
              exact begB_yes (by rw [HY.out, HK.out k' (by have := HKI.out; omega) (by omega)]; exact hxy)
            obtain ⟨D, hD⟩ : ∃ D : Nat, (k : Int) - (i : Int) = (D : Int) := ⟨k - i, by omega⟩
            have HD : Hid (k = i + D) := by show k = i + D; omega
            go_upto_region 5 with fail
            go_quiet (fail)
            have HO2 : Hid ((wr.drewN nq).ownsRow w.heap.size 50 3 (.slice ad m c) m (sgC (sg L i))) := own_stay HO.out (below_drewN HW.out nq)
            have HU2 : Hid (Up w.heap.size w (wr.drewN nq)) := HU.out.stay (below_drewN HW.out nq)
            have hsz : (wr.drewN nq).heap.size = wr.heap.size := by simp
            have hu := HU2.out.2
            go_wp2_with (at_builtin; refine wpList_append_lies _ rfl _ _ 39 rfl w.heap.size 50 i0 _ 3 24 Try.underlying39 hi0 hz0 hz1 hz2 rfl (by decide) _ _ _ rfl (HO2.out.alloc _) ⟨wr.heap.size, 0, none⟩ 1 1 [.int .u8 x, .int .i64 (i : Int), .int .i64 (D : Int)] rfl rfl (by rw [← hsz]; exact World.news_of_block (heap_alloc_new _ _)) (sg_cells ⟨x, i, D⟩) (by omega) (by unfold maxLen; omega) (by omega) (by simp; omega) (wr.heap.size + 1) (by simp) ?_)
            intro g1 cap1 w1 ho1 hg1 ha1 _
            have HE : Hid (SR w1 w.heap.size (.slice (some ⟨g1, 0, none⟩) (m + 1) cap1) (sg L k)) := by
              show SR _ _ _ _
              obtain ⟨d, rfl⟩ : ∃ d, D = d + 1 := ⟨D - 1, by have := HD.out; have := HKI.out; omega⟩
              rw [HD.out, sg_run HB2.out d (fun j h1 h2 => by rw [HX.out]; exact HK.out j h1 (by rw [HD.out]; exact h2)), HX.out]
              exact SR.snoc (by rw [HM.out]) ho1
            have HV : Hid (Up w.heap.size w w1) := (HU2.out.alloc _).grown hg1 (own_base HO.out)
            clear ho1 hg1 ha1 hu hsz HO2 HU2
            go_wp2
            go_roundg (n - k)
            case measure => have := HKI.out; omega
            case rel => exact ⟨k, hk2, rfl, rfl, HE, HBK, HV⟩
        · obtain rfl : k = n := by omega
          have y1 : ¬ (k : Int) < (k : Int) := by omega
          have y1' : decide ((k : Int) < (k : Int)) = false := by simp
          have HKI : Hid (i < k) := hlt
          have HBK : Hid (k < k → begB L k = true) := fun h => by omega
          obtain ⟨D, hD⟩ : ∃ D : Nat, (k : Int) - (i : Int) = (D : Int) := ⟨k - i, by omega⟩
          have HD : Hid (k = i + D) := by show k = i + D; omega
          go_upto_region 5 with fail
          go_quiet (fail)
          have HO2 : Hid ((wr.drewN nq).ownsRow w.heap.size 50 3 (.slice ad m c) m (sgC (sg L i))) := own_stay HO.out (below_drewN HW.out nq)
          have HU2 : Hid (Up w.heap.size w (wr.drewN nq)) := HU.out.stay (below_drewN HW.out nq)
          have hsz : (wr.drewN nq).heap.size = wr.heap.size := by simp
          have hu := HU2.out.2
          go_wp2_with (at_builtin; refine wpList_append_lies _ rfl _ _ 39 rfl w.heap.size 50 i0 _ 3 24 Try.underlying39 hi0 hz0 hz1 hz2 rfl (by decide) _ _ _ rfl (HO2.out.alloc _) ⟨wr.heap.size, 0, none⟩ 1 1 [.int .u8 x, .int .i64 (i : Int), .int .i64 (D : Int)] rfl rfl (by rw [← hsz]; exact World.news_of_block (heap_alloc_new _ _)) (sg_cells ⟨x, i, D⟩) (by omega) (by unfold maxLen; omega) (by omega) (by simp; omega) (wr.heap.size + 1) (by simp) ?_)
          intro g1 cap1 w1 ho1 hg1 ha1 _
          have HE : Hid (SR w1 w.heap.size (.slice (some ⟨g1, 0, none⟩) (m + 1) cap1) (sg L k)) := by
            show SR _ _ _ _
            obtain ⟨d, rfl⟩ : ∃ d, D = d + 1 := ⟨D - 1, by have := HD.out; have := HKI.out; omega⟩
            rw [HD.out, sg_run HB2.out d (fun j h1 h2 => by rw [HX.out]; exact HK.out j h1 (by rw [HD.out]; exact h2)), HX.out]
            exact SR.snoc (by rw [HM.out]) ho1
          have HV : Hid (Up w.heap.size w w1) := (HU2.out.alloc _).grown hg1 (own_base HO.out)
          clear ho1 hg1 ha1 hu hsz HO2 HU2
          go_wp2
          go_roundg (k - k)
          case measure => have := HKI.out; omega
          case rel => exact ⟨k, hk2, rfl, rfl, HE, HBK, HV⟩
    · obtain rfl : i = n := by omega
      have z1 : ¬ (i : Int) < (i : Int) := by omega
      go_wp2
      go_ret
      exact ⟨_, rfl, HS.out, HU.out⟩
end Go.Proofs.Ytgebmmbnpdhooaa
