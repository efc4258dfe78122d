/- dist: Next. dist: Of. -/
import Derived.Deep.RegionHeld3
import Derived.Lib.MinMax
import Derived.Deep.DeepCutAuto
import Derived.Test.YtfikkkodepfdkaaDoorpkD
namespace Go.Proofs.YtfikkkodepfdkaaDoor.Qns
set_option linter.unusedVariables false
open Go.RowKit Go.ChangeShapes
/-- The row that follows, of whatever numbers. -/
def nx (R L B : Nat → Int) (q : Bool) (p r : Int) : Nat → Int
  | 0 => wrap64 (L 0 + 1)
  | i + 1 =>
    let x := min (min (wrap64 (L (i + 1) + 1)) (wrap64 (nx R L B q p r i + 1))) (wrap64 (L i + if R i = r then 0 else 1))
    if 1 ≤ i ∧ q = true ∧ R i = p ∧ R (i - 1) = r then min x (wrap64 (B (i - 1) + 1)) else x
theorem nx_no {R L B : Nat → Int} {q : Bool} {p r : Int} {i : Nat} (h : ¬ (1 ≤ i ∧ q = true ∧ R i = p ∧ R (i - 1) = r)) : nx R L B q p r (i + 1) = min (wrap64 (L (i + 1) + 1)) (min (wrap64 (nx R L B q p r i + 1)) (wrap64 (L i + if R i = r then 0 else 1))) := by
  show (if 1 ≤ i ∧ q = true ∧ R i = p ∧ R (i - 1) = r then _ else _) = _
  rw [if_neg h, Int.min_assoc]
theorem nx_yes {R L B : Nat → Int} {q : Bool} {p r : Int} {i : Nat} (h : 1 ≤ i ∧ q = true ∧ R i = p ∧ R (i - 1) = r) : nx R L B q p r (i + 1) = min (min (wrap64 (L (i + 1) + 1)) (min (wrap64 (nx R L B q p r i + 1)) (wrap64 (L i + if R i = r then 0 else 1)))) (wrap64 (B (i - 1) + 1)) := by
  show (if 1 ≤ i ∧ q = true ∧ R i = p ∧ R (i - 1) = r then _ else _) = _
  rw [if_pos h, Int.min_assoc (wrap64 (L (i + 1) + 1))]
theorem wrap_is (x : Int) : IntKind.i64.wrap x = wrap64 x := IntWalk.i64_left x
theorem ne_blk {b b' o o' : Nat} (h : b' < b) : (⟨b, o, none⟩ : Addr) ≠ ⟨b', o', none⟩ := by
  intro e
  injection e with e1 _ _
  omega
theorem ne_off {b o o' : Nat} (h : o ≠ o') : (⟨b, o, none⟩ : Addr) ≠ ⟨b, o', none⟩ := by
  intro e
  injection e with _ e1 _
  exact h e1
theorem far_set' {w : World} {p a : Addr} {v u : Value} (h : w.cell? a = some u) (hne : p ≠ a) : (w.setCell p v).drew.cell? a = some u := by
  show (w.setCell p v).cell? a = some u
  rw [World.cell?_setCell_other w p a v hne]
  exact h
theorem run_min3 {P : Program} (w : World) (ts : Array TypeId) (t : TypeId) (k : IntKind) (x y z : Int) :
    (Builtin.min_ ts t #[.int k x, .int k y, .int k z]).run P w = .ok (.int k (min (min x y) z)) w := by
  have e : ∀ x y : Int, (if y < x then y else x) = min x y := fun x y => by
    rw [Int.min_def]
    split <;> split <;> omega
  simp [Builtin.min_, Builtin.min2, e]
set_option maxHeartbeats 1000000 in
set_option maxRecDepth 100000 in
theorem next_same {w : World} {vw vb : Value} {k lb lo cl : Nat} {R L B : Nat → Int} (hW : RSl w vw k R) (hL : Is w lb lo (k + 1) L) (hB : ISl w vb (k + 1) B) (hk : k ≤ 100) (p r : Int) :
    Calls Tryd.prog 73 #[vw, .slice (some ⟨lb, lo, none⟩) (k + 1) cl, vb, .int .i32 p, .int .i32 r] w fun e w' =>
      e = .returned (.slice (some ⟨w.heap.size, 0, none⟩) (k + 1) (k + 1)) ∧ Is w' w.heap.size 0 (k + 1) (nx R L B true p r) ∧ Up w.heap.size w w' := by
  have HW : Hid (RSl w vw k R) := hW
  have HL : Hid (Is w lb lo (k + 1) L) := hL
  have HB : Hid (ISl w vb (k + 1) B) := hB
  obtain ⟨aw, cw, rfl⟩ := hW.form
  obtain ⟨ab, cb, rfl⟩ := hB.form
  have c0 := hL 0 (by omega)
  rw [Nat.add_zero] at c0
  have y0 := World.block_lt_of_cell? w _ c0
  have hmk : ∀ (w : World), (Instr.makeSlice 114 (.int .i64 ((k : Int) + 1)) (.int .i64 ((k : Int) + 1))).run Tryd.prog w = .ok (.slice (some ⟨w.heap.size, 0, none⟩) (k + 1) (k + 1)) (w.alloc (.cells (madeCells #[Value.int .i64 0] (k + 1)) 3)) := run_make_row' (P := Tryd.prog) 114 3 (.int .i64 0) 8 Tryd.underlying114 info3 rfl .i64 .i64 (k + 1) (by omega) (by omega)
  clear hW hL hB
  have z1 : (0 : Int) < (k : Int) + 1 := by omega
  have m0 := made_ir w (k + 1)
  have MC := m0.cell (i := 0) (by omega)
  have MF := m0.frozen 0
  have M0 : Hid (IR (w.alloc (.cells (madeCells #[Value.int .i64 0] (k + 1)) 3)) w.heap.size (k + 1) (fun _ => 0)) := m0
  clear m0
  go_enter Tryd.func73, Tryd.ntmps73
  go_wp2
  go_loopg [12] k (fun g iv wr => ∃ i : Nat, i ≤ k ∧ g = k - i ∧ iv = .int .i64 ((i + 1 : Nat) : Int) ∧ Hid (∃ N, IR wr w.heap.size (k + 1) N ∧ ∀ j, j < i + 1 → N j = nx R L B true p r j) ∧ Hid (Up w.heap.size w wr))
  case atStart =>
    refine ⟨0, Nat.zero_le _, rfl, rfl, ⟨_, made_ir0 w (k + 1) _, fun j hj => ?_⟩, (Up.refl w).alloc _⟩
    obtain rfl : j = 0 := by omega
    rfl
  case round =>
    obtain ⟨i, hi, hg, rfl, HN, HU⟩ := hrel
    by_cases hlt : i < k
    · have z2 : ((i + 1 : Nat) : Int) < (k : Int) + 1 := by omega
      have z3 : (0 : Int) ≤ ((i + 1 : Nat) : Int) := by omega
      have z4 : ¬ ((i + 1 : Nat) : Int) < 0 := by omega
      have z5 : ((i + 1 : Nat) : Int) - 1 = (i : Int) := by omega
      have z6 : ((i : Nat) : Int) < (k : Int) + 1 := by omega
      have z7 : (0 : Int) ≤ (i : Int) := by omega
      have z8 : ¬ (i : Int) < 0 := by omega
      have z9 : ((i : Nat) : Int) < (k : Int) := by omega
      have x2 : (i : Int) + 1 < (k : Int) + 1 := by omega
      have x3 : (0 : Int) ≤ (i : Int) + 1 := by omega
      have x4 : (i : Int) ≤ (k : Int) := by omega
      have x6 : IntKind.i64.wrap (i : Int) = (i : Int) := (wrap_is _).trans (IntWalk.wrap64_in _ (by omega))
      have x5 : (i : Int) + 1 - 1 = (i : Int) := by omega
      obtain ⟨wb, wo, rfl, hR⟩ := HW.out.at (by omega)
      have hcw := (hR.stay HU.out.1) i hlt
      have hl1 := (HL.out.stay HU.out.1) (i + 1) (by omega)
      have hl0 := (HL.out.stay HU.out.1) i (by omega)
      obtain ⟨N, hN, hj⟩ := HN.out
      have hn0 := hN.cell (i := i) (by omega)
      have hn1 := hN.cell (i := i + 1) (by omega)
      have hf := hN.frozen (i + 1)
      have HN2 : Hid (IR wr w.heap.size (k + 1) N) := hN
      have HJ : Hid (∀ j, j < i + 1 → N j = nx R L B true p r j) := hj
      have HR : Hid (Rs w wb wo k R) := hR
      have y1 := World.block_lt_of_cell? w _ (hR i hlt)
      clear hN hj HN hR
      obtain ⟨l1, el1⟩ : ∃ x, L (i + 1) = x := ⟨_, rfl⟩
      obtain ⟨l0, el0⟩ : ∃ x, L i = x := ⟨_, rfl⟩
      obtain ⟨n0, en0⟩ : ∃ x, N i = x := ⟨_, rfl⟩
      obtain ⟨n1, en1⟩ : ∃ x, N (i + 1) = x := ⟨_, rfl⟩
      obtain ⟨r0, er0⟩ : ∃ x, R i = x := ⟨_, rfl⟩
      obtain ⟨d, ed⟩ : ∃ x : Int, (if r0 = r then 0 else 1) = x := ⟨_, rfl⟩
      have cd := differ_any r0 r
      rw [ed] at cd
      rw [el1] at hl1
      rw [el0] at hl0
      rw [en0] at hn0
      rw [en1] at hn1
      rw [er0] at hcw
      have EQ : Hid (L (i + 1) = l1 ∧ L i = l0 ∧ N i = n0 ∧ R i = r0 ∧ (if r0 = r then (0 : Int) else 1) = d) := ⟨el1, el0, en0, er0, ed⟩
      clear el1 el0 en0 en1 er0 ed
      obtain ⟨a1, ea1⟩ : ∃ x, wrap64 (l1 + 1) = x := ⟨_, rfl⟩
      obtain ⟨a2, ea2⟩ : ∃ x, wrap64 (n0 + 1) = x := ⟨_, rfl⟩
      obtain ⟨a3, ea3⟩ : ∃ x, wrap64 (l0 + d) = x := ⟨_, rfl⟩
      have ea1' : IntKind.i64.wrap (l1 + 1) = a1 := (wrap_is _).trans ea1
      have ea2' : IntKind.i64.wrap (n0 + 1) = a2 := (wrap_is _).trans ea2
      have ea3' : IntKind.i64.wrap (l0 + d) = a3 := (wrap_is _).trans ea3
      have EA : Hid (wrap64 (l1 + 1) = a1 ∧ wrap64 (n0 + 1) = a2 ∧ wrap64 (l0 + d) = a3) := ⟨ea1, ea2, ea3⟩
      have hm3 : ∀ w : World, (Builtin.min_ #[3, 3, 3] 3 #[.int .i64 a1, .int .i64 a2, .int .i64 a3]).run Tryd.prog w = .ok (.int .i64 (min (min a1 a2) a3)) w := fun w => run_min3 w _ _ _ _ _ _
      clear ea1 ea2 ea3
      go_upto_region 8 with fail
      go_cut [12] from 28 to 102 (fun iv wx => iv = .int .i64 ((i + 1 : Nat) : Int) ∧ Hid (∃ M, IR wx w.heap.size (k + 1) M ∧ (∀ j, j < i + 1 → M j = nx R L B true p r j) ∧ M (i + 1) = min a1 (min a2 a3)) ∧ Hid (Up w.heap.size w wx))
      case first =>
        have HKEEP : Hid (∀ v : Value, (wr.setCell ⟨w.heap.size, i + 1, none⟩ v).drew.cell? ⟨lb, lo + (i + 1), none⟩ = some (.int .i64 l1) ∧ (wr.setCell ⟨w.heap.size, i + 1, none⟩ v).drew.cell? ⟨lb, lo + i, none⟩ = some (.int .i64 l0) ∧ (wr.setCell ⟨w.heap.size, i + 1, none⟩ v).drew.cell? ⟨w.heap.size, i, none⟩ = some (.int .i64 n0) ∧ (wr.setCell ⟨w.heap.size, i + 1, none⟩ v).drew.cell? ⟨wb, wo + i, none⟩ = some (.int .i32 r0)) := fun v => ⟨far_set' hl1 (ne_blk y0), far_set' hl0 (ne_blk y0), far_set' hn0 (ne_off (by omega)), far_set' hcw (ne_blk y1)⟩
        go_region_held3 (fun w' => w'.cell? ⟨lb, lo + (i + 1), none⟩ = some (.int .i64 l1) ∧ w'.cell? ⟨lb, lo + i, none⟩ = some (.int .i64 l0) ∧ w'.cell? ⟨w.heap.size, i, none⟩ = some (.int .i64 n0) ∧ w'.cell? ⟨wb, wo + i, none⟩ = some (.int .i32 r0)) (first | exact HKEEP.out _ | exact ⟨hl1, hl0, hn0, hcw⟩ | assumption | go_keep) (first | (go_at_call 87; refine (cd _).mono ?_; rintro e w' ⟨rfl, rfl⟩))
        all_goals
          go_wp2
          go_meet
          case rel =>
            refine ⟨by go_num, ⟨setN N (i + 1) (min a1 (min a2 a3)), (HN2.out.set (i + 1) _).drew, fun j hj => ?_, ?_⟩, (HU.out.setCell (Nat.le_refl _) _).drew⟩
            · rw [← HJ.out j hj]
              unfold setN
              rw [if_neg (by omega)]
            · unfold setN
              rw [if_pos rfl]
      case rest =>
        obtain ⟨rfl, HM, HU2⟩ := hcut
        obtain ⟨M, hM, hMj, hMi⟩ := HM.out
        have hcw2 := (HR.out.stay HU2.out.1) i hlt
        have hm1 := hM.cell (i := i + 1) (by omega)
        have hf2 := hM.frozen (i + 1)
        have HM2 : Hid (IR wc w.heap.size (k + 1) M) := hM
        have HMJ : Hid (∀ j, j < i + 1 → M j = nx R L B true p r j) := hMj
        rw [hMi] at hm1
        have HMI : Hid (M (i + 1) = min a1 (min a2 a3)) := hMi
        clear hM hMj hMi HM hl1 hl0 hn0 hn1 hf hcw cd
        rw [EQ.out.2.2.2.1] at hcw2
        have NX : Hid (min (wrap64 (L (i + 1) + 1)) (min (wrap64 (nx R L B true p r i + 1)) (wrap64 (L i + if R i = r then 0 else 1))) = min a1 (min a2 a3)) := by
          show _ = _
          rw [← HJ.out i (by omega), EQ.out.1, EQ.out.2.1, EQ.out.2.2.1, EQ.out.2.2.2.1, EQ.out.2.2.2.2, EA.out.1, EA.out.2.1, EA.out.2.2]
        rcases Nat.eq_zero_or_pos i with h0 | h0
        · subst h0
          have g1 : ¬ (2 : Int) ≤ (0 : Int) + 1 := by omega
          go_wp2
          go_roundg (k - (0 + 1))
          case measure => omega
          case rel =>
            refine ⟨0 + 1, by omega, rfl, by go_num, ⟨M, HM2.out, fun j hj => ?_⟩, HU2.out⟩
            rcases Nat.lt_or_ge j (0 + 1) with e | e
            · exact HMJ.out j e
            · obtain rfl : j = 0 + 1 := by omega
              rw [HMI.out, nx_no (fun h => by omega), NX.out]
        · have g1 : (2 : Int) ≤ (i : Int) + 1 := by omega
          by_cases hp : r0 = p
          · obtain ⟨i', rfl⟩ : ∃ i', i = i' + 1 := ⟨i - 1, by omega⟩
            have hcw3 := (HR.out.stay HU2.out.1) i' (by omega)
            obtain ⟨r1, er1⟩ : ∃ x, R i' = x := ⟨_, rfl⟩
            rw [er1] at hcw3
            have ER : Hid (R i' = r1) := er1
            have x7 : ((i' + 1 : Nat) : Int) + 1 - 2 = (i' : Int) := by omega
            have x7' : (i' : Int) + 1 + 1 - 2 = (i' : Int) := by omega
            have x8 : (i' : Int) < (k : Int) := by omega
            have x9 : (0 : Int) ≤ (i' : Int) := by omega
            have x10 : (i' : Int) ≤ (k : Int) := by omega
            clear er1
            subst hp
            by_cases hr : r1 = r
            · subst hr
              obtain ⟨bb, bo, rfl, hBs⟩ := HB.out.at (by omega)
              have hcb := (hBs.stay HU2.out.1) i' (by omega)
              have y2 := World.block_lt_of_cell? w _ (hBs i' (by omega))
              clear hBs
              obtain ⟨b0, eb0⟩ : ∃ x, B i' = x := ⟨_, rfl⟩
              rw [eb0] at hcb
              have EB : Hid (B i' = b0) := eb0
              obtain ⟨a4, ea4⟩ : ∃ x, wrap64 (b0 + 1) = x := ⟨_, rfl⟩
              have ea4' : IntKind.i64.wrap (b0 + 1) = a4 := (wrap_is _).trans ea4
              have EA4 : Hid (wrap64 (b0 + 1) = a4) := ea4
              obtain ⟨mm, emm⟩ : ∃ x, min a1 (min a2 a3) = x := ⟨_, rfl⟩
              rw [emm] at hm1
              have EM : Hid (min a1 (min a2 a3) = mm) := emm
              clear eb0 ea4 emm
              have x11 : (i' : Int) < (k : Int) + 1 := by omega
              have x12 : IntKind.i64.wrap (i' : Int) = (i' : Int) := (wrap_is _).trans (IntWalk.wrap64_in _ (by omega))
              have HKEEP : Hid (∀ v : Value, (wc.setCell ⟨w.heap.size, i' + 1 + 1, none⟩ v).drew.cell? ⟨bb, bo + i', none⟩ = some (.int .i64 b0)) := fun v => far_set' hcb (ne_blk y2)
              go_upto_region 10 with fail
              go_region
              all_goals
                go_wp2
                go_roundg (k - (i' + 1 + 1))
                case measure => omega
                case rel =>
                  refine ⟨i' + 1 + 1, by omega, rfl, by go_num, ⟨setN M (i' + 1 + 1) (min mm a4), (HM2.out.set (i' + 1 + 1) _).drew, fun j hj => ?_⟩, (HU2.out.setCell (Nat.le_refl _) _).drew⟩
                  unfold setN
                  rcases Nat.lt_or_ge j (i' + 1 + 1) with e | e
                  · rw [if_neg (by omega)]
                    exact HMJ.out j e
                  · obtain rfl : j = i' + 1 + 1 := by omega
                    rw [if_pos rfl, nx_yes ⟨by omega, rfl, EQ.out.2.2.2.1, by simpa using ER.out⟩, NX.out, EM.out]
                    show min mm a4 = min mm (wrap64 (B i' + 1))
                    rw [EB.out, EA4.out]
            · have hr' : (r1 == r) = false := by simpa using hr
              go_wp2
              go_roundg (k - (i' + 1 + 1))
              case measure => omega
              case rel =>
                refine ⟨i' + 1 + 1, by omega, rfl, by go_num, ⟨M, HM2.out, fun j hj => ?_⟩, HU2.out⟩
                rcases Nat.lt_or_ge j (i' + 1 + 1) with e | e
                · exact HMJ.out j e
                · obtain rfl : j = i' + 1 + 1 := by omega
                  rw [HMI.out, nx_no (fun h => hr (by rw [← ER.out]; exact h.2.2.2)), NX.out]
          · have hp' : (r0 == p) = false := by simpa using hp
            go_wp2
            go_roundg (k - (i + 1))
            case measure => omega
            case rel =>
              refine ⟨i + 1, by omega, rfl, by go_num, ⟨M, HM2.out, fun j hj => ?_⟩, HU2.out⟩
              rcases Nat.lt_or_ge j (i + 1) with e | e
              · exact HMJ.out j e
              · obtain rfl : j = i + 1 := by omega
                rw [HMI.out, nx_no (fun h => hp (by rw [← EQ.out.2.2.2.1]; exact h.2.2.1)), NX.out]
    · obtain rfl : i = k := by omega
      have z2 : ¬ ((i + 1 : Nat) : Int) < (i : Int) + 1 := by omega
      go_wp2
      go_ret
      obtain ⟨N, hN, hj⟩ := HN.out
      exact ⟨rfl, hN.is.congr hj, HU.out⟩
set_option maxHeartbeats 1000000 in
set_option maxRecDepth 100000 in
theorem next_other {w : World} {vw vb : Value} {k m lb lo cl : Nat} {R L B : Nat → Int} (hW : RSl w vw k R) (hL : Is w lb lo (k + 1) L) (hB : ISl w vb m B) (hk : k ≤ 100) (hm : m ≤ 1000) (hq : ¬ m = k + 1) (p r : Int) :
    Calls Tryd.prog 73 #[vw, .slice (some ⟨lb, lo, none⟩) (k + 1) cl, vb, .int .i32 p, .int .i32 r] w fun e w' =>
      e = .returned (.slice (some ⟨w.heap.size, 0, none⟩) (k + 1) (k + 1)) ∧ Is w' w.heap.size 0 (k + 1) (nx R L B false p r) ∧ Up w.heap.size w w' := by
  have HW : Hid (RSl w vw k R) := hW
  have HL : Hid (Is w lb lo (k + 1) L) := hL
  have HB : Hid (ISl w vb m B) := hB
  obtain ⟨aw, cw, rfl⟩ := hW.form
  obtain ⟨ab, cb, rfl⟩ := hB.form
  have c0 := hL 0 (by omega)
  rw [Nat.add_zero] at c0
  have y0 := World.block_lt_of_cell? w _ c0
  have hmk : ∀ (w : World), (Instr.makeSlice 114 (.int .i64 ((k : Int) + 1)) (.int .i64 ((k : Int) + 1))).run Tryd.prog w = .ok (.slice (some ⟨w.heap.size, 0, none⟩) (k + 1) (k + 1)) (w.alloc (.cells (madeCells #[Value.int .i64 0] (k + 1)) 3)) := run_make_row' (P := Tryd.prog) 114 3 (.int .i64 0) 8 Tryd.underlying114 info3 rfl .i64 .i64 (k + 1) (by omega) (by omega)
  clear hW hL hB
  have z1 : (0 : Int) < (k : Int) + 1 := by omega
  have m0 := made_ir w (k + 1)
  have MC := m0.cell (i := 0) (by omega)
  have MF := m0.frozen 0
  have M0 : Hid (IR (w.alloc (.cells (madeCells #[Value.int .i64 0] (k + 1)) 3)) w.heap.size (k + 1) (fun _ => 0)) := m0
  clear m0
  go_enter Tryd.func73, Tryd.ntmps73
  go_wp2
  go_loopg [12] k (fun g iv wr => ∃ i : Nat, i ≤ k ∧ g = k - i ∧ iv = .int .i64 ((i + 1 : Nat) : Int) ∧ Hid (∃ N, IR wr w.heap.size (k + 1) N ∧ ∀ j, j < i + 1 → N j = nx R L B false p r j) ∧ Hid (Up w.heap.size w wr))
  case atStart =>
    refine ⟨0, Nat.zero_le _, rfl, rfl, ⟨_, made_ir0 w (k + 1) _, fun j hj => ?_⟩, (Up.refl w).alloc _⟩
    obtain rfl : j = 0 := by omega
    rfl
  case round =>
    obtain ⟨i, hi, hg, rfl, HN, HU⟩ := hrel
    by_cases hlt : i < k
    · have z2 : ((i + 1 : Nat) : Int) < (k : Int) + 1 := by omega
      have z3 : (0 : Int) ≤ ((i + 1 : Nat) : Int) := by omega
      have z4 : ¬ ((i + 1 : Nat) : Int) < 0 := by omega
      have z5 : ((i + 1 : Nat) : Int) - 1 = (i : Int) := by omega
      have z6 : ((i : Nat) : Int) < (k : Int) + 1 := by omega
      have z7 : (0 : Int) ≤ (i : Int) := by omega
      have z8 : ¬ (i : Int) < 0 := by omega
      have z9 : ((i : Nat) : Int) < (k : Int) := by omega
      have x2 : (i : Int) + 1 < (k : Int) + 1 := by omega
      have x3 : (0 : Int) ≤ (i : Int) + 1 := by omega
      have x4 : (i : Int) ≤ (k : Int) := by omega
      have x6 : IntKind.i64.wrap (i : Int) = (i : Int) := (wrap_is _).trans (IntWalk.wrap64_in _ (by omega))
      have x5 : (i : Int) + 1 - 1 = (i : Int) := by omega
      obtain ⟨wb, wo, rfl, hR⟩ := HW.out.at (by omega)
      have hcw := (hR.stay HU.out.1) i hlt
      have hl1 := (HL.out.stay HU.out.1) (i + 1) (by omega)
      have hl0 := (HL.out.stay HU.out.1) i (by omega)
      obtain ⟨N, hN, hj⟩ := HN.out
      have hn0 := hN.cell (i := i) (by omega)
      have hn1 := hN.cell (i := i + 1) (by omega)
      have hf := hN.frozen (i + 1)
      have HN2 : Hid (IR wr w.heap.size (k + 1) N) := hN
      have HJ : Hid (∀ j, j < i + 1 → N j = nx R L B false p r j) := hj
      have HR : Hid (Rs w wb wo k R) := hR
      have y1 := World.block_lt_of_cell? w _ (hR i hlt)
      clear hN hj HN hR
      obtain ⟨l1, el1⟩ : ∃ x, L (i + 1) = x := ⟨_, rfl⟩
      obtain ⟨l0, el0⟩ : ∃ x, L i = x := ⟨_, rfl⟩
      obtain ⟨n0, en0⟩ : ∃ x, N i = x := ⟨_, rfl⟩
      obtain ⟨n1, en1⟩ : ∃ x, N (i + 1) = x := ⟨_, rfl⟩
      obtain ⟨r0, er0⟩ : ∃ x, R i = x := ⟨_, rfl⟩
      obtain ⟨d, ed⟩ : ∃ x : Int, (if r0 = r then 0 else 1) = x := ⟨_, rfl⟩
      have cd := differ_any r0 r
      rw [ed] at cd
      rw [el1] at hl1
      rw [el0] at hl0
      rw [en0] at hn0
      rw [en1] at hn1
      rw [er0] at hcw
      have EQ : Hid (L (i + 1) = l1 ∧ L i = l0 ∧ N i = n0 ∧ R i = r0 ∧ (if r0 = r then (0 : Int) else 1) = d) := ⟨el1, el0, en0, er0, ed⟩
      clear el1 el0 en0 en1 er0 ed
      obtain ⟨a1, ea1⟩ : ∃ x, wrap64 (l1 + 1) = x := ⟨_, rfl⟩
      obtain ⟨a2, ea2⟩ : ∃ x, wrap64 (n0 + 1) = x := ⟨_, rfl⟩
      obtain ⟨a3, ea3⟩ : ∃ x, wrap64 (l0 + d) = x := ⟨_, rfl⟩
      have ea1' : IntKind.i64.wrap (l1 + 1) = a1 := (wrap_is _).trans ea1
      have ea2' : IntKind.i64.wrap (n0 + 1) = a2 := (wrap_is _).trans ea2
      have ea3' : IntKind.i64.wrap (l0 + d) = a3 := (wrap_is _).trans ea3
      have EA : Hid (wrap64 (l1 + 1) = a1 ∧ wrap64 (n0 + 1) = a2 ∧ wrap64 (l0 + d) = a3) := ⟨ea1, ea2, ea3⟩
      have hm3 : ∀ w : World, (Builtin.min_ #[3, 3, 3] 3 #[.int .i64 a1, .int .i64 a2, .int .i64 a3]).run Tryd.prog w = .ok (.int .i64 (min (min a1 a2) a3)) w := fun w => run_min3 w _ _ _ _ _ _
      clear ea1 ea2 ea3
      go_upto_region 8 with fail
      go_cut [12] from 28 to 102 (fun iv wx => iv = .int .i64 ((i + 1 : Nat) : Int) ∧ Hid (∃ M, IR wx w.heap.size (k + 1) M ∧ (∀ j, j < i + 1 → M j = nx R L B false p r j) ∧ M (i + 1) = min a1 (min a2 a3)) ∧ Hid (Up w.heap.size w wx))
      case first =>
        have HKEEP : Hid (∀ v : Value, (wr.setCell ⟨w.heap.size, i + 1, none⟩ v).drew.cell? ⟨lb, lo + (i + 1), none⟩ = some (.int .i64 l1) ∧ (wr.setCell ⟨w.heap.size, i + 1, none⟩ v).drew.cell? ⟨lb, lo + i, none⟩ = some (.int .i64 l0) ∧ (wr.setCell ⟨w.heap.size, i + 1, none⟩ v).drew.cell? ⟨w.heap.size, i, none⟩ = some (.int .i64 n0) ∧ (wr.setCell ⟨w.heap.size, i + 1, none⟩ v).drew.cell? ⟨wb, wo + i, none⟩ = some (.int .i32 r0)) := fun v => ⟨far_set' hl1 (ne_blk y0), far_set' hl0 (ne_blk y0), far_set' hn0 (ne_off (by omega)), far_set' hcw (ne_blk y1)⟩
        go_region_held3 (fun w' => w'.cell? ⟨lb, lo + (i + 1), none⟩ = some (.int .i64 l1) ∧ w'.cell? ⟨lb, lo + i, none⟩ = some (.int .i64 l0) ∧ w'.cell? ⟨w.heap.size, i, none⟩ = some (.int .i64 n0) ∧ w'.cell? ⟨wb, wo + i, none⟩ = some (.int .i32 r0)) (first | exact HKEEP.out _ | exact ⟨hl1, hl0, hn0, hcw⟩ | assumption | go_keep) (first | (go_at_call 87; refine (cd _).mono ?_; rintro e w' ⟨rfl, rfl⟩))
        all_goals
          go_wp2
          go_meet
          case rel =>
            refine ⟨by go_num, ⟨setN N (i + 1) (min a1 (min a2 a3)), (HN2.out.set (i + 1) _).drew, fun j hj => ?_, ?_⟩, (HU.out.setCell (Nat.le_refl _) _).drew⟩
            · rw [← HJ.out j hj]
              unfold setN
              rw [if_neg (by omega)]
            · unfold setN
              rw [if_pos rfl]
      case rest =>
        obtain ⟨rfl, HM, HU2⟩ := hcut
        obtain ⟨M, hM, hMj, hMi⟩ := HM.out
        have hcw2 := (HR.out.stay HU2.out.1) i hlt
        have hm1 := hM.cell (i := i + 1) (by omega)
        have hf2 := hM.frozen (i + 1)
        have HM2 : Hid (IR wc w.heap.size (k + 1) M) := hM
        have HMJ : Hid (∀ j, j < i + 1 → M j = nx R L B false p r j) := hMj
        rw [hMi] at hm1
        have HMI : Hid (M (i + 1) = min a1 (min a2 a3)) := hMi
        clear hM hMj hMi HM hl1 hl0 hn0 hn1 hf hcw cd
        rw [EQ.out.2.2.2.1] at hcw2
        have NX : Hid (min (wrap64 (L (i + 1) + 1)) (min (wrap64 (nx R L B false p r i + 1)) (wrap64 (L i + if R i = r then 0 else 1))) = min a1 (min a2 a3)) := by
          show _ = _
          rw [← HJ.out i (by omega), EQ.out.1, EQ.out.2.1, EQ.out.2.2.1, EQ.out.2.2.2.1, EQ.out.2.2.2.2, EA.out.1, EA.out.2.1, EA.out.2.2]
        rcases Nat.eq_zero_or_pos i with h0 | h0
        · subst h0
          have g1 : ¬ (2 : Int) ≤ (0 : Int) + 1 := by omega
          go_wp2
          go_roundg (k - (0 + 1))
          case measure => omega
          case rel =>
            refine ⟨0 + 1, by omega, rfl, by go_num, ⟨M, HM2.out, fun j hj => ?_⟩, HU2.out⟩
            rcases Nat.lt_or_ge j (0 + 1) with e | e
            · exact HMJ.out j e
            · obtain rfl : j = 0 + 1 := by omega
              rw [HMI.out, nx_no (fun h => by omega), NX.out]
        · have g1 : (2 : Int) ≤ (i : Int) + 1 := by omega
          have g2 : ¬ ((m : Nat) : Int) = (k : Int) + 1 := by omega
          go_wp2
          go_roundg (k - (i + 1))
          case measure => omega
          case rel =>
            refine ⟨i + 1, by omega, rfl, by go_num, ⟨M, HM2.out, fun j hj => ?_⟩, HU2.out⟩
            rcases Nat.lt_or_ge j (i + 1) with e | e
            · exact HMJ.out j e
            · obtain rfl : j = i + 1 := by omega
              rw [HMI.out, nx_no (fun h => Bool.noConfusion h.2.1), NX.out]
    · obtain rfl : i = k := by omega
      have z2 : ¬ ((i + 1 : Nat) : Int) < (i : Int) + 1 := by omega
      go_wp2
      go_ret
      obtain ⟨N, hN, hj⟩ := HN.out
      exact ⟨rfl, hN.is.congr hj, HU.out⟩
theorem next_any {w : World} {vw vb : Value} {k m lb lo cl : Nat} {R L B : Nat → Int} (hW : RSl w vw k R) (hL : Is w lb lo (k + 1) L) (hB : ISl w vb m B) (hk : k ≤ 100) (hm : m ≤ 1000) (p r : Int) :
    Calls Tryd.prog 73 #[vw, .slice (some ⟨lb, lo, none⟩) (k + 1) cl, vb, .int .i32 p, .int .i32 r] w fun e w' =>
      e = .returned (.slice (some ⟨w.heap.size, 0, none⟩) (k + 1) (k + 1)) ∧ Is w' w.heap.size 0 (k + 1) (nx R L B (decide (m = k + 1)) p r) ∧ Up w.heap.size w w' := by
  by_cases h : m = k + 1
  · subst h
    rw [decide_eq_true rfl]
    exact next_same hW hL hB hk p r
  · rw [decide_eq_false h]
    exact next_other hW hL hB hk hm h p r
end Go.Proofs.YtfikkkodepfdkaaDoor.Qns
namespace Go.Proofs.YtfikkkodepfdkaaDoor.Qns
set_option linter.unusedVariables false
open Go.RowKit Go.ChangeShapes
theorem dd_bound (A B : Nat → Int) (i k : Nat) : dd A B i k ≤ i + k := by
  have := (dd_max A B _ i k (Nat.le_refl _)).1
  omega
theorem wrap_small (x : Nat) (h : x ≤ 1000) (z : Int) (hz : z = (x : Int)) : wrap64 z = (x : Int) := by
  subst hz
  exact IntWalk.wrap64_in _ (by omega)
theorem nx_dd (A B L F : Nat → Int) (q : Bool) (p : Int) (k n : Nat) (hk : k ≤ 100) (hn : n ≤ 100) (hL : ∀ j, j ≤ k → L j = (dd A B j n : Int)) (hq : q = true ↔ 1 ≤ n) (hp : 1 ≤ n → p = B (n - 1))
    (hF : 1 ≤ n → ∀ j, j ≤ k → F j = (dd A B j (n - 1) : Int)) : ∀ j, j ≤ k → nx A L F q p (B n) j = (dd A B j (n + 1) : Int)
  | 0, h => by
    show wrap64 (L 0 + 1) = _
    rw [hL 0 h, dd_0, dd_0]
    exact wrap_small (n + 1) (by omega) _ (by omega)
  | j + 1, h => by
    have ih := nx_dd A B L F q p k n hk hn hL hq hp hF j (by omega)
    have b1 := dd_bound A B (j + 1) n
    have b2 := dd_bound A B j (n + 1)
    have b3 := dd_bound A B j n
    have b4 := dd_bound A B (j - 1) (n - 1)
    have e1 : wrap64 (L (j + 1) + 1) = ((dd A B (j + 1) n + 1 : Nat) : Int) := by
      rw [hL (j + 1) h]; exact wrap_small _ (by omega) _ (by omega)
    have e2 : wrap64 (nx A L F q p (B n) j + 1) = ((dd A B j (n + 1) + 1 : Nat) : Int) := by
      rw [ih]; exact wrap_small _ (by omega) _ (by omega)
    have e3 : wrap64 (L j + if A j = B n then 0 else 1) = ((dd A B j n + if A j = B n then 0 else 1 : Nat) : Int) := by
      rw [hL j (by omega)]
      by_cases e : A j = B n
      · rw [if_pos e, if_pos e]; exact wrap_small _ (by omega) _ (by omega)
      · rw [if_neg e, if_neg e]; exact wrap_small _ (by omega) _ (by omega)
    have hd := dd_s A B j n
    by_cases hc : 1 ≤ j ∧ 1 ≤ n ∧ A j = B (n - 1) ∧ A (j - 1) = B n
    · rw [if_pos hc] at hd
      have e4 : wrap64 (F (j - 1) + 1) = ((dd A B (j - 1) (n - 1) + 1 : Nat) : Int) := by
        rw [hF hc.2.1 (j - 1) (by omega)]; exact wrap_small _ (by omega) _ (by omega)
      rw [nx_yes ⟨hc.1, hq.2 hc.2.1, by rw [hp hc.2.1]; exact hc.2.2.1, hc.2.2.2⟩, e1, e2, e3, e4, hd]
      omega
    · rw [if_neg hc] at hd
      rw [nx_no (fun h' => hc ⟨h'.1, hq.1 h'.2.1, by rw [← hp (hq.1 h'.2.1)]; exact h'.2.2.1, h'.2.2.2⟩), e1, e2, e3, hd]
      omega
end Go.Proofs.YtfikkkodepfdkaaDoor.Qns
