/- The law DistRows. -/
import Derived.Test.YtkgabdmicpfnmaaqRef
import Derived.Test.YtkgabdmicpfnmaaqAwk
import Derived.Deep.RegionHeld3
namespace Go.Proofs.Ytkgabdmicpfnmaa
set_option linter.unusedVariables false
open Go.RowKit Go.ChangeShapes
theorem RSl.pre {w : World} {ad : Option Addr} {k c i : Nat} {R : Nat → Int} (h : RSl w (.slice ad k c) k R) (hi : i ≤ k) : RSl w (.slice ad i c) i R := by
  rcases Nat.eq_zero_or_pos i with h0 | h0
  · exact Or.inl ⟨ad, c, by rw [h0], h0⟩
  · obtain ⟨b, off, rfl, hr⟩ := h.at (by omega)
    exact Or.inr ⟨b, off, c, rfl, fun j hj => hr j (by omega)⟩
theorem lst_le (N : Nat → Int) : ∀ k, lst N k ≤ N k
  | 0 => Int.le_refl _
  | k + 1 => by
    show min (lst N k) (N (k + 1)) ≤ N (k + 1)
    omega
/-- The reference's answer while the row stands. -/
def RwS (wr : World) (gl i : Nat) (d : Int) (w' : World) : Prop := w'.cell? ⟨gl, i, none⟩ = some (.int .i64 d) ∧ Up wr.heap.size wr w'
theorem RwS.drew {wr : World} {gl i : Nat} {d : Int} {w' : World} (h : RwS wr gl i d w') : RwS wr gl i d w'.drew := ⟨h.1, h.2.drew⟩
theorem rdist_RwS {wr : World} {gl i m : Nat} {d : Int} {va vb : Value} {A B : Nat → Int} (hA : RSl wr va i A) (hB : RSl wr vb m B) (hi : i ≤ 64) (hm : m ≤ 64) (hd : d = (dd A B i m : Int)) (w' : World) (h : RwS wr gl i d w') :
    Calls Try.prog 11 #[va, vb] w' fun e w'' => e = .returned (.int .i64 d) ∧ RwS wr gl i d w'' := by
  rw [hd] at *
  exact (rdist_near (hA.stay h.2.1) (hB.stay h.2.1) hi hm).mono fun _ _ ⟨h1, h2⟩ => ⟨h1, cell_stay h.1 h2.1, h.2.stay h2.1⟩
set_option maxHeartbeats 1000000 in
set_option maxRecDepth 100000 in
theorem rows_law {w : World} {aa ab : Option Addr} {ca cb : Nat} {A B : List Int} (hA : RSl w (.slice aa A.length ca) A.length (at_ A)) (hB : RSl w (.slice ab B.length cb) B.length (at_ B)) (mA : A.length ≤ maxLen) (mB : B.length ≤ maxLen) (hca : A.length ≤ ca) (hcb : B.length ≤ cb) :
    Calls Try.prog 4 #[.slice aa A.length ca, .slice ab B.length cb] w fun e w' => e = .returned (.bool true) ∧ Below w.heap.size w w' := by
  have HA : Hid (RSl w (.slice aa A.length ca) A.length (at_ A)) := hA
  have HB : Hid (RSl w (.slice ab B.length cb) B.length (at_ B)) := hB
  clear hA hB
  have c0 := awake_any w
  generalize ek : A.length = k at *
  generalize en : B.length = n at *
  clear ek en
  by_cases h1 : 25 < k
  · have z1 : (25 : Int) < (k : Int) := by omega
    clear h1
    go_enter Try.func4, Try.ntmps4
    go_wp2_with fail
    refine c0.mono ?_
    rintro e w1 ⟨rfl, hU1⟩
    have HU : Hid (Up w.heap.size w w1) := hU1
    clear hU1 c0
    go_wp2
    go_ret
    exact ⟨rfl, HU.out.1⟩
  have z1 : ¬ (25 : Int) < (k : Int) := by omega
  by_cases h2 : 25 < n
  · have z2 : (25 : Int) < (n : Int) := by omega
    clear h2
    go_enter Try.func4, Try.ntmps4
    go_wp2_with fail
    refine c0.mono ?_
    rintro e w1 ⟨rfl, hU1⟩
    have HU : Hid (Up w.heap.size w w1) := hU1
    clear hU1 c0
    go_wp2
    go_ret
    exact ⟨rfl, HU.out.1⟩
  have z2 : ¬ (25 : Int) < (n : Int) := by omega
  have y1 : (k : Int) ≤ (ca : Int) := by omega
  have y2 : (n : Int) ≤ (cb : Int) := by omega
  go_enter Try.func4, Try.ntmps4
  go_wp2_with fail
  refine c0.mono ?_
  rintro e w1 ⟨rfl, hU1⟩
  have HU : Hid (Up w.heap.size w w1) := hU1
  clear hU1 c0
  have c1 := first_any (k : Int) w1
  have hf : fN (k : Int) = k := by unfold fN; omega
  rw [hf] at c1
  go_wp2_with fail
  refine c1.mono ?_
  rintro e w2 ⟨rfl, hI1, hU1⟩
  have HI : Hid (Is w2 w1.heap.size 0 (k + 1) fun i => (i : Int)) := hI1
  have HU2 : Hid (Up w.heap.size w w2) := HU.out.stay hU1.1
  clear hI1 hU1 c1 hf
  go_wp2
  go_loopg [5, 6, 7, 26] n (fun g lv bv pv iv wr => ∃ i : Nat, ∃ m gl : Nat, ∃ p : Int, ∃ F : Nat → Int, i ≤ n ∧ g = n - i ∧ iv = .int .i64 i ∧ pv = .int .i32 p ∧ lv = .slice (some ⟨gl, 0, none⟩) (k + 1) (k + 1) ∧ m ≤ 100 ∧ Hid (Is wr gl 0 (k + 1) (fun j => (dd (at_ A) (at_ B) j i : Int))) ∧ Hid (ISl wr bv m F) ∧
    Hid ((m = k + 1 ↔ 1 ≤ i) ∧ (1 ≤ i → p = at_ B (i - 1)) ∧ (1 ≤ i → ∀ j, j ≤ k → F j = (dd (at_ A) (at_ B) j (i - 1) : Int))) ∧ Hid (Up w.heap.size w wr))
  case atStart =>
    refine ⟨0, 0, w1.heap.size, -5, fun _ => 0, Nat.zero_le _, rfl, rfl, rfl, rfl, by omega, ?_, Or.inl ⟨none, 0, rfl, rfl⟩, ⟨⟨fun h => by omega, fun h => by omega⟩, fun h => by omega, fun h => by omega⟩, HU2.out⟩
    intro j hj
    show w2.cell? _ = some (.int .i64 (dd (at_ A) (at_ B) j 0 : Int))
    rw [dd_i]
    exact HI.out j hj
  case round =>
    obtain ⟨i, m, gl, p, F, hi, hg, rfl, rfl, rfl, hm, HL, HBf, HF, HU3⟩ := hrel
    by_cases hlt : i < n
    · have z3 : ((i : Nat) : Int) < (n : Int) := by omega
      have z4 : (0 : Int) ≤ (i : Int) := by omega
      have z5 : ¬ (i : Int) < 0 := by omega
      obtain ⟨bb, bo, rfl, hR⟩ := HB.out.at (by omega)
      have hcb' := (hR.stay HU3.out.1) i hlt
      clear hR
      have cn := next_any (cl := k + 1) (HA.out.stay HU3.out.1) HL.out HBf.out (by omega) (by omega) p (at_ B i)
      obtain ⟨ba, bc, rfl⟩ := HBf.out.form
      go_wp2_with fail
      refine cn.mono ?_
      rintro e w4 ⟨rfl, hI2, hU4⟩
      have HI2 : Hid (Is w4 wr.heap.size 0 (k + 1) (fun j => (dd (at_ A) (at_ B) j (i + 1) : Int))) := hI2.congr (fun j hj => nx_dd (at_ A) (at_ B) _ F _ p k i (by omega) (by omega) (fun _ _ => rfl) (by rw [decide_eq_true_eq]; exact HF.out.1) HF.out.2.1 HF.out.2.2 j (by omega))
      have HL4 : Hid (Is w4 gl 0 (k + 1) (fun j => (dd (at_ A) (at_ B) j i : Int))) := HL.out.stay hU4.1
      have HU4 : Hid (Up w.heap.size w w4) := HU3.out.stay hU4.1
      clear hI2 hU4 cn HL HBf HF
      obtain ⟨gx, egx⟩ : ∃ x, wr.heap.size = x := ⟨_, rfl⟩
      rw [egx] at HI2 ⊢
      clear egx hcb'
      go_wp2
      go_loopg [47] (k + 1) (fun g2 jv wx => ∃ j : Nat, j ≤ k + 1 ∧ g2 = k + 1 - j ∧ jv = .int .i64 j ∧ Hid (Up w4.heap.size w4 wx))
      case atStart => exact ⟨0, Nat.zero_le _, rfl, rfl, Up.refl w4⟩
      case round =>
        obtain ⟨j, hj, hg2, rfl, HX⟩ := hrel
        by_cases hlt2 : j < k + 1
        · have x1 : (j : Int) < (k : Int) + 1 := by omega
          have x2 : (0 : Int) ≤ (j : Int) := by omega
          have x3 : (j : Int) ≤ (k : Int) := by omega
          have x4 : (j : Int) ≤ (ca : Int) := by omega
          have x5 : (i : Int) + 1 ≤ (cb : Int) := by omega
          have x6 : (0 : Int) ≤ (i : Int) + 1 := by omega
          have x7 : IntKind.i64.wrap ((i : Int) + 1) = (i : Int) + 1 := (wrap_is _).trans (IntWalk.wrap64_in _ (by omega))
          have x8 : ((i : Int) + 1).toNat = i + 1 := by omega
          have x9 : i + 1 ≤ cb := by omega
          have x10 : j ≤ ca := by omega
          have HAj : Hid (RSl wr (.slice aa j ca) j (at_ A)) := (HA.out.stay (HU4.out.stay HX.out.1).1).pre (by omega)
          have HBj : Hid (RSl wr (.slice (some ⟨bb, bo, none⟩) (i + 1) cb) (i + 1) (at_ B)) := (HB.out.stay (HU4.out.stay HX.out.1).1).pre (by omega)
          have hc := (HI2.out.stay HX.out.1) j hlt2
          rw [Nat.zero_add] at hc
          obtain ⟨d, ed⟩ : ∃ d : Int, d = (dd (at_ A) (at_ B) j (i + 1) : Int) := ⟨_, rfl⟩
          have hc' : wr.cell? ⟨gx, j, none⟩ = some (.int .i64 d) := by rw [hc, ed]
          have ED : Hid (d = (dd (at_ A) (at_ B) j (i + 1) : Int)) := ed
          clear hc ed
          have HS0 : Hid (RwS wr gx j d wr) := ⟨hc', Up.refl wr⟩
          go_upto_region 17 with fail
          go_region_held3 (fun w' => w'.cell? ⟨gx, j, none⟩ = some (.int .i64 d) ∧ Up wr.heap.size wr w') (first | exact RwS.drew HS0.out | assumption | exact RwS.drew ‹_›) (first | (go_at_call 11; refine (rdist_RwS (gl := gx) HAj.out HBj.out (by omega) (by omega) ED.out _ (by assumption)).mono ?_; rintro e w' ⟨rfl, hw'⟩))
          all_goals
            go_wp2
            go_roundg (k + 1 - (j + 1))
            case measure => omega
            case rel => exact ⟨j + 1, by omega, rfl, by go_num, HX.out.stay hw'.2.1⟩
        · obtain rfl : j = k + 1 := by omega
          have x1 : ¬ ((k : Int) + 1 < (k : Int) + 1) := by omega
          have x2 : (k : Int) < (k : Int) + 1 := by omega
          have x3 : (0 : Int) ≤ (k : Int) := by omega
          have hI := HI2.out.stay HX.out.1
          have cl := fun w' (h : Is w' gx 0 (k + 1) (fun j => (dd (at_ A) (at_ B) j (i + 1) : Int))) => last_any (c := k + 1) h (by omega)
          have cs := fun w' (h : Is w' gx 0 (k + 1) (fun j => (dd (at_ A) (at_ B) j (i + 1) : Int))) => least_any (c := k + 1) h (by omega)
          have hc := hI k (by omega)
          rw [Nat.zero_add] at hc
          have hle := lst_le (fun j => (dd (at_ A) (at_ B) j (i + 1) : Int)) k
          obtain ⟨x, ex⟩ : ∃ x : Int, (dd (at_ A) (at_ B) k (i + 1) : Int) = x := ⟨_, rfl⟩
          obtain ⟨s, es⟩ : ∃ x : Int, lst (fun j => (dd (at_ A) (at_ B) j (i + 1) : Int)) k = x := ⟨_, rfl⟩
          have CL : Hid (∀ nq : Nat, Calls Try.prog 14 #[.slice (some ⟨gx, 0, none⟩) (k + 1) (k + 1)] (wr.drewN nq) fun e w' => e = .returned (.int .i64 x) ∧ w' = wr.drewN nq) := fun nq => by rw [← ex]; exact cl _ hI
          have CS : Hid (∀ nq : Nat, Calls Try.prog 15 #[.slice (some ⟨gx, 0, none⟩) (k + 1) (k + 1)] (wr.drewN nq) fun e w' => e = .returned (.int .i64 s) ∧ w' = wr.drewN nq) := fun nq => by rw [← es]; exact cs _ hI
          have hsx : s ≤ x := by rw [← es, ← ex]; exact hle
          have hc' : wr.cell? ⟨gx, k, none⟩ = some (.int .i64 x) := by rw [hc, ← ex]
          have g1 : (x != x) = false := by simp
          have g2 : decide (x < s) = false := decide_eq_false (by omega)
          clear cl cs hc ex es hle hI
          go_upto_region 20 with fail
          go_quiet (first | (go_at_call 14; exact Calls.quiet_of_same (CL.out _)) | (go_at_call 15; exact Calls.quiet_of_same (CS.out _)))
          go_wp2
          go_roundg (n - (i + 1))
          case measure => omega
          case rel =>
            refine ⟨i + 1, k + 1, gx, at_ B i, fun j => (dd (at_ A) (at_ B) j i : Int), by omega, rfl, by go_num, rfl, rfl, by omega, HI2.out.stay (HX.out.drewN _).1, Or.inr ⟨gl, 0, k + 1, rfl, HL4.out.stay (HX.out.drewN _).1⟩, ⟨⟨fun _ => by omega, fun _ => rfl⟩, fun _ => by simp, fun _ j _ => by simp⟩, HU4.out.stay (HX.out.drewN _).1⟩
    · obtain rfl : i = n := by omega
      have z3 : ¬ ((i : Nat) : Int) < (i : Int) := by omega
      go_wp2
      go_ret
      exact ⟨rfl, HU3.out.1⟩
end Go.Proofs.Ytkgabdmicpfnmaa
