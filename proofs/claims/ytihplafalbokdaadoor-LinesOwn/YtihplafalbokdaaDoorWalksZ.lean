/- The reference's Place of any bytes; Awake. -/
import Derived.Test.YtihplafalbokdaaDoorWalksX
import Derived.Test.YtihplafalbokdaaDoorWalksY
import Derived.Lib.SlBytesConst
namespace Go.Proofs.YtihplafalbokdaaDoor
set_option linter.unusedVariables false
open Go.RowKit Go.ChangeShapes
theorem rplace_zero (s : ByteArray) (ad : Option Addr) (cap : Nat) (w : World) (h0 : s.size = 0) :
    Calls Tryd.prog 18 #[.slice ad 0 cap, .int .i64 0] w fun e w' => ∃ m c : Nat, e = .returned (.agg #[.int .i64 m, .int .i64 c]) ∧ Plc s 0 m c ∧ Below w.heap.size w w' := by
  have HU : Hid (Up w.heap.size w (w.alloc (.cells #[.int .i64 0, .int .i64 0] 40))) := (Up.refl w).alloc _
  have ct := rline_any s (.slice ad 0 cap) 0 (w.alloc (.cells #[.int .i64 0, .int .i64 0] 40)) (by omega) (by omega) (Or.inl ⟨ad, cap, rfl, h0⟩)
  have k0 : (w.alloc (.cells #[.int .i64 0, .int .i64 0] 40)).cell? ⟨w.heap.size, 0, none⟩ = some (.int .i64 0) := by simp
  have k1 : (w.alloc (.cells #[.int .i64 0, .int .i64 0] 40)).cell? ⟨w.heap.size, 1, none⟩ = some (.int .i64 0) := by simp
  have f0 : (w.alloc (.cells #[.int .i64 0, .int .i64 0] 40)).frozen? ⟨w.heap.size, 0, none⟩ = false := by simp
  have f1 : (w.alloc (.cells #[.int .i64 0, .int .i64 0] 40)).frozen? ⟨w.heap.size, 1, none⟩ = false := by simp
  obtain ⟨W, hW⟩ : ∃ W, w.alloc (.cells #[.int .i64 0, .int .i64 0] 40) = W := ⟨_, rfl⟩
  rw [hW] at ct k0 k1 f0 f1 HU
  have H0 : Hid (s.size = 0) := h0
  clear h0
  go_enter Tryd.func18, Tryd.ntmps18
  go_wp2_with fail
  refine ct.mono ?_
  rintro e w1 ⟨m, rfl, ho, hb⟩
  have HO : Hid (OnL s 0 m) := ho
  have hm1 : m = 1 := by
    rcases ho with ⟨h1, ⟨h2, h3⟩ | ⟨h2, _⟩⟩
    · exact h3
    · have := nL_zero H0.out; omega
  subst hm1
  rw [show (1 - 1 : Nat) = 0 from rfl, S_zero]
  have uu : Up W.heap.size W w1 := (Up.refl W).stay hb
  have g0 := uu.cell k0
  have g1 := uu.cell k1
  have e0 := uu.free k0 f0
  have e1 := uu.free k1 f1
  have HB : Hid (Up w.heap.size w w1) := HU.out.stay hb
  clear uu k0 k1 f0 f1 ct hW hb HU ho
  go_wp2_with fail
  refine (runits_zero _ _ _).mono ?_
  rintro e w2 ⟨rfl, rfl⟩
  go_wp2
  go_loopg [7, 9] (0) (fun g cv iv wr => cv = .int .i64 1 ∧ iv = .int .i64 0 ∧ wr = w2)
  case atStart => exact ⟨rfl, rfl, rfl⟩
  case round =>
    obtain ⟨rfl, rfl, rfl⟩ := hrel
    go_wp2
    refine bodyPost_ret (v := .agg #[.int .i64 1, .int .i64 1]) (by simp [results, Tryd.results18, go_sem, *]) rfl ⟨1, 1, rfl, plc_none (ends_zero H0.out) HO.out (by have := nL_zero H0.out; omega), (HB.out.1.setCell (Nat.le_refl _) _).setCell (Nat.le_refl _) _⟩
theorem rplace_any (s : ByteArray) (v : Value) (p : Nat) (w : World) (hs : s.size ≤ 5000) (hp : p ≤ s.size) (h : BSl w v s) :
    Calls Tryd.prog 18 #[v, .int .i64 p] w fun e w' => ∃ m c : Nat, e = .returned (.agg #[.int .i64 m, .int .i64 c]) ∧ Plc s p m c ∧ Below w.heap.size w w' := by
  rcases h with ⟨ad, c, rfl, h⟩ | ⟨b, off, c, rfl, h1, h2, h⟩
  · obtain rfl : p = 0 := by omega
    exact rplace_zero s ad c w h
  · exact rplace_at s b off c p w hs hp h1 h2 h
def sA : ByteArray := ⟨#[97, 10, 98, 99]⟩
def sB : ByteArray := ⟨#[97, 10]⟩
theorem wd_low (s : ByteArray) (i : Nat) (h : bt s i < 128) : wd s i = 1 := by unfold wd; rw [low_sign s i h]
theorem pos_low (s : ByteArray) : ∀ k, (∀ i, i < k → bt s i < 128) → pos s k = k
  | 0, _ => rfl
  | k + 1, h => by
    have ih := pos_low s k (fun i hi => h i (by omega))
    simp only [pos]
    rw [ih, wd_low s k (h k (by omega))]
theorem ends_low (s : ByteArray) (h : ∀ i, i < s.size → bt s i < 128) : Ends s s.size :=
  ⟨pos_low s s.size h, fun j hj => by rw [pos_low s j (fun i hi => h i (by omega))]; exact hj⟩
theorem lowA : ∀ i, i < sA.size → bt sA i < 128 := by decide
theorem lowB : ∀ i, i < sB.size → bt sB i < 128 := by decide
theorem startsA : starts sA = [0, 2] := by decide
theorem startsB : starts sB = [0] := by decide
theorem plcA : Plc sA 3 2 2 := by
  have hn : nL sA = 2 := by unfold nL; rw [startsA]; rfl
  have hp : ∀ k, k ≤ 4 → pos sA k = k := fun k hk => pos_low sA k (fun i hi => lowA i (by show i < 4; omega))
  refine ⟨4, 3, 2, ends_low sA lowA, ⟨by decide, Or.inr ⟨by omega, ?_, fun h => absurd h (by omega)⟩⟩, by decide, by decide, ?_, ⟨by decide, fun j hj => by rw [hp j (by omega)]; omega, fun j h1 h2 => by rw [hp j (by omega)]; omega⟩, rfl⟩
  · show (starts sA).getD 1 _ ≤ 3; rw [startsA]; decide
  · rw [hp 2 (by omega)]; show 2 = (starts sA).getD 1 _; rw [startsA]; rfl
theorem plcB : Plc sB 2 1 3 := by
  have hn : nL sB = 1 := by unfold nL; rw [startsB]; rfl
  have hp : ∀ k, k ≤ 2 → pos sB k = k := fun k hk => pos_low sB k (fun i hi => lowB i (by show i < 2; omega))
  refine ⟨2, 2, 0, ends_low sB lowB, ⟨by decide, Or.inr ⟨by omega, ?_, fun h => absurd h (by omega)⟩⟩, by decide, by decide, ?_, ⟨by decide, fun j hj => by rw [hp j (by omega)]; omega, fun j h1 h2 => absurd h2 (by omega)⟩, rfl⟩
  · show (starts sB).getD 0 _ ≤ 2; rw [startsB]; decide
  · show 0 = (starts sB).getD 0 _; rw [startsB]; rfl
theorem by_lit (w : World) (cs : Array Value) (fr : Nat × Nat) (s : ByteArray) (h : ∀ j, j < s.size → cs[j]? = some (.int .u8 (s.get! j).toNat)) : By (w.alloc (.cells cs 5 fr)) w.heap.size 0 s := by
  intro j hj
  rw [Nat.zero_add, ← h j hj]
  simp [World.cell?, World.alloc, -World.alloc_eq]
set_option maxHeartbeats 1000000 in
theorem awake_any (w : World) (hT : Tabs w) :
    Calls Tryd.prog 8 #[] w fun e w' => e = .returned (.bool true) ∧ Below w.heap.size w w' := by
  have HT : Hid (Tabs w) := hT
  clear hT
  have hcA := Go.Lib.run_convert_bytes_const (P := Tryd.prog) w 22 5 #[.int .u8 97, .int .u8 10, .int .u8 98, .int .u8 99] 4 4 Tryd.underlying22 Tryd.underlying5
  have hcB := fun (w' : World) => Go.Lib.run_convert_bytes_const (P := Tryd.prog) w' 22 5 #[.int .u8 97, .int .u8 10] 2 2 Tryd.underlying22 Tryd.underlying5
  have HU0 : Hid (Up w.heap.size w (w.alloc (.cells #[.int .u8 97, .int .u8 10, .int .u8 98, .int .u8 99] 5 (4, 5)))) := (Up.refl w).alloc _
  have HB0 : Hid (BSl (w.alloc (.cells #[.int .u8 97, .int .u8 10, .int .u8 98, .int .u8 99] 5 (4, 5))) (.slice (some ⟨w.heap.size, 0, none⟩) 4 4) sA) := Or.inr ⟨w.heap.size, 0, 4, rfl, by decide, by decide, by_lit _ _ _ sA (fun j hj => by
    match j, hj with
    | 0, _ => rfl
    | 1, _ => rfl
    | 2, _ => rfl
    | 3, _ => rfl
    | j + 4, h => exact absurd h (by show ¬ (j + 4 < 4); omega))⟩
  have HBB : Hid (∀ w' : World, BSl (w'.alloc (.cells #[.int .u8 97, .int .u8 10] 5 (2, 3))) (.slice (some ⟨w'.heap.size, 0, none⟩) 2 2) sB) := fun w' => Or.inr ⟨w'.heap.size, 0, 2, rfl, by decide, by decide, by_lit _ _ _ sB (fun j hj => by
    match j, hj with
    | 0, _ => rfl
    | 1, _ => rfl
    | j + 2, h => exact absurd h (by show ¬ (j + 2 < 2); omega))⟩
  go_enter Tryd.func8, Tryd.ntmps8
  go_wp2_with fail
  refine (new_any sA _ _ (by decide) (tabs_stay HT.out HU0.out.1) HB0.out).mono ?_
  rintro e w1 ⟨K1, x1, rfl, hx1, hb1⟩
  have HU1 : Hid (Up w.heap.size w w1) := HU0.out.stay hb1
  have HX1 : Hid (Idx w1 x1 sA K1) := hx1
  clear hx1 hb1 hcA HU0 HB0
  go_wp2_with fail
  refine (place_ok sA K1 x1 3 w1 (by decide) (by decide) HX1.out).mono ?_
  rintro e w2 ⟨m, c, rfl, hp, hb2⟩
  obtain ⟨rfl, rfl⟩ := hp.one plcA
  have HU2 : Hid (Up w.heap.size w w2) := HU1.out.stay hb2
  have HX2 : Hid (Idx w2 x1 sA K1) := HX1.out.stay hb2
  clear hp hb2 HU1 HX1
  have hcB2 := hcB (w2.alloc (.cells #[.int .i64 2, .int .i64 2] 40))
  have HU3 : Hid (Up w2.heap.size w2 ((w2.alloc (.cells #[.int .i64 2, .int .i64 2] 40)).alloc (.cells #[.int .u8 97, .int .u8 10] 5 (2, 3)))) := ((Up.refl w2).alloc _).alloc _
  have HB3 := HBB.out (w2.alloc (.cells #[.int .i64 2, .int .i64 2] 40))
  have q0 : ((w2.alloc (.cells #[.int .i64 2, .int .i64 2] 40)).alloc (.cells #[.int .u8 97, .int .u8 10] 5 (2, 3))).cell? ⟨w2.heap.size, 0, none⟩ = some (.int .i64 2) := by simp
  have q1 : ((w2.alloc (.cells #[.int .i64 2, .int .i64 2] 40)).alloc (.cells #[.int .u8 97, .int .u8 10] 5 (2, 3))).cell? ⟨w2.heap.size, 1, none⟩ = some (.int .i64 2) := by simp
  rw [World.size_alloc] at hcB2 HB3
  have hcB3 : (convert 22 22 (.slice (some ⟨w2.heap.size + 1, 0, none⟩) 2 2)).run Tryd.prog ((w2.alloc (.cells #[.int .i64 2, .int .i64 2] 40)).alloc (.cells #[.int .u8 97, .int .u8 10] 5)) = .ok (.slice (some ⟨w2.heap.size + 1, 0, none⟩) 2 2) ((w2.alloc (.cells #[.int .i64 2, .int .i64 2] 40)).alloc (.cells #[.int .u8 97, .int .u8 10] 5 (2, 3))) := hcB2
  have HB4 : Hid (BSl ((w2.alloc (.cells #[.int .i64 2, .int .i64 2] 40)).alloc (.cells #[.int .u8 97, .int .u8 10] 5 (2, 3))) (.slice (some ⟨w2.heap.size + 1, 0, none⟩) 2 2) sB) := HB3
  obtain ⟨W, hW⟩ : ∃ W, (w2.alloc (.cells #[.int .i64 2, .int .i64 2] 40)).alloc (.cells #[.int .u8 97, .int .u8 10] 5 (2, 3)) = W := ⟨_, rfl⟩
  rw [hW] at hcB3 HB4 HU3 q0 q1
  clear HB3 hcB HBB hcB2 hW
  go_wp2_with fail
  have HUW : Hid (Up w.heap.size w W) := HU2.out.stay HU3.out.1
  refine (new_any sB _ W (by decide) (tabs_stay HT.out HUW.out.1) HB4.out).mono ?_
  rintro e w4 ⟨K4, x4, rfl, hx4, hb4⟩
  have HX4 : Hid (Idx w4 x4 sB K4) := hx4
  have HV4 : Hid (Up W.heap.size W w4) := (Up.refl W).stay hb4
  clear hx4 hb4 hcB3 HB4
  go_wp2_with fail
  refine (place_ok sB K4 x4 2 w4 (by decide) (by decide) HX4.out).mono ?_
  rintro e w5 ⟨m, c, rfl, hp, hb5⟩
  obtain ⟨rfl, rfl⟩ := hp.one plcB
  have HV5 : Hid (Up W.heap.size W w5) := HV4.out.stay hb5
  have r0 := HV5.out.cell q0
  have r1 := HV5.out.cell q1
  have HX5 : Hid (Idx w5 x1 sA K1) := HX2.out.stay (HU3.out.stay HV5.out.1).1
  have HU5 : Hid (Up w.heap.size w w5) := HUW.out.stay HV5.out.1
  clear hp hb5 HX4 HV4 q0 q1 HX2 HU3 HV5 HUW HU2
  have HX6 : Hid (Idx (w5.alloc (.cells #[.int .i64 1, .int .i64 3] 40)) x1 sA K1) := HX5.out.stay ((Up.refl w5).alloc _).1
  have t0 := cell_stay r0 ((Up.refl w5).alloc (.cells #[.int .i64 1, .int .i64 3] 40)).1
  have t1 := cell_stay r1 ((Up.refl w5).alloc (.cells #[.int .i64 1, .int .i64 3] 40)).1
  have hn : nL sA = 2 := by unfold nL; rw [startsA]; rfl
  have cl := lines_any sA K1 x1 (w5.alloc (.cells #[.int .i64 1, .int .i64 3] 40)) HX6.out
  rw [hn] at cl
  clear hn
  go_wp2_with fail
  refine cl.mono ?_
  rintro e w6 ⟨rfl, rfl⟩
  go_wp2
  go_ret
  exact ⟨rfl, (HU5.out.alloc _).1⟩
end Go.Proofs.YtihplafalbokdaaDoor
