/- ListsLong. -/
import Derived.Test.YtgijihfijoiafaaGreatDoorQLawFixes
import Derived.Test.YtgijihfijoiafaaGreatDoorQOBy
namespace Go.Proofs.YtgijihfijoiafaaGreatDoor
set_option linter.unusedVariables false
open Go.RowKit Go.ChangeShapes
set_option maxRecDepth 100000 in
set_option maxHeartbeats 4000000 in
theorem long_law (n kind ahead m : Int) (w : World) (hn : (Lit.int .u16 n).wf = true) (hk : (Lit.int .u8 kind).wf = true) (ha : (Lit.int .u8 ahead).wf = true) (hT : Tabs w) (hm : w.cell? ⟨3, 0, none⟩ = some (.int .i64 m)) (hE : Ety w) :
    Calls Tryz.prog 6 #[.int .u16 n, .int .u8 kind, .int .u8 ahead] w fun e w' => e = .returned (.bool true) ∧ Below w.heap.size w w' := by
  have e1 : IntKind.u8.min = 0 := by decide
  have e2 : IntKind.u8.max = 255 := by decide
  have e3 : IntKind.u16.min = 0 := by decide
  have e4 : IntKind.u16.max = 65535 := by decide
  simp only [Lit.wf, Bool.and_eq_true, decide_eq_true_eq, e1, e2, e3, e4] at hn hk ha
  clear e1 e2 e3 e4
  have ca := awake_any m w hT hm
  have HT : Hid (Tabs w) := hT
  have HM : Hid (w.cell? ⟨3, 0, none⟩ = some (.int .i64 m)) := hm
  have HE : Hid (Ety w) := hE
  clear hT hm hE
  obtain ⟨i0, hi, hz0, hz1, hz2⟩ := info_parts info5
  obtain ⟨A, hA, hA4⟩ : ∃ A : Nat, ahead % 5 = A ∧ A ≤ 4 := ⟨(ahead % 5).toNat, by omega, by omega⟩
  obtain ⟨N, hN, hN4⟩ : ∃ N : Nat, n % 4200 = N ∧ N ≤ 4199 := ⟨(n % 4200).toNat, by omega, by omega⟩
  have h3 : kind % 3 = 0 ∨ kind % 3 = 1 ∨ kind % 3 = 2 := by omega
  have H3 : Hid (kind % 3 = 0 ∨ kind % 3 = 1 ∨ kind % 3 = 2) := h3
  clear h3
  go_enter Tryz.func6, Tryz.ntmps6
  go_wp2_with fail
  refine ca.mono ?_
  rintro e w1 ⟨rfl, hb1⟩
  have HU1 : Hid (Up w.heap.size w w1) := (Up.refl w).stay hb1
  clear ca hb1
  go_wp2_with fail
  rw [hA]
  clear hA
  go_loopg [7, 24] (A) (fun gh bv cv wr => ∃ k : Nat, ∃ l : List UInt8, k ≤ A ∧ gh = A - k ∧ cv = .int .u8 k ∧ Hid (OB wr w1.heap.size bv l) ∧ Hid (l.length ≤ 4 * k) ∧ Hid (Up w1.heap.size w1 wr))
  case atStart => exact ⟨0, [], Nat.zero_le _, rfl, rfl, OB.nil _ _, Nat.le_refl _, Up.refl w1⟩
  case round =>
    obtain ⟨k, l, hkA, hgh, rfl, HO, HLN, HU⟩ := hrel
    have hln := HLN.out
    by_cases hlt : k < A
    · have z0 : (k : Int) < (A : Int) := by omega
      go_wp2_with (at_builtin; refine app_text rfl _ _ 27 9 rfl w1.heap.size i0 Tryz.underlying27 Tryz.underlying9 hi hz0 hz1 hz2 _ l rfl HO.out ⟨#[35, 32, 120, 10]⟩ rfl ?c1 HU.out.2 ?_)
      case c1 =>
        show l.length + 4 ≤ _
        omega
      intro v' w2 ho2 hg2
      have HO2 : Hid (OB w2 w1.heap.size v' (l ++ [35, 32, 120, 10])) := ho2
      have HU2 : Hid (Up w1.heap.size w1 w2) := HU.out.grown hg2 (own_base HO.out)
      have HLN2 : Hid ((l ++ [35, 32, 120, 10]).length ≤ 4 * (k + 1)) := by show _ ≤ _; rw [List.length_append]; show l.length + 4 ≤ _; omega
      clear ho2 hg2 HO HU
      go_wp2
      go_roundg (A - (k + 1))
      case measure => omega
      case rel => exact ⟨k + 1, _, by omega, rfl, by go_num, HO2, HLN2, HU2⟩
    · obtain rfl : k = A := by omega
      obtain ⟨wA, hwA⟩ : ∃ wA, wA = wr := ⟨_, rfl⟩
      rw [← hwA] at HO HU ⊢
      clear hwA
      have hmk := run_makeSlice (P := Tryz.prog) wA 27 5 i0 (.int .u8 0) Tryz.underlying27 hi hz0 .u16 .u16 (N : Int) (N : Int) (by omega) (by omega) (by rw [hz1]; omega) (by rw [hz2]; omega) (by omega)
      simp only [Int.toNat_natCast, hz1] at hmk
      have hob := ob_made wA wA.heap.size N (Nat.le_refl _) (by unfold maxLen; omega)
      have hup : Up wA.heap.size wA (wA.alloc (.cells (madeCells #[.int .u8 0] (N * 1)) 5)) := (Up.refl wA).alloc _
      change _ = Result.ok _ (wA.alloc (.cells (madeCells #[.int .u8 0] (N * 1)) 5)) at hmk
      generalize wA.alloc (.cells (madeCells #[.int .u8 0] (N * 1)) 5) = wM at hmk hob hup
      have HOL0 : Hid (OB wM wA.heap.size (.slice (some ⟨wA.heap.size, 0, none⟩) N N) (List.replicate N 0)) := hob
      have HUM : Hid (Up wA.heap.size wA wM) := hup
      clear hob hup
      obtain ⟨ba, bc, hbf⟩ := OB.form HO.out
      subst hbf
      go_wp2_with fail
      go_loopg [34] (N) (fun gh cv wr => ∃ j : Nat, ∃ l2 : List UInt8, j ≤ N ∧ gh = N - j ∧ cv = .int .i64 j ∧ Hid (l2.length = N) ∧ Hid (OB wr wA.heap.size (.slice (some ⟨wA.heap.size, 0, none⟩) N N) l2) ∧ Hid (Up wA.heap.size wA wr))
      case atStart => exact ⟨0, List.replicate N 0, Nat.zero_le _, rfl, rfl, List.length_replicate, HOL0, HUM⟩
      case round =>
        obtain ⟨j, l2, hj, hgh, rfl, HL2, HO2, HU2⟩ := hrel
        obtain ⟨wB, hwB⟩ : ∃ wB, wB = wr := ⟨_, rfl⟩
        rw [← hwB] at HO2 HU2 ⊢
        clear hwB hmk
        by_cases hlt : j < N
        · have z0 : (0 : Int) ≤ (j : Int) := by omega
          have z1 : (j : Int) < (N : Int) := by omega
          have hown : wB.ownsRow wA.heap.size 5 1 (.slice (some ⟨wA.heap.size, 0, none⟩) N N) N (l2.map u8c) := by
            have h := HO2.out
            unfold OB at h
            rw [HL2.out] at h
            exact h
          have hl2 : j < l2.length := by rw [HL2.out]; exact hlt
          have hcx : wB.cell? ⟨wA.heap.size, j, none⟩ = some (u8c l2[j]) := by rw [hown.cellAt j (by omega)]; simp [hl2]
          have hfz : wB.frozen? ⟨wA.heap.size, j, none⟩ = false := hown.frozenAt j
          have hst := fun x => HO2.out.set j x HL2.out.symm
          have HST : Hid (∀ x : UInt8, OB (wB.setCell ⟨wA.heap.size, j, none⟩ (u8c x)) wA.heap.size (.slice (some ⟨wA.heap.size, 0, none⟩) N N) (l2.set j x) ∧ Up wA.heap.size wA (wB.setCell ⟨wA.heap.size, j, none⟩ (u8c x))) := fun x => ⟨(hst x).1, HU2.out.grown (hst x).2 (fun k hk => by cases hk; exact Nat.le_refl _)⟩
          have HL3 : Hid (∀ x : UInt8, (l2.set j x).length = N) := fun x => by rw [List.length_set]; exact HL2.out
          unfold u8c at hcx
          generalize l2[j].toNat = xn at hcx
          clear hst hown hl2
          rcases H3.out with h3 | h3 | h3
          · go_wp2
            go_roundg (N - (j + 1))
            case measure => omega
            case rel => exact ⟨j + 1, l2.set j 32, by omega, rfl, by go_num, HL3.out 32, (HST.out 32).1, (HST.out 32).2⟩
          · go_wp2
            go_roundg (N - (j + 1))
            case measure => omega
            case rel => exact ⟨j + 1, l2.set j 35, by omega, rfl, by go_num, HL3.out 35, (HST.out 35).1, (HST.out 35).2⟩
          · go_wp2
            go_roundg (N - (j + 1))
            case measure => omega
            case rel => exact ⟨j + 1, l2.set j 97, by omega, rfl, by go_num, HL3.out 97, (HST.out 97).1, (HST.out 97).2⟩
        · obtain rfl : j = N := by omega
          have HOB : Hid (OB wB w1.heap.size (.slice ba l.length bc) l) := HO.out.stay HU2.out.1
          have HS2 : Hid (Srcs wB (.slice (some ⟨wA.heap.size, 0, none⟩) j j) j 1 (l2.map u8c)) := by
            have h := srcs_own HO2.out
            rw [HL2.out] at h
            exact h
          have HUB : Hid (Up w1.heap.size w1 wB) := HU.out.stay HU2.out.1
          go_wp2_with (at_builtin; refine app_src rfl _ _ 27 rfl w1.heap.size 5 i0 _ 1 1 Tryz.underlying27 hi hz0 hz1 hz2 rfl (by decide) _ _ _ rfl HOB.out _ _ _ rfl HS2.out (u8_one _) (by unfold maxLen; omega) (by omega) HUB.out.2 ?_)
          intro v' w2 ho2 hg2
          have HO3 : Hid (OB w2 w1.heap.size v' (l ++ l2)) := by
            show World.ownsRow _ _ _ _ _ _ _
            rw [List.length_append, List.map_append, HL2.out]
            exact ho2
          have hu2 : Up w1.heap.size w1 w2 := HUB.out.grown hg2 (own_base HOB.out)
          have HU3 : Hid (Up w.heap.size w w2) := HU1.out.stay hu2.1
          have hsz : (bA (l ++ l2)).size ≤ 40000 := by rw [bA_size, List.length_append, HL2.out]; omega
          have HSB : Hid (Lns.BSl w2 v' (bA (l ++ l2))) := HO3.out.bsl
          obtain ⟨xa, xc, hxf⟩ := OB.form HO3.out
          subst hxf
          clear ho2 hg2 hu2 HO2 HU2 HOB HS2 HUB HO HU HOL0 HUM HO3
          generalize bA (l ++ l2) = S at hsz HSB
          generalize (l ++ l2).length = sn at *
          have cw := words_both S _ m w2 hsz (tabs_up HT.out HU3.out.1) ((HU3.out.1.cell (World.block_lt_of_cell? w _ HM.out)).trans HM.out) (HE.out.stay HU3.out.1) HSB.out
          go_wp2_with fail
          refine cw.mono ?_
          rintro e w3 ⟨hb3, u, T, ev, rfl, hev, ⟨ua, un, uc, rfl⟩, cr⟩
          have HU4 : Hid (Up w.heap.size w w3) := HU3.out.stay hb3
          have HSB3 : Hid (Lns.BSl w3 (.slice xa sn xc) S) := HSB.out.stay hb3
          clear cw hb3 HU3 HSB
          go_wp2_with fail
          refine cr.mono ?_
          rintro e w4 ⟨hb4, q, cd, ln, qa, qn, qc, rfl, rfl, HW⟩
          have HU5 : Hid (Up w.heap.size w w4) := HU4.out.stay hb4
          have HSB4 : Hid (Lns.BSl w4 (.slice xa sn xc) S) := HSB3.out.stay hb4
          have HWW : Hid (WBoth w4 (.slice ua un uc) ev (.slice qa qn qc) (.int .i64 cd) (.int .i64 ln)) := HW
          clear cr hb4 HU4 HSB3 HW
          have cf := fixes_both S _ m w4 hsz (tabs_up HT.out HU5.out.1) ((HU5.out.1.cell (World.block_lt_of_cell? w _ HM.out)).trans HM.out) (HE.out.stay HU5.out.1) HSB4.out
          go_wp2_with fail
          refine cf.mono ?_
          rintro e w5 ⟨hb5, u', T', ev', rfl, hev', ⟨ua', un', uc', rfl⟩, cr'⟩
          have HU6 : Hid (Up w.heap.size w w5) := HU5.out.stay hb5
          have HB5 : Hid (Below w4.heap.size w4 w5) := hb5
          clear cf hb5 HU5 HSB4
          go_wp2_with fail
          refine cr'.mono ?_
          rintro e w6 ⟨hb6, q', cd', ln', qa', qn', qc', rfl, rfl, HF⟩
          have HU7 : Hid (Up w.heap.size w w6) := HU6.out.stay hb6
          have hb46 : Below w4.heap.size w4 w6 := HB5.out.trans (hb6.mono HB5.out.size)
          have c1 := HWW.out.r w6 hb46
          have HS1 : Hid (∀ w', Below w6.heap.size w6 w' → Calls Tryz.prog 17 _ w' fun e w'' => e = .returned (.bool true) ∧ Below w'.heap.size w' w'') := fun w' h => HWW.out.s w' (hb46.trans (h.mono hb46.size))
          have HFF : Hid (FBoth w6 (.slice ua' un' uc') ev' (.slice qa' qn' qc') (.int .i64 cd') (.int .i64 ln')) := HF
          clear cr' hb6 HU6 HF hb46 HB5 HWW
          go_wp2_with fail
          refine c1.mono ?_
          rintro e w7 ⟨rfl, hb7⟩
          have HB7 : Hid (Below w6.heap.size w6 w7) := hb7
          have c2 := HS1.out w7 hb7
          clear c1 hb7 HS1
          go_wp2_with fail
          refine c2.mono ?_
          rintro e w8 ⟨rfl, hb8⟩
          have HB8 : Hid (Below w6.heap.size w6 w8) := HB7.out.trans (hb8.mono HB7.out.size)
          have c3 := HFF.out.r w8 HB8.out
          clear c2 hb8 HB7
          go_wp2_with fail
          refine c3.mono ?_
          rintro e w9 ⟨rfl, hb9⟩
          have HB9 : Hid (Below w6.heap.size w6 w9) := HB8.out.trans (hb9.mono HB8.out.size)
          have c4 := HFF.out.s w9 HB9.out
          clear c3 hb9 HB8 HFF
          go_wp2_with fail
          refine c4.mono ?_
          rintro e wE ⟨rfl, hbE⟩
          have HBE : Hid (Below w6.heap.size w6 wE) := HB9.out.trans (hbE.mono HB9.out.size)
          clear c4 hbE HB9
          go_wp2
          go_ret
          exact ⟨rfl, (HU7.out.stay HBE.out).1⟩
end Go.Proofs.YtgijihfijoiafaaGreatDoor
