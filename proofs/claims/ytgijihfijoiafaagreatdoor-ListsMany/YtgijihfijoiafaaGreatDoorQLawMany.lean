/- ListsMany. -/
import Derived.Test.YtgijihfijoiafaaGreatDoorQPManyBTwo
import Derived.Test.YtgijihfijoiafaaGreatDoorQLawFixes
namespace Go.Proofs.YtgijihfijoiafaaGreatDoor
set_option linter.unusedVariables false
open Go.RowKit Go.ChangeShapes
theorem srcs_mark (w : World) (x : Value) (fr : Nat × Nat) (c : Nat) : Srcs (w.alloc (.cells #[x] 5 fr)) (.slice (some ⟨w.heap.size, 0, none⟩) 1 c) 1 1 [x] := by
  refine ⟨rfl, Or.inr ⟨w.heap.size, 0, c, rfl, fun j u hu => ?_⟩⟩
  rw [Nat.zero_add, World.cell?_alloc_mark]
  simpa using hu
theorem bM_false (i : Nat) : bM false (i + 1) = bM false i ++ wM i ++ [10] := by rw [bM_succ]; simp
theorem bM_true (i : Nat) : bM true (i + 1) = bM true i ++ [97] ++ [10] := by rw [bM_succ]; simp
theorem cM_three (i : Nat) : cM (i + 1) = cM i ++ wM i ++ [45, 62, 98, 10] ++ [10] := by rw [cM_succ]; simp
set_option maxRecDepth 100000 in
set_option maxHeartbeats 4000000 in
theorem many_law (more : Int) (same : Bool) (m : Int) (w : World) (hn : (Lit.int .u8 more).wf = true) (hT : Tabs w) (hm : w.cell? ⟨3, 0, none⟩ = some (.int .i64 m)) (hE : Ety w) :
    Calls Tryz.prog 8 #[.int .u8 more, .bool same] w fun e w' => e = .returned (.bool true) ∧ Below w.heap.size w w' := by
  have e1 : IntKind.u8.min = 0 := by decide
  have e2 : IntKind.u8.max = 255 := by decide
  simp only [Lit.wf, Bool.and_eq_true, decide_eq_true_eq, e1, e2] at hn
  clear e1 e2
  have ca := awake_any m w hT hm
  have HT : Hid (Tabs w) := hT
  have HM : Hid (w.cell? ⟨3, 0, none⟩ = some (.int .i64 m)) := hm
  have HE : Hid (Ety w) := hE
  clear hT hm hE
  obtain ⟨i0, hi, hz0, hz1, hz2⟩ := info_parts info5
  obtain ⟨q, hq, hq4⟩ : ∃ q : Nat, more % 4 = q ∧ q ≤ 3 := ⟨(more % 4).toNat, by omega, by omega⟩
  obtain ⟨n, hnq⟩ : ∃ n : Nat, (4094 : Int) + (q : Int) = (n : Int) := ⟨4094 + q, by omega⟩
  have hn1 : 4094 ≤ n := by omega
  have hn2 : n ≤ 4097 := by omega
  go_enter Tryz.func8, Tryz.ntmps8
  go_wp2_with fail
  refine ca.mono ?_
  rintro e w1 ⟨rfl, hb1⟩
  have HU1 : Hid (Up w.heap.size w w1) := (Up.refl w).stay hb1
  clear ca hb1
  go_wp2_with fail
  (try rw [hq])
  (try rw [hnq])
  clear hq hnq hq4
  go_loopg [6, 7, 21] (n) (fun gh bv cv iv wr => ∃ i : Nat, i ≤ n ∧ gh = n - i ∧ iv = .int .i64 i ∧ Hid (TwoR w1 wr bv cv (bM same i) (cM i)))
  case atStart => exact ⟨0, Nat.zero_le _, rfl, rfl, OB.nil _ _, OB.nil _ _, (fun k h _ => by cases h), Up.refl w1⟩
  case round =>
    obtain ⟨i, hin, hgh, rfl, HR⟩ := hrel
    obtain ⟨wR, hwR⟩ : ∃ wR, wR = wr := ⟨_, rfl⟩
    rw [← hwR] at HR ⊢
    clear hwR
    by_cases hlt : i < n
    · have z0 : (i : Int) < (n : Int) := by omega
      have hi6 : i ≤ 4096 := by omega
      have hbl := bM_len same i
      have hcl : (cM i).length ≤ 8 * i := Nat.le_of_eq (cM_len i)
      have HBF : Hid (same = false → bM same (i + 1) = bM same i ++ wM i ++ [10]) := fun e => by rw [e]; exact bM_false i
      have HBT : Hid (same = true → bM same (i + 1) = bM same i ++ [97] ++ [10]) := fun e => by rw [e]; exact bM_true i
      have HCS : Hid (cM (i + 1) = cM i ++ wM i ++ [45, 62, 98, 10] ++ [10]) := cM_three i
      have hsn := srcs_new wR #[.int .u8 (97 + (i : Int) % 26), .int .u8 (97 + (i : Int) / 26 % 26), .int .u8 (97 + (i : Int) / 676)] 5 3 1 3 rfl
      have HS : Hid (Srcs (wR.alloc (.cells #[.int .u8 (97 + (i : Int) % 26), .int .u8 (97 + (i : Int) / 26 % 26), .int .u8 (97 + (i : Int) / 676)] 5)) (.slice (some ⟨wR.heap.size, 0, none⟩) 3 3) 3 1 ((wM i).map u8c)) := by
        show Srcs _ _ _ _ _
        rw [wM_cells i hi6]
        exact hsn
      have HWL : Hid ((wM i).length = 3) := rfl
      generalize bM same i = BB at HR hbl HBF HBT
      generalize cM i = CC at HR hcl HCS
      generalize wM i = WW at HBF HCS HS HWL
      have HRA := HR.out.alloc (.cells #[.int .u8 (97 + (i : Int) % 26), .int .u8 (97 + (i : Int) / 26 % 26), .int .u8 (97 + (i : Int) / 676)] 5)
      have HRA' : Hid (TwoR w1 (wR.alloc (.cells #[.int .u8 (97 + (i : Int) % 26), .int .u8 (97 + (i : Int) / 26 % 26), .int .u8 (97 + (i : Int) / 676)] 5)) u6 u7 BB CC) := HRA
      have HLTC : Hid (∀ k, u7.ownBlock = some k → k < wR.heap.size) := HR.out.c.lt
      clear hsn HRA
      go_wp2_with (at_builtin; refine app_bytes2 rfl _ _ 27 rfl w1.heap.size i0 Tryz.underlying27 hi hz0 hz1 hz2 _ CC rfl HRA'.out.c wR.heap.size 3 WW 3 HWL.out rfl HS.out (by decide) (by omega) HRA'.out.u.2 ?_)
      intro g1 cap1 w2 ho1 hg1 ha1
      have HR2 := HRA'.out.growC hg1 ho1 (by simpa using ha1)
      have HS2 : Hid (Srcs w2 (.slice (some ⟨wR.heap.size, 0, none⟩) 3 3) 3 1 (WW.map u8c)) := HS.out.grown hg1 (fun e => by have := HLTC.out _ e; omega)
      have hp1 : g1 ≠ wR.heap.size := by
        rcases ha1 with ha | ha
        · have := HLTC.out _ ha; omega
        · (try simp at ha); omega
      obtain ⟨C1, hC1⟩ : ∃ C1, CC ++ WW = C1 := ⟨_, rfl⟩
      have hc1 : C1.length ≤ 40000 := by rw [← hC1, List.length_append, HWL.out]; omega
      rw [hC1] at HR2
      have HC1 : Hid (CC ++ WW = C1) := hC1
      have HRB : Hid (TwoR w1 w2 u6 (.slice (some ⟨g1, 0, none⟩) (CC.length + 3) cap1) BB C1) := HR2
      have HP1 : Hid (g1 ≠ wR.heap.size) := hp1
      have HW2 : Hid (wR.heap.size < w2.heap.size) := by have := hg1.size; simp at this; show _ < _; omega
      clear ho1 hg1 ha1 HR2 hC1 hp1 HS HRA' HR HLTC
      go_wp2_with (at_builtin; refine app_text2 rfl _ _ 27 9 rfl w1.heap.size i0 Tryz.underlying27 Tryz.underlying9 hi hz0 hz1 hz2 _ C1 rfl HRB.out.c ⟨#[45, 62, 98, 10]⟩ rfl (by decide) ?c1 HRB.out.u.2 ?_)
      case c1 =>
        show C1.length + 4 ≤ _
        omega
      intro g2 cap2 w3 ho2 hg2 ha2
      have HR3 := HRB.out.growC hg2 ho2 ha2
      have HS3 : Hid (Srcs w3 (.slice (some ⟨wR.heap.size, 0, none⟩) 3 3) 3 1 (WW.map u8c)) := HS2.out.grown hg2 (fun e => by
        have h := HP1.out
        simp [Value.ownBlock] at e
        exact h e)
      have hp2 : g2 ≠ wR.heap.size := by
        have h := HP1.out
        have h' := HW2.out
        rcases ha2 with ha | ha
        · simp [Value.ownBlock] at ha; omega
        · omega
      obtain ⟨C2, hC2⟩ : ∃ C2, C1 ++ [45, 62, 98, 10] = C2 := ⟨_, rfl⟩
      have hc2 : C2.length ≤ 40010 := by rw [← hC2, List.length_append]; show C1.length + 4 ≤ _; omega
      have HC2 : Hid (C1 ++ [45, 62, 98, 10] = C2) := hC2
      have HR3' : TwoR w1 w3 u6 (.slice (some ⟨g2, 0, none⟩) (C1.length + 4) cap2) BB C2 := by rw [← hC2]; exact HR3
      have HRC : Hid (TwoR w1 w3 u6 (.slice (some ⟨g2, 0, none⟩) (C1.length + 4) cap2) BB C2) := HR3'
      have HP2 : Hid (g2 ≠ wR.heap.size) := hp2
      have HW3 : Hid (wR.heap.size < w3.heap.size) := by have := hg2.size; have h' := HW2.out; show _ < _; omega
      clear ho2 hg2 ha2 HR3 HR3' hC2 hp2 HS2 HRB HP1 HW2
      go_wp2_with (at_builtin; refine app_text2 rfl _ _ 27 9 rfl w1.heap.size i0 Tryz.underlying27 Tryz.underlying9 hi hz0 hz1 hz2 _ C2 rfl HRC.out.c ⟨#[10]⟩ rfl (by decide) ?c1 HRC.out.u.2 ?_)
      case c1 =>
        show C2.length + 1 ≤ _
        omega
      intro g3 cap3 w4 ho3 hg3 ha3
      have HR4 := HRC.out.growC hg3 ho3 ha3
      have HS4 : Hid (Srcs w4 (.slice (some ⟨wR.heap.size, 0, none⟩) 3 3) 3 1 (WW.map u8c)) := HS3.out.grown hg3 (fun e => by
        have h := HP2.out
        simp [Value.ownBlock] at e
        exact h e)
      have HC3 : Hid (C2 ++ [10] = cM (i + 1)) := by
        show _ = _
        rw [HCS.out, HC1.out, HC2.out]
      have HR4' : TwoR w1 w4 u6 (.slice (some ⟨g3, 0, none⟩) (C2.length + 1) cap3) BB (cM (i + 1)) := by rw [← HC3.out]; exact HR4
      have HRD : Hid (TwoR w1 w4 u6 (.slice (some ⟨g3, 0, none⟩) (C2.length + 1) cap3) BB (cM (i + 1))) := HR4'
      clear ho3 hg3 ha3 HR4 HR4' HS3 HRC HP2 HW3 HC1 HC2 HC3 HCS
      have hb9 : BB.length ≤ 20000 := by omega
      cases same
      · go_wp2_with (at_builtin; refine app_bytes2 rfl _ _ 27 rfl w1.heap.size i0 Tryz.underlying27 hi hz0 hz1 hz2 _ BB rfl HRD.out.b wR.heap.size 3 WW 3 HWL.out rfl HS4.out (by decide) (by omega) HRD.out.u.2 ?_)
        intro g4 cap4 w5 ho4 hg4 ha4
        have HR5 := HRD.out.growB hg4 ho4 (by simpa using ha4)
        obtain ⟨B1, hB1⟩ : ∃ B1, BB ++ WW = B1 := ⟨_, rfl⟩
        have hb1 : B1.length ≤ 20010 := by rw [← hB1, List.length_append, HWL.out]; omega
        rw [hB1] at HR5
        have HB1 : Hid (B1 ++ [10] = bM false (i + 1)) := by show _ = _; rw [HBF.out (by trivial), hB1]
        have HRE : Hid (TwoR w1 w5 (.slice (some ⟨g4, 0, none⟩) (BB.length + 3) cap4) (.slice (some ⟨g3, 0, none⟩) (C2.length + 1) cap3) B1 (cM (i + 1))) := HR5
        have HRF : Hid (TwoR w1 (w5.alloc (.cells #[.int .u8 10] 5)) (.slice (some ⟨g4, 0, none⟩) (BB.length + 3) cap4) (.slice (some ⟨g3, 0, none⟩) (C2.length + 1) cap3) B1 (cM (i + 1))) := HR5.alloc _
        have HS6 : Hid (Srcs (w5.alloc (.cells #[.int .u8 10] 5)) (.slice (some ⟨w5.heap.size, 0, none⟩) 1 1) 1 1 (([10] : List UInt8).map u8c)) := srcs_new w5 #[.int .u8 10] 5 1 1 1 rfl
        clear ho4 hg4 ha4 HR5 hB1 HS4 HRD HBF HBT HRE
        go_wp2_with (at_builtin; refine app_bytes2 rfl _ _ 27 rfl w1.heap.size i0 Tryz.underlying27 hi hz0 hz1 hz2 _ B1 rfl HRF.out.b w5.heap.size 1 [10] 1 rfl rfl HS6.out (by decide) (by omega) HRF.out.u.2 ?_)
        intro g5 cap5 w6 ho5 hg5 ha5
        have HR6 := HRF.out.growB hg5 ho5 (by simpa using ha5)
        rw [HB1.out] at HR6
        have HRG : Hid (TwoR w1 w6 (.slice (some ⟨g5, 0, none⟩) (B1.length + 1) cap5) (.slice (some ⟨g3, 0, none⟩) (C2.length + 1) cap3) (bM false (i + 1)) (cM (i + 1))) := HR6
        clear ho5 hg5 ha5 HR6 HRF HS6 HB1
        go_wp2
        go_roundg (n - (i + 1))
        case measure => omega
        case rel => exact ⟨i + 1, by omega, rfl, by go_num, HRG⟩
      · have HS5 : Hid (Srcs (w4.alloc (.cells #[.int .u8 97] 5 (1, 2))) (.slice (some ⟨w4.heap.size, 0, none⟩) 1 1) 1 1 (([97] : List UInt8).map u8c)) := srcs_mark w4 (.int .u8 97) (1, 2) 1
        have HRD2 : Hid (TwoR w1 (w4.alloc (.cells #[.int .u8 97] 5 (1, 2))) u6 (.slice (some ⟨g3, 0, none⟩) (C2.length + 1) cap3) BB (cM (i + 1))) := HRD.out.alloc _
        clear HS4 HRD
        have hcv := Go.Lib.run_convert_bytes_const (P := Tryz.prog) w4 27 5 #[.int .u8 97] 1 1 Tryz.underlying27 Tryz.underlying5
        change _ = Result.ok _ (w4.alloc (.cells #[.int .u8 97] 5 (1, 2))) at hcv
        go_wp2_with (at_builtin; refine app_bytes2 rfl _ _ 27 rfl w1.heap.size i0 Tryz.underlying27 hi hz0 hz1 hz2 _ BB rfl HRD2.out.b w4.heap.size 1 [97] 1 rfl rfl HS5.out (by decide) (by omega) HRD2.out.u.2 ?_)
        intro g4 cap4 w5 ho4 hg4 ha4
        have HR5 := HRD2.out.growB hg4 ho4 (by simpa using ha4)
        obtain ⟨B1, hB1⟩ : ∃ B1, BB ++ [97] = B1 := ⟨_, rfl⟩
        have hb1 : B1.length ≤ 20010 := by rw [← hB1, List.length_append]; show BB.length + 1 ≤ _; omega
        rw [hB1] at HR5
        have HB1 : Hid (B1 ++ [10] = bM true (i + 1)) := by show _ = _; rw [HBT.out (by trivial), hB1]
        have HRE : Hid (TwoR w1 w5 (.slice (some ⟨g4, 0, none⟩) (BB.length + 1) cap4) (.slice (some ⟨g3, 0, none⟩) (C2.length + 1) cap3) B1 (cM (i + 1))) := HR5
        have HRF : Hid (TwoR w1 (w5.alloc (.cells #[.int .u8 10] 5)) (.slice (some ⟨g4, 0, none⟩) (BB.length + 1) cap4) (.slice (some ⟨g3, 0, none⟩) (C2.length + 1) cap3) B1 (cM (i + 1))) := HR5.alloc _
        have HS6 : Hid (Srcs (w5.alloc (.cells #[.int .u8 10] 5)) (.slice (some ⟨w5.heap.size, 0, none⟩) 1 1) 1 1 (([10] : List UInt8).map u8c)) := srcs_new w5 #[.int .u8 10] 5 1 1 1 rfl
        clear ho4 hg4 ha4 HR5 hB1 HS5 HRD2 HBF HBT HRE
        go_wp2_with (at_builtin; refine app_bytes2 rfl _ _ 27 rfl w1.heap.size i0 Tryz.underlying27 hi hz0 hz1 hz2 _ B1 rfl HRF.out.b w5.heap.size 1 [10] 1 rfl rfl HS6.out (by decide) (by omega) HRF.out.u.2 ?_)
        intro g5 cap5 w6 ho5 hg5 ha5
        have HR6 := HRF.out.growB hg5 ho5 (by simpa using ha5)
        rw [HB1.out] at HR6
        have HRG : Hid (TwoR w1 w6 (.slice (some ⟨g5, 0, none⟩) (B1.length + 1) cap5) (.slice (some ⟨g3, 0, none⟩) (C2.length + 1) cap3) (bM true (i + 1)) (cM (i + 1))) := HR6
        clear ho5 hg5 ha5 HR6 HRF HS6 HB1
        go_wp2
        go_roundg (n - (i + 1))
        case measure => omega
        case rel => exact ⟨i + 1, by omega, rfl, by go_num, HRG⟩
    · obtain rfl : i = n := by omega
      obtain ⟨hLW, stW, hW1, hW2⟩ := many_words same i (by omega) hn2
      obtain ⟨hLF, stF, hF1, hF2⟩ := many_fixes i hn2
      have hbl := bM_len same i
      have hcl := cM_len i
      have HU3 : Hid (Up w.heap.size w wR) := HU1.out.stay HR.out.u.1
      have hsB : (bA (bM same i)).size ≤ 40000 := by rw [bA_size]; omega
      have hsC : (bA (cM i)).size ≤ 40000 := by rw [bA_size]; omega
      have HSB : Hid (Lns.BSl wR u6 (bA (bM same i))) := HR.out.b.bsl
      have HSC : Hid (Lns.BSl wR u7 (bA (cM i))) := HR.out.c.bsl
      obtain ⟨ba, bc, hbf⟩ := OB.form HR.out.b
      obtain ⟨cA, cC, hcf⟩ := OB.form HR.out.c
      subst hbf
      subst hcf
      have HW1 : Hid (i ≤ 4096 → runR wstep (linesL (bA (bM same i))) 0 ⟨0, []⟩ = (stW, 0, 0) ∧ stW.L.length = (bif same then 1 else i)) := hW1
      have HW2 : Hid (i = 4097 → runR wstep (linesL (bA (bM same i))) 0 ⟨0, []⟩ = (stW, 4, 4097)) := hW2
      have HF1 : Hid (i ≤ 4096 → runR fstep (linesL (bA (cM i))) 0 ([], false) = (stF, 0, 0) ∧ stF.1.length = i) := hF1
      have HF2 : Hid (i = 4097 → runR fstep (linesL (bA (cM i))) 0 ([], false) = (stF, 4, 8193)) := hF2
      have HLW : Hid (longL (linesL (bA (bM same i))) 0 = 0) := hLW
      have HLF : Hid (longL (linesL (bA (cM i))) 0 = 0) := hLF
      clear hW1 hW2 hF1 hF2 hLW hLF hbl hcl HR
      generalize bA (bM same i) = Bb at hsB HSB HW1 HW2 HLW
      generalize bA (cM i) = Cc at hsC HSC HF1 HF2 HLF
      generalize (bM same i).length = bn at *
      generalize (cM i).length = cn at *
      have HTT : Hid (Tabs wR ∧ wR.cell? ⟨3, 0, none⟩ = some (.int .i64 m) ∧ Ety wR) := ⟨tabs_up HT.out HU3.out.1, (HU3.out.1.cell (World.block_lt_of_cell? w _ HM.out)).trans HM.out, HE.out.stay HU3.out.1⟩
      clear HT HM HE
      have c1 := words_run Bb _ m wR hsB HTT.out.1 HSB.out HTT.out.2.1 HLW.out
      go_wp2_with fail
      refine c1.mono ?_
      rintro e wX ⟨st, c, ln, hrun, hbX, hcase⟩
      have HUX : Hid (Up w.heap.size w wX) := HU3.out.stay hbX
      have HTX : Hid (Ety wX) := HTT.out.2.2.stay hbX
      have c2 := fixes_run Cc _ m wX hsC (tabs_up HTT.out.1 hbX) (HSC.out.stay hbX) ((hbX.cell (World.block_lt_of_cell? wR _ HTT.out.2.1)).trans HTT.out.2.1) HLF.out
      by_cases h96 : i ≤ 4096
      · obtain ⟨hW, hWl⟩ := HW1.out h96
        have he := hrun.symm.trans hW
        cases he
        obtain ⟨_, u, rfl, hou⟩ : (0 : Int) = 0 ∧ ∃ u, e = .returned (.tuple #[u, .nilIface]) ∧ wX.ownsRow wR.heap.size 9 1 u stW.L.length ((srt stW.L).map Value.string) := by
          rcases hcase with h | ⟨h, _⟩
          · exact h
          · exact absurd rfl h
        obtain ⟨ua, uc, huf⟩ := own_form hou
        subst huf
        rw [hWl]
        clear hcase hou hrun hW c1 hbX hWl HW1 HW2
        go_wp2_with fail
        refine c2.mono ?_
        rintro e wY ⟨st', c', ln', hrun', hbY, hcase'⟩
        have HUY : Hid (Up w.heap.size w wY) := HUX.out.stay hbY
        obtain ⟨hF, hFl⟩ := HF1.out h96
        have he := hrun'.symm.trans hF
        cases he
        obtain ⟨_, u', ys, rfl, hou', hpm, _, _⟩ : (0 : Int) = 0 ∧ ∃ u ys, e = .returned (.tuple #[u, .nilIface]) ∧ wY.ownsRow wX.heap.size 49 2 u ys.length (fcells ys) ∧ (ys.map Fx.p).Perm stF.1 ∧ Rise ys ∧ ∀ x ∈ ys, wY.ownsRow wX.heap.size 9 1 x.v x.l.length (x.l.map Value.string) := by
          rcases hcase' with h | ⟨h, _⟩
          · exact h
          · exact absurd rfl h
        have hyl : ys.length = i := by have := hpm.length_eq; simp at this; omega
        obtain ⟨ua', uc', huf'⟩ := own_form hou'
        subst huf'
        rw [hyl]
        clear hcase' hou' hrun' hF c2 hbY hFl HF1 HF2 hpm hyl
        have h96' : ¬ (4096 : Int) < (i : Int) := by omega
        cases same
        · go_wp2
          go_ret
          exact ⟨rfl, HUY.out.1⟩
        · go_wp2
          go_ret
          exact ⟨rfl, HUY.out.1⟩
      · obtain rfl : i = 4097 := by omega
        have hW := HW2.out rfl
        have HF3 : Hid (runR fstep (linesL Cc) 0 ([], false) = (stF, 4, 8193)) := HF2.out rfl
        have he := hrun.symm.trans hW
        cases he
        obtain ⟨_, bX, rfl, hlie⟩ : (4 : Int) ≠ 0 ∧ ∃ b, e = .returned (.tuple #[.slice none 0 0, val [⟨b, nmW, ((4097 : Nat) : Int)⟩] 4]) ∧ Lie wX [⟨b, nmW, ((4097 : Nat) : Int)⟩] 4 := by
          rcases hcase with ⟨h, _⟩ | h
          · exact absurd h (by decide)
          · exact h
        have HLI : Hid (Lie wX [⟨bX, nmW, ((4097 : Nat) : Int)⟩] 4) := hlie
        obtain ⟨T1, v1, hv1⟩ := val_shape [⟨bX, nmW, ((4097 : Nat) : Int)⟩] 4
        have HV1 : Hid (val [⟨bX, nmW, ((4097 : Nat) : Int)⟩] 4 = .iface T1 v1) := hv1
        rw [hv1]
        clear hcase hlie hv1 hrun hW c1 hbX HW1 HW2 HF1 HF2
        go_wp2_with fail
        refine c2.mono ?_
        rintro e wY ⟨st', c', ln', hrun', hbY, hcase'⟩
        have HUY : Hid (Up w.heap.size w wY) := HUX.out.stay hbY
        have hF := HF3.out
        have he := hrun'.symm.trans hF
        cases he
        obtain ⟨_, bY, rfl, hlie'⟩ : (4 : Int) ≠ 0 ∧ ∃ b, e = .returned (.tuple #[.slice none 0 0, val [⟨b, nmF, ((8193 : Nat) : Int)⟩] 4]) ∧ Lie wY [⟨b, nmF, ((8193 : Nat) : Int)⟩] 4 := by
          rcases hcase' with ⟨h, _⟩ | h
          · exact absurd h (by decide)
          · exact h
        have k1 := right_at ⟨bX, nmW, ((4097 : Nat) : Int)⟩ [] 4 wY (Nat.zero_le _) (HLI.out.stay hbY) (HTX.out.stay hbY) (by decide)
        have HLJ : Hid (Lie wY [⟨bY, nmF, ((8193 : Nat) : Int)⟩] 4) := hlie'
        have k2 := fun w' (hb : Below wY.heap.size wY w') => right_at ⟨bY, nmF, ((8193 : Nat) : Int)⟩ [] 4 w' (Nat.zero_le _) (HLJ.out.stay hb) ((HTX.out.stay hbY).stay hb) (by decide)
        rw [lin_one bX nmW 4097 (by decide), HV1.out] at k1
        rw [lin_one bY nmF 8193 (by decide)] at k2
        obtain ⟨T2, v2, hv2⟩ := val_shape [⟨bY, nmF, ((8193 : Nat) : Int)⟩] 4
        rw [hv2] at k2 ⊢
        change Calls _ _ #[.iface T1 v1, .string nmW, .int .i64 4, .int .i64 4097] _ _ at k1
        change ∀ w', Below wY.heap.size wY w' → Calls _ _ #[.iface T2 v2, .string nmF, .int .i64 4, .int .i64 8193] w' _ at k2
        have K2 : Hid (∀ w', Below wY.heap.size wY w' → Calls Tryz.prog 16 #[.iface T2 v2, .string nmF, .int .i64 4, .int .i64 8193] w' fun e w'' => e = .returned (.bool true) ∧ Below w'.heap.size w' w'') := k2
        clear hcase' hlie' hrun' hF c2 hbY HF3 hv2 HLI HLJ HV1 HTX k2
        go_wp2_with fail
        refine k1.mono ?_
        rintro e w5 ⟨rfl, hb5⟩
        have HB5 : Hid (Below wY.heap.size wY w5) := hb5
        have k3 := K2.out w5 hb5
        clear hb5 k1 K2
        go_wp2_with fail
        refine k3.mono ?_
        rintro e w6 ⟨rfl, hb6⟩
        have HB6 : Hid (Below wY.heap.size wY w6) := HB5.out.trans (hb6.mono HB5.out.size)
        clear hb6 k3
        go_wp2
        go_ret
        exact ⟨rfl, (HUY.out.stay HB6.out).1⟩
end Go.Proofs.YtgijihfijoiafaaGreatDoor
