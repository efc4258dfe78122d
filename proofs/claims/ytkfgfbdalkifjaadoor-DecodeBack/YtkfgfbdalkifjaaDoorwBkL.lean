/- DecodeBack. -/
import Derived.Test.YtkfgfbdalkifjaaDoorwBkC
import Derived.Test.YtkfgfbdalkifjaaDoorwBkS
import Derived.Test.YtkfgfbdalkifjaaDoorwAwk
import Derived.Test.YtkfgfbdalkifjaaDoorwLit
namespace Go.Proofs.YtkfgfbdalkifjaaDoor
set_option linter.unusedVariables false
open Go.RowKit Go.ChangeShapes
theorem Up.conv {B : Nat} {a w : World} (h : Up B a w) (s : ByteArray) : Up B a (Lib.bytesWorld w 5 s) := h.stay (conv_below w s)
set_option maxRecDepth 100000 in
set_option maxHeartbeats 16000000 in
theorem back_law {w : World} (hG : Glb w) {xn kn : Nat} (hx : xn < 4294967296) :
    Calls Tryd.prog 6 #[.int .u32 (xn : Int), .int .u8 (kn : Int)] w fun ev w' => ev = .returned (.bool true) ∧ Below w.heap.size w w' := by
  obtain ⟨W0, hW0⟩ : ∃ W0, w.alloc (.cells #[.int .u32 (xn : Int)] 57) = W0 := ⟨_, rfl⟩
  have hbW : Below w.heap.size w W0 := by rw [← hW0]; exact below_alloc w _
  have hWs : W0.heap.size = w.heap.size + 1 := by rw [← hW0]; exact World.size_alloc _ _
  have hWh : W0.heap[w.heap.size]? = some (.cells #[.int .u32 (xn : Int)] 57) := by rw [← hW0]; exact heap_alloc_new _ _
  obtain ⟨D, hD⟩ : ∃ D, w.heap.size = D := ⟨_, rfl⟩
  have HD : Hid (w.heap.size = D) := hD
  have HG0 : Hid (Glb w) := hG
  rw [hD] at hWh hWs
  have HW : Hid (Up w.heap.size w W0 ∧ W0.heap[D]? = some (.cells #[.int .u32 (xn : Int)] 57)) := ⟨⟨hbW, hbW.size⟩, hWh⟩
  have ca := awake_any W0 (hG.stay hbW)
  clear hG hbW hWh hWs
  go_enter Tryd.func6, Tryd.ntmps6
  go_wp2_with fail
  refine ca.mono ?_
  rintro ev w1 ⟨rfl, hb1⟩
  (try rw [hD])
  have hblk := blk_stay HW.out.2 hb1
  have HU1 : Hid (Up w.heap.size w w1) := HW.out.1.stay hb1
  clear ca hb1 hW0 HW hD
  obtain ⟨n, hn⟩ : ∃ n, xn % 1114112 = n := ⟨_, rfl⟩
  have hnI : (xn : Int) % 1114112 = (n : Int) := by omega
  have hnT : (xn : Int).tmod 1114112 = (n : Int) := by rw [Int.tmod_eq_emod_of_nonneg (by omega)]; exact hnI
  have HN : Hid (n ≤ 1114111) := by show _ ≤ _; omega
  have y0 : w1.cell? ⟨D, 0, none⟩ = some (.int .u32 (xn : Int)) := by simp [World.cell?, hblk]
  have z0 : w1.frozen? ⟨D, 0, none⟩ = false := by simp [World.frozen?, hblk]
  obtain ⟨wq, hwq⟩ : ∃ wq, w1.setCell ⟨D, 0, none⟩ (.int .u32 (n : Int)) = wq := ⟨_, rfl⟩
  have h1 := heap_setCell_same w1 D 0 _ _ (.int .u32 (n : Int)) hblk
  rw [hwq] at h1
  have h2 : wq.heap[D]? = some (.cells #[.int .u32 (n : Int)] 57) := h1
  have HQ : Hid (Up w.heap.size w wq ∧ wq.heap[D]? = some (.cells #[.int .u32 (n : Int)] 57)) := ⟨by rw [← hwq]; exact HU1.out.setCell (show w.heap.size ≤ D by rw [HD.out]; exact Nat.le_refl _) _, h2⟩
  clear hblk h1 h2 HU1
  go_upto_region 4 with fail
  (try rw [hwq])
  clear y0 z0 hnT hnI hwq
  have hcases : kn % 4 = 0 ∨ kn % 4 = 1 ∨ kn % 4 = 2 ∨ kn % 4 = 3 := by omega
  rcases hcases with hr | hr | hr | hr
  · have hkI : (kn : Int) % 4 = 0 := by omega
    have hkT : (kn : Int).tmod 4 = 0 := by rw [Int.tmod_eq_emod_of_nonneg (by omega)]; exact hkI
    clear hr
    have cD : Calls Tryd.prog 24 #[.int .u32 10, .int .u32 1, .pointer (some ⟨D, 0, none⟩)] wq fun e w' => ∃ L, DT 10 1 n L ∧ e = .returned (.string (strOfNums L)) ∧ Below wq.heap.size wq w' := bkdig_any (b := 10) (k := 1) HN.out (Or.inl rfl) (by decide) (by simp [World.cell?, HQ.out.2])
    go_wp2_with fail
    refine cD.mono ?_
    rintro ev w2 ⟨L, hL, rfl, hb2⟩
    have HU2 : Hid (Up w.heap.size w w2 ∧ w2.heap[D]? = some (.cells #[.int .u32 (n : Int)] 57)) := ⟨HQ.out.1.stay hb2, blk_stay HQ.out.2 hb2⟩
    have hLs : (strOfNums L).size ≤ 100 := by
      rw [strOfNums_size]
      have := hL.len (m := 7) (by decide) (Nat.lt_of_le_of_lt HN.out (by decide))
      omega
    have ha0 : ¬ (9223372036854775807 < (⟨#[38, 35]⟩ : ByteArray).size + (strOfNums L).size) := by have h3 : (⟨#[38, 35]⟩ : ByteArray).size ≤ 3 := (by decide); omega
    have hpk := pk_ten HN.out hL
    obtain ⟨SS, hSS⟩ : ∃ SS : ByteArray, ⟨#[38, 35]⟩ ++ strOfNums L ++ ⟨#[59]⟩ = SS := ⟨_, rfl⟩
    rw [hSS] at hpk
    obtain ⟨S, hS⟩ : ∃ S : List Int, Pk 1 1 38 n SS S := ⟨_, hpk⟩
    have HP : Hid (Pk 1 1 38 n SS S) := hS
    obtain ⟨e, he⟩ : ∃ e, S.length = e := ⟨_, rfl⟩
    have HE : Hid (S.length = e) := he
    have hsz : SS.size = e := by rw [hS.str, strOfNums_size]; exact he
    have hcv := Lib.run_convert_string_bytes (P := Tryd.prog) w2 9 22 5 SS (u := .string) Tryd.underlying9 Tryd.underlying22 Tryd.underlying5
    rw [hsz] at hcv
    obtain ⟨cp, hcp⟩ : ∃ cp, grownCap w2 e 0 5 = cp := ⟨_, rfl⟩
    have he20 : e ≤ 20 := by rw [← he]; exact hS.most
    have he4 : 4 ≤ e := by rw [← he]; exact hS.least
    have hcp1 : e ≤ cp := by rw [← hcp]; exact grownCap_ge _ _ _ _
    have hcp2 : cp ≤ maxLen := by rw [← hcp]; exact grownCap_le_maxLen _ _ _ _ (by unfold maxLen; omega)
    obtain ⟨W3, hW3⟩ : ∃ W3, Lib.bytesWorld w2 5 SS = W3 := ⟨_, rfl⟩
    rw [hcp, hW3] at hcv
    have hB3 : Below w2.heap.size w2 W3 := by rw [← hW3]; exact conv_below w2 SS
    have HU3 : Hid (Up w.heap.size w W3 ∧ W3.heap[D]? = some (.cells #[.int .u32 (n : Int)] 57)) := ⟨HU2.out.1.stay hB3, blk_stay HU2.out.2 hB3⟩
    have hbc : BC W3 (some ⟨w2.heap.size, 0, none⟩) e (cL S) := by rw [← hW3, hS.str, ← he]; exact conv_cl hS.byt
    have cU0 := units_any (n := e) (cap := cp) (A := 0) (M := e) (c := cL S) (fun j hj => by have := byt_le hS.byt j (by omega); omega) hbc hcp1 (by omega) (by unfold maxLen at hcp2; omega) (by omega) 1 1 (HG0.out.stay HU3.out.1.1)
    rw [Nat.zero_add, show un 1 1 (cL S) e 0 = un 1 1 (cL S) S.length 0 by rw [he]] at cU0
    have cU : Calls Tryd.prog 15 #[.int .u8 1, .slice (some ⟨w2.heap.size, 0, none⟩) e cp, .agg #[.int .u8 1, .int .i64 0, .int .i64 (e : Int)]] W3 (UnQ W3 (un 1 1 (cL S) S.length 0)) := cU0
    obtain ⟨R, hR⟩ : ∃ R, un 1 1 (cL S) S.length 0 = R := ⟨_, rfl⟩
    have HRR : Hid (un 1 1 (cL S) S.length 0 = R) := hR
    rw [hR] at cU
    clear cD hL hb2 hpk hS he hcp hW3 hB3 hbc cU0 hR
    go_wp2_with fail
    refine cU.mono ?_
    rintro ev w4 ⟨v4, rfl, hR4, hb4⟩
    have HU4 : Hid (Up w.heap.size w w4 ∧ w4.heap[D]? = some (.cells #[.int .u32 (n : Int)] 57) ∧ US w4 v4 R) := ⟨HU3.out.1.stay hb4, blk_stay HU3.out.2 hb4, hR4.us⟩
    have y4 : w4.cell? ⟨D, 0, none⟩ = some (.int .u32 (n : Int)) := by simp [World.cell?, HU4.out.2.1]
    clear cU hb4 hR4 hsz hcv hSS
    have HR20 : Hid (R.length ≤ 20) := by
      show _ ≤ _
      rw [← HRR.out]
      have h1 := un_len (f := 1) (l := 1) (c := cL S) (byt_le HP.out.byt) S.length 0 rfl
      have h2 := HP.out.most
      omega
    obtain ⟨ad, cap, rfl, hcap, hh⟩ := HU4.out.2.2
    have HCAP : Hid (R.length ≤ cap) := hcap
    clear hcap hh
    obtain ⟨N, hN⟩ : ∃ N : Int, (n : Int) = N := ⟨_, rfl⟩
    have HNN : Hid ((n : Int) = N ∧ n ≤ 1114111) := ⟨hN, HN.out⟩
    rw [hN] at y4
    clear hN
    by_cases c1 : (0 : Int) < N
    · by_cases c2 : (55296 : Int) ≤ N
      · by_cases c3 : N < 57344
        · have ho : okN (n : Int) = false := by have := HNN.out; unfold okN; simp; omega
          obtain ⟨u, tl, hRt⟩ := HP.out.no ho
          rw [HRR.out] at hRt
          have cT := text_any HU4.out.2.2 (by have := HR20.out; omega)
          obtain ⟨TS, hTS⟩ : ∃ TS, strOfNums (tU R) = TS := ⟨_, rfl⟩
          have hne : TS.toList.isEmpty = false := by
            have h0 : (TS.toList == (⟨#[]⟩ : ByteArray).toList) = false := by
              rw [← hTS, show (⟨#[]⟩ : ByteArray) = strOfNums [] from rfl, nums_beq (tU_byt R) (fun x hx => by cases hx), hRt, tU_plain (by decide)]
              rfl
            cases h : TS.toList with
            | nil => rw [h, show (⟨#[]⟩ : ByteArray).toList = [] by simp] at h0; simp at h0
            | cons x t => rfl
          have hlen : (1 : Int) < (R.length : Int) := by rw [hRt]; simp; omega
          rw [hTS] at cT
          clear hTS hRt ho
          go_wp2_with fail
          refine cT.mono ?_
          rintro ev w5 ⟨rfl, hb5⟩
          have HU5 : Hid (Up w.heap.size w w5) := HU4.out.1.stay hb5
          clear cT hb5
          go_wp2
          go_ret
          exact ⟨rfl, HU5.out.1⟩
        · have ho : okN (n : Int) = true := by have := HNN.out; unfold okN; simp; omega
          have hRo := HP.out.yes ho
          rw [HRR.out, HE.out] at hRo
          have hl1 : R.length = 1 := by rw [hRo]; rfl
          have hlf := lit_not ho HP.out.least HP.out.head (by decide)
          rw [HE.out, ← hRo] at hlf
          obtain ⟨gb, off, cap2, e1, hcap2, q1, q2, q3⟩ := HU4.out.2.2.at (i := 0) (x := ⟨(n : Int), 0, (e : Int)⟩) (by rw [hRo]; rfl)
          injection e1 with e1 e2 e3
          subst e1
          rw [HNN.out.1] at q1
          dsimp only at q1
          rw [Nat.zero_mul, Nat.add_zero] at q1
          have hwr : IntKind.i32.wrap N = N := by have := HNN.out; unfold IntKind.wrap; simp [IntKind.bits, IntKind.signed]; omega
          have HLIT : Hid (∀ (x1 : World) (B9 cp9 : Nat), Up w4.heap.size w4 x1 → BC x1 (some ⟨B9, 0, none⟩) e (cL S) → e ≤ cp9 → cp9 ≤ maxLen → Calls Tryd.prog 20 #[.slice (some ⟨B9, 0, none⟩) e cp9, .slice (some ⟨gb, off, none⟩) 1 cap] x1 fun ev w'' => ev = .returned (.bool false) ∧ Below x1.heap.size x1 w'') := by
            intro x1 B9 cp9 hu hb h1 h2
            have h := lit_any (c := cL S) (n := e) (fun j hj => by have := byt_le HP.out.byt j (by rw [HE.out]; exact hj); omega) hb h1 (by omega) (by unfold maxLen at h2; omega) (HU4.out.2.2.stay hu.1) (by omega) (fun u hm => by rw [hRo] at hm; rw [List.mem_singleton] at hm; subst hm; dsimp only; omega)
            rw [hl1, hlf] at h
            exact h
          rw [hl1]
          have hcvA : ∀ w' : World, (convert 9 22 (.string SS)).run Tryd.prog w' = .ok (.slice (some ⟨w'.heap.size, 0, none⟩) e (grownCap w' e 0 5)) (Lib.bytesWorld w' 5 SS) := fun w' => by
            have := Lib.run_convert_string_bytes (P := Tryd.prog) w' 9 22 5 SS (u := .string) Tryd.underlying9 Tryd.underlying22 Tryd.underlying5
            rw [show SS.size = e by rw [HP.out.str, strOfNums_size]; exact HE.out] at this
            exact this
          have HCV : Hid (∀ w' : World, (convert 9 22 (.string SS)).run Tryd.prog w' = .ok (.slice (some ⟨w'.heap.size, 0, none⟩) e (grownCap w' e 0 5)) (Lib.bytesWorld w' 5 SS)) := hcvA
          clear hcvA q2 q3 e2 e3 hcap2 ho hRo hlf
          go_upto_region 19 with fail
          refine wp_region_held_drew (S := fun w' => Up w4.heap.size w4 w') (by kernel_rfl) (Up.drew (Up.refl w4)) (fun hHeld => ?_)
          (try dsimp only at hHeld)
          obtain ⟨x0, hx0⟩ : ∃ x0, w4.drew = x0 := ⟨_, rfl⟩
          rw [hx0] at hHeld ⊢
          clear hx0
          refine takeH (i := 0) (v := ?_) (d := (some 78)) rfl (by kernel_rfl) (by kernel_rfl) (by kernel_rfl) rfl (fun _ _ _ h => h) (Or.inl ⟨by kernel_rfl, ?_⟩) (by assumption) ?_; rotate_left
          · (intro w hSw; (try dsimp only at hSw); first | (go_simp; done) | (go_simp; with_reducible rfl))
          (try simp only [Act.put, List.setIfInBounds_toArray, List.set_cons_zero, List.set_cons_succ])
          refine takeH (i := 1) (v := ?_) (d := (some 79)) rfl (by kernel_rfl) (by kernel_rfl) (by kernel_rfl) rfl (fun _ _ _ h => h) (Or.inl ⟨by kernel_rfl, ?_⟩) (by assumption) ?_; rotate_left
          · (intro w hSw; (try dsimp only at hSw); first | (go_simp; done) | (go_simp; with_reducible rfl))
          (try simp only [Act.put, List.setIfInBounds_toArray, List.set_cons_zero, List.set_cons_succ])
          refine takeH (i := 2) (v := ?_) (d := (some 80)) rfl (by kernel_rfl) (by kernel_rfl) (by kernel_rfl) rfl (fun _ _ _ h => h) (Or.inl ⟨by kernel_rfl, ?_⟩) (by assumption) ?_; rotate_left
          · (intro w hSw; (try dsimp only at hSw); first | (go_simp; done) | (go_simp; with_reducible rfl))
          (try simp only [Act.put, List.setIfInBounds_toArray, List.set_cons_zero, List.set_cons_succ])
          refine takeH (i := 3) (v := ?_) (d := (some 81)) rfl (by kernel_rfl) (by kernel_rfl) (by kernel_rfl) rfl (fun _ _ _ h => h) (Or.inl ⟨by kernel_rfl, ?_⟩) (by assumption) ?_; rotate_left
          · (intro w hSw; (try dsimp only at hSw); first | (go_simp; done) | (go_simp; with_reducible rfl))
          (try simp only [Act.put, List.setIfInBounds_toArray, List.set_cons_zero, List.set_cons_succ])
          refine takeH (i := 4) (v := ?_) (d := (some 82)) rfl (by kernel_rfl) (by kernel_rfl) (by kernel_rfl) rfl (fun _ _ _ h => h) (Or.inl ⟨by kernel_rfl, ?_⟩) (by assumption) ?_; rotate_left
          · (intro w hSw; (try dsimp only at hSw); first | (go_simp; done) | (go_simp; with_reducible rfl))
          (try simp only [Act.put, List.setIfInBounds_toArray, List.set_cons_zero, List.set_cons_succ])
          refine takeH (i := 5) (v := ?_) (d := (some 83)) rfl (by kernel_rfl) (by kernel_rfl) (by kernel_rfl) rfl (fun _ _ _ h => h) (Or.inl ⟨by kernel_rfl, ?_⟩) (by assumption) ?_; rotate_left
          · (intro w hSw; (try dsimp only at hSw); first | (go_simp; done) | (go_simp; with_reducible rfl))
          (try simp only [Act.put, List.setIfInBounds_toArray, List.set_cons_zero, List.set_cons_succ])
          refine takeH (i := 6) (v := ?_) (d := (some 84)) rfl (by kernel_rfl) (by kernel_rfl) (by kernel_rfl) rfl (fun _ _ _ h => h) (Or.inl ⟨by kernel_rfl, ?_⟩) (by assumption) ?_; rotate_left
          · (intro w hSw; (try dsimp only at hSw); first | (go_simp; done) | (go_simp; with_reducible rfl))
          (try simp only [Act.put, List.setIfInBounds_toArray, List.set_cons_zero, List.set_cons_succ])
          refine takeH (i := 7) (v := ?_) (d := (some 85)) rfl (by kernel_rfl) (by kernel_rfl) (by kernel_rfl) rfl (fun _ _ _ h => h) (Or.inl ⟨by kernel_rfl, ?_⟩) (by assumption) ?_; rotate_left
          · (intro w hSw; (try dsimp only at hSw); first | (go_simp; done) | (go_simp; with_reducible rfl))
          (try simp only [Act.put, List.setIfInBounds_toArray, List.set_cons_zero, List.set_cons_succ])
          refine takeH (i := 8) (v := ?_) (d := (some 86)) rfl (by kernel_rfl) (by kernel_rfl) (by kernel_rfl) rfl (fun _ _ _ h => h) (Or.inl ⟨by kernel_rfl, ?_⟩) (by assumption) ?_; rotate_left
          · (intro w hSw; (try dsimp only at hSw); first | (go_simp; done) | (go_simp; with_reducible rfl))
          (try simp only [Act.put, List.setIfInBounds_toArray, List.set_cons_zero, List.set_cons_succ])
          refine takeH (i := 9) (v := ?_) (d := (some 87)) rfl (by kernel_rfl) (by kernel_rfl) (by kernel_rfl) rfl (fun _ _ _ h => h) (Or.inl ⟨by kernel_rfl, ?_⟩) (by assumption) ?_; rotate_left
          · (intro w hSw; (try dsimp only at hSw); first | (go_simp; done) | (go_simp; with_reducible rfl))
          (try simp only [Act.put, List.setIfInBounds_toArray, List.set_cons_zero, List.set_cons_succ])
          refine takeH (i := 10) (v := ?_) (d := (some 88)) rfl (by kernel_rfl) (by kernel_rfl) (by kernel_rfl) rfl (fun _ _ _ h => h) (Or.inl ⟨by kernel_rfl, ?_⟩) (by assumption) ?_; rotate_left
          · (intro w hSw; (try dsimp only at hSw); first | (go_simp; done) | (go_simp; with_reducible rfl))
          (try simp only [Act.put, List.setIfInBounds_toArray, List.set_cons_zero, List.set_cons_succ])
          refine takeH (i := 11) (v := ?_) (d := (some 89)) rfl (by kernel_rfl) (by kernel_rfl) (by kernel_rfl) rfl (fun _ _ _ h => h) (Or.inl ⟨by kernel_rfl, ?_⟩) (by assumption) ?_; rotate_left
          · (intro w hSw; (try dsimp only at hSw); have q0 := cell_stay q1 hSw.1; first | (go_simp; done) | (go_simp; with_reducible rfl))
          (try simp only [Act.put, List.setIfInBounds_toArray, List.set_cons_zero, List.set_cons_succ])
          refine takeH (i := 12) (v := ?_) (d := (some 90)) rfl (by kernel_rfl) (by kernel_rfl) (by kernel_rfl) rfl (fun _ _ _ h => h) (Or.inl ⟨by kernel_rfl, ?_⟩) (by assumption) ?_; rotate_left
          · (intro w hSw; (try dsimp only at hSw); have q0 := cell_stay y4 hSw.1; first | (go_simp; done) | (go_simp; with_reducible rfl))
          (try simp only [Act.put, List.setIfInBounds_toArray, List.set_cons_zero, List.set_cons_succ])
          refine takeH (i := 13) (v := ?_) (d := (some 91)) rfl (by kernel_rfl) (by kernel_rfl) (by kernel_rfl) rfl (fun _ _ _ h => h) (Or.inl ⟨by kernel_rfl, ?_⟩) (by assumption) ?_; rotate_left
          · (intro w hSw; (try dsimp only at hSw); first | (go_simp; done) | (go_simp; with_reducible rfl))
          (try simp only [Act.put, List.setIfInBounds_toArray, List.set_cons_zero, List.set_cons_succ])
          refine takeH (i := 14) (v := ?_) (d := (some 92)) rfl (by kernel_rfl) (by kernel_rfl) (by kernel_rfl) rfl (fun _ _ _ h => h) (Or.inl ⟨by kernel_rfl, ?_⟩) (by assumption) ?_; rotate_left
          · (intro w hSw; (try dsimp only at hSw); first | (go_simp; done) | (go_simp; with_reducible rfl))
          (try simp only [Act.put, List.setIfInBounds_toArray, List.set_cons_zero, List.set_cons_succ])
          refine takeH (i := 15) (v := ?_) (d := (some 93)) rfl (by kernel_rfl) (by kernel_rfl) (by kernel_rfl) rfl (fun _ _ _ h => h) (Or.inl ⟨by kernel_rfl, ?_⟩) (by assumption) ?_; rotate_left
          · (intro w hSw; (try dsimp only at hSw); first | (go_simp; done) | (go_simp; with_reducible rfl))
          (try simp only [Act.put, List.setIfInBounds_toArray, List.set_cons_zero, List.set_cons_succ])
          refine takeH (i := 16) (v := ?_) (d := (some 94)) rfl (by kernel_rfl) (by kernel_rfl) (by kernel_rfl) rfl (fun _ _ _ h => h) (Or.inl ⟨by kernel_rfl, ?_⟩) (by assumption) ?_; rotate_left
          · (intro w hSw; (try dsimp only at hSw); first | (go_simp; done) | (go_simp; with_reducible rfl))
          (try simp only [Act.put, List.setIfInBounds_toArray, List.set_cons_zero, List.set_cons_succ])
          refine takeH (i := 17) (v := ?_) (d := (some 95)) rfl (by kernel_rfl) (by kernel_rfl) (by kernel_rfl) rfl (fun _ _ _ h => h) (Or.inl ⟨by kernel_rfl, ?_⟩) (by assumption) ?_; rotate_left
          · (intro w hSw; (try dsimp only at hSw); first | (go_simp; done) | (go_simp; with_reducible rfl))
          (try simp only [Act.put, List.setIfInBounds_toArray, List.set_cons_zero, List.set_cons_succ])
          refine takeH (i := 19) (v := ?_) (d := (some 97)) rfl (by kernel_rfl) (by kernel_rfl) (by kernel_rfl) rfl (fun _ _ _ h => h) (Or.inl ⟨by kernel_rfl, ?_⟩) (by assumption) ?_; rotate_left
          · (intro w hSw; (try dsimp only at hSw); first | (go_simp; done) | (go_simp; with_reducible rfl))
          (try simp only [Act.put, List.setIfInBounds_toArray, List.set_cons_zero, List.set_cons_succ])
          have hcv9 := HCV.out x0
          obtain ⟨cp9, hcp9⟩ : ∃ c, grownCap x0 e 0 5 = c := ⟨_, rfl⟩
          have hc1 : e ≤ cp9 := by rw [← hcp9]; exact grownCap_ge _ _ _ _
          have hc2 : cp9 ≤ maxLen := by rw [← hcp9]; exact grownCap_le_maxLen _ _ _ _ (by unfold maxLen; omega)
          obtain ⟨x1, hx1⟩ : ∃ x, Lib.bytesWorld x0 5 SS = x := ⟨_, rfl⟩
          obtain ⟨B9, hB9⟩ : ∃ B, x0.heap.size = B := ⟨_, rfl⟩
          have hl9 : BC x1 (some ⟨B9, 0, none⟩) e (cL S) := by rw [← hx1, ← hB9, HP.out.str, ← HE.out]; exact conv_cl HP.out.byt
          have Hx1 : Hid (Up w4.heap.size w4 x1) := hHeld.stay (by rw [← hx1]; exact conv_below x0 SS)
          rw [hcp9, hx1, hB9] at hcv9
          have cLt := HLIT.out x1 B9 cp9 Hx1.out hl9 hc1 hc2
          clear hcp9 hx1 hB9 hl9 HLIT
          refine wpAnyH_ready (rs := [18]) (by kernel_rfl) (by simp) (AllReadyH.cons rfl (fun K hK => ?_) AllReadyH.nil)
          (try rw [if_pos (by kernel_rfl)])
          go_simp
          refine hK.out _ _ Hx1.out (fun hHeld' => ?_)
          clear hK K hHeld hHeld' hcv9
          have hHeld := Hx1.out
          clear Hx1
          (try simp only [Act.put, List.setIfInBounds_toArray, List.set_cons_zero, List.set_cons_succ])
          refine wpAnyH_ready (rs := [20]) (by kernel_rfl) (by simp) (AllReadyH.cons rfl (fun K hK => ?_) AllReadyH.nil)
          (try rw [if_pos (by kernel_rfl)])
          go_simp
          refine cLt.mono ?_
          rintro ev x2 ⟨rfl, hb9⟩
          have HU9 : Hid (Up w4.heap.size w4 x2) := hHeld.stay hb9
          clear cLt hb9 hHeld
          go_wp2_with fail
          refine hK.out _ _ HU9.out (fun hHeld => ?_)
          clear hK K
          (try dsimp only at hHeld)
          (try simp only [Act.put, List.setIfInBounds_toArray, List.set_cons_zero, List.set_cons_succ])
          refine takeH (i := 21) (v := ?_) (d := (some 99)) rfl (by kernel_rfl) (by kernel_rfl) (by kernel_rfl) rfl (fun _ _ _ h => h) (Or.inl ⟨by kernel_rfl, ?_⟩) (by assumption) ?_; rotate_left
          · (intro w hSw; (try dsimp only at hSw); first | (go_simp; done) | (go_simp; with_reducible rfl))
          (try simp only [Act.put, List.setIfInBounds_toArray, List.set_cons_zero, List.set_cons_succ])
          refine takeH (i := 22) (v := ?_) (d := (some 100)) rfl (by kernel_rfl) (by kernel_rfl) (by kernel_rfl) rfl (fun _ _ _ h => h) (Or.inl ⟨by kernel_rfl, ?_⟩) (by assumption) ?_; rotate_left
          · (intro w hSw; (try dsimp only at hSw); first | (go_simp; done) | (go_simp; with_reducible rfl))
          (try simp only [Act.put, List.setIfInBounds_toArray, List.set_cons_zero, List.set_cons_succ])
          refine takeH (i := 23) (v := ?_) (d := (some 4)) rfl (by kernel_rfl) (by kernel_rfl) (by kernel_rfl) rfl (fun _ _ _ h => h) (Or.inl ⟨by kernel_rfl, ?_⟩) (by assumption) ?_; rotate_left
          · (intro w hSw; (try dsimp only at hSw); first | (go_simp; done) | (go_simp; with_reducible rfl))
          (try simp only [Act.put, List.setIfInBounds_toArray, List.set_cons_zero, List.set_cons_succ])
          refine wpAnyH_done (by kernel_rfl) ?_ _
          go_wp2
          go_ret
          exact ⟨rfl, (HU4.out.1.stay HU9.out.1).1⟩
      · have ho : okN (n : Int) = true := by have := HNN.out; unfold okN; simp; omega
        have hRo := HP.out.yes ho
        rw [HRR.out, HE.out] at hRo
        have hl1 : R.length = 1 := by rw [hRo]; rfl
        have hlf := lit_not ho HP.out.least HP.out.head (by decide)
        rw [HE.out, ← hRo] at hlf
        obtain ⟨gb, off, cap2, e1, hcap2, q1, q2, q3⟩ := HU4.out.2.2.at (i := 0) (x := ⟨(n : Int), 0, (e : Int)⟩) (by rw [hRo]; rfl)
        injection e1 with e1 e2 e3
        subst e1
        rw [HNN.out.1] at q1
        dsimp only at q1
        rw [Nat.zero_mul, Nat.add_zero] at q1
        have hwr : IntKind.i32.wrap N = N := by have := HNN.out; unfold IntKind.wrap; simp [IntKind.bits, IntKind.signed]; omega
        have HLIT : Hid (∀ (x1 : World) (B9 cp9 : Nat), Up w4.heap.size w4 x1 → BC x1 (some ⟨B9, 0, none⟩) e (cL S) → e ≤ cp9 → cp9 ≤ maxLen → Calls Tryd.prog 20 #[.slice (some ⟨B9, 0, none⟩) e cp9, .slice (some ⟨gb, off, none⟩) 1 cap] x1 fun ev w'' => ev = .returned (.bool false) ∧ Below x1.heap.size x1 w'') := by
          intro x1 B9 cp9 hu hb h1 h2
          have h := lit_any (c := cL S) (n := e) (fun j hj => by have := byt_le HP.out.byt j (by rw [HE.out]; exact hj); omega) hb h1 (by omega) (by unfold maxLen at h2; omega) (HU4.out.2.2.stay hu.1) (by omega) (fun u hm => by rw [hRo] at hm; rw [List.mem_singleton] at hm; subst hm; dsimp only; omega)
          rw [hl1, hlf] at h
          exact h
        rw [hl1]
        have hcvA : ∀ w' : World, (convert 9 22 (.string SS)).run Tryd.prog w' = .ok (.slice (some ⟨w'.heap.size, 0, none⟩) e (grownCap w' e 0 5)) (Lib.bytesWorld w' 5 SS) := fun w' => by
          have := Lib.run_convert_string_bytes (P := Tryd.prog) w' 9 22 5 SS (u := .string) Tryd.underlying9 Tryd.underlying22 Tryd.underlying5
          rw [show SS.size = e by rw [HP.out.str, strOfNums_size]; exact HE.out] at this
          exact this
        have HCV : Hid (∀ w' : World, (convert 9 22 (.string SS)).run Tryd.prog w' = .ok (.slice (some ⟨w'.heap.size, 0, none⟩) e (grownCap w' e 0 5)) (Lib.bytesWorld w' 5 SS)) := hcvA
        clear hcvA q2 q3 e2 e3 hcap2 ho hRo hlf
        go_upto_region 19 with fail
        refine wp_region_held_drew (S := fun w' => Up w4.heap.size w4 w') (by kernel_rfl) (Up.drew (Up.refl w4)) (fun hHeld => ?_)
        (try dsimp only at hHeld)
        obtain ⟨x0, hx0⟩ : ∃ x0, w4.drew = x0 := ⟨_, rfl⟩
        rw [hx0] at hHeld ⊢
        clear hx0
        refine takeH (i := 0) (v := ?_) (d := (some 78)) rfl (by kernel_rfl) (by kernel_rfl) (by kernel_rfl) rfl (fun _ _ _ h => h) (Or.inl ⟨by kernel_rfl, ?_⟩) (by assumption) ?_; rotate_left
        · (intro w hSw; (try dsimp only at hSw); first | (go_simp; done) | (go_simp; with_reducible rfl))
        (try simp only [Act.put, List.setIfInBounds_toArray, List.set_cons_zero, List.set_cons_succ])
        refine takeH (i := 1) (v := ?_) (d := (some 79)) rfl (by kernel_rfl) (by kernel_rfl) (by kernel_rfl) rfl (fun _ _ _ h => h) (Or.inl ⟨by kernel_rfl, ?_⟩) (by assumption) ?_; rotate_left
        · (intro w hSw; (try dsimp only at hSw); first | (go_simp; done) | (go_simp; with_reducible rfl))
        (try simp only [Act.put, List.setIfInBounds_toArray, List.set_cons_zero, List.set_cons_succ])
        refine takeH (i := 2) (v := ?_) (d := (some 80)) rfl (by kernel_rfl) (by kernel_rfl) (by kernel_rfl) rfl (fun _ _ _ h => h) (Or.inl ⟨by kernel_rfl, ?_⟩) (by assumption) ?_; rotate_left
        · (intro w hSw; (try dsimp only at hSw); first | (go_simp; done) | (go_simp; with_reducible rfl))
        (try simp only [Act.put, List.setIfInBounds_toArray, List.set_cons_zero, List.set_cons_succ])
        refine takeH (i := 3) (v := ?_) (d := (some 81)) rfl (by kernel_rfl) (by kernel_rfl) (by kernel_rfl) rfl (fun _ _ _ h => h) (Or.inl ⟨by kernel_rfl, ?_⟩) (by assumption) ?_; rotate_left
        · (intro w hSw; (try dsimp only at hSw); first | (go_simp; done) | (go_simp; with_reducible rfl))
        (try simp only [Act.put, List.setIfInBounds_toArray, List.set_cons_zero, List.set_cons_succ])
        refine takeH (i := 4) (v := ?_) (d := (some 82)) rfl (by kernel_rfl) (by kernel_rfl) (by kernel_rfl) rfl (fun _ _ _ h => h) (Or.inl ⟨by kernel_rfl, ?_⟩) (by assumption) ?_; rotate_left
        · (intro w hSw; (try dsimp only at hSw); first | (go_simp; done) | (go_simp; with_reducible rfl))
        (try simp only [Act.put, List.setIfInBounds_toArray, List.set_cons_zero, List.set_cons_succ])
        refine takeH (i := 5) (v := ?_) (d := (some 83)) rfl (by kernel_rfl) (by kernel_rfl) (by kernel_rfl) rfl (fun _ _ _ h => h) (Or.inl ⟨by kernel_rfl, ?_⟩) (by assumption) ?_; rotate_left
        · (intro w hSw; (try dsimp only at hSw); first | (go_simp; done) | (go_simp; with_reducible rfl))
        (try simp only [Act.put, List.setIfInBounds_toArray, List.set_cons_zero, List.set_cons_succ])
        refine takeH (i := 6) (v := ?_) (d := (some 84)) rfl (by kernel_rfl) (by kernel_rfl) (by kernel_rfl) rfl (fun _ _ _ h => h) (Or.inl ⟨by kernel_rfl, ?_⟩) (by assumption) ?_; rotate_left
        · (intro w hSw; (try dsimp only at hSw); first | (go_simp; done) | (go_simp; with_reducible rfl))
        (try simp only [Act.put, List.setIfInBounds_toArray, List.set_cons_zero, List.set_cons_succ])
        refine takeH (i := 7) (v := ?_) (d := (some 85)) rfl (by kernel_rfl) (by kernel_rfl) (by kernel_rfl) rfl (fun _ _ _ h => h) (Or.inl ⟨by kernel_rfl, ?_⟩) (by assumption) ?_; rotate_left
        · (intro w hSw; (try dsimp only at hSw); first | (go_simp; done) | (go_simp; with_reducible rfl))
        (try simp only [Act.put, List.setIfInBounds_toArray, List.set_cons_zero, List.set_cons_succ])
        refine takeH (i := 8) (v := ?_) (d := (some 86)) rfl (by kernel_rfl) (by kernel_rfl) (by kernel_rfl) rfl (fun _ _ _ h => h) (Or.inl ⟨by kernel_rfl, ?_⟩) (by assumption) ?_; rotate_left
        · (intro w hSw; (try dsimp only at hSw); first | (go_simp; done) | (go_simp; with_reducible rfl))
        (try simp only [Act.put, List.setIfInBounds_toArray, List.set_cons_zero, List.set_cons_succ])
        refine takeH (i := 9) (v := ?_) (d := (some 87)) rfl (by kernel_rfl) (by kernel_rfl) (by kernel_rfl) rfl (fun _ _ _ h => h) (Or.inl ⟨by kernel_rfl, ?_⟩) (by assumption) ?_; rotate_left
        · (intro w hSw; (try dsimp only at hSw); first | (go_simp; done) | (go_simp; with_reducible rfl))
        (try simp only [Act.put, List.setIfInBounds_toArray, List.set_cons_zero, List.set_cons_succ])
        refine takeH (i := 10) (v := ?_) (d := (some 88)) rfl (by kernel_rfl) (by kernel_rfl) (by kernel_rfl) rfl (fun _ _ _ h => h) (Or.inl ⟨by kernel_rfl, ?_⟩) (by assumption) ?_; rotate_left
        · (intro w hSw; (try dsimp only at hSw); first | (go_simp; done) | (go_simp; with_reducible rfl))
        (try simp only [Act.put, List.setIfInBounds_toArray, List.set_cons_zero, List.set_cons_succ])
        refine takeH (i := 11) (v := ?_) (d := (some 89)) rfl (by kernel_rfl) (by kernel_rfl) (by kernel_rfl) rfl (fun _ _ _ h => h) (Or.inl ⟨by kernel_rfl, ?_⟩) (by assumption) ?_; rotate_left
        · (intro w hSw; (try dsimp only at hSw); have q0 := cell_stay q1 hSw.1; first | (go_simp; done) | (go_simp; with_reducible rfl))
        (try simp only [Act.put, List.setIfInBounds_toArray, List.set_cons_zero, List.set_cons_succ])
        refine takeH (i := 12) (v := ?_) (d := (some 90)) rfl (by kernel_rfl) (by kernel_rfl) (by kernel_rfl) rfl (fun _ _ _ h => h) (Or.inl ⟨by kernel_rfl, ?_⟩) (by assumption) ?_; rotate_left
        · (intro w hSw; (try dsimp only at hSw); have q0 := cell_stay y4 hSw.1; first | (go_simp; done) | (go_simp; with_reducible rfl))
        (try simp only [Act.put, List.setIfInBounds_toArray, List.set_cons_zero, List.set_cons_succ])
        refine takeH (i := 13) (v := ?_) (d := (some 91)) rfl (by kernel_rfl) (by kernel_rfl) (by kernel_rfl) rfl (fun _ _ _ h => h) (Or.inl ⟨by kernel_rfl, ?_⟩) (by assumption) ?_; rotate_left
        · (intro w hSw; (try dsimp only at hSw); first | (go_simp; done) | (go_simp; with_reducible rfl))
        (try simp only [Act.put, List.setIfInBounds_toArray, List.set_cons_zero, List.set_cons_succ])
        refine takeH (i := 14) (v := ?_) (d := (some 92)) rfl (by kernel_rfl) (by kernel_rfl) (by kernel_rfl) rfl (fun _ _ _ h => h) (Or.inl ⟨by kernel_rfl, ?_⟩) (by assumption) ?_; rotate_left
        · (intro w hSw; (try dsimp only at hSw); first | (go_simp; done) | (go_simp; with_reducible rfl))
        (try simp only [Act.put, List.setIfInBounds_toArray, List.set_cons_zero, List.set_cons_succ])
        refine takeH (i := 15) (v := ?_) (d := (some 93)) rfl (by kernel_rfl) (by kernel_rfl) (by kernel_rfl) rfl (fun _ _ _ h => h) (Or.inl ⟨by kernel_rfl, ?_⟩) (by assumption) ?_; rotate_left
        · (intro w hSw; (try dsimp only at hSw); first | (go_simp; done) | (go_simp; with_reducible rfl))
        (try simp only [Act.put, List.setIfInBounds_toArray, List.set_cons_zero, List.set_cons_succ])
        refine takeH (i := 16) (v := ?_) (d := (some 94)) rfl (by kernel_rfl) (by kernel_rfl) (by kernel_rfl) rfl (fun _ _ _ h => h) (Or.inl ⟨by kernel_rfl, ?_⟩) (by assumption) ?_; rotate_left
        · (intro w hSw; (try dsimp only at hSw); first | (go_simp; done) | (go_simp; with_reducible rfl))
        (try simp only [Act.put, List.setIfInBounds_toArray, List.set_cons_zero, List.set_cons_succ])
        refine takeH (i := 17) (v := ?_) (d := (some 95)) rfl (by kernel_rfl) (by kernel_rfl) (by kernel_rfl) rfl (fun _ _ _ h => h) (Or.inl ⟨by kernel_rfl, ?_⟩) (by assumption) ?_; rotate_left
        · (intro w hSw; (try dsimp only at hSw); first | (go_simp; done) | (go_simp; with_reducible rfl))
        (try simp only [Act.put, List.setIfInBounds_toArray, List.set_cons_zero, List.set_cons_succ])
        refine takeH (i := 19) (v := ?_) (d := (some 97)) rfl (by kernel_rfl) (by kernel_rfl) (by kernel_rfl) rfl (fun _ _ _ h => h) (Or.inl ⟨by kernel_rfl, ?_⟩) (by assumption) ?_; rotate_left
        · (intro w hSw; (try dsimp only at hSw); first | (go_simp; done) | (go_simp; with_reducible rfl))
        (try simp only [Act.put, List.setIfInBounds_toArray, List.set_cons_zero, List.set_cons_succ])
        have hcv9 := HCV.out x0
        obtain ⟨cp9, hcp9⟩ : ∃ c, grownCap x0 e 0 5 = c := ⟨_, rfl⟩
        have hc1 : e ≤ cp9 := by rw [← hcp9]; exact grownCap_ge _ _ _ _
        have hc2 : cp9 ≤ maxLen := by rw [← hcp9]; exact grownCap_le_maxLen _ _ _ _ (by unfold maxLen; omega)
        obtain ⟨x1, hx1⟩ : ∃ x, Lib.bytesWorld x0 5 SS = x := ⟨_, rfl⟩
        obtain ⟨B9, hB9⟩ : ∃ B, x0.heap.size = B := ⟨_, rfl⟩
        have hl9 : BC x1 (some ⟨B9, 0, none⟩) e (cL S) := by rw [← hx1, ← hB9, HP.out.str, ← HE.out]; exact conv_cl HP.out.byt
        have Hx1 : Hid (Up w4.heap.size w4 x1) := hHeld.stay (by rw [← hx1]; exact conv_below x0 SS)
        rw [hcp9, hx1, hB9] at hcv9
        have cLt := HLIT.out x1 B9 cp9 Hx1.out hl9 hc1 hc2
        clear hcp9 hx1 hB9 hl9 HLIT
        refine wpAnyH_ready (rs := [18]) (by kernel_rfl) (by simp) (AllReadyH.cons rfl (fun K hK => ?_) AllReadyH.nil)
        (try rw [if_pos (by kernel_rfl)])
        go_simp
        refine hK.out _ _ Hx1.out (fun hHeld' => ?_)
        clear hK K hHeld hHeld' hcv9
        have hHeld := Hx1.out
        clear Hx1
        (try simp only [Act.put, List.setIfInBounds_toArray, List.set_cons_zero, List.set_cons_succ])
        refine wpAnyH_ready (rs := [20]) (by kernel_rfl) (by simp) (AllReadyH.cons rfl (fun K hK => ?_) AllReadyH.nil)
        (try rw [if_pos (by kernel_rfl)])
        go_simp
        refine cLt.mono ?_
        rintro ev x2 ⟨rfl, hb9⟩
        have HU9 : Hid (Up w4.heap.size w4 x2) := hHeld.stay hb9
        clear cLt hb9 hHeld
        go_wp2_with fail
        refine hK.out _ _ HU9.out (fun hHeld => ?_)
        clear hK K
        (try dsimp only at hHeld)
        (try simp only [Act.put, List.setIfInBounds_toArray, List.set_cons_zero, List.set_cons_succ])
        refine takeH (i := 21) (v := ?_) (d := (some 99)) rfl (by kernel_rfl) (by kernel_rfl) (by kernel_rfl) rfl (fun _ _ _ h => h) (Or.inl ⟨by kernel_rfl, ?_⟩) (by assumption) ?_; rotate_left
        · (intro w hSw; (try dsimp only at hSw); first | (go_simp; done) | (go_simp; with_reducible rfl))
        (try simp only [Act.put, List.setIfInBounds_toArray, List.set_cons_zero, List.set_cons_succ])
        refine takeH (i := 22) (v := ?_) (d := (some 100)) rfl (by kernel_rfl) (by kernel_rfl) (by kernel_rfl) rfl (fun _ _ _ h => h) (Or.inl ⟨by kernel_rfl, ?_⟩) (by assumption) ?_; rotate_left
        · (intro w hSw; (try dsimp only at hSw); first | (go_simp; done) | (go_simp; with_reducible rfl))
        (try simp only [Act.put, List.setIfInBounds_toArray, List.set_cons_zero, List.set_cons_succ])
        refine takeH (i := 23) (v := ?_) (d := (some 4)) rfl (by kernel_rfl) (by kernel_rfl) (by kernel_rfl) rfl (fun _ _ _ h => h) (Or.inl ⟨by kernel_rfl, ?_⟩) (by assumption) ?_; rotate_left
        · (intro w hSw; (try dsimp only at hSw); first | (go_simp; done) | (go_simp; with_reducible rfl))
        (try simp only [Act.put, List.setIfInBounds_toArray, List.set_cons_zero, List.set_cons_succ])
        refine wpAnyH_done (by kernel_rfl) ?_ _
        go_wp2
        go_ret
        exact ⟨rfl, (HU4.out.1.stay HU9.out.1).1⟩
    · have ho : okN (n : Int) = false := by have := HNN.out; unfold okN; simp; omega
      obtain ⟨u, tl, hRt⟩ := HP.out.no ho
      rw [HRR.out] at hRt
      have cT := text_any HU4.out.2.2 (by have := HR20.out; omega)
      obtain ⟨TS, hTS⟩ : ∃ TS, strOfNums (tU R) = TS := ⟨_, rfl⟩
      have hne : TS.toList.isEmpty = false := by
        have h0 : (TS.toList == (⟨#[]⟩ : ByteArray).toList) = false := by
          rw [← hTS, show (⟨#[]⟩ : ByteArray) = strOfNums [] from rfl, nums_beq (tU_byt R) (fun x hx => by cases hx), hRt, tU_plain (by decide)]
          rfl
        cases h : TS.toList with
        | nil => rw [h, show (⟨#[]⟩ : ByteArray).toList = [] by simp] at h0; simp at h0
        | cons x t => rfl
      have hlen : (1 : Int) < (R.length : Int) := by rw [hRt]; simp; omega
      rw [hTS] at cT
      clear hTS hRt ho
      go_wp2_with fail
      refine cT.mono ?_
      rintro ev w5 ⟨rfl, hb5⟩
      have HU5 : Hid (Up w.heap.size w w5) := HU4.out.1.stay hb5
      clear cT hb5
      go_wp2
      go_ret
      exact ⟨rfl, HU5.out.1⟩
  · have hkI : (kn : Int) % 4 = 1 := by omega
    have hkT : (kn : Int).tmod 4 = 1 := by rw [Int.tmod_eq_emod_of_nonneg (by omega)]; exact hkI
    clear hr
    have cD : Calls Tryd.prog 24 #[.int .u32 16, .int .u32 1, .pointer (some ⟨D, 0, none⟩)] wq fun e w' => ∃ L, DT 16 1 n L ∧ e = .returned (.string (strOfNums L)) ∧ Below wq.heap.size wq w' := bkdig_any (b := 16) (k := 1) HN.out (Or.inr rfl) (by decide) (by simp [World.cell?, HQ.out.2])
    go_wp2_with fail
    refine cD.mono ?_
    rintro ev w2 ⟨L, hL, rfl, hb2⟩
    have HU2 : Hid (Up w.heap.size w w2 ∧ w2.heap[D]? = some (.cells #[.int .u32 (n : Int)] 57)) := ⟨HQ.out.1.stay hb2, blk_stay HQ.out.2 hb2⟩
    have hLs : (strOfNums L).size ≤ 100 := by
      rw [strOfNums_size]
      have := hL.len (m := 7) (by decide) (Nat.lt_of_le_of_lt HN.out (by decide))
      omega
    have ha0 : ¬ (9223372036854775807 < (⟨#[38, 35, 120]⟩ : ByteArray).size + (strOfNums L).size) := by have h3 : (⟨#[38, 35, 120]⟩ : ByteArray).size ≤ 3 := (by decide); omega
    have hpk := pk_hex HN.out hL
    obtain ⟨SS, hSS⟩ : ∃ SS : ByteArray, ⟨#[38, 35, 120]⟩ ++ strOfNums L ++ ⟨#[59]⟩ = SS := ⟨_, rfl⟩
    rw [hSS] at hpk
    obtain ⟨S, hS⟩ : ∃ S : List Int, Pk 1 1 38 n SS S := ⟨_, hpk⟩
    have HP : Hid (Pk 1 1 38 n SS S) := hS
    obtain ⟨e, he⟩ : ∃ e, S.length = e := ⟨_, rfl⟩
    have HE : Hid (S.length = e) := he
    have hsz : SS.size = e := by rw [hS.str, strOfNums_size]; exact he
    have hcv := Lib.run_convert_string_bytes (P := Tryd.prog) w2 9 22 5 SS (u := .string) Tryd.underlying9 Tryd.underlying22 Tryd.underlying5
    rw [hsz] at hcv
    obtain ⟨cp, hcp⟩ : ∃ cp, grownCap w2 e 0 5 = cp := ⟨_, rfl⟩
    have he20 : e ≤ 20 := by rw [← he]; exact hS.most
    have he4 : 4 ≤ e := by rw [← he]; exact hS.least
    have hcp1 : e ≤ cp := by rw [← hcp]; exact grownCap_ge _ _ _ _
    have hcp2 : cp ≤ maxLen := by rw [← hcp]; exact grownCap_le_maxLen _ _ _ _ (by unfold maxLen; omega)
    obtain ⟨W3, hW3⟩ : ∃ W3, Lib.bytesWorld w2 5 SS = W3 := ⟨_, rfl⟩
    rw [hcp, hW3] at hcv
    have hB3 : Below w2.heap.size w2 W3 := by rw [← hW3]; exact conv_below w2 SS
    have HU3 : Hid (Up w.heap.size w W3 ∧ W3.heap[D]? = some (.cells #[.int .u32 (n : Int)] 57)) := ⟨HU2.out.1.stay hB3, blk_stay HU2.out.2 hB3⟩
    have hbc : BC W3 (some ⟨w2.heap.size, 0, none⟩) e (cL S) := by rw [← hW3, hS.str, ← he]; exact conv_cl hS.byt
    have cU0 := units_any (n := e) (cap := cp) (A := 0) (M := e) (c := cL S) (fun j hj => by have := byt_le hS.byt j (by omega); omega) hbc hcp1 (by omega) (by unfold maxLen at hcp2; omega) (by omega) 1 1 (HG0.out.stay HU3.out.1.1)
    rw [Nat.zero_add, show un 1 1 (cL S) e 0 = un 1 1 (cL S) S.length 0 by rw [he]] at cU0
    have cU : Calls Tryd.prog 15 #[.int .u8 1, .slice (some ⟨w2.heap.size, 0, none⟩) e cp, .agg #[.int .u8 1, .int .i64 0, .int .i64 (e : Int)]] W3 (UnQ W3 (un 1 1 (cL S) S.length 0)) := cU0
    obtain ⟨R, hR⟩ : ∃ R, un 1 1 (cL S) S.length 0 = R := ⟨_, rfl⟩
    have HRR : Hid (un 1 1 (cL S) S.length 0 = R) := hR
    rw [hR] at cU
    clear cD hL hb2 hpk hS he hcp hW3 hB3 hbc cU0 hR
    go_wp2_with fail
    refine cU.mono ?_
    rintro ev w4 ⟨v4, rfl, hR4, hb4⟩
    have HU4 : Hid (Up w.heap.size w w4 ∧ w4.heap[D]? = some (.cells #[.int .u32 (n : Int)] 57) ∧ US w4 v4 R) := ⟨HU3.out.1.stay hb4, blk_stay HU3.out.2 hb4, hR4.us⟩
    have y4 : w4.cell? ⟨D, 0, none⟩ = some (.int .u32 (n : Int)) := by simp [World.cell?, HU4.out.2.1]
    clear cU hb4 hR4 hsz hcv hSS
    have HR20 : Hid (R.length ≤ 20) := by
      show _ ≤ _
      rw [← HRR.out]
      have h1 := un_len (f := 1) (l := 1) (c := cL S) (byt_le HP.out.byt) S.length 0 rfl
      have h2 := HP.out.most
      omega
    obtain ⟨ad, cap, rfl, hcap, hh⟩ := HU4.out.2.2
    have HCAP : Hid (R.length ≤ cap) := hcap
    clear hcap hh
    obtain ⟨N, hN⟩ : ∃ N : Int, (n : Int) = N := ⟨_, rfl⟩
    have HNN : Hid ((n : Int) = N ∧ n ≤ 1114111) := ⟨hN, HN.out⟩
    rw [hN] at y4
    clear hN
    by_cases c1 : (0 : Int) < N
    · by_cases c2 : (55296 : Int) ≤ N
      · by_cases c3 : N < 57344
        · have ho : okN (n : Int) = false := by have := HNN.out; unfold okN; simp; omega
          obtain ⟨u, tl, hRt⟩ := HP.out.no ho
          rw [HRR.out] at hRt
          have cT := text_any HU4.out.2.2 (by have := HR20.out; omega)
          obtain ⟨TS, hTS⟩ : ∃ TS, strOfNums (tU R) = TS := ⟨_, rfl⟩
          have hne : TS.toList.isEmpty = false := by
            have h0 : (TS.toList == (⟨#[]⟩ : ByteArray).toList) = false := by
              rw [← hTS, show (⟨#[]⟩ : ByteArray) = strOfNums [] from rfl, nums_beq (tU_byt R) (fun x hx => by cases hx), hRt, tU_plain (by decide)]
              rfl
            cases h : TS.toList with
            | nil => rw [h, show (⟨#[]⟩ : ByteArray).toList = [] by simp] at h0; simp at h0
            | cons x t => rfl
          have hlen : (1 : Int) < (R.length : Int) := by rw [hRt]; simp; omega
          rw [hTS] at cT
          clear hTS hRt ho
          go_wp2_with fail
          refine cT.mono ?_
          rintro ev w5 ⟨rfl, hb5⟩
          have HU5 : Hid (Up w.heap.size w w5) := HU4.out.1.stay hb5
          clear cT hb5
          go_wp2
          go_ret
          exact ⟨rfl, HU5.out.1⟩
        · have ho : okN (n : Int) = true := by have := HNN.out; unfold okN; simp; omega
          have hRo := HP.out.yes ho
          rw [HRR.out, HE.out] at hRo
          have hl1 : R.length = 1 := by rw [hRo]; rfl
          have hlf := lit_not ho HP.out.least HP.out.head (by decide)
          rw [HE.out, ← hRo] at hlf
          obtain ⟨gb, off, cap2, e1, hcap2, q1, q2, q3⟩ := HU4.out.2.2.at (i := 0) (x := ⟨(n : Int), 0, (e : Int)⟩) (by rw [hRo]; rfl)
          injection e1 with e1 e2 e3
          subst e1
          rw [HNN.out.1] at q1
          dsimp only at q1
          rw [Nat.zero_mul, Nat.add_zero] at q1
          have hwr : IntKind.i32.wrap N = N := by have := HNN.out; unfold IntKind.wrap; simp [IntKind.bits, IntKind.signed]; omega
          have HLIT : Hid (∀ (x1 : World) (B9 cp9 : Nat), Up w4.heap.size w4 x1 → BC x1 (some ⟨B9, 0, none⟩) e (cL S) → e ≤ cp9 → cp9 ≤ maxLen → Calls Tryd.prog 20 #[.slice (some ⟨B9, 0, none⟩) e cp9, .slice (some ⟨gb, off, none⟩) 1 cap] x1 fun ev w'' => ev = .returned (.bool false) ∧ Below x1.heap.size x1 w'') := by
            intro x1 B9 cp9 hu hb h1 h2
            have h := lit_any (c := cL S) (n := e) (fun j hj => by have := byt_le HP.out.byt j (by rw [HE.out]; exact hj); omega) hb h1 (by omega) (by unfold maxLen at h2; omega) (HU4.out.2.2.stay hu.1) (by omega) (fun u hm => by rw [hRo] at hm; rw [List.mem_singleton] at hm; subst hm; dsimp only; omega)
            rw [hl1, hlf] at h
            exact h
          rw [hl1]
          have hcvA : ∀ w' : World, (convert 9 22 (.string SS)).run Tryd.prog w' = .ok (.slice (some ⟨w'.heap.size, 0, none⟩) e (grownCap w' e 0 5)) (Lib.bytesWorld w' 5 SS) := fun w' => by
            have := Lib.run_convert_string_bytes (P := Tryd.prog) w' 9 22 5 SS (u := .string) Tryd.underlying9 Tryd.underlying22 Tryd.underlying5
            rw [show SS.size = e by rw [HP.out.str, strOfNums_size]; exact HE.out] at this
            exact this
          have HCV : Hid (∀ w' : World, (convert 9 22 (.string SS)).run Tryd.prog w' = .ok (.slice (some ⟨w'.heap.size, 0, none⟩) e (grownCap w' e 0 5)) (Lib.bytesWorld w' 5 SS)) := hcvA
          clear hcvA q2 q3 e2 e3 hcap2 ho hRo hlf
          go_upto_region 19 with fail
          refine wp_region_held_drew (S := fun w' => Up w4.heap.size w4 w') (by kernel_rfl) (Up.drew (Up.refl w4)) (fun hHeld => ?_)
          (try dsimp only at hHeld)
          obtain ⟨x0, hx0⟩ : ∃ x0, w4.drew = x0 := ⟨_, rfl⟩
          rw [hx0] at hHeld ⊢
          clear hx0
          refine takeH (i := 0) (v := ?_) (d := (some 78)) rfl (by kernel_rfl) (by kernel_rfl) (by kernel_rfl) rfl (fun _ _ _ h => h) (Or.inl ⟨by kernel_rfl, ?_⟩) (by assumption) ?_; rotate_left
          · (intro w hSw; (try dsimp only at hSw); first | (go_simp; done) | (go_simp; with_reducible rfl))
          (try simp only [Act.put, List.setIfInBounds_toArray, List.set_cons_zero, List.set_cons_succ])
          refine takeH (i := 1) (v := ?_) (d := (some 79)) rfl (by kernel_rfl) (by kernel_rfl) (by kernel_rfl) rfl (fun _ _ _ h => h) (Or.inl ⟨by kernel_rfl, ?_⟩) (by assumption) ?_; rotate_left
          · (intro w hSw; (try dsimp only at hSw); first | (go_simp; done) | (go_simp; with_reducible rfl))
          (try simp only [Act.put, List.setIfInBounds_toArray, List.set_cons_zero, List.set_cons_succ])
          refine takeH (i := 2) (v := ?_) (d := (some 80)) rfl (by kernel_rfl) (by kernel_rfl) (by kernel_rfl) rfl (fun _ _ _ h => h) (Or.inl ⟨by kernel_rfl, ?_⟩) (by assumption) ?_; rotate_left
          · (intro w hSw; (try dsimp only at hSw); first | (go_simp; done) | (go_simp; with_reducible rfl))
          (try simp only [Act.put, List.setIfInBounds_toArray, List.set_cons_zero, List.set_cons_succ])
          refine takeH (i := 3) (v := ?_) (d := (some 81)) rfl (by kernel_rfl) (by kernel_rfl) (by kernel_rfl) rfl (fun _ _ _ h => h) (Or.inl ⟨by kernel_rfl, ?_⟩) (by assumption) ?_; rotate_left
          · (intro w hSw; (try dsimp only at hSw); first | (go_simp; done) | (go_simp; with_reducible rfl))
          (try simp only [Act.put, List.setIfInBounds_toArray, List.set_cons_zero, List.set_cons_succ])
          refine takeH (i := 4) (v := ?_) (d := (some 82)) rfl (by kernel_rfl) (by kernel_rfl) (by kernel_rfl) rfl (fun _ _ _ h => h) (Or.inl ⟨by kernel_rfl, ?_⟩) (by assumption) ?_; rotate_left
          · (intro w hSw; (try dsimp only at hSw); first | (go_simp; done) | (go_simp; with_reducible rfl))
          (try simp only [Act.put, List.setIfInBounds_toArray, List.set_cons_zero, List.set_cons_succ])
          refine takeH (i := 5) (v := ?_) (d := (some 83)) rfl (by kernel_rfl) (by kernel_rfl) (by kernel_rfl) rfl (fun _ _ _ h => h) (Or.inl ⟨by kernel_rfl, ?_⟩) (by assumption) ?_; rotate_left
          · (intro w hSw; (try dsimp only at hSw); first | (go_simp; done) | (go_simp; with_reducible rfl))
          (try simp only [Act.put, List.setIfInBounds_toArray, List.set_cons_zero, List.set_cons_succ])
          refine takeH (i := 6) (v := ?_) (d := (some 84)) rfl (by kernel_rfl) (by kernel_rfl) (by kernel_rfl) rfl (fun _ _ _ h => h) (Or.inl ⟨by kernel_rfl, ?_⟩) (by assumption) ?_; rotate_left
          · (intro w hSw; (try dsimp only at hSw); first | (go_simp; done) | (go_simp; with_reducible rfl))
          (try simp only [Act.put, List.setIfInBounds_toArray, List.set_cons_zero, List.set_cons_succ])
          refine takeH (i := 7) (v := ?_) (d := (some 85)) rfl (by kernel_rfl) (by kernel_rfl) (by kernel_rfl) rfl (fun _ _ _ h => h) (Or.inl ⟨by kernel_rfl, ?_⟩) (by assumption) ?_; rotate_left
          · (intro w hSw; (try dsimp only at hSw); first | (go_simp; done) | (go_simp; with_reducible rfl))
          (try simp only [Act.put, List.setIfInBounds_toArray, List.set_cons_zero, List.set_cons_succ])
          refine takeH (i := 8) (v := ?_) (d := (some 86)) rfl (by kernel_rfl) (by kernel_rfl) (by kernel_rfl) rfl (fun _ _ _ h => h) (Or.inl ⟨by kernel_rfl, ?_⟩) (by assumption) ?_; rotate_left
          · (intro w hSw; (try dsimp only at hSw); first | (go_simp; done) | (go_simp; with_reducible rfl))
          (try simp only [Act.put, List.setIfInBounds_toArray, List.set_cons_zero, List.set_cons_succ])
          refine takeH (i := 9) (v := ?_) (d := (some 87)) rfl (by kernel_rfl) (by kernel_rfl) (by kernel_rfl) rfl (fun _ _ _ h => h) (Or.inl ⟨by kernel_rfl, ?_⟩) (by assumption) ?_; rotate_left
          · (intro w hSw; (try dsimp only at hSw); first | (go_simp; done) | (go_simp; with_reducible rfl))
          (try simp only [Act.put, List.setIfInBounds_toArray, List.set_cons_zero, List.set_cons_succ])
          refine takeH (i := 10) (v := ?_) (d := (some 88)) rfl (by kernel_rfl) (by kernel_rfl) (by kernel_rfl) rfl (fun _ _ _ h => h) (Or.inl ⟨by kernel_rfl, ?_⟩) (by assumption) ?_; rotate_left
          · (intro w hSw; (try dsimp only at hSw); first | (go_simp; done) | (go_simp; with_reducible rfl))
          (try simp only [Act.put, List.setIfInBounds_toArray, List.set_cons_zero, List.set_cons_succ])
          refine takeH (i := 11) (v := ?_) (d := (some 89)) rfl (by kernel_rfl) (by kernel_rfl) (by kernel_rfl) rfl (fun _ _ _ h => h) (Or.inl ⟨by kernel_rfl, ?_⟩) (by assumption) ?_; rotate_left
          · (intro w hSw; (try dsimp only at hSw); have q0 := cell_stay q1 hSw.1; first | (go_simp; done) | (go_simp; with_reducible rfl))
          (try simp only [Act.put, List.setIfInBounds_toArray, List.set_cons_zero, List.set_cons_succ])
          refine takeH (i := 12) (v := ?_) (d := (some 90)) rfl (by kernel_rfl) (by kernel_rfl) (by kernel_rfl) rfl (fun _ _ _ h => h) (Or.inl ⟨by kernel_rfl, ?_⟩) (by assumption) ?_; rotate_left
          · (intro w hSw; (try dsimp only at hSw); have q0 := cell_stay y4 hSw.1; first | (go_simp; done) | (go_simp; with_reducible rfl))
          (try simp only [Act.put, List.setIfInBounds_toArray, List.set_cons_zero, List.set_cons_succ])
          refine takeH (i := 13) (v := ?_) (d := (some 91)) rfl (by kernel_rfl) (by kernel_rfl) (by kernel_rfl) rfl (fun _ _ _ h => h) (Or.inl ⟨by kernel_rfl, ?_⟩) (by assumption) ?_; rotate_left
          · (intro w hSw; (try dsimp only at hSw); first | (go_simp; done) | (go_simp; with_reducible rfl))
          (try simp only [Act.put, List.setIfInBounds_toArray, List.set_cons_zero, List.set_cons_succ])
          refine takeH (i := 14) (v := ?_) (d := (some 92)) rfl (by kernel_rfl) (by kernel_rfl) (by kernel_rfl) rfl (fun _ _ _ h => h) (Or.inl ⟨by kernel_rfl, ?_⟩) (by assumption) ?_; rotate_left
          · (intro w hSw; (try dsimp only at hSw); first | (go_simp; done) | (go_simp; with_reducible rfl))
          (try simp only [Act.put, List.setIfInBounds_toArray, List.set_cons_zero, List.set_cons_succ])
          refine takeH (i := 15) (v := ?_) (d := (some 93)) rfl (by kernel_rfl) (by kernel_rfl) (by kernel_rfl) rfl (fun _ _ _ h => h) (Or.inl ⟨by kernel_rfl, ?_⟩) (by assumption) ?_; rotate_left
          · (intro w hSw; (try dsimp only at hSw); first | (go_simp; done) | (go_simp; with_reducible rfl))
          (try simp only [Act.put, List.setIfInBounds_toArray, List.set_cons_zero, List.set_cons_succ])
          refine takeH (i := 16) (v := ?_) (d := (some 94)) rfl (by kernel_rfl) (by kernel_rfl) (by kernel_rfl) rfl (fun _ _ _ h => h) (Or.inl ⟨by kernel_rfl, ?_⟩) (by assumption) ?_; rotate_left
          · (intro w hSw; (try dsimp only at hSw); first | (go_simp; done) | (go_simp; with_reducible rfl))
          (try simp only [Act.put, List.setIfInBounds_toArray, List.set_cons_zero, List.set_cons_succ])
          refine takeH (i := 17) (v := ?_) (d := (some 95)) rfl (by kernel_rfl) (by kernel_rfl) (by kernel_rfl) rfl (fun _ _ _ h => h) (Or.inl ⟨by kernel_rfl, ?_⟩) (by assumption) ?_; rotate_left
          · (intro w hSw; (try dsimp only at hSw); first | (go_simp; done) | (go_simp; with_reducible rfl))
          (try simp only [Act.put, List.setIfInBounds_toArray, List.set_cons_zero, List.set_cons_succ])
          refine takeH (i := 19) (v := ?_) (d := (some 97)) rfl (by kernel_rfl) (by kernel_rfl) (by kernel_rfl) rfl (fun _ _ _ h => h) (Or.inl ⟨by kernel_rfl, ?_⟩) (by assumption) ?_; rotate_left
          · (intro w hSw; (try dsimp only at hSw); first | (go_simp; done) | (go_simp; with_reducible rfl))
          (try simp only [Act.put, List.setIfInBounds_toArray, List.set_cons_zero, List.set_cons_succ])
          have hcv9 := HCV.out x0
          obtain ⟨cp9, hcp9⟩ : ∃ c, grownCap x0 e 0 5 = c := ⟨_, rfl⟩
          have hc1 : e ≤ cp9 := by rw [← hcp9]; exact grownCap_ge _ _ _ _
          have hc2 : cp9 ≤ maxLen := by rw [← hcp9]; exact grownCap_le_maxLen _ _ _ _ (by unfold maxLen; omega)
          obtain ⟨x1, hx1⟩ : ∃ x, Lib.bytesWorld x0 5 SS = x := ⟨_, rfl⟩
          obtain ⟨B9, hB9⟩ : ∃ B, x0.heap.size = B := ⟨_, rfl⟩
          have hl9 : BC x1 (some ⟨B9, 0, none⟩) e (cL S) := by rw [← hx1, ← hB9, HP.out.str, ← HE.out]; exact conv_cl HP.out.byt
          have Hx1 : Hid (Up w4.heap.size w4 x1) := hHeld.stay (by rw [← hx1]; exact conv_below x0 SS)
          rw [hcp9, hx1, hB9] at hcv9
          have cLt := HLIT.out x1 B9 cp9 Hx1.out hl9 hc1 hc2
          clear hcp9 hx1 hB9 hl9 HLIT
          refine wpAnyH_ready (rs := [18]) (by kernel_rfl) (by simp) (AllReadyH.cons rfl (fun K hK => ?_) AllReadyH.nil)
          (try rw [if_pos (by kernel_rfl)])
          go_simp
          refine hK.out _ _ Hx1.out (fun hHeld' => ?_)
          clear hK K hHeld hHeld' hcv9
          have hHeld := Hx1.out
          clear Hx1
          (try simp only [Act.put, List.setIfInBounds_toArray, List.set_cons_zero, List.set_cons_succ])
          refine wpAnyH_ready (rs := [20]) (by kernel_rfl) (by simp) (AllReadyH.cons rfl (fun K hK => ?_) AllReadyH.nil)
          (try rw [if_pos (by kernel_rfl)])
          go_simp
          refine cLt.mono ?_
          rintro ev x2 ⟨rfl, hb9⟩
          have HU9 : Hid (Up w4.heap.size w4 x2) := hHeld.stay hb9
          clear cLt hb9 hHeld
          go_wp2_with fail
          refine hK.out _ _ HU9.out (fun hHeld => ?_)
          clear hK K
          (try dsimp only at hHeld)
          (try simp only [Act.put, List.setIfInBounds_toArray, List.set_cons_zero, List.set_cons_succ])
          refine takeH (i := 21) (v := ?_) (d := (some 99)) rfl (by kernel_rfl) (by kernel_rfl) (by kernel_rfl) rfl (fun _ _ _ h => h) (Or.inl ⟨by kernel_rfl, ?_⟩) (by assumption) ?_; rotate_left
          · (intro w hSw; (try dsimp only at hSw); first | (go_simp; done) | (go_simp; with_reducible rfl))
          (try simp only [Act.put, List.setIfInBounds_toArray, List.set_cons_zero, List.set_cons_succ])
          refine takeH (i := 22) (v := ?_) (d := (some 100)) rfl (by kernel_rfl) (by kernel_rfl) (by kernel_rfl) rfl (fun _ _ _ h => h) (Or.inl ⟨by kernel_rfl, ?_⟩) (by assumption) ?_; rotate_left
          · (intro w hSw; (try dsimp only at hSw); first | (go_simp; done) | (go_simp; with_reducible rfl))
          (try simp only [Act.put, List.setIfInBounds_toArray, List.set_cons_zero, List.set_cons_succ])
          refine takeH (i := 23) (v := ?_) (d := (some 4)) rfl (by kernel_rfl) (by kernel_rfl) (by kernel_rfl) rfl (fun _ _ _ h => h) (Or.inl ⟨by kernel_rfl, ?_⟩) (by assumption) ?_; rotate_left
          · (intro w hSw; (try dsimp only at hSw); first | (go_simp; done) | (go_simp; with_reducible rfl))
          (try simp only [Act.put, List.setIfInBounds_toArray, List.set_cons_zero, List.set_cons_succ])
          refine wpAnyH_done (by kernel_rfl) ?_ _
          go_wp2
          go_ret
          exact ⟨rfl, (HU4.out.1.stay HU9.out.1).1⟩
      · have ho : okN (n : Int) = true := by have := HNN.out; unfold okN; simp; omega
        have hRo := HP.out.yes ho
        rw [HRR.out, HE.out] at hRo
        have hl1 : R.length = 1 := by rw [hRo]; rfl
        have hlf := lit_not ho HP.out.least HP.out.head (by decide)
        rw [HE.out, ← hRo] at hlf
        obtain ⟨gb, off, cap2, e1, hcap2, q1, q2, q3⟩ := HU4.out.2.2.at (i := 0) (x := ⟨(n : Int), 0, (e : Int)⟩) (by rw [hRo]; rfl)
        injection e1 with e1 e2 e3
        subst e1
        rw [HNN.out.1] at q1
        dsimp only at q1
        rw [Nat.zero_mul, Nat.add_zero] at q1
        have hwr : IntKind.i32.wrap N = N := by have := HNN.out; unfold IntKind.wrap; simp [IntKind.bits, IntKind.signed]; omega
        have HLIT : Hid (∀ (x1 : World) (B9 cp9 : Nat), Up w4.heap.size w4 x1 → BC x1 (some ⟨B9, 0, none⟩) e (cL S) → e ≤ cp9 → cp9 ≤ maxLen → Calls Tryd.prog 20 #[.slice (some ⟨B9, 0, none⟩) e cp9, .slice (some ⟨gb, off, none⟩) 1 cap] x1 fun ev w'' => ev = .returned (.bool false) ∧ Below x1.heap.size x1 w'') := by
          intro x1 B9 cp9 hu hb h1 h2
          have h := lit_any (c := cL S) (n := e) (fun j hj => by have := byt_le HP.out.byt j (by rw [HE.out]; exact hj); omega) hb h1 (by omega) (by unfold maxLen at h2; omega) (HU4.out.2.2.stay hu.1) (by omega) (fun u hm => by rw [hRo] at hm; rw [List.mem_singleton] at hm; subst hm; dsimp only; omega)
          rw [hl1, hlf] at h
          exact h
        rw [hl1]
        have hcvA : ∀ w' : World, (convert 9 22 (.string SS)).run Tryd.prog w' = .ok (.slice (some ⟨w'.heap.size, 0, none⟩) e (grownCap w' e 0 5)) (Lib.bytesWorld w' 5 SS) := fun w' => by
          have := Lib.run_convert_string_bytes (P := Tryd.prog) w' 9 22 5 SS (u := .string) Tryd.underlying9 Tryd.underlying22 Tryd.underlying5
          rw [show SS.size = e by rw [HP.out.str, strOfNums_size]; exact HE.out] at this
          exact this
        have HCV : Hid (∀ w' : World, (convert 9 22 (.string SS)).run Tryd.prog w' = .ok (.slice (some ⟨w'.heap.size, 0, none⟩) e (grownCap w' e 0 5)) (Lib.bytesWorld w' 5 SS)) := hcvA
        clear hcvA q2 q3 e2 e3 hcap2 ho hRo hlf
        go_upto_region 19 with fail
        refine wp_region_held_drew (S := fun w' => Up w4.heap.size w4 w') (by kernel_rfl) (Up.drew (Up.refl w4)) (fun hHeld => ?_)
        (try dsimp only at hHeld)
        obtain ⟨x0, hx0⟩ : ∃ x0, w4.drew = x0 := ⟨_, rfl⟩
        rw [hx0] at hHeld ⊢
        clear hx0
        refine takeH (i := 0) (v := ?_) (d := (some 78)) rfl (by kernel_rfl) (by kernel_rfl) (by kernel_rfl) rfl (fun _ _ _ h => h) (Or.inl ⟨by kernel_rfl, ?_⟩) (by assumption) ?_; rotate_left
        · (intro w hSw; (try dsimp only at hSw); first | (go_simp; done) | (go_simp; with_reducible rfl))
        (try simp only [Act.put, List.setIfInBounds_toArray, List.set_cons_zero, List.set_cons_succ])
        refine takeH (i := 1) (v := ?_) (d := (some 79)) rfl (by kernel_rfl) (by kernel_rfl) (by kernel_rfl) rfl (fun _ _ _ h => h) (Or.inl ⟨by kernel_rfl, ?_⟩) (by assumption) ?_; rotate_left
        · (intro w hSw; (try dsimp only at hSw); first | (go_simp; done) | (go_simp; with_reducible rfl))
        (try simp only [Act.put, List.setIfInBounds_toArray, List.set_cons_zero, List.set_cons_succ])
        refine takeH (i := 2) (v := ?_) (d := (some 80)) rfl (by kernel_rfl) (by kernel_rfl) (by kernel_rfl) rfl (fun _ _ _ h => h) (Or.inl ⟨by kernel_rfl, ?_⟩) (by assumption) ?_; rotate_left
        · (intro w hSw; (try dsimp only at hSw); first | (go_simp; done) | (go_simp; with_reducible rfl))
        (try simp only [Act.put, List.setIfInBounds_toArray, List.set_cons_zero, List.set_cons_succ])
        refine takeH (i := 3) (v := ?_) (d := (some 81)) rfl (by kernel_rfl) (by kernel_rfl) (by kernel_rfl) rfl (fun _ _ _ h => h) (Or.inl ⟨by kernel_rfl, ?_⟩) (by assumption) ?_; rotate_left
        · (intro w hSw; (try dsimp only at hSw); first | (go_simp; done) | (go_simp; with_reducible rfl))
        (try simp only [Act.put, List.setIfInBounds_toArray, List.set_cons_zero, List.set_cons_succ])
        refine takeH (i := 4) (v := ?_) (d := (some 82)) rfl (by kernel_rfl) (by kernel_rfl) (by kernel_rfl) rfl (fun _ _ _ h => h) (Or.inl ⟨by kernel_rfl, ?_⟩) (by assumption) ?_; rotate_left
        · (intro w hSw; (try dsimp only at hSw); first | (go_simp; done) | (go_simp; with_reducible rfl))
        (try simp only [Act.put, List.setIfInBounds_toArray, List.set_cons_zero, List.set_cons_succ])
        refine takeH (i := 5) (v := ?_) (d := (some 83)) rfl (by kernel_rfl) (by kernel_rfl) (by kernel_rfl) rfl (fun _ _ _ h => h) (Or.inl ⟨by kernel_rfl, ?_⟩) (by assumption) ?_; rotate_left
        · (intro w hSw; (try dsimp only at hSw); first | (go_simp; done) | (go_simp; with_reducible rfl))
        (try simp only [Act.put, List.setIfInBounds_toArray, List.set_cons_zero, List.set_cons_succ])
        refine takeH (i := 6) (v := ?_) (d := (some 84)) rfl (by kernel_rfl) (by kernel_rfl) (by kernel_rfl) rfl (fun _ _ _ h => h) (Or.inl ⟨by kernel_rfl, ?_⟩) (by assumption) ?_; rotate_left
        · (intro w hSw; (try dsimp only at hSw); first | (go_simp; done) | (go_simp; with_reducible rfl))
        (try simp only [Act.put, List.setIfInBounds_toArray, List.set_cons_zero, List.set_cons_succ])
        refine takeH (i := 7) (v := ?_) (d := (some 85)) rfl (by kernel_rfl) (by kernel_rfl) (by kernel_rfl) rfl (fun _ _ _ h => h) (Or.inl ⟨by kernel_rfl, ?_⟩) (by assumption) ?_; rotate_left
        · (intro w hSw; (try dsimp only at hSw); first | (go_simp; done) | (go_simp; with_reducible rfl))
        (try simp only [Act.put, List.setIfInBounds_toArray, List.set_cons_zero, List.set_cons_succ])
        refine takeH (i := 8) (v := ?_) (d := (some 86)) rfl (by kernel_rfl) (by kernel_rfl) (by kernel_rfl) rfl (fun _ _ _ h => h) (Or.inl ⟨by kernel_rfl, ?_⟩) (by assumption) ?_; rotate_left
        · (intro w hSw; (try dsimp only at hSw); first | (go_simp; done) | (go_simp; with_reducible rfl))
        (try simp only [Act.put, List.setIfInBounds_toArray, List.set_cons_zero, List.set_cons_succ])
        refine takeH (i := 9) (v := ?_) (d := (some 87)) rfl (by kernel_rfl) (by kernel_rfl) (by kernel_rfl) rfl (fun _ _ _ h => h) (Or.inl ⟨by kernel_rfl, ?_⟩) (by assumption) ?_; rotate_left
        · (intro w hSw; (try dsimp only at hSw); first | (go_simp; done) | (go_simp; with_reducible rfl))
        (try simp only [Act.put, List.setIfInBounds_toArray, List.set_cons_zero, List.set_cons_succ])
        refine takeH (i := 10) (v := ?_) (d := (some 88)) rfl (by kernel_rfl) (by kernel_rfl) (by kernel_rfl) rfl (fun _ _ _ h => h) (Or.inl ⟨by kernel_rfl, ?_⟩) (by assumption) ?_; rotate_left
        · (intro w hSw; (try dsimp only at hSw); first | (go_simp; done) | (go_simp; with_reducible rfl))
        (try simp only [Act.put, List.setIfInBounds_toArray, List.set_cons_zero, List.set_cons_succ])
        refine takeH (i := 11) (v := ?_) (d := (some 89)) rfl (by kernel_rfl) (by kernel_rfl) (by kernel_rfl) rfl (fun _ _ _ h => h) (Or.inl ⟨by kernel_rfl, ?_⟩) (by assumption) ?_; rotate_left
        · (intro w hSw; (try dsimp only at hSw); have q0 := cell_stay q1 hSw.1; first | (go_simp; done) | (go_simp; with_reducible rfl))
        (try simp only [Act.put, List.setIfInBounds_toArray, List.set_cons_zero, List.set_cons_succ])
        refine takeH (i := 12) (v := ?_) (d := (some 90)) rfl (by kernel_rfl) (by kernel_rfl) (by kernel_rfl) rfl (fun _ _ _ h => h) (Or.inl ⟨by kernel_rfl, ?_⟩) (by assumption) ?_; rotate_left
        · (intro w hSw; (try dsimp only at hSw); have q0 := cell_stay y4 hSw.1; first | (go_simp; done) | (go_simp; with_reducible rfl))
        (try simp only [Act.put, List.setIfInBounds_toArray, List.set_cons_zero, List.set_cons_succ])
        refine takeH (i := 13) (v := ?_) (d := (some 91)) rfl (by kernel_rfl) (by kernel_rfl) (by kernel_rfl) rfl (fun _ _ _ h => h) (Or.inl ⟨by kernel_rfl, ?_⟩) (by assumption) ?_; rotate_left
        · (intro w hSw; (try dsimp only at hSw); first | (go_simp; done) | (go_simp; with_reducible rfl))
        (try simp only [Act.put, List.setIfInBounds_toArray, List.set_cons_zero, List.set_cons_succ])
        refine takeH (i := 14) (v := ?_) (d := (some 92)) rfl (by kernel_rfl) (by kernel_rfl) (by kernel_rfl) rfl (fun _ _ _ h => h) (Or.inl ⟨by kernel_rfl, ?_⟩) (by assumption) ?_; rotate_left
        · (intro w hSw; (try dsimp only at hSw); first | (go_simp; done) | (go_simp; with_reducible rfl))
        (try simp only [Act.put, List.setIfInBounds_toArray, List.set_cons_zero, List.set_cons_succ])
        refine takeH (i := 15) (v := ?_) (d := (some 93)) rfl (by kernel_rfl) (by kernel_rfl) (by kernel_rfl) rfl (fun _ _ _ h => h) (Or.inl ⟨by kernel_rfl, ?_⟩) (by assumption) ?_; rotate_left
        · (intro w hSw; (try dsimp only at hSw); first | (go_simp; done) | (go_simp; with_reducible rfl))
        (try simp only [Act.put, List.setIfInBounds_toArray, List.set_cons_zero, List.set_cons_succ])
        refine takeH (i := 16) (v := ?_) (d := (some 94)) rfl (by kernel_rfl) (by kernel_rfl) (by kernel_rfl) rfl (fun _ _ _ h => h) (Or.inl ⟨by kernel_rfl, ?_⟩) (by assumption) ?_; rotate_left
        · (intro w hSw; (try dsimp only at hSw); first | (go_simp; done) | (go_simp; with_reducible rfl))
        (try simp only [Act.put, List.setIfInBounds_toArray, List.set_cons_zero, List.set_cons_succ])
        refine takeH (i := 17) (v := ?_) (d := (some 95)) rfl (by kernel_rfl) (by kernel_rfl) (by kernel_rfl) rfl (fun _ _ _ h => h) (Or.inl ⟨by kernel_rfl, ?_⟩) (by assumption) ?_; rotate_left
        · (intro w hSw; (try dsimp only at hSw); first | (go_simp; done) | (go_simp; with_reducible rfl))
        (try simp only [Act.put, List.setIfInBounds_toArray, List.set_cons_zero, List.set_cons_succ])
        refine takeH (i := 19) (v := ?_) (d := (some 97)) rfl (by kernel_rfl) (by kernel_rfl) (by kernel_rfl) rfl (fun _ _ _ h => h) (Or.inl ⟨by kernel_rfl, ?_⟩) (by assumption) ?_; rotate_left
        · (intro w hSw; (try dsimp only at hSw); first | (go_simp; done) | (go_simp; with_reducible rfl))
        (try simp only [Act.put, List.setIfInBounds_toArray, List.set_cons_zero, List.set_cons_succ])
        have hcv9 := HCV.out x0
        obtain ⟨cp9, hcp9⟩ : ∃ c, grownCap x0 e 0 5 = c := ⟨_, rfl⟩
        have hc1 : e ≤ cp9 := by rw [← hcp9]; exact grownCap_ge _ _ _ _
        have hc2 : cp9 ≤ maxLen := by rw [← hcp9]; exact grownCap_le_maxLen _ _ _ _ (by unfold maxLen; omega)
        obtain ⟨x1, hx1⟩ : ∃ x, Lib.bytesWorld x0 5 SS = x := ⟨_, rfl⟩
        obtain ⟨B9, hB9⟩ : ∃ B, x0.heap.size = B := ⟨_, rfl⟩
        have hl9 : BC x1 (some ⟨B9, 0, none⟩) e (cL S) := by rw [← hx1, ← hB9, HP.out.str, ← HE.out]; exact conv_cl HP.out.byt
        have Hx1 : Hid (Up w4.heap.size w4 x1) := hHeld.stay (by rw [← hx1]; exact conv_below x0 SS)
        rw [hcp9, hx1, hB9] at hcv9
        have cLt := HLIT.out x1 B9 cp9 Hx1.out hl9 hc1 hc2
        clear hcp9 hx1 hB9 hl9 HLIT
        refine wpAnyH_ready (rs := [18]) (by kernel_rfl) (by simp) (AllReadyH.cons rfl (fun K hK => ?_) AllReadyH.nil)
        (try rw [if_pos (by kernel_rfl)])
        go_simp
        refine hK.out _ _ Hx1.out (fun hHeld' => ?_)
        clear hK K hHeld hHeld' hcv9
        have hHeld := Hx1.out
        clear Hx1
        (try simp only [Act.put, List.setIfInBounds_toArray, List.set_cons_zero, List.set_cons_succ])
        refine wpAnyH_ready (rs := [20]) (by kernel_rfl) (by simp) (AllReadyH.cons rfl (fun K hK => ?_) AllReadyH.nil)
        (try rw [if_pos (by kernel_rfl)])
        go_simp
        refine cLt.mono ?_
        rintro ev x2 ⟨rfl, hb9⟩
        have HU9 : Hid (Up w4.heap.size w4 x2) := hHeld.stay hb9
        clear cLt hb9 hHeld
        go_wp2_with fail
        refine hK.out _ _ HU9.out (fun hHeld => ?_)
        clear hK K
        (try dsimp only at hHeld)
        (try simp only [Act.put, List.setIfInBounds_toArray, List.set_cons_zero, List.set_cons_succ])
        refine takeH (i := 21) (v := ?_) (d := (some 99)) rfl (by kernel_rfl) (by kernel_rfl) (by kernel_rfl) rfl (fun _ _ _ h => h) (Or.inl ⟨by kernel_rfl, ?_⟩) (by assumption) ?_; rotate_left
        · (intro w hSw; (try dsimp only at hSw); first | (go_simp; done) | (go_simp; with_reducible rfl))
        (try simp only [Act.put, List.setIfInBounds_toArray, List.set_cons_zero, List.set_cons_succ])
        refine takeH (i := 22) (v := ?_) (d := (some 100)) rfl (by kernel_rfl) (by kernel_rfl) (by kernel_rfl) rfl (fun _ _ _ h => h) (Or.inl ⟨by kernel_rfl, ?_⟩) (by assumption) ?_; rotate_left
        · (intro w hSw; (try dsimp only at hSw); first | (go_simp; done) | (go_simp; with_reducible rfl))
        (try simp only [Act.put, List.setIfInBounds_toArray, List.set_cons_zero, List.set_cons_succ])
        refine takeH (i := 23) (v := ?_) (d := (some 4)) rfl (by kernel_rfl) (by kernel_rfl) (by kernel_rfl) rfl (fun _ _ _ h => h) (Or.inl ⟨by kernel_rfl, ?_⟩) (by assumption) ?_; rotate_left
        · (intro w hSw; (try dsimp only at hSw); first | (go_simp; done) | (go_simp; with_reducible rfl))
        (try simp only [Act.put, List.setIfInBounds_toArray, List.set_cons_zero, List.set_cons_succ])
        refine wpAnyH_done (by kernel_rfl) ?_ _
        go_wp2
        go_ret
        exact ⟨rfl, (HU4.out.1.stay HU9.out.1).1⟩
    · have ho : okN (n : Int) = false := by have := HNN.out; unfold okN; simp; omega
      obtain ⟨u, tl, hRt⟩ := HP.out.no ho
      rw [HRR.out] at hRt
      have cT := text_any HU4.out.2.2 (by have := HR20.out; omega)
      obtain ⟨TS, hTS⟩ : ∃ TS, strOfNums (tU R) = TS := ⟨_, rfl⟩
      have hne : TS.toList.isEmpty = false := by
        have h0 : (TS.toList == (⟨#[]⟩ : ByteArray).toList) = false := by
          rw [← hTS, show (⟨#[]⟩ : ByteArray) = strOfNums [] from rfl, nums_beq (tU_byt R) (fun x hx => by cases hx), hRt, tU_plain (by decide)]
          rfl
        cases h : TS.toList with
        | nil => rw [h, show (⟨#[]⟩ : ByteArray).toList = [] by simp] at h0; simp at h0
        | cons x t => rfl
      have hlen : (1 : Int) < (R.length : Int) := by rw [hRt]; simp; omega
      rw [hTS] at cT
      clear hTS hRt ho
      go_wp2_with fail
      refine cT.mono ?_
      rintro ev w5 ⟨rfl, hb5⟩
      have HU5 : Hid (Up w.heap.size w w5) := HU4.out.1.stay hb5
      clear cT hb5
      go_wp2
      go_ret
      exact ⟨rfl, HU5.out.1⟩
  · have hkI : (kn : Int) % 4 = 2 := by omega
    have hkT : (kn : Int).tmod 4 = 2 := by rw [Int.tmod_eq_emod_of_nonneg (by omega)]; exact hkI
    clear hr
    have cD : Calls Tryd.prog 24 #[.int .u32 16, .int .u32 8, .pointer (some ⟨D, 0, none⟩)] wq fun e w' => ∃ L, DT 16 8 n L ∧ e = .returned (.string (strOfNums L)) ∧ Below wq.heap.size wq w' := bkdig_any (b := 16) (k := 8) HN.out (Or.inr rfl) (by decide) (by simp [World.cell?, HQ.out.2])
    go_wp2_with fail
    refine cD.mono ?_
    rintro ev w2 ⟨L, hL, rfl, hb2⟩
    have HU2 : Hid (Up w.heap.size w w2 ∧ w2.heap[D]? = some (.cells #[.int .u32 (n : Int)] 57)) := ⟨HQ.out.1.stay hb2, blk_stay HQ.out.2 hb2⟩
    have hLs : (strOfNums L).size ≤ 100 := by
      rw [strOfNums_size]
      have := hL.len (m := 7) (by decide) (Nat.lt_of_le_of_lt HN.out (by decide))
      omega
    have ha0 : ¬ (9223372036854775807 < (⟨#[92, 85]⟩ : ByteArray).size + (strOfNums L).size) := by have h3 : (⟨#[92, 85]⟩ : ByteArray).size ≤ 3 := (by decide); omega
    have hpk := pk_eight HN.out hL
    obtain ⟨SS, hSS⟩ : ∃ SS : ByteArray, ⟨#[92, 85]⟩ ++ strOfNums L = SS := ⟨_, rfl⟩
    rw [hSS] at hpk
    obtain ⟨S, hS⟩ : ∃ S : List Int, Pk 6 5 92 n SS S := ⟨_, hpk⟩
    have HP : Hid (Pk 6 5 92 n SS S) := hS
    obtain ⟨e, he⟩ : ∃ e, S.length = e := ⟨_, rfl⟩
    have HE : Hid (S.length = e) := he
    have hsz : SS.size = e := by rw [hS.str, strOfNums_size]; exact he
    have hcv := Lib.run_convert_string_bytes (P := Tryd.prog) w2 9 22 5 SS (u := .string) Tryd.underlying9 Tryd.underlying22 Tryd.underlying5
    rw [hsz] at hcv
    obtain ⟨cp, hcp⟩ : ∃ cp, grownCap w2 e 0 5 = cp := ⟨_, rfl⟩
    have he20 : e ≤ 20 := by rw [← he]; exact hS.most
    have he4 : 4 ≤ e := by rw [← he]; exact hS.least
    have hcp1 : e ≤ cp := by rw [← hcp]; exact grownCap_ge _ _ _ _
    have hcp2 : cp ≤ maxLen := by rw [← hcp]; exact grownCap_le_maxLen _ _ _ _ (by unfold maxLen; omega)
    obtain ⟨W3, hW3⟩ : ∃ W3, Lib.bytesWorld w2 5 SS = W3 := ⟨_, rfl⟩
    rw [hcp, hW3] at hcv
    have hB3 : Below w2.heap.size w2 W3 := by rw [← hW3]; exact conv_below w2 SS
    have HU3 : Hid (Up w.heap.size w W3 ∧ W3.heap[D]? = some (.cells #[.int .u32 (n : Int)] 57)) := ⟨HU2.out.1.stay hB3, blk_stay HU2.out.2 hB3⟩
    have hbc : BC W3 (some ⟨w2.heap.size, 0, none⟩) e (cL S) := by rw [← hW3, hS.str, ← he]; exact conv_cl hS.byt
    have cU0 := units_any (n := e) (cap := cp) (A := 0) (M := e) (c := cL S) (fun j hj => by have := byt_le hS.byt j (by omega); omega) hbc hcp1 (by omega) (by unfold maxLen at hcp2; omega) (by omega) 6 5 (HG0.out.stay HU3.out.1.1)
    rw [Nat.zero_add, show un 6 5 (cL S) e 0 = un 6 5 (cL S) S.length 0 by rw [he]] at cU0
    have cU : Calls Tryd.prog 15 #[.int .u8 6, .slice (some ⟨w2.heap.size, 0, none⟩) e cp, .agg #[.int .u8 5, .int .i64 0, .int .i64 (e : Int)]] W3 (UnQ W3 (un 6 5 (cL S) S.length 0)) := cU0
    obtain ⟨R, hR⟩ : ∃ R, un 6 5 (cL S) S.length 0 = R := ⟨_, rfl⟩
    have HRR : Hid (un 6 5 (cL S) S.length 0 = R) := hR
    rw [hR] at cU
    clear cD hL hb2 hpk hS he hcp hW3 hB3 hbc cU0 hR
    go_wp2_with fail
    refine cU.mono ?_
    rintro ev w4 ⟨v4, rfl, hR4, hb4⟩
    have HU4 : Hid (Up w.heap.size w w4 ∧ w4.heap[D]? = some (.cells #[.int .u32 (n : Int)] 57) ∧ US w4 v4 R) := ⟨HU3.out.1.stay hb4, blk_stay HU3.out.2 hb4, hR4.us⟩
    have y4 : w4.cell? ⟨D, 0, none⟩ = some (.int .u32 (n : Int)) := by simp [World.cell?, HU4.out.2.1]
    clear cU hb4 hR4 hsz hcv hSS
    have HR20 : Hid (R.length ≤ 20) := by
      show _ ≤ _
      rw [← HRR.out]
      have h1 := un_len (f := 6) (l := 5) (c := cL S) (byt_le HP.out.byt) S.length 0 rfl
      have h2 := HP.out.most
      omega
    obtain ⟨ad, cap, rfl, hcap, hh⟩ := HU4.out.2.2
    have HCAP : Hid (R.length ≤ cap) := hcap
    clear hcap hh
    obtain ⟨N, hN⟩ : ∃ N : Int, (n : Int) = N := ⟨_, rfl⟩
    have HNN : Hid ((n : Int) = N ∧ n ≤ 1114111) := ⟨hN, HN.out⟩
    rw [hN] at y4
    clear hN
    by_cases c1 : (0 : Int) < N
    · by_cases c2 : (55296 : Int) ≤ N
      · by_cases c3 : N < 57344
        · have ho : okN (n : Int) = false := by have := HNN.out; unfold okN; simp; omega
          obtain ⟨u, tl, hRt⟩ := HP.out.no ho
          rw [HRR.out] at hRt
          have cT := text_any HU4.out.2.2 (by have := HR20.out; omega)
          obtain ⟨TS, hTS⟩ : ∃ TS, strOfNums (tU R) = TS := ⟨_, rfl⟩
          have hne : TS.toList.isEmpty = false := by
            have h0 : (TS.toList == (⟨#[]⟩ : ByteArray).toList) = false := by
              rw [← hTS, show (⟨#[]⟩ : ByteArray) = strOfNums [] from rfl, nums_beq (tU_byt R) (fun x hx => by cases hx), hRt, tU_plain (by decide)]
              rfl
            cases h : TS.toList with
            | nil => rw [h, show (⟨#[]⟩ : ByteArray).toList = [] by simp] at h0; simp at h0
            | cons x t => rfl
          have hlen : (1 : Int) < (R.length : Int) := by rw [hRt]; simp; omega
          rw [hTS] at cT
          clear hTS hRt ho
          go_wp2_with fail
          refine cT.mono ?_
          rintro ev w5 ⟨rfl, hb5⟩
          have HU5 : Hid (Up w.heap.size w w5) := HU4.out.1.stay hb5
          clear cT hb5
          go_wp2
          go_ret
          exact ⟨rfl, HU5.out.1⟩
        · have ho : okN (n : Int) = true := by have := HNN.out; unfold okN; simp; omega
          have hRo := HP.out.yes ho
          rw [HRR.out, HE.out] at hRo
          have hl1 : R.length = 1 := by rw [hRo]; rfl
          have hlf := lit_not ho HP.out.least HP.out.head (by decide)
          rw [HE.out, ← hRo] at hlf
          obtain ⟨gb, off, cap2, e1, hcap2, q1, q2, q3⟩ := HU4.out.2.2.at (i := 0) (x := ⟨(n : Int), 0, (e : Int)⟩) (by rw [hRo]; rfl)
          injection e1 with e1 e2 e3
          subst e1
          rw [HNN.out.1] at q1
          dsimp only at q1
          rw [Nat.zero_mul, Nat.add_zero] at q1
          have hwr : IntKind.i32.wrap N = N := by have := HNN.out; unfold IntKind.wrap; simp [IntKind.bits, IntKind.signed]; omega
          have HLIT : Hid (∀ (x1 : World) (B9 cp9 : Nat), Up w4.heap.size w4 x1 → BC x1 (some ⟨B9, 0, none⟩) e (cL S) → e ≤ cp9 → cp9 ≤ maxLen → Calls Tryd.prog 20 #[.slice (some ⟨B9, 0, none⟩) e cp9, .slice (some ⟨gb, off, none⟩) 1 cap] x1 fun ev w'' => ev = .returned (.bool false) ∧ Below x1.heap.size x1 w'') := by
            intro x1 B9 cp9 hu hb h1 h2
            have h := lit_any (c := cL S) (n := e) (fun j hj => by have := byt_le HP.out.byt j (by rw [HE.out]; exact hj); omega) hb h1 (by omega) (by unfold maxLen at h2; omega) (HU4.out.2.2.stay hu.1) (by omega) (fun u hm => by rw [hRo] at hm; rw [List.mem_singleton] at hm; subst hm; dsimp only; omega)
            rw [hl1, hlf] at h
            exact h
          rw [hl1]
          have hcvA : ∀ w' : World, (convert 9 22 (.string SS)).run Tryd.prog w' = .ok (.slice (some ⟨w'.heap.size, 0, none⟩) e (grownCap w' e 0 5)) (Lib.bytesWorld w' 5 SS) := fun w' => by
            have := Lib.run_convert_string_bytes (P := Tryd.prog) w' 9 22 5 SS (u := .string) Tryd.underlying9 Tryd.underlying22 Tryd.underlying5
            rw [show SS.size = e by rw [HP.out.str, strOfNums_size]; exact HE.out] at this
            exact this
          have HCV : Hid (∀ w' : World, (convert 9 22 (.string SS)).run Tryd.prog w' = .ok (.slice (some ⟨w'.heap.size, 0, none⟩) e (grownCap w' e 0 5)) (Lib.bytesWorld w' 5 SS)) := hcvA
          clear hcvA q2 q3 e2 e3 hcap2 ho hRo hlf
          go_upto_region 19 with fail
          refine wp_region_held_drew (S := fun w' => Up w4.heap.size w4 w') (by kernel_rfl) (Up.drew (Up.refl w4)) (fun hHeld => ?_)
          (try dsimp only at hHeld)
          obtain ⟨x0, hx0⟩ : ∃ x0, w4.drew = x0 := ⟨_, rfl⟩
          rw [hx0] at hHeld ⊢
          clear hx0
          refine takeH (i := 0) (v := ?_) (d := (some 78)) rfl (by kernel_rfl) (by kernel_rfl) (by kernel_rfl) rfl (fun _ _ _ h => h) (Or.inl ⟨by kernel_rfl, ?_⟩) (by assumption) ?_; rotate_left
          · (intro w hSw; (try dsimp only at hSw); first | (go_simp; done) | (go_simp; with_reducible rfl))
          (try simp only [Act.put, List.setIfInBounds_toArray, List.set_cons_zero, List.set_cons_succ])
          refine takeH (i := 1) (v := ?_) (d := (some 79)) rfl (by kernel_rfl) (by kernel_rfl) (by kernel_rfl) rfl (fun _ _ _ h => h) (Or.inl ⟨by kernel_rfl, ?_⟩) (by assumption) ?_; rotate_left
          · (intro w hSw; (try dsimp only at hSw); first | (go_simp; done) | (go_simp; with_reducible rfl))
          (try simp only [Act.put, List.setIfInBounds_toArray, List.set_cons_zero, List.set_cons_succ])
          refine takeH (i := 2) (v := ?_) (d := (some 80)) rfl (by kernel_rfl) (by kernel_rfl) (by kernel_rfl) rfl (fun _ _ _ h => h) (Or.inl ⟨by kernel_rfl, ?_⟩) (by assumption) ?_; rotate_left
          · (intro w hSw; (try dsimp only at hSw); first | (go_simp; done) | (go_simp; with_reducible rfl))
          (try simp only [Act.put, List.setIfInBounds_toArray, List.set_cons_zero, List.set_cons_succ])
          refine takeH (i := 3) (v := ?_) (d := (some 81)) rfl (by kernel_rfl) (by kernel_rfl) (by kernel_rfl) rfl (fun _ _ _ h => h) (Or.inl ⟨by kernel_rfl, ?_⟩) (by assumption) ?_; rotate_left
          · (intro w hSw; (try dsimp only at hSw); first | (go_simp; done) | (go_simp; with_reducible rfl))
          (try simp only [Act.put, List.setIfInBounds_toArray, List.set_cons_zero, List.set_cons_succ])
          refine takeH (i := 4) (v := ?_) (d := (some 82)) rfl (by kernel_rfl) (by kernel_rfl) (by kernel_rfl) rfl (fun _ _ _ h => h) (Or.inl ⟨by kernel_rfl, ?_⟩) (by assumption) ?_; rotate_left
          · (intro w hSw; (try dsimp only at hSw); first | (go_simp; done) | (go_simp; with_reducible rfl))
          (try simp only [Act.put, List.setIfInBounds_toArray, List.set_cons_zero, List.set_cons_succ])
          refine takeH (i := 5) (v := ?_) (d := (some 83)) rfl (by kernel_rfl) (by kernel_rfl) (by kernel_rfl) rfl (fun _ _ _ h => h) (Or.inl ⟨by kernel_rfl, ?_⟩) (by assumption) ?_; rotate_left
          · (intro w hSw; (try dsimp only at hSw); first | (go_simp; done) | (go_simp; with_reducible rfl))
          (try simp only [Act.put, List.setIfInBounds_toArray, List.set_cons_zero, List.set_cons_succ])
          refine takeH (i := 6) (v := ?_) (d := (some 84)) rfl (by kernel_rfl) (by kernel_rfl) (by kernel_rfl) rfl (fun _ _ _ h => h) (Or.inl ⟨by kernel_rfl, ?_⟩) (by assumption) ?_; rotate_left
          · (intro w hSw; (try dsimp only at hSw); first | (go_simp; done) | (go_simp; with_reducible rfl))
          (try simp only [Act.put, List.setIfInBounds_toArray, List.set_cons_zero, List.set_cons_succ])
          refine takeH (i := 7) (v := ?_) (d := (some 85)) rfl (by kernel_rfl) (by kernel_rfl) (by kernel_rfl) rfl (fun _ _ _ h => h) (Or.inl ⟨by kernel_rfl, ?_⟩) (by assumption) ?_; rotate_left
          · (intro w hSw; (try dsimp only at hSw); first | (go_simp; done) | (go_simp; with_reducible rfl))
          (try simp only [Act.put, List.setIfInBounds_toArray, List.set_cons_zero, List.set_cons_succ])
          refine takeH (i := 8) (v := ?_) (d := (some 86)) rfl (by kernel_rfl) (by kernel_rfl) (by kernel_rfl) rfl (fun _ _ _ h => h) (Or.inl ⟨by kernel_rfl, ?_⟩) (by assumption) ?_; rotate_left
          · (intro w hSw; (try dsimp only at hSw); first | (go_simp; done) | (go_simp; with_reducible rfl))
          (try simp only [Act.put, List.setIfInBounds_toArray, List.set_cons_zero, List.set_cons_succ])
          refine takeH (i := 9) (v := ?_) (d := (some 87)) rfl (by kernel_rfl) (by kernel_rfl) (by kernel_rfl) rfl (fun _ _ _ h => h) (Or.inl ⟨by kernel_rfl, ?_⟩) (by assumption) ?_; rotate_left
          · (intro w hSw; (try dsimp only at hSw); first | (go_simp; done) | (go_simp; with_reducible rfl))
          (try simp only [Act.put, List.setIfInBounds_toArray, List.set_cons_zero, List.set_cons_succ])
          refine takeH (i := 10) (v := ?_) (d := (some 88)) rfl (by kernel_rfl) (by kernel_rfl) (by kernel_rfl) rfl (fun _ _ _ h => h) (Or.inl ⟨by kernel_rfl, ?_⟩) (by assumption) ?_; rotate_left
          · (intro w hSw; (try dsimp only at hSw); first | (go_simp; done) | (go_simp; with_reducible rfl))
          (try simp only [Act.put, List.setIfInBounds_toArray, List.set_cons_zero, List.set_cons_succ])
          refine takeH (i := 11) (v := ?_) (d := (some 89)) rfl (by kernel_rfl) (by kernel_rfl) (by kernel_rfl) rfl (fun _ _ _ h => h) (Or.inl ⟨by kernel_rfl, ?_⟩) (by assumption) ?_; rotate_left
          · (intro w hSw; (try dsimp only at hSw); have q0 := cell_stay q1 hSw.1; first | (go_simp; done) | (go_simp; with_reducible rfl))
          (try simp only [Act.put, List.setIfInBounds_toArray, List.set_cons_zero, List.set_cons_succ])
          refine takeH (i := 12) (v := ?_) (d := (some 90)) rfl (by kernel_rfl) (by kernel_rfl) (by kernel_rfl) rfl (fun _ _ _ h => h) (Or.inl ⟨by kernel_rfl, ?_⟩) (by assumption) ?_; rotate_left
          · (intro w hSw; (try dsimp only at hSw); have q0 := cell_stay y4 hSw.1; first | (go_simp; done) | (go_simp; with_reducible rfl))
          (try simp only [Act.put, List.setIfInBounds_toArray, List.set_cons_zero, List.set_cons_succ])
          refine takeH (i := 13) (v := ?_) (d := (some 91)) rfl (by kernel_rfl) (by kernel_rfl) (by kernel_rfl) rfl (fun _ _ _ h => h) (Or.inl ⟨by kernel_rfl, ?_⟩) (by assumption) ?_; rotate_left
          · (intro w hSw; (try dsimp only at hSw); first | (go_simp; done) | (go_simp; with_reducible rfl))
          (try simp only [Act.put, List.setIfInBounds_toArray, List.set_cons_zero, List.set_cons_succ])
          refine takeH (i := 14) (v := ?_) (d := (some 92)) rfl (by kernel_rfl) (by kernel_rfl) (by kernel_rfl) rfl (fun _ _ _ h => h) (Or.inl ⟨by kernel_rfl, ?_⟩) (by assumption) ?_; rotate_left
          · (intro w hSw; (try dsimp only at hSw); first | (go_simp; done) | (go_simp; with_reducible rfl))
          (try simp only [Act.put, List.setIfInBounds_toArray, List.set_cons_zero, List.set_cons_succ])
          refine takeH (i := 15) (v := ?_) (d := (some 93)) rfl (by kernel_rfl) (by kernel_rfl) (by kernel_rfl) rfl (fun _ _ _ h => h) (Or.inl ⟨by kernel_rfl, ?_⟩) (by assumption) ?_; rotate_left
          · (intro w hSw; (try dsimp only at hSw); first | (go_simp; done) | (go_simp; with_reducible rfl))
          (try simp only [Act.put, List.setIfInBounds_toArray, List.set_cons_zero, List.set_cons_succ])
          refine takeH (i := 16) (v := ?_) (d := (some 94)) rfl (by kernel_rfl) (by kernel_rfl) (by kernel_rfl) rfl (fun _ _ _ h => h) (Or.inl ⟨by kernel_rfl, ?_⟩) (by assumption) ?_; rotate_left
          · (intro w hSw; (try dsimp only at hSw); first | (go_simp; done) | (go_simp; with_reducible rfl))
          (try simp only [Act.put, List.setIfInBounds_toArray, List.set_cons_zero, List.set_cons_succ])
          refine takeH (i := 17) (v := ?_) (d := (some 95)) rfl (by kernel_rfl) (by kernel_rfl) (by kernel_rfl) rfl (fun _ _ _ h => h) (Or.inl ⟨by kernel_rfl, ?_⟩) (by assumption) ?_; rotate_left
          · (intro w hSw; (try dsimp only at hSw); first | (go_simp; done) | (go_simp; with_reducible rfl))
          (try simp only [Act.put, List.setIfInBounds_toArray, List.set_cons_zero, List.set_cons_succ])
          refine takeH (i := 19) (v := ?_) (d := (some 97)) rfl (by kernel_rfl) (by kernel_rfl) (by kernel_rfl) rfl (fun _ _ _ h => h) (Or.inl ⟨by kernel_rfl, ?_⟩) (by assumption) ?_; rotate_left
          · (intro w hSw; (try dsimp only at hSw); first | (go_simp; done) | (go_simp; with_reducible rfl))
          (try simp only [Act.put, List.setIfInBounds_toArray, List.set_cons_zero, List.set_cons_succ])
          have hcv9 := HCV.out x0
          obtain ⟨cp9, hcp9⟩ : ∃ c, grownCap x0 e 0 5 = c := ⟨_, rfl⟩
          have hc1 : e ≤ cp9 := by rw [← hcp9]; exact grownCap_ge _ _ _ _
          have hc2 : cp9 ≤ maxLen := by rw [← hcp9]; exact grownCap_le_maxLen _ _ _ _ (by unfold maxLen; omega)
          obtain ⟨x1, hx1⟩ : ∃ x, Lib.bytesWorld x0 5 SS = x := ⟨_, rfl⟩
          obtain ⟨B9, hB9⟩ : ∃ B, x0.heap.size = B := ⟨_, rfl⟩
          have hl9 : BC x1 (some ⟨B9, 0, none⟩) e (cL S) := by rw [← hx1, ← hB9, HP.out.str, ← HE.out]; exact conv_cl HP.out.byt
          have Hx1 : Hid (Up w4.heap.size w4 x1) := hHeld.stay (by rw [← hx1]; exact conv_below x0 SS)
          rw [hcp9, hx1, hB9] at hcv9
          have cLt := HLIT.out x1 B9 cp9 Hx1.out hl9 hc1 hc2
          clear hcp9 hx1 hB9 hl9 HLIT
          refine wpAnyH_ready (rs := [18]) (by kernel_rfl) (by simp) (AllReadyH.cons rfl (fun K hK => ?_) AllReadyH.nil)
          (try rw [if_pos (by kernel_rfl)])
          go_simp
          refine hK.out _ _ Hx1.out (fun hHeld' => ?_)
          clear hK K hHeld hHeld' hcv9
          have hHeld := Hx1.out
          clear Hx1
          (try simp only [Act.put, List.setIfInBounds_toArray, List.set_cons_zero, List.set_cons_succ])
          refine wpAnyH_ready (rs := [20]) (by kernel_rfl) (by simp) (AllReadyH.cons rfl (fun K hK => ?_) AllReadyH.nil)
          (try rw [if_pos (by kernel_rfl)])
          go_simp
          refine cLt.mono ?_
          rintro ev x2 ⟨rfl, hb9⟩
          have HU9 : Hid (Up w4.heap.size w4 x2) := hHeld.stay hb9
          clear cLt hb9 hHeld
          go_wp2_with fail
          refine hK.out _ _ HU9.out (fun hHeld => ?_)
          clear hK K
          (try dsimp only at hHeld)
          (try simp only [Act.put, List.setIfInBounds_toArray, List.set_cons_zero, List.set_cons_succ])
          refine takeH (i := 21) (v := ?_) (d := (some 99)) rfl (by kernel_rfl) (by kernel_rfl) (by kernel_rfl) rfl (fun _ _ _ h => h) (Or.inl ⟨by kernel_rfl, ?_⟩) (by assumption) ?_; rotate_left
          · (intro w hSw; (try dsimp only at hSw); first | (go_simp; done) | (go_simp; with_reducible rfl))
          (try simp only [Act.put, List.setIfInBounds_toArray, List.set_cons_zero, List.set_cons_succ])
          refine takeH (i := 22) (v := ?_) (d := (some 100)) rfl (by kernel_rfl) (by kernel_rfl) (by kernel_rfl) rfl (fun _ _ _ h => h) (Or.inl ⟨by kernel_rfl, ?_⟩) (by assumption) ?_; rotate_left
          · (intro w hSw; (try dsimp only at hSw); first | (go_simp; done) | (go_simp; with_reducible rfl))
          (try simp only [Act.put, List.setIfInBounds_toArray, List.set_cons_zero, List.set_cons_succ])
          refine takeH (i := 23) (v := ?_) (d := (some 4)) rfl (by kernel_rfl) (by kernel_rfl) (by kernel_rfl) rfl (fun _ _ _ h => h) (Or.inl ⟨by kernel_rfl, ?_⟩) (by assumption) ?_; rotate_left
          · (intro w hSw; (try dsimp only at hSw); first | (go_simp; done) | (go_simp; with_reducible rfl))
          (try simp only [Act.put, List.setIfInBounds_toArray, List.set_cons_zero, List.set_cons_succ])
          refine wpAnyH_done (by kernel_rfl) ?_ _
          go_wp2
          go_ret
          exact ⟨rfl, (HU4.out.1.stay HU9.out.1).1⟩
      · have ho : okN (n : Int) = true := by have := HNN.out; unfold okN; simp; omega
        have hRo := HP.out.yes ho
        rw [HRR.out, HE.out] at hRo
        have hl1 : R.length = 1 := by rw [hRo]; rfl
        have hlf := lit_not ho HP.out.least HP.out.head (by decide)
        rw [HE.out, ← hRo] at hlf
        obtain ⟨gb, off, cap2, e1, hcap2, q1, q2, q3⟩ := HU4.out.2.2.at (i := 0) (x := ⟨(n : Int), 0, (e : Int)⟩) (by rw [hRo]; rfl)
        injection e1 with e1 e2 e3
        subst e1
        rw [HNN.out.1] at q1
        dsimp only at q1
        rw [Nat.zero_mul, Nat.add_zero] at q1
        have hwr : IntKind.i32.wrap N = N := by have := HNN.out; unfold IntKind.wrap; simp [IntKind.bits, IntKind.signed]; omega
        have HLIT : Hid (∀ (x1 : World) (B9 cp9 : Nat), Up w4.heap.size w4 x1 → BC x1 (some ⟨B9, 0, none⟩) e (cL S) → e ≤ cp9 → cp9 ≤ maxLen → Calls Tryd.prog 20 #[.slice (some ⟨B9, 0, none⟩) e cp9, .slice (some ⟨gb, off, none⟩) 1 cap] x1 fun ev w'' => ev = .returned (.bool false) ∧ Below x1.heap.size x1 w'') := by
          intro x1 B9 cp9 hu hb h1 h2
          have h := lit_any (c := cL S) (n := e) (fun j hj => by have := byt_le HP.out.byt j (by rw [HE.out]; exact hj); omega) hb h1 (by omega) (by unfold maxLen at h2; omega) (HU4.out.2.2.stay hu.1) (by omega) (fun u hm => by rw [hRo] at hm; rw [List.mem_singleton] at hm; subst hm; dsimp only; omega)
          rw [hl1, hlf] at h
          exact h
        rw [hl1]
        have hcvA : ∀ w' : World, (convert 9 22 (.string SS)).run Tryd.prog w' = .ok (.slice (some ⟨w'.heap.size, 0, none⟩) e (grownCap w' e 0 5)) (Lib.bytesWorld w' 5 SS) := fun w' => by
          have := Lib.run_convert_string_bytes (P := Tryd.prog) w' 9 22 5 SS (u := .string) Tryd.underlying9 Tryd.underlying22 Tryd.underlying5
          rw [show SS.size = e by rw [HP.out.str, strOfNums_size]; exact HE.out] at this
          exact this
        have HCV : Hid (∀ w' : World, (convert 9 22 (.string SS)).run Tryd.prog w' = .ok (.slice (some ⟨w'.heap.size, 0, none⟩) e (grownCap w' e 0 5)) (Lib.bytesWorld w' 5 SS)) := hcvA
        clear hcvA q2 q3 e2 e3 hcap2 ho hRo hlf
        go_upto_region 19 with fail
        refine wp_region_held_drew (S := fun w' => Up w4.heap.size w4 w') (by kernel_rfl) (Up.drew (Up.refl w4)) (fun hHeld => ?_)
        (try dsimp only at hHeld)
        obtain ⟨x0, hx0⟩ : ∃ x0, w4.drew = x0 := ⟨_, rfl⟩
        rw [hx0] at hHeld ⊢
        clear hx0
        refine takeH (i := 0) (v := ?_) (d := (some 78)) rfl (by kernel_rfl) (by kernel_rfl) (by kernel_rfl) rfl (fun _ _ _ h => h) (Or.inl ⟨by kernel_rfl, ?_⟩) (by assumption) ?_; rotate_left
        · (intro w hSw; (try dsimp only at hSw); first | (go_simp; done) | (go_simp; with_reducible rfl))
        (try simp only [Act.put, List.setIfInBounds_toArray, List.set_cons_zero, List.set_cons_succ])
        refine takeH (i := 1) (v := ?_) (d := (some 79)) rfl (by kernel_rfl) (by kernel_rfl) (by kernel_rfl) rfl (fun _ _ _ h => h) (Or.inl ⟨by kernel_rfl, ?_⟩) (by assumption) ?_; rotate_left
        · (intro w hSw; (try dsimp only at hSw); first | (go_simp; done) | (go_simp; with_reducible rfl))
        (try simp only [Act.put, List.setIfInBounds_toArray, List.set_cons_zero, List.set_cons_succ])
        refine takeH (i := 2) (v := ?_) (d := (some 80)) rfl (by kernel_rfl) (by kernel_rfl) (by kernel_rfl) rfl (fun _ _ _ h => h) (Or.inl ⟨by kernel_rfl, ?_⟩) (by assumption) ?_; rotate_left
        · (intro w hSw; (try dsimp only at hSw); first | (go_simp; done) | (go_simp; with_reducible rfl))
        (try simp only [Act.put, List.setIfInBounds_toArray, List.set_cons_zero, List.set_cons_succ])
        refine takeH (i := 3) (v := ?_) (d := (some 81)) rfl (by kernel_rfl) (by kernel_rfl) (by kernel_rfl) rfl (fun _ _ _ h => h) (Or.inl ⟨by kernel_rfl, ?_⟩) (by assumption) ?_; rotate_left
        · (intro w hSw; (try dsimp only at hSw); first | (go_simp; done) | (go_simp; with_reducible rfl))
        (try simp only [Act.put, List.setIfInBounds_toArray, List.set_cons_zero, List.set_cons_succ])
        refine takeH (i := 4) (v := ?_) (d := (some 82)) rfl (by kernel_rfl) (by kernel_rfl) (by kernel_rfl) rfl (fun _ _ _ h => h) (Or.inl ⟨by kernel_rfl, ?_⟩) (by assumption) ?_; rotate_left
        · (intro w hSw; (try dsimp only at hSw); first | (go_simp; done) | (go_simp; with_reducible rfl))
        (try simp only [Act.put, List.setIfInBounds_toArray, List.set_cons_zero, List.set_cons_succ])
        refine takeH (i := 5) (v := ?_) (d := (some 83)) rfl (by kernel_rfl) (by kernel_rfl) (by kernel_rfl) rfl (fun _ _ _ h => h) (Or.inl ⟨by kernel_rfl, ?_⟩) (by assumption) ?_; rotate_left
        · (intro w hSw; (try dsimp only at hSw); first | (go_simp; done) | (go_simp; with_reducible rfl))
        (try simp only [Act.put, List.setIfInBounds_toArray, List.set_cons_zero, List.set_cons_succ])
        refine takeH (i := 6) (v := ?_) (d := (some 84)) rfl (by kernel_rfl) (by kernel_rfl) (by kernel_rfl) rfl (fun _ _ _ h => h) (Or.inl ⟨by kernel_rfl, ?_⟩) (by assumption) ?_; rotate_left
        · (intro w hSw; (try dsimp only at hSw); first | (go_simp; done) | (go_simp; with_reducible rfl))
        (try simp only [Act.put, List.setIfInBounds_toArray, List.set_cons_zero, List.set_cons_succ])
        refine takeH (i := 7) (v := ?_) (d := (some 85)) rfl (by kernel_rfl) (by kernel_rfl) (by kernel_rfl) rfl (fun _ _ _ h => h) (Or.inl ⟨by kernel_rfl, ?_⟩) (by assumption) ?_; rotate_left
        · (intro w hSw; (try dsimp only at hSw); first | (go_simp; done) | (go_simp; with_reducible rfl))
        (try simp only [Act.put, List.setIfInBounds_toArray, List.set_cons_zero, List.set_cons_succ])
        refine takeH (i := 8) (v := ?_) (d := (some 86)) rfl (by kernel_rfl) (by kernel_rfl) (by kernel_rfl) rfl (fun _ _ _ h => h) (Or.inl ⟨by kernel_rfl, ?_⟩) (by assumption) ?_; rotate_left
        · (intro w hSw; (try dsimp only at hSw); first | (go_simp; done) | (go_simp; with_reducible rfl))
        (try simp only [Act.put, List.setIfInBounds_toArray, List.set_cons_zero, List.set_cons_succ])
        refine takeH (i := 9) (v := ?_) (d := (some 87)) rfl (by kernel_rfl) (by kernel_rfl) (by kernel_rfl) rfl (fun _ _ _ h => h) (Or.inl ⟨by kernel_rfl, ?_⟩) (by assumption) ?_; rotate_left
        · (intro w hSw; (try dsimp only at hSw); first | (go_simp; done) | (go_simp; with_reducible rfl))
        (try simp only [Act.put, List.setIfInBounds_toArray, List.set_cons_zero, List.set_cons_succ])
        refine takeH (i := 10) (v := ?_) (d := (some 88)) rfl (by kernel_rfl) (by kernel_rfl) (by kernel_rfl) rfl (fun _ _ _ h => h) (Or.inl ⟨by kernel_rfl, ?_⟩) (by assumption) ?_; rotate_left
        · (intro w hSw; (try dsimp only at hSw); first | (go_simp; done) | (go_simp; with_reducible rfl))
        (try simp only [Act.put, List.setIfInBounds_toArray, List.set_cons_zero, List.set_cons_succ])
        refine takeH (i := 11) (v := ?_) (d := (some 89)) rfl (by kernel_rfl) (by kernel_rfl) (by kernel_rfl) rfl (fun _ _ _ h => h) (Or.inl ⟨by kernel_rfl, ?_⟩) (by assumption) ?_; rotate_left
        · (intro w hSw; (try dsimp only at hSw); have q0 := cell_stay q1 hSw.1; first | (go_simp; done) | (go_simp; with_reducible rfl))
        (try simp only [Act.put, List.setIfInBounds_toArray, List.set_cons_zero, List.set_cons_succ])
        refine takeH (i := 12) (v := ?_) (d := (some 90)) rfl (by kernel_rfl) (by kernel_rfl) (by kernel_rfl) rfl (fun _ _ _ h => h) (Or.inl ⟨by kernel_rfl, ?_⟩) (by assumption) ?_; rotate_left
        · (intro w hSw; (try dsimp only at hSw); have q0 := cell_stay y4 hSw.1; first | (go_simp; done) | (go_simp; with_reducible rfl))
        (try simp only [Act.put, List.setIfInBounds_toArray, List.set_cons_zero, List.set_cons_succ])
        refine takeH (i := 13) (v := ?_) (d := (some 91)) rfl (by kernel_rfl) (by kernel_rfl) (by kernel_rfl) rfl (fun _ _ _ h => h) (Or.inl ⟨by kernel_rfl, ?_⟩) (by assumption) ?_; rotate_left
        · (intro w hSw; (try dsimp only at hSw); first | (go_simp; done) | (go_simp; with_reducible rfl))
        (try simp only [Act.put, List.setIfInBounds_toArray, List.set_cons_zero, List.set_cons_succ])
        refine takeH (i := 14) (v := ?_) (d := (some 92)) rfl (by kernel_rfl) (by kernel_rfl) (by kernel_rfl) rfl (fun _ _ _ h => h) (Or.inl ⟨by kernel_rfl, ?_⟩) (by assumption) ?_; rotate_left
        · (intro w hSw; (try dsimp only at hSw); first | (go_simp; done) | (go_simp; with_reducible rfl))
        (try simp only [Act.put, List.setIfInBounds_toArray, List.set_cons_zero, List.set_cons_succ])
        refine takeH (i := 15) (v := ?_) (d := (some 93)) rfl (by kernel_rfl) (by kernel_rfl) (by kernel_rfl) rfl (fun _ _ _ h => h) (Or.inl ⟨by kernel_rfl, ?_⟩) (by assumption) ?_; rotate_left
        · (intro w hSw; (try dsimp only at hSw); first | (go_simp; done) | (go_simp; with_reducible rfl))
        (try simp only [Act.put, List.setIfInBounds_toArray, List.set_cons_zero, List.set_cons_succ])
        refine takeH (i := 16) (v := ?_) (d := (some 94)) rfl (by kernel_rfl) (by kernel_rfl) (by kernel_rfl) rfl (fun _ _ _ h => h) (Or.inl ⟨by kernel_rfl, ?_⟩) (by assumption) ?_; rotate_left
        · (intro w hSw; (try dsimp only at hSw); first | (go_simp; done) | (go_simp; with_reducible rfl))
        (try simp only [Act.put, List.setIfInBounds_toArray, List.set_cons_zero, List.set_cons_succ])
        refine takeH (i := 17) (v := ?_) (d := (some 95)) rfl (by kernel_rfl) (by kernel_rfl) (by kernel_rfl) rfl (fun _ _ _ h => h) (Or.inl ⟨by kernel_rfl, ?_⟩) (by assumption) ?_; rotate_left
        · (intro w hSw; (try dsimp only at hSw); first | (go_simp; done) | (go_simp; with_reducible rfl))
        (try simp only [Act.put, List.setIfInBounds_toArray, List.set_cons_zero, List.set_cons_succ])
        refine takeH (i := 19) (v := ?_) (d := (some 97)) rfl (by kernel_rfl) (by kernel_rfl) (by kernel_rfl) rfl (fun _ _ _ h => h) (Or.inl ⟨by kernel_rfl, ?_⟩) (by assumption) ?_; rotate_left
        · (intro w hSw; (try dsimp only at hSw); first | (go_simp; done) | (go_simp; with_reducible rfl))
        (try simp only [Act.put, List.setIfInBounds_toArray, List.set_cons_zero, List.set_cons_succ])
        have hcv9 := HCV.out x0
        obtain ⟨cp9, hcp9⟩ : ∃ c, grownCap x0 e 0 5 = c := ⟨_, rfl⟩
        have hc1 : e ≤ cp9 := by rw [← hcp9]; exact grownCap_ge _ _ _ _
        have hc2 : cp9 ≤ maxLen := by rw [← hcp9]; exact grownCap_le_maxLen _ _ _ _ (by unfold maxLen; omega)
        obtain ⟨x1, hx1⟩ : ∃ x, Lib.bytesWorld x0 5 SS = x := ⟨_, rfl⟩
        obtain ⟨B9, hB9⟩ : ∃ B, x0.heap.size = B := ⟨_, rfl⟩
        have hl9 : BC x1 (some ⟨B9, 0, none⟩) e (cL S) := by rw [← hx1, ← hB9, HP.out.str, ← HE.out]; exact conv_cl HP.out.byt
        have Hx1 : Hid (Up w4.heap.size w4 x1) := hHeld.stay (by rw [← hx1]; exact conv_below x0 SS)
        rw [hcp9, hx1, hB9] at hcv9
        have cLt := HLIT.out x1 B9 cp9 Hx1.out hl9 hc1 hc2
        clear hcp9 hx1 hB9 hl9 HLIT
        refine wpAnyH_ready (rs := [18]) (by kernel_rfl) (by simp) (AllReadyH.cons rfl (fun K hK => ?_) AllReadyH.nil)
        (try rw [if_pos (by kernel_rfl)])
        go_simp
        refine hK.out _ _ Hx1.out (fun hHeld' => ?_)
        clear hK K hHeld hHeld' hcv9
        have hHeld := Hx1.out
        clear Hx1
        (try simp only [Act.put, List.setIfInBounds_toArray, List.set_cons_zero, List.set_cons_succ])
        refine wpAnyH_ready (rs := [20]) (by kernel_rfl) (by simp) (AllReadyH.cons rfl (fun K hK => ?_) AllReadyH.nil)
        (try rw [if_pos (by kernel_rfl)])
        go_simp
        refine cLt.mono ?_
        rintro ev x2 ⟨rfl, hb9⟩
        have HU9 : Hid (Up w4.heap.size w4 x2) := hHeld.stay hb9
        clear cLt hb9 hHeld
        go_wp2_with fail
        refine hK.out _ _ HU9.out (fun hHeld => ?_)
        clear hK K
        (try dsimp only at hHeld)
        (try simp only [Act.put, List.setIfInBounds_toArray, List.set_cons_zero, List.set_cons_succ])
        refine takeH (i := 21) (v := ?_) (d := (some 99)) rfl (by kernel_rfl) (by kernel_rfl) (by kernel_rfl) rfl (fun _ _ _ h => h) (Or.inl ⟨by kernel_rfl, ?_⟩) (by assumption) ?_; rotate_left
        · (intro w hSw; (try dsimp only at hSw); first | (go_simp; done) | (go_simp; with_reducible rfl))
        (try simp only [Act.put, List.setIfInBounds_toArray, List.set_cons_zero, List.set_cons_succ])
        refine takeH (i := 22) (v := ?_) (d := (some 100)) rfl (by kernel_rfl) (by kernel_rfl) (by kernel_rfl) rfl (fun _ _ _ h => h) (Or.inl ⟨by kernel_rfl, ?_⟩) (by assumption) ?_; rotate_left
        · (intro w hSw; (try dsimp only at hSw); first | (go_simp; done) | (go_simp; with_reducible rfl))
        (try simp only [Act.put, List.setIfInBounds_toArray, List.set_cons_zero, List.set_cons_succ])
        refine takeH (i := 23) (v := ?_) (d := (some 4)) rfl (by kernel_rfl) (by kernel_rfl) (by kernel_rfl) rfl (fun _ _ _ h => h) (Or.inl ⟨by kernel_rfl, ?_⟩) (by assumption) ?_; rotate_left
        · (intro w hSw; (try dsimp only at hSw); first | (go_simp; done) | (go_simp; with_reducible rfl))
        (try simp only [Act.put, List.setIfInBounds_toArray, List.set_cons_zero, List.set_cons_succ])
        refine wpAnyH_done (by kernel_rfl) ?_ _
        go_wp2
        go_ret
        exact ⟨rfl, (HU4.out.1.stay HU9.out.1).1⟩
    · have ho : okN (n : Int) = false := by have := HNN.out; unfold okN; simp; omega
      obtain ⟨u, tl, hRt⟩ := HP.out.no ho
      rw [HRR.out] at hRt
      have cT := text_any HU4.out.2.2 (by have := HR20.out; omega)
      obtain ⟨TS, hTS⟩ : ∃ TS, strOfNums (tU R) = TS := ⟨_, rfl⟩
      have hne : TS.toList.isEmpty = false := by
        have h0 : (TS.toList == (⟨#[]⟩ : ByteArray).toList) = false := by
          rw [← hTS, show (⟨#[]⟩ : ByteArray) = strOfNums [] from rfl, nums_beq (tU_byt R) (fun x hx => by cases hx), hRt, tU_plain (by decide)]
          rfl
        cases h : TS.toList with
        | nil => rw [h, show (⟨#[]⟩ : ByteArray).toList = [] by simp] at h0; simp at h0
        | cons x t => rfl
      have hlen : (1 : Int) < (R.length : Int) := by rw [hRt]; simp; omega
      rw [hTS] at cT
      clear hTS hRt ho
      go_wp2_with fail
      refine cT.mono ?_
      rintro ev w5 ⟨rfl, hb5⟩
      have HU5 : Hid (Up w.heap.size w w5) := HU4.out.1.stay hb5
      clear cT hb5
      go_wp2
      go_ret
      exact ⟨rfl, HU5.out.1⟩
  · have hkI : (kn : Int) % 4 = 3 := by omega
    have hkT : (kn : Int).tmod 4 = 3 := by rw [Int.tmod_eq_emod_of_nonneg (by omega)]; exact hkI
    clear hr
    have y5 : wq.cell? ⟨D, 0, none⟩ = some (.int .u32 (n : Int)) := by simp [World.cell?, HQ.out.2]
    have z5 : wq.frozen? ⟨D, 0, none⟩ = false := by simp [World.frozen?, HQ.out.2]
    obtain ⟨n4, h4⟩ : ∃ m, n % 65536 = m := ⟨_, rfl⟩
    have h4I : (n : Int) % 65536 = (n4 : Int) := by omega
    have h4T : (n : Int).tmod 65536 = (n4 : Int) := by rw [Int.tmod_eq_emod_of_nonneg (by omega)]; exact h4I
    have HN4 : Hid (n4 < 65536) := by show _ < _; omega
    obtain ⟨wq2, hwq2⟩ : ∃ x, wq.setCell ⟨D, 0, none⟩ (.int .u32 (n4 : Int)) = x := ⟨_, rfl⟩
    have h1 := heap_setCell_same wq D 0 _ _ (.int .u32 (n4 : Int)) HQ.out.2
    rw [hwq2] at h1
    have h2 : wq2.heap[D]? = some (.cells #[.int .u32 (n4 : Int)] 57) := h1
    have HQ2 : Hid (Up w.heap.size w wq2 ∧ wq2.heap[D]? = some (.cells #[.int .u32 (n4 : Int)] 57)) := ⟨by rw [← hwq2]; exact HQ.out.1.setCell (show w.heap.size ≤ D by rw [HD.out]; exact Nat.le_refl _) _, h2⟩
    clear h1 h2 HQ HN h4
    have HQ := HQ2
    clear HQ2
    have HN : Hid (n4 ≤ 1114111) := Nat.le_of_lt (Nat.lt_of_lt_of_le HN4.out (by decide))
    go_upto_region 8 with fail
    (try rw [hwq2])
    clear y5 z5 h4T h4I hwq2
    have cD : Calls Tryd.prog 24 #[.int .u32 16, .int .u32 4, .pointer (some ⟨D, 0, none⟩)] wq2 fun e w' => ∃ L, DT 16 4 n4 L ∧ e = .returned (.string (strOfNums L)) ∧ Below wq2.heap.size wq2 w' := bkdig_any (b := 16) (k := 4) HN.out (Or.inr rfl) (by decide) (by simp [World.cell?, HQ.out.2])
    go_wp2_with fail
    refine cD.mono ?_
    rintro ev w2 ⟨L, hL, rfl, hb2⟩
    have HU2 : Hid (Up w.heap.size w w2 ∧ w2.heap[D]? = some (.cells #[.int .u32 (n4 : Int)] 57)) := ⟨HQ.out.1.stay hb2, blk_stay HQ.out.2 hb2⟩
    have hLs : (strOfNums L).size ≤ 100 := by
      rw [strOfNums_size]
      have := hL.len (m := 7) (by decide) (Nat.lt_of_le_of_lt HN.out (by decide))
      omega
    have ha0 : ¬ (9223372036854775807 < (⟨#[92, 117]⟩ : ByteArray).size + (strOfNums L).size) := by have h3 : (⟨#[92, 117]⟩ : ByteArray).size ≤ 3 := (by decide); omega
    have hpk := pk_four HN4.out hL
    obtain ⟨SS, hSS⟩ : ∃ SS : ByteArray, ⟨#[92, 117]⟩ ++ strOfNums L = SS := ⟨_, rfl⟩
    rw [hSS] at hpk
    obtain ⟨S, hS⟩ : ∃ S : List Int, Pk 4 5 92 n4 SS S := ⟨_, hpk⟩
    have HP : Hid (Pk 4 5 92 n4 SS S) := hS
    obtain ⟨e, he⟩ : ∃ e, S.length = e := ⟨_, rfl⟩
    have HE : Hid (S.length = e) := he
    have hsz : SS.size = e := by rw [hS.str, strOfNums_size]; exact he
    have hcv := Lib.run_convert_string_bytes (P := Tryd.prog) w2 9 22 5 SS (u := .string) Tryd.underlying9 Tryd.underlying22 Tryd.underlying5
    rw [hsz] at hcv
    obtain ⟨cp, hcp⟩ : ∃ cp, grownCap w2 e 0 5 = cp := ⟨_, rfl⟩
    have he20 : e ≤ 20 := by rw [← he]; exact hS.most
    have he4 : 4 ≤ e := by rw [← he]; exact hS.least
    have hcp1 : e ≤ cp := by rw [← hcp]; exact grownCap_ge _ _ _ _
    have hcp2 : cp ≤ maxLen := by rw [← hcp]; exact grownCap_le_maxLen _ _ _ _ (by unfold maxLen; omega)
    obtain ⟨W3, hW3⟩ : ∃ W3, Lib.bytesWorld w2 5 SS = W3 := ⟨_, rfl⟩
    rw [hcp, hW3] at hcv
    have hB3 : Below w2.heap.size w2 W3 := by rw [← hW3]; exact conv_below w2 SS
    have HU3 : Hid (Up w.heap.size w W3 ∧ W3.heap[D]? = some (.cells #[.int .u32 (n4 : Int)] 57)) := ⟨HU2.out.1.stay hB3, blk_stay HU2.out.2 hB3⟩
    have hbc : BC W3 (some ⟨w2.heap.size, 0, none⟩) e (cL S) := by rw [← hW3, hS.str, ← he]; exact conv_cl hS.byt
    have cU0 := units_any (n := e) (cap := cp) (A := 0) (M := e) (c := cL S) (fun j hj => by have := byt_le hS.byt j (by omega); omega) hbc hcp1 (by omega) (by unfold maxLen at hcp2; omega) (by omega) 4 5 (HG0.out.stay HU3.out.1.1)
    rw [Nat.zero_add, show un 4 5 (cL S) e 0 = un 4 5 (cL S) S.length 0 by rw [he]] at cU0
    have cU : Calls Tryd.prog 15 #[.int .u8 4, .slice (some ⟨w2.heap.size, 0, none⟩) e cp, .agg #[.int .u8 5, .int .i64 0, .int .i64 (e : Int)]] W3 (UnQ W3 (un 4 5 (cL S) S.length 0)) := cU0
    obtain ⟨R, hR⟩ : ∃ R, un 4 5 (cL S) S.length 0 = R := ⟨_, rfl⟩
    have HRR : Hid (un 4 5 (cL S) S.length 0 = R) := hR
    rw [hR] at cU
    clear cD hL hb2 hpk hS he hcp hW3 hB3 hbc cU0 hR
    go_wp2_with fail
    refine cU.mono ?_
    rintro ev w4 ⟨v4, rfl, hR4, hb4⟩
    have HU4 : Hid (Up w.heap.size w w4 ∧ w4.heap[D]? = some (.cells #[.int .u32 (n4 : Int)] 57) ∧ US w4 v4 R) := ⟨HU3.out.1.stay hb4, blk_stay HU3.out.2 hb4, hR4.us⟩
    have y4 : w4.cell? ⟨D, 0, none⟩ = some (.int .u32 (n4 : Int)) := by simp [World.cell?, HU4.out.2.1]
    clear cU hb4 hR4 hsz hcv hSS
    have HR20 : Hid (R.length ≤ 20) := by
      show _ ≤ _
      rw [← HRR.out]
      have h1 := un_len (f := 4) (l := 5) (c := cL S) (byt_le HP.out.byt) S.length 0 rfl
      have h2 := HP.out.most
      omega
    obtain ⟨ad, cap, rfl, hcap, hh⟩ := HU4.out.2.2
    have HCAP : Hid (R.length ≤ cap) := hcap
    clear hcap hh
    obtain ⟨N, hN⟩ : ∃ N : Int, (n4 : Int) = N := ⟨_, rfl⟩
    have HNN : Hid ((n4 : Int) = N ∧ n4 ≤ 1114111) := ⟨hN, HN.out⟩
    rw [hN] at y4
    clear hN
    by_cases c1 : (0 : Int) < N
    · by_cases c2 : (55296 : Int) ≤ N
      · by_cases c3 : N < 57344
        · have ho : okN (n4 : Int) = false := by have := HNN.out; unfold okN; simp; omega
          obtain ⟨u, tl, hRt⟩ := HP.out.no ho
          rw [HRR.out] at hRt
          have cT := text_any HU4.out.2.2 (by have := HR20.out; omega)
          obtain ⟨TS, hTS⟩ : ∃ TS, strOfNums (tU R) = TS := ⟨_, rfl⟩
          have hne : TS.toList.isEmpty = false := by
            have h0 : (TS.toList == (⟨#[]⟩ : ByteArray).toList) = false := by
              rw [← hTS, show (⟨#[]⟩ : ByteArray) = strOfNums [] from rfl, nums_beq (tU_byt R) (fun x hx => by cases hx), hRt, tU_plain (by decide)]
              rfl
            cases h : TS.toList with
            | nil => rw [h, show (⟨#[]⟩ : ByteArray).toList = [] by simp] at h0; simp at h0
            | cons x t => rfl
          have hlen : (1 : Int) < (R.length : Int) := by rw [hRt]; simp; omega
          rw [hTS] at cT
          clear hTS hRt ho
          go_wp2_with fail
          refine cT.mono ?_
          rintro ev w5 ⟨rfl, hb5⟩
          have HU5 : Hid (Up w.heap.size w w5) := HU4.out.1.stay hb5
          clear cT hb5
          go_wp2
          go_ret
          exact ⟨rfl, HU5.out.1⟩
        · have ho : okN (n4 : Int) = true := by have := HNN.out; unfold okN; simp; omega
          have hRo := HP.out.yes ho
          rw [HRR.out, HE.out] at hRo
          have hl1 : R.length = 1 := by rw [hRo]; rfl
          have hlf := lit_not ho HP.out.least HP.out.head (by decide)
          rw [HE.out, ← hRo] at hlf
          obtain ⟨gb, off, cap2, e1, hcap2, q1, q2, q3⟩ := HU4.out.2.2.at (i := 0) (x := ⟨(n4 : Int), 0, (e : Int)⟩) (by rw [hRo]; rfl)
          injection e1 with e1 e2 e3
          subst e1
          rw [HNN.out.1] at q1
          dsimp only at q1
          rw [Nat.zero_mul, Nat.add_zero] at q1
          have hwr : IntKind.i32.wrap N = N := by have := HNN.out; unfold IntKind.wrap; simp [IntKind.bits, IntKind.signed]; omega
          have HLIT : Hid (∀ (x1 : World) (B9 cp9 : Nat), Up w4.heap.size w4 x1 → BC x1 (some ⟨B9, 0, none⟩) e (cL S) → e ≤ cp9 → cp9 ≤ maxLen → Calls Tryd.prog 20 #[.slice (some ⟨B9, 0, none⟩) e cp9, .slice (some ⟨gb, off, none⟩) 1 cap] x1 fun ev w'' => ev = .returned (.bool false) ∧ Below x1.heap.size x1 w'') := by
            intro x1 B9 cp9 hu hb h1 h2
            have h := lit_any (c := cL S) (n := e) (fun j hj => by have := byt_le HP.out.byt j (by rw [HE.out]; exact hj); omega) hb h1 (by omega) (by unfold maxLen at h2; omega) (HU4.out.2.2.stay hu.1) (by omega) (fun u hm => by rw [hRo] at hm; rw [List.mem_singleton] at hm; subst hm; dsimp only; omega)
            rw [hl1, hlf] at h
            exact h
          rw [hl1]
          have hcvA : ∀ w' : World, (convert 9 22 (.string SS)).run Tryd.prog w' = .ok (.slice (some ⟨w'.heap.size, 0, none⟩) e (grownCap w' e 0 5)) (Lib.bytesWorld w' 5 SS) := fun w' => by
            have := Lib.run_convert_string_bytes (P := Tryd.prog) w' 9 22 5 SS (u := .string) Tryd.underlying9 Tryd.underlying22 Tryd.underlying5
            rw [show SS.size = e by rw [HP.out.str, strOfNums_size]; exact HE.out] at this
            exact this
          have HCV : Hid (∀ w' : World, (convert 9 22 (.string SS)).run Tryd.prog w' = .ok (.slice (some ⟨w'.heap.size, 0, none⟩) e (grownCap w' e 0 5)) (Lib.bytesWorld w' 5 SS)) := hcvA
          clear hcvA q2 q3 e2 e3 hcap2 ho hRo hlf
          go_upto_region 19 with fail
          refine wp_region_held_drew (S := fun w' => Up w4.heap.size w4 w') (by kernel_rfl) (Up.drew (Up.refl w4)) (fun hHeld => ?_)
          (try dsimp only at hHeld)
          obtain ⟨x0, hx0⟩ : ∃ x0, w4.drew = x0 := ⟨_, rfl⟩
          rw [hx0] at hHeld ⊢
          clear hx0
          refine takeH (i := 0) (v := ?_) (d := (some 78)) rfl (by kernel_rfl) (by kernel_rfl) (by kernel_rfl) rfl (fun _ _ _ h => h) (Or.inl ⟨by kernel_rfl, ?_⟩) (by assumption) ?_; rotate_left
          · (intro w hSw; (try dsimp only at hSw); first | (go_simp; done) | (go_simp; with_reducible rfl))
          (try simp only [Act.put, List.setIfInBounds_toArray, List.set_cons_zero, List.set_cons_succ])
          refine takeH (i := 1) (v := ?_) (d := (some 79)) rfl (by kernel_rfl) (by kernel_rfl) (by kernel_rfl) rfl (fun _ _ _ h => h) (Or.inl ⟨by kernel_rfl, ?_⟩) (by assumption) ?_; rotate_left
          · (intro w hSw; (try dsimp only at hSw); first | (go_simp; done) | (go_simp; with_reducible rfl))
          (try simp only [Act.put, List.setIfInBounds_toArray, List.set_cons_zero, List.set_cons_succ])
          refine takeH (i := 2) (v := ?_) (d := (some 80)) rfl (by kernel_rfl) (by kernel_rfl) (by kernel_rfl) rfl (fun _ _ _ h => h) (Or.inl ⟨by kernel_rfl, ?_⟩) (by assumption) ?_; rotate_left
          · (intro w hSw; (try dsimp only at hSw); first | (go_simp; done) | (go_simp; with_reducible rfl))
          (try simp only [Act.put, List.setIfInBounds_toArray, List.set_cons_zero, List.set_cons_succ])
          refine takeH (i := 3) (v := ?_) (d := (some 81)) rfl (by kernel_rfl) (by kernel_rfl) (by kernel_rfl) rfl (fun _ _ _ h => h) (Or.inl ⟨by kernel_rfl, ?_⟩) (by assumption) ?_; rotate_left
          · (intro w hSw; (try dsimp only at hSw); first | (go_simp; done) | (go_simp; with_reducible rfl))
          (try simp only [Act.put, List.setIfInBounds_toArray, List.set_cons_zero, List.set_cons_succ])
          refine takeH (i := 4) (v := ?_) (d := (some 82)) rfl (by kernel_rfl) (by kernel_rfl) (by kernel_rfl) rfl (fun _ _ _ h => h) (Or.inl ⟨by kernel_rfl, ?_⟩) (by assumption) ?_; rotate_left
          · (intro w hSw; (try dsimp only at hSw); first | (go_simp; done) | (go_simp; with_reducible rfl))
          (try simp only [Act.put, List.setIfInBounds_toArray, List.set_cons_zero, List.set_cons_succ])
          refine takeH (i := 5) (v := ?_) (d := (some 83)) rfl (by kernel_rfl) (by kernel_rfl) (by kernel_rfl) rfl (fun _ _ _ h => h) (Or.inl ⟨by kernel_rfl, ?_⟩) (by assumption) ?_; rotate_left
          · (intro w hSw; (try dsimp only at hSw); first | (go_simp; done) | (go_simp; with_reducible rfl))
          (try simp only [Act.put, List.setIfInBounds_toArray, List.set_cons_zero, List.set_cons_succ])
          refine takeH (i := 6) (v := ?_) (d := (some 84)) rfl (by kernel_rfl) (by kernel_rfl) (by kernel_rfl) rfl (fun _ _ _ h => h) (Or.inl ⟨by kernel_rfl, ?_⟩) (by assumption) ?_; rotate_left
          · (intro w hSw; (try dsimp only at hSw); first | (go_simp; done) | (go_simp; with_reducible rfl))
          (try simp only [Act.put, List.setIfInBounds_toArray, List.set_cons_zero, List.set_cons_succ])
          refine takeH (i := 7) (v := ?_) (d := (some 85)) rfl (by kernel_rfl) (by kernel_rfl) (by kernel_rfl) rfl (fun _ _ _ h => h) (Or.inl ⟨by kernel_rfl, ?_⟩) (by assumption) ?_; rotate_left
          · (intro w hSw; (try dsimp only at hSw); first | (go_simp; done) | (go_simp; with_reducible rfl))
          (try simp only [Act.put, List.setIfInBounds_toArray, List.set_cons_zero, List.set_cons_succ])
          refine takeH (i := 8) (v := ?_) (d := (some 86)) rfl (by kernel_rfl) (by kernel_rfl) (by kernel_rfl) rfl (fun _ _ _ h => h) (Or.inl ⟨by kernel_rfl, ?_⟩) (by assumption) ?_; rotate_left
          · (intro w hSw; (try dsimp only at hSw); first | (go_simp; done) | (go_simp; with_reducible rfl))
          (try simp only [Act.put, List.setIfInBounds_toArray, List.set_cons_zero, List.set_cons_succ])
          refine takeH (i := 9) (v := ?_) (d := (some 87)) rfl (by kernel_rfl) (by kernel_rfl) (by kernel_rfl) rfl (fun _ _ _ h => h) (Or.inl ⟨by kernel_rfl, ?_⟩) (by assumption) ?_; rotate_left
          · (intro w hSw; (try dsimp only at hSw); first | (go_simp; done) | (go_simp; with_reducible rfl))
          (try simp only [Act.put, List.setIfInBounds_toArray, List.set_cons_zero, List.set_cons_succ])
          refine takeH (i := 10) (v := ?_) (d := (some 88)) rfl (by kernel_rfl) (by kernel_rfl) (by kernel_rfl) rfl (fun _ _ _ h => h) (Or.inl ⟨by kernel_rfl, ?_⟩) (by assumption) ?_; rotate_left
          · (intro w hSw; (try dsimp only at hSw); first | (go_simp; done) | (go_simp; with_reducible rfl))
          (try simp only [Act.put, List.setIfInBounds_toArray, List.set_cons_zero, List.set_cons_succ])
          refine takeH (i := 11) (v := ?_) (d := (some 89)) rfl (by kernel_rfl) (by kernel_rfl) (by kernel_rfl) rfl (fun _ _ _ h => h) (Or.inl ⟨by kernel_rfl, ?_⟩) (by assumption) ?_; rotate_left
          · (intro w hSw; (try dsimp only at hSw); have q0 := cell_stay q1 hSw.1; first | (go_simp; done) | (go_simp; with_reducible rfl))
          (try simp only [Act.put, List.setIfInBounds_toArray, List.set_cons_zero, List.set_cons_succ])
          refine takeH (i := 12) (v := ?_) (d := (some 90)) rfl (by kernel_rfl) (by kernel_rfl) (by kernel_rfl) rfl (fun _ _ _ h => h) (Or.inl ⟨by kernel_rfl, ?_⟩) (by assumption) ?_; rotate_left
          · (intro w hSw; (try dsimp only at hSw); have q0 := cell_stay y4 hSw.1; first | (go_simp; done) | (go_simp; with_reducible rfl))
          (try simp only [Act.put, List.setIfInBounds_toArray, List.set_cons_zero, List.set_cons_succ])
          refine takeH (i := 13) (v := ?_) (d := (some 91)) rfl (by kernel_rfl) (by kernel_rfl) (by kernel_rfl) rfl (fun _ _ _ h => h) (Or.inl ⟨by kernel_rfl, ?_⟩) (by assumption) ?_; rotate_left
          · (intro w hSw; (try dsimp only at hSw); first | (go_simp; done) | (go_simp; with_reducible rfl))
          (try simp only [Act.put, List.setIfInBounds_toArray, List.set_cons_zero, List.set_cons_succ])
          refine takeH (i := 14) (v := ?_) (d := (some 92)) rfl (by kernel_rfl) (by kernel_rfl) (by kernel_rfl) rfl (fun _ _ _ h => h) (Or.inl ⟨by kernel_rfl, ?_⟩) (by assumption) ?_; rotate_left
          · (intro w hSw; (try dsimp only at hSw); first | (go_simp; done) | (go_simp; with_reducible rfl))
          (try simp only [Act.put, List.setIfInBounds_toArray, List.set_cons_zero, List.set_cons_succ])
          refine takeH (i := 15) (v := ?_) (d := (some 93)) rfl (by kernel_rfl) (by kernel_rfl) (by kernel_rfl) rfl (fun _ _ _ h => h) (Or.inl ⟨by kernel_rfl, ?_⟩) (by assumption) ?_; rotate_left
          · (intro w hSw; (try dsimp only at hSw); first | (go_simp; done) | (go_simp; with_reducible rfl))
          (try simp only [Act.put, List.setIfInBounds_toArray, List.set_cons_zero, List.set_cons_succ])
          refine takeH (i := 16) (v := ?_) (d := (some 94)) rfl (by kernel_rfl) (by kernel_rfl) (by kernel_rfl) rfl (fun _ _ _ h => h) (Or.inl ⟨by kernel_rfl, ?_⟩) (by assumption) ?_; rotate_left
          · (intro w hSw; (try dsimp only at hSw); first | (go_simp; done) | (go_simp; with_reducible rfl))
          (try simp only [Act.put, List.setIfInBounds_toArray, List.set_cons_zero, List.set_cons_succ])
          refine takeH (i := 17) (v := ?_) (d := (some 95)) rfl (by kernel_rfl) (by kernel_rfl) (by kernel_rfl) rfl (fun _ _ _ h => h) (Or.inl ⟨by kernel_rfl, ?_⟩) (by assumption) ?_; rotate_left
          · (intro w hSw; (try dsimp only at hSw); first | (go_simp; done) | (go_simp; with_reducible rfl))
          (try simp only [Act.put, List.setIfInBounds_toArray, List.set_cons_zero, List.set_cons_succ])
          refine takeH (i := 19) (v := ?_) (d := (some 97)) rfl (by kernel_rfl) (by kernel_rfl) (by kernel_rfl) rfl (fun _ _ _ h => h) (Or.inl ⟨by kernel_rfl, ?_⟩) (by assumption) ?_; rotate_left
          · (intro w hSw; (try dsimp only at hSw); first | (go_simp; done) | (go_simp; with_reducible rfl))
          (try simp only [Act.put, List.setIfInBounds_toArray, List.set_cons_zero, List.set_cons_succ])
          have hcv9 := HCV.out x0
          obtain ⟨cp9, hcp9⟩ : ∃ c, grownCap x0 e 0 5 = c := ⟨_, rfl⟩
          have hc1 : e ≤ cp9 := by rw [← hcp9]; exact grownCap_ge _ _ _ _
          have hc2 : cp9 ≤ maxLen := by rw [← hcp9]; exact grownCap_le_maxLen _ _ _ _ (by unfold maxLen; omega)
          obtain ⟨x1, hx1⟩ : ∃ x, Lib.bytesWorld x0 5 SS = x := ⟨_, rfl⟩
          obtain ⟨B9, hB9⟩ : ∃ B, x0.heap.size = B := ⟨_, rfl⟩
          have hl9 : BC x1 (some ⟨B9, 0, none⟩) e (cL S) := by rw [← hx1, ← hB9, HP.out.str, ← HE.out]; exact conv_cl HP.out.byt
          have Hx1 : Hid (Up w4.heap.size w4 x1) := hHeld.stay (by rw [← hx1]; exact conv_below x0 SS)
          rw [hcp9, hx1, hB9] at hcv9
          have cLt := HLIT.out x1 B9 cp9 Hx1.out hl9 hc1 hc2
          clear hcp9 hx1 hB9 hl9 HLIT
          refine wpAnyH_ready (rs := [18]) (by kernel_rfl) (by simp) (AllReadyH.cons rfl (fun K hK => ?_) AllReadyH.nil)
          (try rw [if_pos (by kernel_rfl)])
          go_simp
          refine hK.out _ _ Hx1.out (fun hHeld' => ?_)
          clear hK K hHeld hHeld' hcv9
          have hHeld := Hx1.out
          clear Hx1
          (try simp only [Act.put, List.setIfInBounds_toArray, List.set_cons_zero, List.set_cons_succ])
          refine wpAnyH_ready (rs := [20]) (by kernel_rfl) (by simp) (AllReadyH.cons rfl (fun K hK => ?_) AllReadyH.nil)
          (try rw [if_pos (by kernel_rfl)])
          go_simp
          refine cLt.mono ?_
          rintro ev x2 ⟨rfl, hb9⟩
          have HU9 : Hid (Up w4.heap.size w4 x2) := hHeld.stay hb9
          clear cLt hb9 hHeld
          go_wp2_with fail
          refine hK.out _ _ HU9.out (fun hHeld => ?_)
          clear hK K
          (try dsimp only at hHeld)
          (try simp only [Act.put, List.setIfInBounds_toArray, List.set_cons_zero, List.set_cons_succ])
          refine takeH (i := 21) (v := ?_) (d := (some 99)) rfl (by kernel_rfl) (by kernel_rfl) (by kernel_rfl) rfl (fun _ _ _ h => h) (Or.inl ⟨by kernel_rfl, ?_⟩) (by assumption) ?_; rotate_left
          · (intro w hSw; (try dsimp only at hSw); first | (go_simp; done) | (go_simp; with_reducible rfl))
          (try simp only [Act.put, List.setIfInBounds_toArray, List.set_cons_zero, List.set_cons_succ])
          refine takeH (i := 22) (v := ?_) (d := (some 100)) rfl (by kernel_rfl) (by kernel_rfl) (by kernel_rfl) rfl (fun _ _ _ h => h) (Or.inl ⟨by kernel_rfl, ?_⟩) (by assumption) ?_; rotate_left
          · (intro w hSw; (try dsimp only at hSw); first | (go_simp; done) | (go_simp; with_reducible rfl))
          (try simp only [Act.put, List.setIfInBounds_toArray, List.set_cons_zero, List.set_cons_succ])
          refine takeH (i := 23) (v := ?_) (d := (some 4)) rfl (by kernel_rfl) (by kernel_rfl) (by kernel_rfl) rfl (fun _ _ _ h => h) (Or.inl ⟨by kernel_rfl, ?_⟩) (by assumption) ?_; rotate_left
          · (intro w hSw; (try dsimp only at hSw); first | (go_simp; done) | (go_simp; with_reducible rfl))
          (try simp only [Act.put, List.setIfInBounds_toArray, List.set_cons_zero, List.set_cons_succ])
          refine wpAnyH_done (by kernel_rfl) ?_ _
          go_wp2
          go_ret
          exact ⟨rfl, (HU4.out.1.stay HU9.out.1).1⟩
      · have ho : okN (n4 : Int) = true := by have := HNN.out; unfold okN; simp; omega
        have hRo := HP.out.yes ho
        rw [HRR.out, HE.out] at hRo
        have hl1 : R.length = 1 := by rw [hRo]; rfl
        have hlf := lit_not ho HP.out.least HP.out.head (by decide)
        rw [HE.out, ← hRo] at hlf
        obtain ⟨gb, off, cap2, e1, hcap2, q1, q2, q3⟩ := HU4.out.2.2.at (i := 0) (x := ⟨(n4 : Int), 0, (e : Int)⟩) (by rw [hRo]; rfl)
        injection e1 with e1 e2 e3
        subst e1
        rw [HNN.out.1] at q1
        dsimp only at q1
        rw [Nat.zero_mul, Nat.add_zero] at q1
        have hwr : IntKind.i32.wrap N = N := by have := HNN.out; unfold IntKind.wrap; simp [IntKind.bits, IntKind.signed]; omega
        have HLIT : Hid (∀ (x1 : World) (B9 cp9 : Nat), Up w4.heap.size w4 x1 → BC x1 (some ⟨B9, 0, none⟩) e (cL S) → e ≤ cp9 → cp9 ≤ maxLen → Calls Tryd.prog 20 #[.slice (some ⟨B9, 0, none⟩) e cp9, .slice (some ⟨gb, off, none⟩) 1 cap] x1 fun ev w'' => ev = .returned (.bool false) ∧ Below x1.heap.size x1 w'') := by
          intro x1 B9 cp9 hu hb h1 h2
          have h := lit_any (c := cL S) (n := e) (fun j hj => by have := byt_le HP.out.byt j (by rw [HE.out]; exact hj); omega) hb h1 (by omega) (by unfold maxLen at h2; omega) (HU4.out.2.2.stay hu.1) (by omega) (fun u hm => by rw [hRo] at hm; rw [List.mem_singleton] at hm; subst hm; dsimp only; omega)
          rw [hl1, hlf] at h
          exact h
        rw [hl1]
        have hcvA : ∀ w' : World, (convert 9 22 (.string SS)).run Tryd.prog w' = .ok (.slice (some ⟨w'.heap.size, 0, none⟩) e (grownCap w' e 0 5)) (Lib.bytesWorld w' 5 SS) := fun w' => by
          have := Lib.run_convert_string_bytes (P := Tryd.prog) w' 9 22 5 SS (u := .string) Tryd.underlying9 Tryd.underlying22 Tryd.underlying5
          rw [show SS.size = e by rw [HP.out.str, strOfNums_size]; exact HE.out] at this
          exact this
        have HCV : Hid (∀ w' : World, (convert 9 22 (.string SS)).run Tryd.prog w' = .ok (.slice (some ⟨w'.heap.size, 0, none⟩) e (grownCap w' e 0 5)) (Lib.bytesWorld w' 5 SS)) := hcvA
        clear hcvA q2 q3 e2 e3 hcap2 ho hRo hlf
        go_upto_region 19 with fail
        refine wp_region_held_drew (S := fun w' => Up w4.heap.size w4 w') (by kernel_rfl) (Up.drew (Up.refl w4)) (fun hHeld => ?_)
        (try dsimp only at hHeld)
        obtain ⟨x0, hx0⟩ : ∃ x0, w4.drew = x0 := ⟨_, rfl⟩
        rw [hx0] at hHeld ⊢
        clear hx0
        refine takeH (i := 0) (v := ?_) (d := (some 78)) rfl (by kernel_rfl) (by kernel_rfl) (by kernel_rfl) rfl (fun _ _ _ h => h) (Or.inl ⟨by kernel_rfl, ?_⟩) (by assumption) ?_; rotate_left
        · (intro w hSw; (try dsimp only at hSw); first | (go_simp; done) | (go_simp; with_reducible rfl))
        (try simp only [Act.put, List.setIfInBounds_toArray, List.set_cons_zero, List.set_cons_succ])
        refine takeH (i := 1) (v := ?_) (d := (some 79)) rfl (by kernel_rfl) (by kernel_rfl) (by kernel_rfl) rfl (fun _ _ _ h => h) (Or.inl ⟨by kernel_rfl, ?_⟩) (by assumption) ?_; rotate_left
        · (intro w hSw; (try dsimp only at hSw); first | (go_simp; done) | (go_simp; with_reducible rfl))
        (try simp only [Act.put, List.setIfInBounds_toArray, List.set_cons_zero, List.set_cons_succ])
        refine takeH (i := 2) (v := ?_) (d := (some 80)) rfl (by kernel_rfl) (by kernel_rfl) (by kernel_rfl) rfl (fun _ _ _ h => h) (Or.inl ⟨by kernel_rfl, ?_⟩) (by assumption) ?_; rotate_left
        · (intro w hSw; (try dsimp only at hSw); first | (go_simp; done) | (go_simp; with_reducible rfl))
        (try simp only [Act.put, List.setIfInBounds_toArray, List.set_cons_zero, List.set_cons_succ])
        refine takeH (i := 3) (v := ?_) (d := (some 81)) rfl (by kernel_rfl) (by kernel_rfl) (by kernel_rfl) rfl (fun _ _ _ h => h) (Or.inl ⟨by kernel_rfl, ?_⟩) (by assumption) ?_; rotate_left
        · (intro w hSw; (try dsimp only at hSw); first | (go_simp; done) | (go_simp; with_reducible rfl))
        (try simp only [Act.put, List.setIfInBounds_toArray, List.set_cons_zero, List.set_cons_succ])
        refine takeH (i := 4) (v := ?_) (d := (some 82)) rfl (by kernel_rfl) (by kernel_rfl) (by kernel_rfl) rfl (fun _ _ _ h => h) (Or.inl ⟨by kernel_rfl, ?_⟩) (by assumption) ?_; rotate_left
        · (intro w hSw; (try dsimp only at hSw); first | (go_simp; done) | (go_simp; with_reducible rfl))
        (try simp only [Act.put, List.setIfInBounds_toArray, List.set_cons_zero, List.set_cons_succ])
        refine takeH (i := 5) (v := ?_) (d := (some 83)) rfl (by kernel_rfl) (by kernel_rfl) (by kernel_rfl) rfl (fun _ _ _ h => h) (Or.inl ⟨by kernel_rfl, ?_⟩) (by assumption) ?_; rotate_left
        · (intro w hSw; (try dsimp only at hSw); first | (go_simp; done) | (go_simp; with_reducible rfl))
        (try simp only [Act.put, List.setIfInBounds_toArray, List.set_cons_zero, List.set_cons_succ])
        refine takeH (i := 6) (v := ?_) (d := (some 84)) rfl (by kernel_rfl) (by kernel_rfl) (by kernel_rfl) rfl (fun _ _ _ h => h) (Or.inl ⟨by kernel_rfl, ?_⟩) (by assumption) ?_; rotate_left
        · (intro w hSw; (try dsimp only at hSw); first | (go_simp; done) | (go_simp; with_reducible rfl))
        (try simp only [Act.put, List.setIfInBounds_toArray, List.set_cons_zero, List.set_cons_succ])
        refine takeH (i := 7) (v := ?_) (d := (some 85)) rfl (by kernel_rfl) (by kernel_rfl) (by kernel_rfl) rfl (fun _ _ _ h => h) (Or.inl ⟨by kernel_rfl, ?_⟩) (by assumption) ?_; rotate_left
        · (intro w hSw; (try dsimp only at hSw); first | (go_simp; done) | (go_simp; with_reducible rfl))
        (try simp only [Act.put, List.setIfInBounds_toArray, List.set_cons_zero, List.set_cons_succ])
        refine takeH (i := 8) (v := ?_) (d := (some 86)) rfl (by kernel_rfl) (by kernel_rfl) (by kernel_rfl) rfl (fun _ _ _ h => h) (Or.inl ⟨by kernel_rfl, ?_⟩) (by assumption) ?_; rotate_left
        · (intro w hSw; (try dsimp only at hSw); first | (go_simp; done) | (go_simp; with_reducible rfl))
        (try simp only [Act.put, List.setIfInBounds_toArray, List.set_cons_zero, List.set_cons_succ])
        refine takeH (i := 9) (v := ?_) (d := (some 87)) rfl (by kernel_rfl) (by kernel_rfl) (by kernel_rfl) rfl (fun _ _ _ h => h) (Or.inl ⟨by kernel_rfl, ?_⟩) (by assumption) ?_; rotate_left
        · (intro w hSw; (try dsimp only at hSw); first | (go_simp; done) | (go_simp; with_reducible rfl))
        (try simp only [Act.put, List.setIfInBounds_toArray, List.set_cons_zero, List.set_cons_succ])
        refine takeH (i := 10) (v := ?_) (d := (some 88)) rfl (by kernel_rfl) (by kernel_rfl) (by kernel_rfl) rfl (fun _ _ _ h => h) (Or.inl ⟨by kernel_rfl, ?_⟩) (by assumption) ?_; rotate_left
        · (intro w hSw; (try dsimp only at hSw); first | (go_simp; done) | (go_simp; with_reducible rfl))
        (try simp only [Act.put, List.setIfInBounds_toArray, List.set_cons_zero, List.set_cons_succ])
        refine takeH (i := 11) (v := ?_) (d := (some 89)) rfl (by kernel_rfl) (by kernel_rfl) (by kernel_rfl) rfl (fun _ _ _ h => h) (Or.inl ⟨by kernel_rfl, ?_⟩) (by assumption) ?_; rotate_left
        · (intro w hSw; (try dsimp only at hSw); have q0 := cell_stay q1 hSw.1; first | (go_simp; done) | (go_simp; with_reducible rfl))
        (try simp only [Act.put, List.setIfInBounds_toArray, List.set_cons_zero, List.set_cons_succ])
        refine takeH (i := 12) (v := ?_) (d := (some 90)) rfl (by kernel_rfl) (by kernel_rfl) (by kernel_rfl) rfl (fun _ _ _ h => h) (Or.inl ⟨by kernel_rfl, ?_⟩) (by assumption) ?_; rotate_left
        · (intro w hSw; (try dsimp only at hSw); have q0 := cell_stay y4 hSw.1; first | (go_simp; done) | (go_simp; with_reducible rfl))
        (try simp only [Act.put, List.setIfInBounds_toArray, List.set_cons_zero, List.set_cons_succ])
        refine takeH (i := 13) (v := ?_) (d := (some 91)) rfl (by kernel_rfl) (by kernel_rfl) (by kernel_rfl) rfl (fun _ _ _ h => h) (Or.inl ⟨by kernel_rfl, ?_⟩) (by assumption) ?_; rotate_left
        · (intro w hSw; (try dsimp only at hSw); first | (go_simp; done) | (go_simp; with_reducible rfl))
        (try simp only [Act.put, List.setIfInBounds_toArray, List.set_cons_zero, List.set_cons_succ])
        refine takeH (i := 14) (v := ?_) (d := (some 92)) rfl (by kernel_rfl) (by kernel_rfl) (by kernel_rfl) rfl (fun _ _ _ h => h) (Or.inl ⟨by kernel_rfl, ?_⟩) (by assumption) ?_; rotate_left
        · (intro w hSw; (try dsimp only at hSw); first | (go_simp; done) | (go_simp; with_reducible rfl))
        (try simp only [Act.put, List.setIfInBounds_toArray, List.set_cons_zero, List.set_cons_succ])
        refine takeH (i := 15) (v := ?_) (d := (some 93)) rfl (by kernel_rfl) (by kernel_rfl) (by kernel_rfl) rfl (fun _ _ _ h => h) (Or.inl ⟨by kernel_rfl, ?_⟩) (by assumption) ?_; rotate_left
        · (intro w hSw; (try dsimp only at hSw); first | (go_simp; done) | (go_simp; with_reducible rfl))
        (try simp only [Act.put, List.setIfInBounds_toArray, List.set_cons_zero, List.set_cons_succ])
        refine takeH (i := 16) (v := ?_) (d := (some 94)) rfl (by kernel_rfl) (by kernel_rfl) (by kernel_rfl) rfl (fun _ _ _ h => h) (Or.inl ⟨by kernel_rfl, ?_⟩) (by assumption) ?_; rotate_left
        · (intro w hSw; (try dsimp only at hSw); first | (go_simp; done) | (go_simp; with_reducible rfl))
        (try simp only [Act.put, List.setIfInBounds_toArray, List.set_cons_zero, List.set_cons_succ])
        refine takeH (i := 17) (v := ?_) (d := (some 95)) rfl (by kernel_rfl) (by kernel_rfl) (by kernel_rfl) rfl (fun _ _ _ h => h) (Or.inl ⟨by kernel_rfl, ?_⟩) (by assumption) ?_; rotate_left
        · (intro w hSw; (try dsimp only at hSw); first | (go_simp; done) | (go_simp; with_reducible rfl))
        (try simp only [Act.put, List.setIfInBounds_toArray, List.set_cons_zero, List.set_cons_succ])
        refine takeH (i := 19) (v := ?_) (d := (some 97)) rfl (by kernel_rfl) (by kernel_rfl) (by kernel_rfl) rfl (fun _ _ _ h => h) (Or.inl ⟨by kernel_rfl, ?_⟩) (by assumption) ?_; rotate_left
        · (intro w hSw; (try dsimp only at hSw); first | (go_simp; done) | (go_simp; with_reducible rfl))
        (try simp only [Act.put, List.setIfInBounds_toArray, List.set_cons_zero, List.set_cons_succ])
        have hcv9 := HCV.out x0
        obtain ⟨cp9, hcp9⟩ : ∃ c, grownCap x0 e 0 5 = c := ⟨_, rfl⟩
        have hc1 : e ≤ cp9 := by rw [← hcp9]; exact grownCap_ge _ _ _ _
        have hc2 : cp9 ≤ maxLen := by rw [← hcp9]; exact grownCap_le_maxLen _ _ _ _ (by unfold maxLen; omega)
        obtain ⟨x1, hx1⟩ : ∃ x, Lib.bytesWorld x0 5 SS = x := ⟨_, rfl⟩
        obtain ⟨B9, hB9⟩ : ∃ B, x0.heap.size = B := ⟨_, rfl⟩
        have hl9 : BC x1 (some ⟨B9, 0, none⟩) e (cL S) := by rw [← hx1, ← hB9, HP.out.str, ← HE.out]; exact conv_cl HP.out.byt
        have Hx1 : Hid (Up w4.heap.size w4 x1) := hHeld.stay (by rw [← hx1]; exact conv_below x0 SS)
        rw [hcp9, hx1, hB9] at hcv9
        have cLt := HLIT.out x1 B9 cp9 Hx1.out hl9 hc1 hc2
        clear hcp9 hx1 hB9 hl9 HLIT
        refine wpAnyH_ready (rs := [18]) (by kernel_rfl) (by simp) (AllReadyH.cons rfl (fun K hK => ?_) AllReadyH.nil)
        (try rw [if_pos (by kernel_rfl)])
        go_simp
        refine hK.out _ _ Hx1.out (fun hHeld' => ?_)
        clear hK K hHeld hHeld' hcv9
        have hHeld := Hx1.out
        clear Hx1
        (try simp only [Act.put, List.setIfInBounds_toArray, List.set_cons_zero, List.set_cons_succ])
        refine wpAnyH_ready (rs := [20]) (by kernel_rfl) (by simp) (AllReadyH.cons rfl (fun K hK => ?_) AllReadyH.nil)
        (try rw [if_pos (by kernel_rfl)])
        go_simp
        refine cLt.mono ?_
        rintro ev x2 ⟨rfl, hb9⟩
        have HU9 : Hid (Up w4.heap.size w4 x2) := hHeld.stay hb9
        clear cLt hb9 hHeld
        go_wp2_with fail
        refine hK.out _ _ HU9.out (fun hHeld => ?_)
        clear hK K
        (try dsimp only at hHeld)
        (try simp only [Act.put, List.setIfInBounds_toArray, List.set_cons_zero, List.set_cons_succ])
        refine takeH (i := 21) (v := ?_) (d := (some 99)) rfl (by kernel_rfl) (by kernel_rfl) (by kernel_rfl) rfl (fun _ _ _ h => h) (Or.inl ⟨by kernel_rfl, ?_⟩) (by assumption) ?_; rotate_left
        · (intro w hSw; (try dsimp only at hSw); first | (go_simp; done) | (go_simp; with_reducible rfl))
        (try simp only [Act.put, List.setIfInBounds_toArray, List.set_cons_zero, List.set_cons_succ])
        refine takeH (i := 22) (v := ?_) (d := (some 100)) rfl (by kernel_rfl) (by kernel_rfl) (by kernel_rfl) rfl (fun _ _ _ h => h) (Or.inl ⟨by kernel_rfl, ?_⟩) (by assumption) ?_; rotate_left
        · (intro w hSw; (try dsimp only at hSw); first | (go_simp; done) | (go_simp; with_reducible rfl))
        (try simp only [Act.put, List.setIfInBounds_toArray, List.set_cons_zero, List.set_cons_succ])
        refine takeH (i := 23) (v := ?_) (d := (some 4)) rfl (by kernel_rfl) (by kernel_rfl) (by kernel_rfl) rfl (fun _ _ _ h => h) (Or.inl ⟨by kernel_rfl, ?_⟩) (by assumption) ?_; rotate_left
        · (intro w hSw; (try dsimp only at hSw); first | (go_simp; done) | (go_simp; with_reducible rfl))
        (try simp only [Act.put, List.setIfInBounds_toArray, List.set_cons_zero, List.set_cons_succ])
        refine wpAnyH_done (by kernel_rfl) ?_ _
        go_wp2
        go_ret
        exact ⟨rfl, (HU4.out.1.stay HU9.out.1).1⟩
    · have ho : okN (n4 : Int) = false := by have := HNN.out; unfold okN; simp; omega
      obtain ⟨u, tl, hRt⟩ := HP.out.no ho
      rw [HRR.out] at hRt
      have cT := text_any HU4.out.2.2 (by have := HR20.out; omega)
      obtain ⟨TS, hTS⟩ : ∃ TS, strOfNums (tU R) = TS := ⟨_, rfl⟩
      have hne : TS.toList.isEmpty = false := by
        have h0 : (TS.toList == (⟨#[]⟩ : ByteArray).toList) = false := by
          rw [← hTS, show (⟨#[]⟩ : ByteArray) = strOfNums [] from rfl, nums_beq (tU_byt R) (fun x hx => by cases hx), hRt, tU_plain (by decide)]
          rfl
        cases h : TS.toList with
        | nil => rw [h, show (⟨#[]⟩ : ByteArray).toList = [] by simp] at h0; simp at h0
        | cons x t => rfl
      have hlen : (1 : Int) < (R.length : Int) := by rw [hRt]; simp; omega
      rw [hTS] at cT
      clear hTS hRt ho
      go_wp2_with fail
      refine cT.mono ?_
      rintro ev w5 ⟨rfl, hb5⟩
      have HU5 : Hid (Up w.heap.size w w5) := HU4.out.1.stay hb5
      clear cT hb5
      go_wp2
      go_ret
      exact ⟨rfl, HU5.out.1⟩
theorem back_u {w : World} (hG : Glb w) {x k : Int} (hx : (Lit.int .u32 x).wf = true) (hk : 0 ≤ k ∧ k < 256) :
    Calls Tryd.prog 6 #[.int .u32 x, .int .u8 k] w fun ev w' => ev = .returned (.bool true) ∧ Below w.heap.size w w' := by
  have hx' : 0 ≤ x ∧ x < 4294967296 := by
    simp only [Lit.wf] at hx
    have e1 : IntKind.u32.min = 0 := by decide
    have e2 : IntKind.u32.max = 4294967295 := by decide
    revert hx
    simp
    omega
  obtain ⟨X, rfl⟩ : ∃ X : Nat, x = (X : Int) := ⟨x.toNat, by omega⟩
  obtain ⟨Y, rfl⟩ : ∃ Y : Nat, k = (Y : Int) := ⟨k.toNat, by omega⟩
  exact back_law hG (by omega)
end Go.Proofs.YtkfgfbdalkifjaaDoor
