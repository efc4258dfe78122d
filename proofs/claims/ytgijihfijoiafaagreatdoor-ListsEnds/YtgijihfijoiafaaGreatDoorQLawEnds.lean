/- ListsEnds. -/
import Derived.Test.YtgijihfijoiafaaGreatDoorQLawFixes
import Derived.Test.YtgijihfijoiafaaGreatDoorQRowS
namespace Go.Proofs.YtgijihfijoiafaaGreatDoor
set_option linter.unusedVariables false
open Go.RowKit Go.ChangeShapes
theorem bsl_cells {w : World} {vd : Option Addr} {n vc : Nat} {s : ByteArray} (h : Lns.BSl w (.slice vd n vc) s) : 0 < s.size → ∃ b off, vd = some ⟨b, off, none⟩ ∧ ∀ j, (hj : j < s.data.toList.length) → w.cell? ⟨b, off + j, none⟩ = some (.int .u8 (s.data.toList[j]).toNat) := by
  intro h0
  rcases h with ⟨ad, c, he, hz⟩ | ⟨b, off, cap, he, _, _, hb⟩
  · omega
  · cases he
    refine ⟨b, off, rfl, fun j hj => ?_⟩
    have hj' : j < s.size := by simpa using hj
    rw [hb j hj']
    have e : s.get! j = s.data.toList[j] := by
      show s.data[j]! = _
      rw [getElem!_pos s.data j hj']
      simp
    rw [e]
theorem cE_take (l : List UInt8) (i : Nat) (h : i < l.length) : cE (l.take (i + 1)) = cE (l.take i) ++ cE1 l[i] := by
  rw [List.take_succ_eq_append_getElem h, cE_app]
  simp [cE]
theorem dE_take (l : List UInt8) (i : Nat) (h : i < l.length) : dE (l.take (i + 1)) = dE (l.take i) ++ [fE l[i]] := by
  unfold dE
  rw [List.take_succ_eq_append_getElem h, List.map_append]
  rfl
theorem fE_13 : fE 13 = 32 := by decide
theorem fE_35 : fE 35 = 32 := by decide
theorem cE1_13 : cE1 13 = [32] := by decide
theorem cE1_35 : cE1 35 = [32] := by decide
theorem cE1_10 : cE1 10 = sfE ++ [10] := by decide
theorem fE_else {x : UInt8} (h1 : ¬ x = 13) (h2 : ¬ x = 35) : fE x = x := by unfold fE; rw [if_neg (by rintro (h | h); exact h1 h; exact h2 h)]
theorem cE1_else {x : UInt8} (h1 : ¬ x = 13) (h2 : ¬ x = 35) (h3 : ¬ x = 10) : cE1 x = [x] := by unfold cE1; rw [fE_else h1 h2, if_neg h3]
theorem u8_ne {x : UInt8} {k : UInt8} {n : Int} (h : ¬ x = k) (hk : (k.toNat : Int) = n) : ¬ (x.toNat : Int) = n := by
  intro e
  apply h
  apply UInt8.toNat_inj.1
  omega
theorem fstep_nodup (st : FSt) (r : ByteArray) (h : (st.1.map Prod.fst).Nodup) : ((fstep st r).1.1.map Prod.fst).Nodup := by
  unfold fstep
  split
  · exact h
  · split
    · exact h
    · split
      · exact h
      · rename_i h1 h2 h3
        rw [List.map_append]
        refine List.nodup_append.2 ⟨h, by simp, ?_⟩
        intro a ha b hb e
        simp at hb
        exact h2 (by rw [← hb, ← e]; exact ha)
set_option maxRecDepth 100000 in
set_option maxHeartbeats 4000000 in
theorem ends_law (s : ByteArray) (v : Value) (fx : Bool) (m : Int) (w : World) (hs : s.size ≤ maxLen) (hT : Tabs w) (hm : w.cell? ⟨3, 0, none⟩ = some (.int .i64 m)) (hE : Ety w) (hb : Lns.BSl w v s) :
    Calls Tryz.prog 10 #[v, .bool fx] w fun e w' => e = .returned (.bool true) ∧ Below w.heap.size w w' := by
  have ca := awake_any m w hT hm
  have HT : Hid (Tabs w) := hT
  have HM : Hid (w.cell? ⟨3, 0, none⟩ = some (.int .i64 m)) := hm
  have HE : Hid (Ety w) := hE
  have HB : Hid (Lns.BSl w v s) := hb
  obtain ⟨vd, vc, rfl⟩ := hb.form
  clear hT hm hE hb
  obtain ⟨i0, hi, hz0, hz1, hz2⟩ := info_parts info5
  go_enter Tryz.func10, Tryz.ntmps10
  go_wp2_with fail
  refine ca.mono ?_
  rintro e w1 ⟨rfl, hb1⟩
  have HU1 : Hid (Up w.heap.size w w1) := (Up.refl w).stay hb1
  clear ca hb1
  by_cases h6 : 1000 < s.size
  · have h6' : (1000 : Int) < (s.size : Int) := by omega
    go_wp2
    go_ret
    exact ⟨rfl, HU1.out.1⟩
  · have h6' : ¬ (1000 : Int) < (s.size : Int) := by omega
    have HBC := bsl_cells (HB.out.stay HU1.out.1)
    have hll : s.data.toList.length = s.size := by simp
    have HEL := ends_lines s.data.toList (by omega)
    have HCL := cE_len s.data.toList
    have HDL : (dE s.data.toList).length = s.data.toList.length := by simp [dE]
    obtain ⟨l, hl⟩ : ∃ l, s.data.toList = l := ⟨_, rfl⟩
    obtain ⟨N, hN⟩ : ∃ N, s.size = N := ⟨_, rfl⟩
    rw [hl] at HBC hll HEL HCL HDL
    rw [hN] at HBC hll h6 h6' ⊢
    have HBB : Hid (0 < N → ∃ b off, vd = some ⟨b, off, none⟩ ∧ ∀ j, (hj : j < l.length) → w1.cell? ⟨b, off + j, none⟩ = some (.int .u8 (l[j]).toNat)) := HBC
    have HLL : Hid (l.length = N) := hll
    have HEE : Hid ((linesL (bA (cE l))).map rowB = (linesL (bA (dE l))).map rowB ∧ longL (linesL (bA (cE l))) 0 = 0 ∧ longL (linesL (bA (dE l))) 0 = 0 ∧ (cE l).length ≤ 12 * l.length ∧ (dE l).length = l.length) := ⟨HEL.1, HEL.2.1, HEL.2.2, HCL, HDL⟩
    clear HBC hll HEL HCL HDL hl hN HB hs
    go_wp2_with fail
    go_loopg [5, 6, 27] (N) (fun gh cv nv iv wr => ∃ i k : Nat, i ≤ N ∧ gh = N - i ∧ iv = .int .i64 i ∧ nv = .int .i64 k ∧ k ≤ i ∧ Hid (OB wr w1.heap.size cv (cE (l.take i))) ∧ Hid (Up w1.heap.size w1 wr))
    case atStart => exact ⟨0, 0, Nat.zero_le _, rfl, rfl, rfl, Nat.le_refl _, OB.nil _ _, Up.refl w1⟩
    case round =>
      obtain ⟨i, k, hiN, hgh, rfl, rfl, hki, HO, HU⟩ := hrel
      obtain ⟨wR, hwR⟩ : ∃ wR, wR = wr := ⟨_, rfl⟩
      rw [← hwR] at HO HU ⊢
      clear hwR
      by_cases hlt : i < N
      · have hli : i < l.length := by rw [HLL.out]; exact hlt
        obtain ⟨b, off, rfl, hcs⟩ := HBB.out (by omega)
        have z0 : (0 : Int) ≤ (i : Int) := by omega
        have z1 : (i : Int) < (N : Int) := by omega
        have hcx := cell_keep (hcs i hli) HU.out.1
        have hlen : (cE (l.take i)).length ≤ 12000 := by
          have h1 := cE_len (l.take i)
          rw [List.length_take] at h1
          omega
        have hct := cE_take l i hli
        generalize l[i] = x at hcx hct
        have HCT : Hid (cE (l.take (i + 1)) = cE (l.take i) ++ cE1 x) := hct
        clear hct hcs hli
        generalize cE (l.take i) = C at HO hlen HCT
        rcases Classical.em (x = 13) with hx | hx13
        · subst hx
          have hcx' : wR.cell? ⟨b, off + i, none⟩ = some (.int .u8 13) := hcx
          clear hcx
          go_wp2_with (at_builtin; refine wpList_append_own _ rfl _ _ 27 rfl w1.heap.size 5 i0 _ 1 1 Tryz.underlying27 hi hz0 hz1 hz2 rfl (by decide) _ _ _ rfl (World.ownsRow.alloc HO.out _) ⟨wR.heap.size, 0, none⟩ 1 1 [.int .u8 32] rfl rfl (Lns.one_new _ _ _) (Lns.one_one _ rfl) (by unfold maxLen; omega) (by omega) (by have := HU.out.2; simp only [World.size_alloc]; omega) ?_)
          intro vA wA hoA hgA hnil
          have HOA : Hid (OB wA w1.heap.size vA (C ++ [32])) := OB.one hoA
          have HUA : Hid (Up w1.heap.size w1 wA) := (HU.out.alloc _).grown hgA (own_base HO.out)
          clear hoA hgA hnil
          have HO2 : Hid (OB wA w1.heap.size vA (cE (l.take (i + 1)))) := by show OB _ _ _ _; rw [HCT.out, cE1_13]; exact HOA.out
          clear HO HU HOA
          go_wp2
          go_roundg (N - (i + 1))
          case measure => omega
          case rel => exact ⟨i + 1, k, by omega, rfl, by go_num, by go_num, by omega, HO2, HUA⟩
        · rcases Classical.em (x = 35) with hx | hx35
          · subst hx
            have hcx' : wR.cell? ⟨b, off + i, none⟩ = some (.int .u8 35) := hcx
            clear hcx
            go_wp2_with (at_builtin; refine wpList_append_own _ rfl _ _ 27 rfl w1.heap.size 5 i0 _ 1 1 Tryz.underlying27 hi hz0 hz1 hz2 rfl (by decide) _ _ _ rfl (World.ownsRow.alloc HO.out _) ⟨wR.heap.size, 0, none⟩ 1 1 [.int .u8 32] rfl rfl (Lns.one_new _ _ _) (Lns.one_one _ rfl) (by unfold maxLen; omega) (by omega) (by have := HU.out.2; simp only [World.size_alloc]; omega) ?_)
            intro vA wA hoA hgA hnil
            have HOA : Hid (OB wA w1.heap.size vA (C ++ [32])) := OB.one hoA
            have HUA : Hid (Up w1.heap.size w1 wA) := (HU.out.alloc _).grown hgA (own_base HO.out)
            clear hoA hgA hnil
            have HO2 : Hid (OB wA w1.heap.size vA (cE (l.take (i + 1)))) := by show OB _ _ _ _; rw [HCT.out, cE1_35]; exact HOA.out
            clear HO HU HOA
            go_wp2
            go_roundg (N - (i + 1))
            case measure => omega
            case rel => exact ⟨i + 1, k, by omega, rfl, by go_num, by go_num, by omega, HO2, HUA⟩
          · rcases Classical.em (x = 10) with hx | hx10
            · subst hx
              have hcx' : wR.cell? ⟨b, off + i, none⟩ = some (.int .u8 10) := hcx
              clear hcx
              go_wp2_with (at_builtin; refine app_text rfl _ _ 27 9 rfl w1.heap.size i0 Tryz.underlying27 Tryz.underlying9 hi hz0 hz1 hz2 _ C rfl HO.out ⟨#[32, 9, 35, 32, 97, 32, 45, 62, 32, 98, 13]⟩ rfl ?c1 HU.out.2 ?_)
              case c1 =>
                show C.length + 11 ≤ _
                omega
              intro vS wS hoS hgS
              have HOS : Hid (OB wS w1.heap.size vS (C ++ sfE)) := hoS
              have HUS : Hid (Up w1.heap.size w1 wS) := HU.out.grown hgS (own_base HO.out)
              have hlenS : (C ++ sfE).length ≤ 12100 := by rw [List.length_append]; show C.length + 11 ≤ _; omega
              obtain ⟨C2, hC2⟩ : ∃ C2, C ++ sfE = C2 := ⟨_, rfl⟩
              rw [hC2] at HOS hlenS
              have HC2 : Hid (C ++ sfE = C2) := hC2
              clear hoS hgS HO HU hC2
              go_wp2_with (at_builtin; refine wpList_append_own _ rfl _ _ 27 rfl w1.heap.size 5 i0 _ 1 1 Tryz.underlying27 hi hz0 hz1 hz2 rfl (by decide) _ _ _ rfl (World.ownsRow.alloc HOS.out _) ⟨wS.heap.size, 0, none⟩ 1 1 [.int .u8 10] rfl rfl (Lns.one_new _ _ _) (Lns.one_one _ rfl) (by unfold maxLen; omega) (by omega) (by have := HUS.out.2; simp only [World.size_alloc]; omega) ?_)
              intro vA wA hoA hgA hnil
              have HOA : Hid (OB wA w1.heap.size vA (C2 ++ [10])) := OB.one hoA
              have HUA : Hid (Up w1.heap.size w1 wA) := (HUS.out.alloc _).grown hgA (own_base HOS.out)
              clear hoA hgA hnil
              have HO2 : Hid (OB wA w1.heap.size vA (cE (l.take (i + 1)))) := by show OB _ _ _ _; rw [HCT.out, cE1_10, ← List.append_assoc, HC2.out]; exact HOA.out
              clear HOS HUS HOA
              go_wp2
              go_roundg (N - (i + 1))
              case measure => omega
              case rel => exact ⟨i + 1, k + 1, by omega, rfl, by go_num, by go_num, by omega, HO2, HUA⟩
            · have h13 := u8_ne (n := 13) hx13 rfl
              have h35 := u8_ne (n := 35) hx35 rfl
              have h10 := u8_ne (n := 10) hx10 rfl
              have HC1 : Hid (cE1 x = [x]) := cE1_else hx13 hx35 hx10
              clear hx13 hx35 hx10
              obtain ⟨xn, hxn⟩ : ∃ xn : Int, (x.toNat : Int) = xn := ⟨_, rfl⟩
              rw [hxn] at hcx h13 h35 h10
              have b13 : (xn == 13) = false := by simpa using h13
              have b35 : (xn == 35) = false := by simpa using h35
              have b10 : (xn == 10) = false := by simpa using h10
              have HXN : Hid ((x.toNat : Int) = xn) := hxn
              clear hxn
              go_wp2_with (at_builtin; refine wpList_append_own _ rfl _ _ 27 rfl w1.heap.size 5 i0 _ 1 1 Tryz.underlying27 hi hz0 hz1 hz2 rfl (by decide) _ _ _ rfl (World.ownsRow.alloc HO.out _) ⟨wR.heap.size, 0, none⟩ 1 1 [.int .u8 xn] rfl rfl (Lns.one_new _ _ _) (Lns.one_one _ rfl) (by unfold maxLen; omega) (by omega) (by have := HU.out.2; simp only [World.size_alloc]; omega) ?_)
              intro vA wA hoA hgA hnil
              have HOA : Hid (OB wA w1.heap.size vA (C ++ [x])) := OB.one (by show World.ownsRow _ _ _ _ _ _ _; rw [show u8c x = .int .u8 xn from congrArg _ HXN.out]; exact hoA)
              have HUA : Hid (Up w1.heap.size w1 wA) := (HU.out.alloc _).grown hgA (own_base HO.out)
              clear hoA hgA hnil
              have HO2 : Hid (OB wA w1.heap.size vA (cE (l.take (i + 1)))) := by show OB _ _ _ _; rw [HCT.out, HC1.out]; exact HOA.out
              clear HO HU HOA
              go_wp2
              go_roundg (N - (i + 1))
              case measure => omega
              case rel => exact ⟨i + 1, k, by omega, rfl, by go_num, by go_num, by omega, HO2, HUA⟩
      · obtain rfl : i = N := by omega
        have HOC : Hid (OB wR w1.heap.size u5 (cE l)) := by
          have h := HO.out
          rw [show l.take i = l from by rw [← HLL.out]; exact List.take_length] at h
          exact h
        obtain ⟨ca', cc', hcf⟩ := OB.form HOC.out
        subst hcf
        clear HO
        go_wp2_with fail
        go_loopg [9, 50] (i) (fun gh dv iv wr => ∃ j : Nat, j ≤ i ∧ gh = i - j ∧ iv = .int .i64 j ∧ Hid (OB wr wR.heap.size dv (dE (l.take j))) ∧ Hid (Up wR.heap.size wR wr))
        case atStart => exact ⟨0, Nat.zero_le _, rfl, rfl, OB.nil _ _, Up.refl wR⟩
        case round =>
          obtain ⟨j, hjN, hgh2, rfl, HOD, HUD⟩ := hrel
          obtain ⟨wT, hwT⟩ : ∃ wT, wT = wr := ⟨_, rfl⟩
          rw [← hwT] at HOD HUD ⊢
          clear hwT
          by_cases hlt : j < i
          · have hlj : j < l.length := by rw [HLL.out]; exact hlt
            obtain ⟨b, off, rfl, hcs⟩ := HBB.out (by omega)
            have z0 : (0 : Int) ≤ (j : Int) := by omega
            have z1 : (j : Int) < (i : Int) := by omega
            have hcx := cell_keep (cell_keep (hcs j hlj) HU.out.1) HUD.out.1
            have hlen : (dE (l.take j)).length ≤ 12000 := by simp [dE]; omega
            have hct := dE_take l j hlj
            generalize l[j] = x at hcx hct
            have HCT : Hid (dE (l.take (j + 1)) = dE (l.take j) ++ [fE x]) := hct
            clear hct hcs hlj
            generalize dE (l.take j) = C at HOD hlen HCT
            rcases Classical.em (x = 13) with hx | hx13
            · subst hx
              have hcx' : wT.cell? ⟨b, off + j, none⟩ = some (.int .u8 13) := hcx
              clear hcx
              go_wp2_with (at_builtin; refine wpList_append_own _ rfl _ _ 27 rfl wR.heap.size 5 i0 _ 1 1 Tryz.underlying27 hi hz0 hz1 hz2 rfl (by decide) _ _ _ rfl (World.ownsRow.alloc HOD.out _) ⟨wT.heap.size, 0, none⟩ 1 1 [.int .u8 32] rfl rfl (Lns.one_new _ _ _) (Lns.one_one _ rfl) (by unfold maxLen; omega) (by omega) (by have := HUD.out.2; simp only [World.size_alloc]; omega) ?_)
              intro vA wA hoA hgA hnil
              have HOA : Hid (OB wA wR.heap.size vA (C ++ [32])) := OB.one hoA
              have HUA : Hid (Up wR.heap.size wR wA) := (HUD.out.alloc _).grown hgA (own_base HOD.out)
              clear hoA hgA hnil
              have HO2 : Hid (OB wA wR.heap.size vA (dE (l.take (j + 1)))) := by show OB _ _ _ _; rw [HCT.out, fE_13]; exact HOA.out
              clear HOD HUD HOA
              go_wp2
              go_roundg (i - (j + 1))
              case measure => omega
              case rel => exact ⟨j + 1, by omega, rfl, by go_num, HO2, HUA⟩
            · rcases Classical.em (x = 35) with hx | hx35
              · subst hx
                have hcx' : wT.cell? ⟨b, off + j, none⟩ = some (.int .u8 35) := hcx
                clear hcx
                go_wp2_with (at_builtin; refine wpList_append_own _ rfl _ _ 27 rfl wR.heap.size 5 i0 _ 1 1 Tryz.underlying27 hi hz0 hz1 hz2 rfl (by decide) _ _ _ rfl (World.ownsRow.alloc HOD.out _) ⟨wT.heap.size, 0, none⟩ 1 1 [.int .u8 32] rfl rfl (Lns.one_new _ _ _) (Lns.one_one _ rfl) (by unfold maxLen; omega) (by omega) (by have := HUD.out.2; simp only [World.size_alloc]; omega) ?_)
                intro vA wA hoA hgA hnil
                have HOA : Hid (OB wA wR.heap.size vA (C ++ [32])) := OB.one hoA
                have HUA : Hid (Up wR.heap.size wR wA) := (HUD.out.alloc _).grown hgA (own_base HOD.out)
                clear hoA hgA hnil
                have HO2 : Hid (OB wA wR.heap.size vA (dE (l.take (j + 1)))) := by show OB _ _ _ _; rw [HCT.out, fE_35]; exact HOA.out
                clear HOD HUD HOA
                go_wp2
                go_roundg (i - (j + 1))
                case measure => omega
                case rel => exact ⟨j + 1, by omega, rfl, by go_num, HO2, HUA⟩
              · have h13 := u8_ne (n := 13) hx13 rfl
                have h35 := u8_ne (n := 35) hx35 rfl
                have HC1 : Hid (fE x = x) := fE_else hx13 hx35
                clear hx13 hx35
                obtain ⟨xn, hxn⟩ : ∃ xn : Int, (x.toNat : Int) = xn := ⟨_, rfl⟩
                rw [hxn] at hcx h13 h35
                have b13 : (xn == 13) = false := by simpa using h13
                have b35 : (xn == 35) = false := by simpa using h35
                have HXN : Hid ((x.toNat : Int) = xn) := hxn
                clear hxn
                go_wp2_with (at_builtin; refine wpList_append_own _ rfl _ _ 27 rfl wR.heap.size 5 i0 _ 1 1 Tryz.underlying27 hi hz0 hz1 hz2 rfl (by decide) _ _ _ rfl (World.ownsRow.alloc HOD.out _) ⟨wT.heap.size, 0, none⟩ 1 1 [.int .u8 xn] rfl rfl (Lns.one_new _ _ _) (Lns.one_one _ rfl) (by unfold maxLen; omega) (by omega) (by have := HUD.out.2; simp only [World.size_alloc]; omega) ?_)
                intro vA wA hoA hgA hnil
                have HOA : Hid (OB wA wR.heap.size vA (C ++ [x])) := OB.one (by show World.ownsRow _ _ _ _ _ _ _; rw [show u8c x = .int .u8 xn from congrArg _ HXN.out]; exact hoA)
                have HUA : Hid (Up wR.heap.size wR wA) := (HUD.out.alloc _).grown hgA (own_base HOD.out)
                clear hoA hgA hnil
                have HO2 : Hid (OB wA wR.heap.size vA (dE (l.take (j + 1)))) := by show OB _ _ _ _; rw [HCT.out, HC1.out]; exact HOA.out
                clear HOD HUD HOA
                go_wp2
                go_roundg (i - (j + 1))
                case measure => omega
                case rel => exact ⟨j + 1, by omega, rfl, by go_num, HO2, HUA⟩
          · obtain rfl : j = i := by omega
            have HOD2 : Hid (OB wT wR.heap.size u9 (dE l)) := by
              have h := HOD.out
              rw [show l.take j = l from by rw [← HLL.out]; exact List.take_length] at h
              exact h
            have HOC2 : Hid (OB wT w1.heap.size (.slice ca' (cE l).length cc') (cE l)) := HOC.out.stay HUD.out.1
            have HU3 : Hid (Up w.heap.size w wT) := (HU1.out.stay HU.out.1).stay HUD.out.1
            obtain ⟨da, dc, hdf⟩ := OB.form HOD2.out
            subst hdf
            have hcl := HEE.out.2.2.2.1
            have hdl := HEE.out.2.2.2.2
            have hlN := HLL.out
            have hsC : (bA (cE l)).size ≤ 40000 := by rw [bA_size]; omega
            have hsD : (bA (dE l)).size ≤ 40000 := by rw [bA_size]; omega
            have HSC : Hid (Lns.BSl wT (.slice ca' (cE l).length cc') (bA (cE l))) := HOC2.out.bsl
            have HSD : Hid (Lns.BSl wT (.slice da (dE l).length dc) (bA (dE l))) := HOD2.out.bsl
            have HRW : Hid (runR wstep (linesL (bA (cE l))) 0 ⟨0, []⟩ = runR wstep (linesL (bA (dE l))) 0 ⟨0, []⟩) := runR_rows _ _ _ _ _ HEE.out.1
            have HRF : Hid (runR fstep (linesL (bA (cE l))) 0 ([], false) = runR fstep (linesL (bA (dE l))) 0 ([], false)) := runR_rows _ _ _ _ _ HEE.out.1
            have HLC : Hid (longL (linesL (bA (cE l))) 0 = 0) := HEE.out.2.1
            have HLD : Hid (longL (linesL (bA (dE l))) 0 = 0) := HEE.out.2.2.1
            have HND : Hid (((runR fstep (linesL (bA (dE l))) 0 ([], false)).1.1.map Prod.fst).Nodup) := runR_keeps fstep (fun st => (st.1.map Prod.fst).Nodup) fstep_nodup _ _ _ List.nodup_nil
            clear HOC HOD HU HUD HOD2 HOC2 HEE HBB HLL hcl hdl
            generalize bA (cE l) = C at hsC HSC HRW HRF HLC
            generalize bA (dE l) = D at hsD HSD HRW HRF HLD HND
            generalize (cE l).length = cn at *
            generalize (dE l).length = dn at *
            have tT := tabs_up HT.out HU3.out.1
            have hmm := (HU3.out.1.cell (World.block_lt_of_cell? w _ HM.out)).trans HM.out
            have HTT : Hid (Tabs wT ∧ wT.cell? ⟨3, 0, none⟩ = some (.int .i64 m) ∧ Ety wT) := ⟨tT, hmm, HE.out.stay HU3.out.1⟩
            clear tT hmm HT HM HE
            cases fx
            · have c1 := words_run C _ m wT hsC HTT.out.1 HSC.out HTT.out.2.1 HLC.out
              go_wp2_with fail
              refine c1.mono ?_
              rintro e wX ⟨st, c, ln, hrun, hbX, ⟨rfl, u, rfl, hou⟩ | ⟨hc, bX, rfl, hlie⟩⟩
              · have HUX : Hid (Up w.heap.size w wX) := HU3.out.stay hbX
                have c2 := words_run D _ m wX hsD (tabs_up HTT.out.1 hbX) (HSD.out.stay hbX) ((hbX.cell (World.block_lt_of_cell? wT _ HTT.out.2.1)).trans HTT.out.2.1) HLD.out
                have HRN : Hid (runR wstep (linesL D) 0 ⟨0, []⟩ = (st, 0, ln)) := by show _ = _; rw [← HRW.out]; exact hrun
                have HOU : Hid (wX.ownsRow wT.heap.size 9 1 u st.L.length ((srt st.L).map Value.string)) := hou
                obtain ⟨ua, uc, huf⟩ := own_form hou
                subst huf
                clear c1 hbX hrun hou
                go_wp2_with fail
                refine c2.mono ?_
                rintro e wY ⟨st', c', ln', hrun', hbY, ⟨rfl, u', rfl, hou'⟩ | ⟨hc', bY, rfl, hlie'⟩⟩
                · have he := hrun'.symm.trans HRN.out
                  cases he
                  have HUY : Hid (Up w.heap.size w wY) := HUX.out.stay hbY
                  have cs := rsame_any (srt st.L) wT.heap.size wX.heap.size _ u' wY (by rw [srt_len]; exact own_stay HOU.out hbY) (by rw [srt_len]; exact hou')
                  obtain ⟨ua', uc', huf'⟩ := own_form hou'
                  subst huf'
                  clear c2 hbY hou' hrun'
                  go_wp2_with fail
                  refine cs.mono ?_
                  rintro e wZ ⟨rfl, hbZ⟩
                  have HUZ : Hid (Up w.heap.size w wZ) := HUY.out.stay hbZ
                  clear cs hbZ
                  go_wp2_with fail
                  refine (code_nil _).mono ?_
                  rintro e w5 ⟨rfl, hb5⟩
                  have HU5 : Hid (Up w.heap.size w w5) := HUZ.out.stay hb5
                  clear hb5
                  go_wp2_with fail
                  refine (code_nil _).mono ?_
                  rintro e w6 ⟨rfl, hb6⟩
                  have HU6 : Hid (Up w.heap.size w w6) := HU5.out.stay hb6
                  clear hb6
                  go_wp2_with fail
                  refine (line_nil _).mono ?_
                  rintro e w7 ⟨rfl, hb7⟩
                  have HU7 : Hid (Up w.heap.size w w7) := HU6.out.stay hb7
                  clear hb7
                  go_wp2_with fail
                  refine (line_nil _).mono ?_
                  rintro e w8 ⟨rfl, hb8⟩
                  have HU8 : Hid (Up w.heap.size w w8) := HU7.out.stay hb8
                  clear hb8
                  have hkn : (k : Int) ≤ (j : Int) := by omega
                  go_wp2
                  go_ret
                  exact ⟨rfl, HU8.out.1⟩
                · have he := hrun'.symm.trans HRN.out
                  cases he
                  exact absurd rfl hc'
              · have HUX : Hid (Up w.heap.size w wX) := HU3.out.stay hbX
                have c2 := words_run D _ m wX hsD (tabs_up HTT.out.1 hbX) (HSD.out.stay hbX) ((hbX.cell (World.block_lt_of_cell? wT _ HTT.out.2.1)).trans HTT.out.2.1) HLD.out
                have HRN : Hid (runR wstep (linesL D) 0 ⟨0, []⟩ = (st, c, ln)) := by show _ = _; rw [← HRW.out]; exact hrun
                have HLI : Hid (Lie wX [⟨bX, nmW, ln⟩] c) := hlie
                have HEX : Hid (Ety wX) := HTT.out.2.2.stay hbX
                obtain ⟨T1, v1, hv1⟩ := val_shape [⟨bX, nmW, (ln : Int)⟩] c
                have HV1 : Hid (_ = _) := hv1
                rw [hv1]
                clear c1 hbX hrun hlie hv1
                go_wp2_with fail
                refine c2.mono ?_
                rintro e wY ⟨st', c', ln', hrun', hbY, ⟨rfl, u', rfl, hou'⟩ | ⟨hc', bY, rfl, hlie'⟩⟩
                · have he := hrun'.symm.trans HRN.out
                  cases he
                  exact absurd rfl hc
                · have he := hrun'.symm.trans HRN.out
                  cases he
                  have HUY : Hid (Up w.heap.size w wY) := HUX.out.stay hbY
                  have HLX : Hid (Lie wY [⟨bX, nmW, ln⟩] c) := HLI.out.stay hbY
                  have HLY : Hid (Lie wY [⟨bY, nmW, ln⟩] c) := hlie'
                  have HEY : Hid (Ety wY) := HEX.out.stay hbY
                  obtain ⟨T2, v2, hv2⟩ := val_shape [⟨bY, nmW, (ln : Int)⟩] c
                  have HV2 : Hid (_ = _) := hv2
                  rw [hv2]
                  have HLN : Hid (lin [⟨bX, nmW, (ln : Int)⟩] = lin [⟨bY, nmW, (ln : Int)⟩]) := rfl
                  clear c2 hbY hrun' hlie' hv2
                  go_wp2_with fail
                  refine (rsame_zero none none 0 0 _).mono ?_
                  rintro e wZ ⟨rfl, hwZ⟩
                  subst wZ
                  have k1 := code_any [⟨bX, nmW, ln⟩] c wY (by simp) HLX.out HEY.out
                  rw [HV1.out] at k1
                  go_wp2_with fail
                  refine k1.mono ?_
                  rintro e w5 ⟨rfl, hb5⟩
                  have HB5 : Hid (Below wY.heap.size wY w5) := hb5
                  clear hb5 k1
                  have k2 := code_any [⟨bY, nmW, ln⟩] c w5 (by simp) (HLY.out.stay HB5.out) (HEY.out.stay HB5.out)
                  rw [HV2.out] at k2
                  go_wp2_with fail
                  refine k2.mono ?_
                  rintro e w6 ⟨rfl, hb6⟩
                  have HB6 : Hid (Below wY.heap.size wY w6) := HB5.out.trans (hb6.mono HB5.out.size)
                  clear hb6 k2 HB5
                  have k3 := line_any [⟨bX, nmW, ln⟩] c w6 (by simp) (HLX.out.stay HB6.out) (HEY.out.stay HB6.out)
                  rw [HV1.out, HLN.out] at k3
                  have k4 := fun w' (hb : Below w6.heap.size w6 w') => line_any [⟨bY, nmW, ln⟩] c w' (by simp) ((HLY.out.stay HB6.out).stay hb) ((HEY.out.stay HB6.out).stay hb)
                  rw [HV2.out] at k4
                  generalize lin [⟨bY, nmW, (ln : Int)⟩] = z at k3 k4
                  go_wp2_with fail
                  refine k3.mono ?_
                  rintro e w7 ⟨rfl, hb7⟩
                  have HB7 : Hid (Below w6.heap.size w6 w7) := hb7
                  clear hb7 k3
                  go_wp2_with fail
                  refine (k4 w7 HB7.out).mono ?_
                  rintro e w8 ⟨rfl, hb8⟩
                  have HB8 : Hid (Below w6.heap.size w6 w8) := HB7.out.trans (hb8.mono HB7.out.size)
                  clear hb8 k4 HB7
                  have hkn : (k : Int) ≤ (j : Int) := by omega
                  go_wp2
                  go_ret
                  exact ⟨rfl, (HUY.out.stay (HB6.out.trans (HB8.out.mono HB6.out.size))).1⟩
            · have c1 := fixes_run C _ m wT hsC HTT.out.1 HSC.out HTT.out.2.1 HLC.out
              go_wp2_with fail
              refine c1.mono ?_
              rintro e wX ⟨st, c, ln, hrun, hbX, ⟨rfl, u, ys, rfl, hou, hpm, hri, hto⟩ | ⟨hc, bX, rfl, hlie⟩⟩
              · have HUX : Hid (Up w.heap.size w wX) := HU3.out.stay hbX
                have c2 := fixes_run D _ m wX hsD (tabs_up HTT.out.1 hbX) (HSD.out.stay hbX) ((hbX.cell (World.block_lt_of_cell? wT _ HTT.out.2.1)).trans HTT.out.2.1) HLD.out
                have HRN : Hid (runR fstep (linesL D) 0 ([], false) = (st, 0, ln)) := by show _ = _; rw [← HRF.out]; exact hrun
                have HOU : Hid (wX.ownsRow wT.heap.size 49 2 u ys.length (fcells ys) ∧ (ys.map Fx.p).Perm st.1 ∧ Rise ys ∧ ∀ x ∈ ys, wX.ownsRow wT.heap.size 9 1 x.v x.l.length (x.l.map Value.string)) := ⟨hou, hpm, hri, hto⟩
                obtain ⟨ua, uc, huf⟩ := own_form hou
                subst huf
                clear c1 hbX hrun hou hpm hri hto
                go_wp2_with fail
                refine c2.mono ?_
                rintro e wY ⟨st', c', ln', hrun', hbY, ⟨rfl, u', zs, rfl, hou', hpm', hri', hto'⟩ | ⟨hc', bY, rfl, hlie'⟩⟩
                · have he := hrun'.symm.trans HRN.out
                  cases he
                  have HUY : Hid (Up w.heap.size w wY) := HUX.out.stay hbY
                  have hnd : (st.1.map Prod.fst).Nodup := by have h := HND.out; rw [HRN.out] at h; exact h
                  have hrz : RiseK Fx.f zs := rise_weak (f := Fx.f) hri' (by have h := (hpm'.map Prod.fst).nodup_iff.2 hnd; rw [List.map_map] at h; exact h)
                  have cs := rsamef_any ys zs wT.heap.size wX.heap.size _ u' wY (fx_pairs HOU.out.2.1 hpm' HOU.out.2.2.1 hrz) (own_stay HOU.out.1 hbY) hou' (fun x hx => own_stay (HOU.out.2.2.2 x hx) hbY) hto'
                  obtain ⟨ua', uc', huf'⟩ := own_form hou'
                  subst huf'
                  clear c2 hbY hou' hrun' hpm' hri' hto' hrz hnd
                  go_wp2_with fail
                  refine cs.mono ?_
                  rintro e wZ ⟨rfl, hbZ⟩
                  have HUZ : Hid (Up w.heap.size w wZ) := HUY.out.stay hbZ
                  clear cs hbZ
                  go_wp2_with fail
                  refine (code_nil _).mono ?_
                  rintro e w5 ⟨rfl, hb5⟩
                  have HU5 : Hid (Up w.heap.size w w5) := HUZ.out.stay hb5
                  clear hb5
                  go_wp2_with fail
                  refine (code_nil _).mono ?_
                  rintro e w6 ⟨rfl, hb6⟩
                  have HU6 : Hid (Up w.heap.size w w6) := HU5.out.stay hb6
                  clear hb6
                  go_wp2_with fail
                  refine (line_nil _).mono ?_
                  rintro e w7 ⟨rfl, hb7⟩
                  have HU7 : Hid (Up w.heap.size w w7) := HU6.out.stay hb7
                  clear hb7
                  go_wp2_with fail
                  refine (line_nil _).mono ?_
                  rintro e w8 ⟨rfl, hb8⟩
                  have HU8 : Hid (Up w.heap.size w w8) := HU7.out.stay hb8
                  clear hb8
                  go_wp2
                  go_ret
                  exact ⟨rfl, HU8.out.1⟩
                · have he := hrun'.symm.trans HRN.out
                  cases he
                  exact absurd rfl hc'
              · have HUX : Hid (Up w.heap.size w wX) := HU3.out.stay hbX
                have c2 := fixes_run D _ m wX hsD (tabs_up HTT.out.1 hbX) (HSD.out.stay hbX) ((hbX.cell (World.block_lt_of_cell? wT _ HTT.out.2.1)).trans HTT.out.2.1) HLD.out
                have HRN : Hid (runR fstep (linesL D) 0 ([], false) = (st, c, ln)) := by show _ = _; rw [← HRF.out]; exact hrun
                have HLI : Hid (Lie wX [⟨bX, nmF, ln⟩] c) := hlie
                have HEX : Hid (Ety wX) := HTT.out.2.2.stay hbX
                obtain ⟨T1, v1, hv1⟩ := val_shape [⟨bX, nmF, (ln : Int)⟩] c
                have HV1 : Hid (_ = _) := hv1
                rw [hv1]
                clear c1 hbX hrun hlie hv1
                go_wp2_with fail
                refine c2.mono ?_
                rintro e wY ⟨st', c', ln', hrun', hbY, ⟨rfl, u', zs, rfl, hou', hpm', hri', hto'⟩ | ⟨hc', bY, rfl, hlie'⟩⟩
                · have he := hrun'.symm.trans HRN.out
                  cases he
                  exact absurd rfl hc
                · have he := hrun'.symm.trans HRN.out
                  cases he
                  have HUY : Hid (Up w.heap.size w wY) := HUX.out.stay hbY
                  have HLX : Hid (Lie wY [⟨bX, nmF, ln⟩] c) := HLI.out.stay hbY
                  have HLY : Hid (Lie wY [⟨bY, nmF, ln⟩] c) := hlie'
                  have HEY : Hid (Ety wY) := HEX.out.stay hbY
                  obtain ⟨T2, v2, hv2⟩ := val_shape [⟨bY, nmF, (ln : Int)⟩] c
                  have HV2 : Hid (_ = _) := hv2
                  rw [hv2]
                  have HLN : Hid (lin [⟨bX, nmF, (ln : Int)⟩] = lin [⟨bY, nmF, (ln : Int)⟩]) := rfl
                  clear c2 hbY hrun' hlie' hv2
                  go_wp2_with fail
                  refine (rsamef_zero none none 0 0 _).mono ?_
                  rintro e wZ ⟨rfl, hwZ⟩
                  subst wZ
                  have k1 := code_any [⟨bX, nmF, ln⟩] c wY (by simp) HLX.out HEY.out
                  rw [HV1.out] at k1
                  go_wp2_with fail
                  refine k1.mono ?_
                  rintro e w5 ⟨rfl, hb5⟩
                  have HB5 : Hid (Below wY.heap.size wY w5) := hb5
                  clear hb5 k1
                  have k2 := code_any [⟨bY, nmF, ln⟩] c w5 (by simp) (HLY.out.stay HB5.out) (HEY.out.stay HB5.out)
                  rw [HV2.out] at k2
                  go_wp2_with fail
                  refine k2.mono ?_
                  rintro e w6 ⟨rfl, hb6⟩
                  have HB6 : Hid (Below wY.heap.size wY w6) := HB5.out.trans (hb6.mono HB5.out.size)
                  clear hb6 k2 HB5
                  have k3 := line_any [⟨bX, nmF, ln⟩] c w6 (by simp) (HLX.out.stay HB6.out) (HEY.out.stay HB6.out)
                  rw [HV1.out, HLN.out] at k3
                  have k4 := fun w' (hb : Below w6.heap.size w6 w') => line_any [⟨bY, nmF, ln⟩] c w' (by simp) ((HLY.out.stay HB6.out).stay hb) ((HEY.out.stay HB6.out).stay hb)
                  rw [HV2.out] at k4
                  generalize lin [⟨bY, nmF, (ln : Int)⟩] = z at k3 k4
                  go_wp2_with fail
                  refine k3.mono ?_
                  rintro e w7 ⟨rfl, hb7⟩
                  have HB7 : Hid (Below w6.heap.size w6 w7) := hb7
                  clear hb7 k3
                  go_wp2_with fail
                  refine (k4 w7 HB7.out).mono ?_
                  rintro e w8 ⟨rfl, hb8⟩
                  have HB8 : Hid (Below w6.heap.size w6 w8) := HB7.out.trans (hb8.mono HB7.out.size)
                  clear hb8 k4 HB7
                  go_wp2
                  go_ret
                  exact ⟨rfl, (HUY.out.stay (HB6.out.trans (HB8.out.mono HB6.out.size))).1⟩
end Go.Proofs.YtgijihfijoiafaaGreatDoor
