/- The reference: Read. -/
import Derived.Test.YteeeekpeokgaeaaDoorPkKV2
import Derived.Deep.DeepCutAuto
import Derived.Deep.CutBlock
namespace Go.Proofs.YteeeekpeokgaeaaDoor
set_option linter.unusedVariables false
open Go.RowKit Go.ChangeShapes Tns
open Lns (nL nL_le line S)
set_option maxHeartbeats 8000000 in
set_option maxRecDepth 100000 in
theorem rread_any (s : ByteArray) (v : Value) (w : World) (hs : s.size ≤ 8000) (h : Lns.BSl w v s) :
    Calls Tryd.prog 12 #[v] w fun e w' => ∃ va vb, e = .returned (.agg #[va, vb]) ∧ SpR w' w.heap.size va (rdA s).r ∧ SS w' w.heap.size vb (rdA s).w ∧ Below w.heap.size w w' := by
  obtain ⟨i9, h9, h90, h91, h92⟩ := info_parts Lns.info9
  obtain ⟨iS, hS, hS0, hSa, hSb⟩ := info_parts infoSp
  obtain ⟨W0, hW0⟩ : ∃ W0, (w.alloc (.cells #[.slice none 0 0, .slice none 0 0] 32)).alloc (.cells #[.slice none 0 0, .slice none 0 0] 32) = W0 := ⟨_, rfl⟩
  obtain ⟨D, hD⟩ : ∃ D, w.heap.size = D := ⟨_, rfl⟩
  have hu : Up w.heap.size w W0 := by rw [← hW0]; exact ((Up.refl w).alloc _).alloc _
  have hR0 : W0.heap[D + 1]? = some (.cells #[.slice none 0 0, .slice none 0 0] 32) := by
    rw [← hW0, ← hD]
    have e := heap_alloc_new (w.alloc (.cells #[.slice none 0 0, .slice none 0 0] 32)) (.cells #[.slice none 0 0, .slice none 0 0] 32)
    rw [World.size_alloc] at e
    exact e
  have hD0 : W0.heap[D]? = some (.cells #[.slice none 0 0, .slice none 0 0] 32) := by
    rw [← hW0, ← hD]
    rw [(below_alloc (w.alloc (.cells #[.slice none 0 0, .slice none 0 0] 32)) _).block w.heap.size (by rw [World.size_alloc]; omega)]
    exact heap_alloc_new _ _
  have cl := Lns.rlines_any s v W0 (by omega) (h.stay hu.1)
  have HU0 : Hid (Up w.heap.size w W0) := hu
  clear hu h
  go_enter Tryd.func12, Tryd.ntmps12
  go_wp2_with fail
  refine cl.mono ?_
  rintro e w1 ⟨v1, rfl, hown, hb1⟩
  have HM : Hid (RM w w1 w1 (D + 1) (.slice none 0 0) (.slice none 0 0) [] []) := by
    have e1 := hb1.block (D + 1) (Array.getElem?_eq_some_iff.1 hR0).1
    refine ⟨⟨HU0.out.stay hb1, Nat.le_trans HU0.out.2 hb1.size, Nat.le_refl _⟩, by omega, fun k _ _ => rfl, by rw [e1]; exact hR0, World.ownsRow_nil _ _ _ _, World.ownsRow_nil _ _ _ _⟩
  have HD1 : Hid (w1.heap[D]? = some (.cells #[.slice none 0 0, .slice none 0 0] 32)) := by
    have e1 := hb1.block D (Array.getElem?_eq_some_iff.1 hD0).1
    show _ = _
    rw [e1]
    exact hD0
  have HLn : Hid (∀ j, j < nL s → ∃ g c, v1 = .slice (some ⟨g, 0, none⟩) (nL s) c ∧ g ≠ D + 1 ∧ w1.cell? ⟨g, j, none⟩ = some (.string (line s j))) := fun j hj => by
    have hc := @World.ownsRow.cells _ _ _ _ _ _ _ hown
    have hne := own_ne HM.out.2.2.2.1 hown (by decide)
    obtain ⟨hl, ⟨rfl, h0⟩ | ⟨g, c, cur, rfl, _⟩⟩ := hown
    · omega
    · refine ⟨g, c, rfl, fun e => hne (by simp [Value.ownBlock, e]), ?_⟩
      have e2 := hc rfl j _ (Lns.tcells_at (line s) (nL s) j hj)
      rcases Nat.eq_zero_or_pos j with h9 | h9
      · subst h9; simpa [Addr.add] using e2
      · simpa [Addr.add, Nat.ne_of_gt h9] using e2
  obtain ⟨ga, gc, rfl⟩ : ∃ ga gc, v1 = .slice ga (nL s) gc := by
    obtain ⟨hl, ⟨rfl, h0⟩ | ⟨g, c, cur, rfl, _⟩⟩ := hown
    · exact ⟨none, 0, by rw [h0]⟩
    · exact ⟨_, _, rfl⟩
  have hnl : nL s ≤ 8000 := Nat.le_trans (nL_le s) hs
  obtain ⟨N, hN⟩ : ∃ N, nL s = N := ⟨_, rfl⟩
  have HNL : Hid (nL s = N) := hN
  have hDw : w.heap.size = D := hD
  rw [hN] at HLn hnl ⊢
  have HDW : Hid (w.heap.size = D) := hD
  clear cl hown hb1 hR0 hD0 HU0 hW0 hN hD hDw
  go_wp2
  go_loopg [5, 6, 7, 8] N (fun q ov xv fv iv wr => ∃ (j : Nat) (va vb : Value), j ≤ N ∧ q = N - j ∧ iv = .int .i64 (j : Int) ∧ ov = .bool (rdL s j).o ∧ xv = .bool (rdL s j).x ∧ fv = .int .i64 ((S s j : Nat) : Int) ∧ Hid (RM w w1 wr (D + 1) va vb (rdL s j).r (rdL s j).w) ∧ Hid ((rdL s j).w.length ≤ 9000 * S s j ∧ (rdL s j).r.length ≤ j))
  case atStart => exact ⟨0, _, _, Nat.zero_le _, rfl, rfl, rfl, rfl, by rw [Lns.S_zero]; rfl, HM, by show _ ∧ _; exact ⟨Nat.zero_le _, Nat.le_refl _⟩⟩
  case round =>
    clear HM
    obtain ⟨j, va, vb, hj, hq, rfl, rfl, rfl, rfl, HR, HB⟩ := hrel
    by_cases hlt : j < N
    · have z0 : (0 : Int) ≤ (j : Int) := by omega
      have z1 : (j : Int) < (N : Int) := by omega
      obtain ⟨g, c, eS, hgR, hcell⟩ := HLn.out j hlt
      injection eS with eA eB eC
      subst eA eC
      clear eB
      have a1 := HR.out.old hcell hgR
      obtain ⟨X, hX⟩ : ∃ X, line s j = X := ⟨_, rfl⟩
      have hXs : X.size = S s (j + 1) - S s j := by rw [← hX]; exact Lns.line_size s j
      have hS1 : S s j ≤ S s (j + 1) := Lns.S_mono_le s (by omega)
      have hS2 : S s (j + 1) ≤ s.size := Lns.S_le s (j + 1)
      have hst : rdL s (j + 1) = stp X (S s j) (rdL s j) := by rw [← hX]; rfl
      obtain ⟨p0, hp0⟩ : ∃ p, rdL s j = p := ⟨_, rfl⟩
      obtain ⟨sj, hsj⟩ : ∃ z, S s j = z := ⟨_, rfl⟩
      obtain ⟨sj1, hsj1⟩ : ∃ z, S s (j + 1) = z := ⟨_, rfl⟩
      rw [hX] at a1
      rw [hsj, hp0] at hst
      rw [hsj, hsj1] at hXs hS1
      rw [hsj1] at hS2
      replace hXs : sj + X.size = sj1 := by omega
      rw [hsj] at HB ⊢
      rw [hp0] at HR HB ⊢
      obtain ⟨Q, hQ⟩ : ∃ Q, scn X 0 ⟨p0.o, p0.o || p0.x, false, p0.w⟩ = Q := ⟨_, rfl⟩
      have HST : Hid (rdL s (j + 1) = ⟨Q.o, Q.x, bif Q.a then p0.r ++ [(sj, X.size)] else p0.r, Q.w⟩ ∧ S s (j + 1) = sj1) := by
        refine ⟨?_, hsj1⟩
        rw [hst]
        unfold stp
        rw [hQ]
      have HQ : Hid (scn X 0 ⟨p0.o, p0.o || p0.x, false, p0.w⟩ = Q) := hQ
      obtain ⟨b1, hb1⟩ : ∃ b, p0.o = b := ⟨_, rfl⟩
      obtain ⟨b2, hb2⟩ : ∃ b, p0.x = b := ⟨_, rfl⟩
      rw [hb1, hb2] at HQ ⊢
      clear hX hst hQ hsj hsj1 hp0 hb1 hb2 hcell hgR
      go_upto_region 9 with fail
      go_cut [10] (fun av wx => av = .bool (b1 || b2) ∧ wx = wr)
      case first =>
        cases b1
        · go_wp2
          go_meet
          case rel => exact ⟨rfl, rfl⟩
        · go_wp2
          go_meet
          case rel => exact ⟨rfl, rfl⟩
      case rest =>
      obtain ⟨rfl, hwc⟩ := hcut
      have hwc := hwc.symm
      subst hwc
      go_upto_block 2 with fail
      go_cut [5, 6, 10, 11, 12] (fun ov xv av kv ev wx => ov = .bool Q.o ∧ xv = .bool Q.x ∧ av = .bool Q.a ∧ Hid (∃ vb', RM w w1 wx (D + 1) va vb' p0.r Q.w) ∧ Hid (Q.w.length ≤ 9000 * sj1 ∧ p0.r.length ≤ j))
      case first =>
        go_wp2_with fail
        go_loopg [5, 6, 10, 11] X.size (fun m ov xv av kv wr2 => ∃ (k : Nat) (p : Ps) (vb2 : Value), k ≤ X.size ∧ m = X.size - k ∧ kv = .int .i64 (k : Int) ∧ ov = .bool p.o ∧ xv = .bool p.x ∧ av = .bool p.a ∧ Hid (scn X k p = Q) ∧ Hid (RM w w1 wr2 (D + 1) va vb2 p0.r p.w) ∧ Hid (p.w.length ≤ 9000 * (sj + k)))
        case atStart => exact ⟨0, _, vb, Nat.zero_le _, rfl, rfl, rfl, rfl, rfl, HQ, HR, HB.out.1⟩
        case round =>
          clear HR a1
          obtain ⟨k, p, vb2, hk, hm, rfl, rfl, rfl, rfl, HSc, HR2, HB2⟩ := hrel
          obtain ⟨K6, hK6⟩ : ∃ z, k + 6 = z := ⟨_, rfl⟩
          have z2 : IntKind.i64.wrap ((k : Int) + 6) = (K6 : Int) := by rw [IntWalk.i64_in _ (by omega)]; omega
          have HK6 : Hid (k + 6 = K6) := hK6
          by_cases hk6 : K6 ≤ X.size
          · have z3 : (K6 : Int) ≤ (X.size : Int) := by omega
            have z4 : (0 : Int) ≤ (k : Int) := by omega
            have z5 : (k : Int) ≤ (K6 : Int) := by omega
            by_cases hmk : X.extract k K6 = sMark
            · obtain ⟨E, hE⟩ : ∃ E, low X K6 = E := ⟨_, rfl⟩
              have hE12 : K6 ≤ E ∧ E ≤ X.size := by rw [← hE]; exact low_ge (s := X) (X.size - K6) K6 (by omega)
              have HLo : Hid ((∀ e, K6 ≤ e → e < E → lowB (bt X e) = true) ∧ (E = X.size ∨ lowB (bt X E) = false)) := by
                refine ⟨?_, ?_⟩
                · rw [← hE]; exact low_all (s := X) (X.size - K6) K6 (by omega)
                · rw [← hE]; exact low_not (s := X) (X.size - K6) K6 (by omega)
              obtain ⟨Y, hY⟩ : ∃ Y, X.extract K6 E = Y := ⟨_, rfl⟩
              obtain ⟨Z, hZ⟩ : ∃ Z, X.extract E X.size = Z := ⟨_, rfl⟩
              have hZs : Z.size = X.size - E := by rw [← hZ, ByteArray.size_extract]; omega
              have HSc2 : Hid (scn X E (ask Y Z p) = Q) := by
                show _ = _
                have e1 := scn_yes (s := X) (k := k) (p := p) (by omega) (by rw [hK6]; exact hmk)
                rw [hK6, hE] at e1
                rw [← HSc.out, e1, hY]
                unfold frm
                rw [hZ]
              have esMark : ((X.extract k K6 : ByteArray).toList == [115, 112, 101, 108, 108, 58]) = true := tl_eq sMark_l hmk
              have hkE : k < E := by omega
              have hB3 : p.w.length ≤ 9000 * (sj + k) := HB2.out
              have HB3 : Hid (p.w.length + 9000 ≤ 9000 * (sj + E)) := by show _ ≤ _; omega
              clear hmk HSc hK6 hB3 HB2
              go_upto_block 4 with fail
              go_cut [12] (fun ev wx => ev = .int .i64 (E : Int) ∧ wx = wr)
              case first =>
                go_wp2_with fail
                go_loopg [12] (X.size - K6) (fun m ev wr2 => ∃ e : Nat, K6 ≤ e ∧ e ≤ E ∧ m = X.size - e ∧ ev = .int .i64 (e : Int) ∧ wr2 = wr)
                case atStart => exact ⟨K6, Nat.le_refl _, hE12.1, by first | rfl | omega, rfl, rfl⟩
                case round =>
                  obtain ⟨e, he1, he2, hme, rfl, hwr⟩ := hrel
                  subst hwr
                  have y0 : (0 : Int) ≤ (e : Int) := by omega
                  by_cases heX : e < X.size
                  · have y1 : (e : Int) < (X.size : Int) := by omega
                    have hx : ∀ hh : e < X.size, (X[e]'hh).toNat = bt X e := fun hh => by
                      show _ = (X.data[e]!).toNat
                      rw [getElem!_pos X.data e hh]
                      rfl
                    have hw1 : e < E → lowB (bt X e) = true := fun hh => HLo.out.1 e he1 hh
                    have hw2 : ¬ e < E → lowB (bt X e) = false := fun hh => by
                      obtain rfl : e = E := by omega
                      rcases HLo.out.2 with h5 | h5
                      · omega
                      · exact h5
                    obtain ⟨x, hxx⟩ : ∃ x, bt X e = x := ⟨_, rfl⟩
                    rw [hxx] at hx hw1 hw2
                    clear hxx
                    by_cases heE : e < E
                    · have hw := hw1 heE
                      have d1 : (97 : Int) ≤ (x : Int) := by unfold lowB at hw; simp at hw; omega
                      have d2 : (x : Int) ≤ 122 := by unfold lowB at hw; simp at hw; omega
                      have d3 : 97 ≤ x := by omega
                      have d4 : x ≤ 122 := by omega
                      clear hw hw1 hw2
                      go_wp2
                      go_roundg (X.size - (e + 1))
                      case measure => omega
                      case rel => exact ⟨e + 1, by omega, by omega, rfl, by go_num, rfl⟩
                    · have hw := hw2 heE
                      obtain rfl : e = E := by omega
                      by_cases d0 : 97 ≤ x
                      · have d1 : (97 : Int) ≤ (x : Int) := by omega
                        have d2 : ¬ (x : Int) ≤ 122 := by unfold lowB at hw; simp at hw; omega
                        have d4 : ¬ x ≤ 122 := by omega
                        clear hw hw1 hw2
                        go_wp2
                        go_meet
                        case rel => exact ⟨rfl, rfl⟩
                      · have d1 : ¬ (97 : Int) ≤ (x : Int) := by omega
                        clear hw hw1 hw2
                        go_wp2
                        go_meet
                        case rel => exact ⟨rfl, rfl⟩
                  · obtain rfl : e = E := by omega
                    have y1 : ¬ (e : Int) < (X.size : Int) := by omega
                    go_wp2
                    go_meet
                    case rel => exact ⟨rfl, rfl⟩
              case rest =>
                obtain ⟨rfl, hwc⟩ := hcut
                have hwc := hwc.symm
                subst hwc
                have v1 : (K6 : Int) ≤ (E : Int) := by omega
                have v2 : (E : Int) ≤ (X.size : Int) := by omega
                have v3 : (0 : Int) ≤ (K6 : Int) := by omega
                have v4 : (0 : Int) ≤ (E : Int) := by omega
                obtain ⟨E1, hE1⟩ : ∃ z, E - 1 = z := ⟨_, rfl⟩
                have v5 : IntKind.i64.wrap ((E : Int) - 1) = (E1 : Int) := by rw [IntWalk.i64_in _ (by omega)]; omega
                have v6 : IntKind.i64.wrap ((E1 : Int) + 1) = (E : Int) := by rw [IntWalk.i64_in _ (by omega)]; omega
                clear hE1 HLo hE
                by_cases hsOff : Y = sOff
                · have HSc3 : Hid (scn X E { p with o := true, a := true } = Q) := by
                    have e1 := HSc2.out
                    unfold ask at e1
                    rw [if_pos hsOff] at e1
                    exact e1
                  have esOff : ((Y : ByteArray).toList == [111, 102, 102]) = true := tl_eq sOff_l hsOff
                  clear HSc2 hsOff 
                  go_wp2
                  go_roundg (X.size - E)
                  case measure => omega
                  case rel => exact ⟨E, { p with o := true, a := true }, vb2, hE12.2, rfl, by go_num, rfl, rfl, rfl, HSc3, HR2, by show _ ≤ _; have := HB3.out; first | omega | (dsimp only; omega)⟩
                · by_cases hsLine : Y = sLine
                  · have HSc3 : Hid (scn X E { p with a := true } = Q) := by
                      have e1 := HSc2.out
                      unfold ask at e1
                      rw [if_neg hsOff, if_pos hsLine] at e1
                      exact e1
                    have esOff : ((Y : ByteArray).toList == [111, 102, 102]) = false := tl_ne sOff_l hsOff
                    have esLine : ((Y : ByteArray).toList == [108, 105, 110, 101]) = true := tl_eq sLine_l hsLine
                    clear HSc2 hsLine hsOff
                    go_wp2
                    go_roundg (X.size - E)
                    case measure => omega
                    case rel => exact ⟨E, { p with a := true }, vb2, hE12.2, rfl, by go_num, rfl, rfl, rfl, HSc3, HR2, by show _ ≤ _; have := HB3.out; first | omega | (dsimp only; omega)⟩
                  · by_cases hsOn : Y = sOn
                    · have HSc3 : Hid (scn X E { p with o := false } = Q) := by
                        have e1 := HSc2.out
                        unfold ask at e1
                        rw [if_neg hsOff, if_neg hsLine, if_pos hsOn] at e1
                        exact e1
                      have esOff : ((Y : ByteArray).toList == [111, 102, 102]) = false := tl_ne sOff_l hsOff
                      have esLine : ((Y : ByteArray).toList == [108, 105, 110, 101]) = false := tl_ne sLine_l hsLine
                      have esOn : ((Y : ByteArray).toList == [111, 110]) = true := tl_eq sOn_l hsOn
                      clear HSc2 hsOn hsOff hsLine
                      go_wp2
                      go_roundg (X.size - E)
                      case measure => omega
                      case rel => exact ⟨E, { p with o := false }, vb2, hE12.2, rfl, by go_num, rfl, rfl, rfl, HSc3, HR2, by show _ ≤ _; have := HB3.out; first | omega | (dsimp only; omega)⟩
                    · by_cases hsNext : Y = sNext
                      · have HSc3 : Hid (scn X E { p with x := true } = Q) := by
                          have e1 := HSc2.out
                          unfold ask at e1
                          rw [if_neg hsOff, if_neg hsLine, if_neg hsOn, if_pos hsNext] at e1
                          exact e1
                        have esOff : ((Y : ByteArray).toList == [111, 102, 102]) = false := tl_ne sOff_l hsOff
                        have esLine : ((Y : ByteArray).toList == [108, 105, 110, 101]) = false := tl_ne sLine_l hsLine
                        have esOn : ((Y : ByteArray).toList == [111, 110]) = false := tl_ne sOn_l hsOn
                        have esNext : ((Y : ByteArray).toList == [110, 101, 120, 116]) = true := tl_eq sNext_l hsNext
                        clear HSc2 hsNext hsOff hsLine hsOn
                        go_wp2
                        go_roundg (X.size - E)
                        case measure => omega
                        case rel => exact ⟨E, { p with x := true }, vb2, hE12.2, rfl, by go_num, rfl, rfl, rfl, HSc3, HR2, by show _ ≤ _; have := HB3.out; first | omega | (dsimp only; omega)⟩
                      · by_cases hsWords : Y = sWords
                        · have HSc3 : Hid (scn X E { p with w := p.w ++ knw Z } = Q) := by
                            have e1 := HSc2.out
                            unfold ask at e1
                            rw [if_neg hsOff, if_neg hsLine, if_neg hsOn, if_neg hsNext, if_pos hsWords] at e1
                            exact e1
                          have esOff : ((Y : ByteArray).toList == [111, 102, 102]) = false := tl_ne sOff_l hsOff
                          have esLine : ((Y : ByteArray).toList == [108, 105, 110, 101]) = false := tl_ne sLine_l hsLine
                          have esOn : ((Y : ByteArray).toList == [111, 110]) = false := tl_ne sOn_l hsOn
                          have esNext : ((Y : ByteArray).toList == [110, 101, 120, 116]) = false := tl_ne sNext_l hsNext
                          have esWords : ((Y : ByteArray).toList == [119, 111, 114, 100, 115]) = true := tl_eq sWords_l hsWords
                          clear HSc2 hsWords hsOff hsLine hsOn hsNext
                          have CW : Hid (∀ w', Calls Tryd.prog 21 #[.string Z] w' fun e w'' => ∃ v, e = .returned v ∧ SS w'' w'.heap.size v (knw Z) ∧ Below w'.heap.size w' w'') := fun w' => rkw_any (Z.size + 1) Z w' (by omega) (by omega) (by omega)
                          have hlen : (knw Z).length ≤ Z.size + 1 := knF_len (Z.size + 1) Z
                          have hB3 : p.w.length + 9000 ≤ 9000 * (sj + E) := HB3.out
                          obtain ⟨L, hL⟩ : ∃ L, knw Z = L := ⟨_, rfl⟩
                          rw [hL] at CW hlen HSc3
                          clear hL
                          go_upto_region 29 with fail
                          refine wp_region_held_drew (S := fun w' => Up w.heap.size w w') (by kernel_rfl) (Up.drew HR2.out.1.1) (fun hHeld => ?_)
                          (try dsimp only at hHeld)
                          obtain ⟨x0, hx0⟩ : ∃ x0, wr.drew = x0 := ⟨_, rfl⟩
                          have HR3 : Hid (RM w w1 x0 (D + 1) va vb2 p0.r p.w) := by rw [← hx0]; exact HR2.out.stay (Below.refl _ _).drew
                          rw [hx0] at hHeld ⊢
                          clear hx0 HR2
                          refine takeH (i := 0) (v := ?_) (d := (some 77)) rfl (by kernel_rfl) (by kernel_rfl) (by kernel_rfl) rfl (fun _ _ _ h => h) (Or.inl ⟨by kernel_rfl, ?_⟩) (by assumption) ?_; rotate_left
                          · (intro w hSw; (try dsimp only at hSw); first | (go_simp; done) | (go_simp; with_reducible rfl))
                          (try simp only [Act.put, List.setIfInBounds_toArray, List.set_cons_zero, List.set_cons_succ])
                          refine takeH (i := 2) (v := ?_) (d := (some 79)) rfl (by kernel_rfl) (by kernel_rfl) (by kernel_rfl) rfl (fun _ _ _ h => h) (Or.inl ⟨by kernel_rfl, ?_⟩) (by assumption) ?_; rotate_left
                          · (intro w hSw; (try dsimp only at hSw); first | (go_simp; done) | (go_simp; with_reducible rfl))
                          (try simp only [Act.put, List.setIfInBounds_toArray, List.set_cons_zero, List.set_cons_succ])
                          refine takeH (i := 3) (v := ?_) (d := (some 80)) rfl (by kernel_rfl) (by kernel_rfl) (by kernel_rfl) rfl (fun _ _ _ h => h) (Or.inl ⟨by kernel_rfl, ?_⟩) (by assumption) ?_; rotate_left
                          · (intro w hSw; (try dsimp only at hSw); first | (go_simp; done) | (go_simp; with_reducible rfl))
                          (try simp only [Act.put, List.setIfInBounds_toArray, List.set_cons_zero, List.set_cons_succ])
                          refine takeH (i := 4) (v := ?_) (d := (some 81)) rfl (by kernel_rfl) (by kernel_rfl) (by kernel_rfl) rfl (fun _ _ _ h => h) (Or.inl ⟨by kernel_rfl, ?_⟩) (by assumption) ?_; rotate_left
                          · (intro w hSw; (try dsimp only at hSw); first | (go_simp; done) | (go_simp; with_reducible rfl))
                          (try simp only [Act.put, List.setIfInBounds_toArray, List.set_cons_zero, List.set_cons_succ])
                          refine wpAnyH_ready (rs := [1, 5]) (by kernel_rfl) (by simp) (AllReadyH.cons rfl (fun K hK => ?_) (AllReadyH.cons rfl (fun K hK => ?_) AllReadyH.nil))
                          · (try rw [if_pos (by kernel_rfl)])
                            obtain ⟨-, k1, -, -⟩ := HR3.out.cells
                            go_simp
                            clear k1
                            refine hK.out _ _ hHeld (fun hHeld => ?_)
                            clear hK K
                            (try dsimp only at hHeld)
                            (try simp only [Act.put, List.setIfInBounds_toArray, List.set_cons_zero, List.set_cons_succ])
                            have cW := CW.out x0
                            refine wpAnyH_ready (rs := [5]) (by kernel_rfl) (by simp) (AllReadyH.cons rfl (fun K hK => ?_) AllReadyH.nil)
                            (try rw [if_pos (by kernel_rfl)])
                            go_simp
                            refine cW.mono ?_
                            rintro ev w2 ⟨v2, rfl, hS2, hb2⟩
                            have HR4 : Hid (RM w w1 w2 (D + 1) va vb2 p0.r p.w) := HR3.out.stay hb2
                            have HSr : Hid (SS w2 x0.heap.size v2 L) := hS2
                            clear cW hS2 hb2 hHeld HR3
                            go_wp2_with fail
                            refine hK.out _ _ HR4.out.1.1 (fun hHeld => ?_)
                            clear hK K
                            (try dsimp only at hHeld)
                            (try simp only [Act.put, List.setIfInBounds_toArray, List.set_cons_zero, List.set_cons_succ])
                            refine wpAnyH_ready (rs := [6]) (by kernel_rfl) (by simp) (AllReadyH.cons rfl (fun K hK => ?_) AllReadyH.nil)
                            rw [if_pos (by kernel_rfl)]
                            refine wpo_append_any (.tmp 78) (.tmp 82) 25 rfl w1.heap.size 9 i9 _ 1 16 Tryd.underlying25 h9 h90 h91 h92 rfl (by decide) _ p.w.length (p.w.map Value.string) rfl HR4.out.2.2.2.2.2 _ _ L.length (L.map Value.string) rfl HSr.out (ss_one L) (by unfold maxLen; omega) (by omega) (by have := HR4.out.1.2.2; omega) ?_
                            intro v' w3 hown2 hgr
                            obtain ⟨v9a, v9m, v9c, rfl⟩ := own_frm3 hown2
                            have hn' : SS w3 w1.heap.size (.slice v9a v9m v9c) (p.w ++ L) := by
                              unfold SS
                              rw [List.length_append, List.map_append]
                              exact hown2
                            have hlR := HR4.out.lt
                            have e4 : w3.heap[D + 1]? = some (.cells #[va, vb2] 32) := by
                              rw [hgr.block (D + 1) hlR (own_ne HR4.out.2.2.2.1 HR4.out.2.2.2.2.2 (by decide))]
                              exact HR4.out.2.2.2.1
                            have HR5 : Hid (RM w w1 (w3.setCell ⟨D + 1, 1, none⟩ (.slice v9a v9m v9c)) (D + 1) va (.slice v9a v9m v9c) p0.r (p.w ++ L)) := HR4.out.words hgr hn'
                            have HU3 : Hid (Up w.heap.size w w3) := HR4.out.1.1.grown hgr (fun k hk => Nat.le_trans HR4.out.1.2.1 (own_base HR4.out.2.2.2.2.2 k hk))
                            have q1 : w3.cell? ⟨D + 1, 1, none⟩ = some vb2 := by simp [World.cell?, e4]
                            have q2 : w3.frozen? ⟨D + 1, 1, none⟩ = false := by simp [World.frozen?, e4]
                            change K (Act.put _ (some 83) _) _
                            clear hown2 hgr hn' hlR e4 HR4 HSr
                            refine hK.out _ _ HU3.out (fun hHeld => ?_)
                            clear hK K
                            (try dsimp only at hHeld)
                            (try simp only [Act.put, List.setIfInBounds_toArray, List.set_cons_zero, List.set_cons_succ])
                            refine takeH (i := 7) (v := ?_) (d := (some 84)) rfl (by kernel_rfl) (by kernel_rfl) (by kernel_rfl) rfl (fun _ _ _ h => h) (Or.inl ⟨by kernel_rfl, ?_⟩) (by assumption) ?_; rotate_left
                            · (intro w hSw; (try dsimp only at hSw); first | (go_simp; done) | (go_simp; with_reducible rfl))
                            (try simp only [Act.put, List.setIfInBounds_toArray, List.set_cons_zero, List.set_cons_succ])
                            refine wpAnyH_ready (rs := [8]) (by kernel_rfl) (by simp) (AllReadyH.cons rfl (fun K hK => ?_) AllReadyH.nil)
                            (try rw [if_pos (by kernel_rfl)])
                            go_simp
                            clear q1 q2 HU3 hHeld
                            refine hK.out _ _ HR5.out.1.1 (fun hHeld => ?_)
                            clear hK K
                            (try dsimp only at hHeld)
                            (try simp only [Act.put, List.setIfInBounds_toArray, List.set_cons_zero, List.set_cons_succ])
                            refine wpAnyH_done (by kernel_rfl) ?_ _
                            clear hHeld
                            obtain ⟨wz, hwz⟩ : ∃ x, w3.setCell ⟨D + 1, 1, none⟩ (.slice v9a v9m v9c) = x := ⟨_, rfl⟩
                            rw [hwz] at HR5 ⊢
                            clear hwz
                            go_wp2
                            go_roundg (X.size - E)
                            case measure => omega
                            case rel => exact ⟨E, { p with w := p.w ++ L }, .slice v9a v9m v9c, hE12.2, rfl, by go_num, rfl, rfl, rfl, HSc3, HR5, by show (p.w ++ L).length ≤ _; rw [List.length_append]; omega⟩
                          · (try rw [if_pos (by kernel_rfl)])
                            go_simp
                            have cW := CW.out x0
                            refine cW.mono ?_
                            rintro ev w2 ⟨v2, rfl, hS2, hb2⟩
                            have HR4 : Hid (RM w w1 w2 (D + 1) va vb2 p0.r p.w) := HR3.out.stay hb2
                            have HSr : Hid (SS w2 x0.heap.size v2 L) := hS2
                            clear cW hS2 hb2 hHeld HR3
                            go_wp2_with fail
                            refine hK.out _ _ HR4.out.1.1 (fun hHeld => ?_)
                            clear hK K
                            (try dsimp only at hHeld)
                            (try simp only [Act.put, List.setIfInBounds_toArray, List.set_cons_zero, List.set_cons_succ])
                            refine wpAnyH_ready (rs := [1]) (by kernel_rfl) (by simp) (AllReadyH.cons rfl (fun K hK => ?_) AllReadyH.nil)
                            (try rw [if_pos (by kernel_rfl)])
                            obtain ⟨-, k1, -, -⟩ := HR4.out.cells
                            go_simp
                            clear k1
                            refine hK.out _ _ HR4.out.1.1 (fun hHeld => ?_)
                            clear hK K
                            (try dsimp only at hHeld)
                            (try simp only [Act.put, List.setIfInBounds_toArray, List.set_cons_zero, List.set_cons_succ])
                            refine wpAnyH_ready (rs := [6]) (by kernel_rfl) (by simp) (AllReadyH.cons rfl (fun K hK => ?_) AllReadyH.nil)
                            rw [if_pos (by kernel_rfl)]
                            refine wpo_append_any (.tmp 78) (.tmp 82) 25 rfl w1.heap.size 9 i9 _ 1 16 Tryd.underlying25 h9 h90 h91 h92 rfl (by decide) _ p.w.length (p.w.map Value.string) rfl HR4.out.2.2.2.2.2 _ _ L.length (L.map Value.string) rfl HSr.out (ss_one L) (by unfold maxLen; omega) (by omega) (by have := HR4.out.1.2.2; omega) ?_
                            intro v' w3 hown2 hgr
                            obtain ⟨v9a, v9m, v9c, rfl⟩ := own_frm3 hown2
                            have hn' : SS w3 w1.heap.size (.slice v9a v9m v9c) (p.w ++ L) := by
                              unfold SS
                              rw [List.length_append, List.map_append]
                              exact hown2
                            have hlR := HR4.out.lt
                            have e4 : w3.heap[D + 1]? = some (.cells #[va, vb2] 32) := by
                              rw [hgr.block (D + 1) hlR (own_ne HR4.out.2.2.2.1 HR4.out.2.2.2.2.2 (by decide))]
                              exact HR4.out.2.2.2.1
                            have HR5 : Hid (RM w w1 (w3.setCell ⟨D + 1, 1, none⟩ (.slice v9a v9m v9c)) (D + 1) va (.slice v9a v9m v9c) p0.r (p.w ++ L)) := HR4.out.words hgr hn'
                            have HU3 : Hid (Up w.heap.size w w3) := HR4.out.1.1.grown hgr (fun k hk => Nat.le_trans HR4.out.1.2.1 (own_base HR4.out.2.2.2.2.2 k hk))
                            have q1 : w3.cell? ⟨D + 1, 1, none⟩ = some vb2 := by simp [World.cell?, e4]
                            have q2 : w3.frozen? ⟨D + 1, 1, none⟩ = false := by simp [World.frozen?, e4]
                            change K (Act.put _ (some 83) _) _
                            clear hown2 hgr hn' hlR e4 HR4 HSr
                            refine hK.out _ _ HU3.out (fun hHeld => ?_)
                            clear hK K
                            (try dsimp only at hHeld)
                            (try simp only [Act.put, List.setIfInBounds_toArray, List.set_cons_zero, List.set_cons_succ])
                            refine takeH (i := 7) (v := ?_) (d := (some 84)) rfl (by kernel_rfl) (by kernel_rfl) (by kernel_rfl) rfl (fun _ _ _ h => h) (Or.inl ⟨by kernel_rfl, ?_⟩) (by assumption) ?_; rotate_left
                            · (intro w hSw; (try dsimp only at hSw); first | (go_simp; done) | (go_simp; with_reducible rfl))
                            (try simp only [Act.put, List.setIfInBounds_toArray, List.set_cons_zero, List.set_cons_succ])
                            refine wpAnyH_ready (rs := [8]) (by kernel_rfl) (by simp) (AllReadyH.cons rfl (fun K hK => ?_) AllReadyH.nil)
                            (try rw [if_pos (by kernel_rfl)])
                            go_simp
                            clear q1 q2 HU3 hHeld
                            refine hK.out _ _ HR5.out.1.1 (fun hHeld => ?_)
                            clear hK K
                            (try dsimp only at hHeld)
                            (try simp only [Act.put, List.setIfInBounds_toArray, List.set_cons_zero, List.set_cons_succ])
                            refine wpAnyH_done (by kernel_rfl) ?_ _
                            clear hHeld
                            obtain ⟨wz, hwz⟩ : ∃ x, w3.setCell ⟨D + 1, 1, none⟩ (.slice v9a v9m v9c) = x := ⟨_, rfl⟩
                            rw [hwz] at HR5 ⊢
                            clear hwz
                            go_wp2
                            go_roundg (X.size - E)
                            case measure => omega
                            case rel => exact ⟨E, { p with w := p.w ++ L }, .slice v9a v9m v9c, hE12.2, rfl, by go_num, rfl, rfl, rfl, HSc3, HR5, by show (p.w ++ L).length ≤ _; rw [List.length_append]; omega⟩
                        · have HSc3 : Hid (scn X E p = Q) := by
                            have e1 := HSc2.out
                            unfold ask at e1
                            rw [if_neg hsOff, if_neg hsLine, if_neg hsOn, if_neg hsNext, if_neg hsWords] at e1
                            exact e1
                          have esOff : ((Y : ByteArray).toList == [111, 102, 102]) = false := tl_ne sOff_l hsOff
                          have esLine : ((Y : ByteArray).toList == [108, 105, 110, 101]) = false := tl_ne sLine_l hsLine
                          have esOn : ((Y : ByteArray).toList == [111, 110]) = false := tl_ne sOn_l hsOn
                          have esNext : ((Y : ByteArray).toList == [110, 101, 120, 116]) = false := tl_ne sNext_l hsNext
                          have esWords : ((Y : ByteArray).toList == [119, 111, 114, 100, 115]) = false := tl_ne sWords_l hsWords
                          clear HSc2 hsOff hsLine hsOn hsNext hsWords
                          go_wp2
                          go_roundg (X.size - E)
                          case measure => omega
                          case rel => exact ⟨E, p, vb2, hE12.2, rfl, by go_num, rfl, rfl, rfl, HSc3, HR2, by show _ ≤ _; have := HB3.out; first | omega | (dsimp only; omega)⟩
            · have z6 : IntKind.i64.wrap ((k : Int) + 1) = ((k + 1 : Nat) : Int) := by rw [IntWalk.i64_in _ (by omega)]; omega
              have HSc2 : Hid (scn X (k + 1) p = Q) := by show _ = _; rw [← HSc.out, scn_no (k := k) (by omega) (by rw [hK6]; exact hmk)]
              have esMark : ((X.extract k K6 : ByteArray).toList == [115, 112, 101, 108, 108, 58]) = false := tl_ne sMark_l hmk
              have hk1 : k + 1 ≤ X.size := by omega
              clear hmk HSc hK6
              go_wp2
              go_roundg (X.size - (k + 1))
              case measure => omega
              case rel => exact ⟨k + 1, p, vb2, by omega, rfl, by go_num, rfl, rfl, rfl, HSc2, HR2, by show _ ≤ _; have := HB2.out; omega⟩
          · have z3 : ¬ (K6 : Int) ≤ (X.size : Int) := by omega
            have e1 : p = Q := by rw [← HSc.out, scn_end (by omega)]
            subst e1
            go_wp2
            go_meet
            case rel => exact ⟨rfl, rfl, rfl, ⟨_, HR2.out⟩, by show _ ∧ _; have := HB2.out; have := HB.out.2; refine ⟨?_, this⟩; omega⟩
      case rest =>
        obtain ⟨rfl, rfl, rfl, HR2, HB2⟩ := hcut
        obtain ⟨vb2, hr2⟩ := HR2.out
        have HR3 : Hid (RM w w1 wc (D + 1) va vb2 p0.r Q.w) := hr2
        clear hr2 HR2
        have hB2 : Q.w.length ≤ 9000 * sj1 ∧ p0.r.length ≤ j := HB2.out
        have y1 : IntKind.i64.wrap ((sj : Int) + (X.size : Int)) = (sj1 : Int) := by rw [IntWalk.i64_in _ (by omega)]; omega
        cases hqa : Q.a
        · have HST2 : Hid (rdL s (j + 1) = ⟨Q.o, Q.x, p0.r, Q.w⟩ ∧ S s (j + 1) = sj1) := by
            have e1 := HST.out
            rw [hqa] at e1
            exact e1
          clear HST HB HB2 a1
          go_wp2
          go_roundg (N - (j + 1))
          case measure => omega
          case rel => exact ⟨j + 1, va, vb2, by omega, rfl, by go_num, by rw [HST2.out.1], by rw [HST2.out.1], by rw [HST2.out.2], by rw [HST2.out.1]; exact HR3, by rw [HST2.out.1, HST2.out.2]; show _ ∧ _; exact ⟨hB2.1, by show p0.r.length ≤ _; omega⟩⟩
        · have HST2 : Hid (rdL s (j + 1) = ⟨Q.o, Q.x, p0.r ++ [(sj, X.size)], Q.w⟩ ∧ S s (j + 1) = sj1) := by
            have e1 := HST.out
            rw [hqa] at e1
            exact e1
          obtain ⟨k0, -, f0, -⟩ := HR3.out.cells
          have hso := HR3.out.2.2.2.2.1
          clear HST HB HB2 a1
          go_wp2_with (at_builtin; refine wpList_append_own _ rfl _ _ 30 rfl w1.heap.size 36 iS _ 2 16 Tryd.underlying30 hS hS0 hSa hSb rfl (by decide) _ _ _ rfl (World.ownsRow.alloc hso _) ⟨wc.heap.size, 0, none⟩ 1 1 [.int .i64 (sj : Int), .int .i64 (X.size : Int)] rfl rfl ?c1 ?c2 ?c3 ?c4 ?c5 ?_)
          case c2 => exact ⟨rfl, rfl⟩
          case c3 => have := hB2.2; unfold maxLen; omega
          case c4 => have := hB2.2; omega
          case c5 => have := HR3.out.1.2.2; omega
          intro v' w3 hown2 hgr hnil
          obtain ⟨v9a, v9m, v9c, rfl⟩ := own_frm3 hown2
          have HR4 := HR3.out.stay (below_alloc wc (.cells #[.int .i64 (sj : Int), .int .i64 (X.size : Int)] 36))
          have hn' : SpR w3 w1.heap.size (.slice v9a v9m v9c) (p0.r ++ [(sj, X.size)]) := by
            unfold SpR
            rw [List.length_append, spC_app]
            exact hown2
          have hlR := HR4.lt
          have e4 : w3.heap[D + 1]? = some (.cells #[va, vb2] 32) := by
            rw [hgr.block (D + 1) hlR (own_ne HR4.2.2.2.1 HR4.2.2.2.2.1 (by decide))]
            exact HR4.2.2.2.1
          have HR5 : Hid (RM w w1 (w3.setCell ⟨D + 1, 0, none⟩ (.slice v9a v9m v9c)) (D + 1) (.slice v9a v9m v9c) vb2 (p0.r ++ [(sj, X.size)]) Q.w) := HR4.rows hgr hn'
          have q1 : w3.cell? ⟨D + 1, 0, none⟩ = some va := by simp [World.cell?, e4]
          have q2 : w3.frozen? ⟨D + 1, 0, none⟩ = false := by simp [World.frozen?, e4]
          clear hown2 hgr hnil hn' hlR e4 HR4 HR3 k0 f0 hso
          go_wp2
          go_roundg (N - (j + 1))
          case measure => omega
          case rel => exact ⟨j + 1, .slice v9a v9m v9c, vb2, by omega, rfl, by go_num, by rw [HST2.out.1], by rw [HST2.out.1], by rw [HST2.out.2], by rw [HST2.out.1]; exact HR5, by rw [HST2.out.1, HST2.out.2]; show _ ∧ _; exact ⟨hB2.1, by show (p0.r ++ [(sj, X.size)]).length ≤ _; rw [List.length_append]; have := hB2.2; simp; omega⟩⟩
    · obtain rfl : j = N := by omega
      have z1 : ¬ (j : Int) < (j : Int) := by omega
      have HRR : Hid (rdA s = rdL s j) := by show rdL s (nL s) = _; rw [HNL.out]
      obtain ⟨k0, k1, f0, f1⟩ := HR.out.cells
      have hDl : D < w1.heap.size := (Array.getElem?_eq_some_iff.1 HD1.out).1
      have hDc : wr.heap[D]? = some (.cells #[.slice none 0 0, .slice none 0 0] 32) := by
        rw [HR.out.2.2.1 D hDl (by omega)]
        exact HD1.out
      have d0 : wr.cell? ⟨D, 0, none⟩ = some (.slice none 0 0) := by simp [World.cell?, hDc]
      have d1 : wr.cell? ⟨D, 1, none⟩ = some (.slice none 0 0) := by simp [World.cell?, hDc]
      have d2 : wr.frozen? ⟨D, 0, none⟩ = false := by simp [World.frozen?, hDc]
      have d3 : wr.frozen? ⟨D, 1, none⟩ = false := by simp [World.frozen?, hDc]
      have n1 := own_ne hDc HR.out.2.2.2.2.1 (by decide)
      have n2 := own_ne hDc HR.out.2.2.2.2.2 (by decide)
      have HF : Hid (SpR ((wr.setCell ⟨D, 0, none⟩ va).setCell ⟨D, 1, none⟩ vb) w.heap.size va (rdA s).r ∧ SS ((wr.setCell ⟨D, 0, none⟩ va).setCell ⟨D, 1, none⟩ vb) w.heap.size vb (rdA s).w ∧ Below w.heap.size w ((wr.setCell ⟨D, 0, none⟩ va).setCell ⟨D, 1, none⟩ vb)) := by
        have hle := Nat.le_of_eq HDW.out
        refine ⟨?_, ?_, (up_set (up_set HR.out.1.1 hle) hle).1⟩
        · rw [HRR.out]
          exact own_mono (own_put (own_put HR.out.2.2.2.2.1 n1) n1) HR.out.1.2.1
        · rw [HRR.out]
          exact own_mono (own_put (own_put HR.out.2.2.2.2.2 n2) n2) HR.out.1.2.1
      have hc5 := cells_set (cells_set hDc 0 va) 1 vb
      have r0 : ((wr.setCell ⟨D, 0, none⟩ va).setCell ⟨D, 1, none⟩ vb).cell? ⟨D, 0, none⟩ = some va := by simp [World.cell?, hc5]
      have r1 : ((wr.setCell ⟨D, 0, none⟩ va).setCell ⟨D, 1, none⟩ vb).cell? ⟨D, 1, none⟩ = some vb := by simp [World.cell?, hc5]
      obtain ⟨x1, x2, x3, rfl⟩ := own_frm3 HR.out.2.2.2.2.1
      obtain ⟨y1, y2, y3, rfl⟩ := own_frm3 HR.out.2.2.2.2.2
      clear hc5 n1 n2 hDl hDc HR HB
      go_wp2
      refine bodyPost_ret (v := .agg #[.slice x1 x2 x3, .slice y1 y2 y3]) (by simp [results, Tryd.results12, go_sem, r0, r1]) rfl ?_
      exact ⟨_, _, rfl, HF.out⟩
end Go.Proofs.YteeeekpeokgaeaaDoor
