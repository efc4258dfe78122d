/- DecodeUnits. -/
import Derived.Test.YtkfgfbdalkifjaaDoorwOneP
import Derived.Test.YtkfgfbdalkifjaaDoorwCovQ
import Derived.Test.YtkfgfbdalkifjaaDoorwLit
import Derived.Test.YtkfgfbdalkifjaaDoorvRua
import Derived.Test.YtkfgfbdalkifjaaDoorwFrmS
namespace Go.Proofs.YtkfgfbdalkifjaaDoor
set_option linter.unusedVariables false
open Go.RowKit Go.ChangeShapes
theorem rem_in (x : Int) (n : Nat) (hn : n ≤ 100000) : ∃ A : Nat, wrap64 ((IntKind.u64.wrap x).tmod ((n : Int) + 1)) = (A : Int) ∧ A ≤ n := by
  have h0 : 0 ≤ IntKind.u64.wrap x := by rw [IntKind.wrap_u64]; omega
  have h1 : (IntKind.u64.wrap x).tmod ((n : Int) + 1) = (IntKind.u64.wrap x) % ((n : Int) + 1) := Int.tmod_eq_emod_of_nonneg h0
  have h2 := Int.emod_nonneg (IntKind.u64.wrap x) (show (n : Int) + 1 ≠ 0 by omega)
  have h3 := Int.emod_lt_of_pos (IntKind.u64.wrap x) (show (0 : Int) < (n : Int) + 1 by omega)
  refine ⟨((IntKind.u64.wrap x) % ((n : Int) + 1)).toNat, ?_, by omega⟩
  rw [h1, ← wrap_is, IntWalk.i64_in _ (by omega)]
  omega
set_option maxRecDepth 100000 in
set_option maxHeartbeats 16000000 in
theorem units_law {w : World} (hG : Glb w) {f wh : Nat} {ba : Option Addr} {bn bcap : Nat} {bc : Nat → Int} (hbC : Ch bc bn) (hb : BC w ba bn bc) (hbcap : bn ≤ bcap) (hbn : bn ≤ maxLen)
    {la : Option Addr} {ln lcap : Nat} {lc : Nat → Int} (hlC : Ch lc ln) (hl : BC w la ln lc) (hln : ln ≤ maxLen) {sa sm : Int} (hsa : (Lit.int .i64 sa).wf = true) (hsm : (Lit.int .i64 sm).wf = true) (raw : Bool) :
    Calls Tryd.prog 4 #[.int .u8 (f : Nat), .int .u8 (wh : Nat), .slice ba bn bcap, .slice la ln lcap, .agg #[.int .i64 sa, .int .i64 sm], .bool raw] w fun ev w' => ev = .returned (.bool true) ∧ Below w.heap.size w w' := by
  obtain ⟨W0, hW0⟩ : ∃ W0, w.alloc (.cells #[.int .i64 sa, .int .i64 sm] 35) = W0 := ⟨_, rfl⟩
  have hbW : Below w.heap.size w W0 := by rw [← hW0]; exact below_alloc w _
  have hWs : W0.heap.size = w.heap.size + 1 := by rw [← hW0]; exact World.size_alloc _ _
  have hWh : W0.heap[w.heap.size]? = some (.cells #[.int .i64 sa, .int .i64 sm] 35) := by rw [← hW0]; exact heap_alloc_new _ _
  obtain ⟨D, hD⟩ : ∃ D, w.heap.size = D := ⟨_, rfl⟩
  have HD : Hid (w.heap.size = D) := hD
  have HG0 : Hid (Glb w) := hG
  rw [hD] at hWh hWs
  have HWS : Hid (W0.heap.size = D + 1) := hWs
  have HW : Hid (Below w.heap.size w W0 ∧ W0.heap[D]? = some (.cells #[.int .i64 sa, .int .i64 sm] 35)) := ⟨hbW, hWh⟩
  have HH : Hid (Glb W0 ∧ (Ch bc bn ∧ BC W0 ba bn bc ∧ bn ≤ maxLen) ∧ (Ch lc ln ∧ BC W0 la ln lc ∧ ln ≤ maxLen)) := ⟨hG.stay hbW, ⟨hbC, hb.stay hbW, hbn⟩, ⟨hlC, hl.stay hbW, hln⟩⟩
  have ca := awake_any W0 (hG.stay hbW)
  clear hG hbC hb hlC hl hbW hWh hWs
  go_enter Tryd.func4, Tryd.ntmps4
  go_wp2_with fail
  refine ca.mono ?_
  rintro ev w1 ⟨rfl, hb1⟩
  have HB1 : Hid (Below W0.heap.size W0 w1) := hb1
  clear ca hb1 hW0
  (try rw [hD])
  clear hD
  by_cases hlong : 500 < bn
  · have g0 : (500 : Int) < (bn : Int) := by omega
    go_wp2
    go_ret
    exact ⟨rfl, by rw [HD.out] ; exact (by have h1 := HW.out.1; rw [HD.out] at h1; exact h1.trans (HB1.out.mono (by have := h1.size; rw [HD.out] at this; exact this)))⟩
  · have g0 : ¬ (500 : Int) < (bn : Int) := by omega
    have cp := pieces_any w1
    go_wp2_with fail
    refine cp.mono ?_
    rintro ev w2 ⟨G, rfl, hP, hb2⟩
    have HB2 : Hid (Below W0.heap.size W0 w2) := HB1.out.trans (hb2.mono HB1.out.size)
    have hps : psP.length = 37 := rfl
    have cb0 := bits_any (pc := 37) (rcap := bcap) (lcap := lcap) hP (pslen (by decide)) (psbyt (by decide)) (by decide) HH.out.2.2.1 (HH.out.2.2.2.1.stay HB2.out) HH.out.2.2.2.2 HH.out.2.1.1 (HH.out.2.1.2.1.stay HB2.out) HH.out.2.1.2.2
    rw [hps] at cb0
    obtain ⟨X, hX⟩ : ∃ X, bts psP bc bn (nl lc ln) = X := ⟨_, rfl⟩
    have hXn : X.length ≤ 1200 := by rw [← hX]; exact bts_len2 psP_20 _ _ _
    have hXb : Byt X := by rw [← hX]; exact bts_byt (psbyt (by decide)) HH.out.2.1.1 _
    rw [hX] at cb0
    clear cp hP hb2 hX hps
    go_wp2_with fail
    refine cb0.mono ?_
    rintro ev w3 ⟨v3, rfl, ho3, hb3⟩
    have HB3 : Hid (Below W0.heap.size W0 w3) := HB2.out.trans (hb3.mono HB2.out.size)
    obtain ⟨ad, cap, rfl, hcap, hcbig⟩ := ob_form ho3
    have hbc3 := ho3.bc
    have HLO : Hid (∀ b off, ad = some ⟨b, off, none⟩ → D < b) := fun b off e => by
      subst e
      have h1 := own_base ho3 b rfl
      have h2 := HB2.out.size
      have h3 := HWS.out
      omega
    have hCh := cL_ch hXb
    obtain ⟨n, hn⟩ : ∃ n, X.length = n := ⟨_, rfl⟩
    rw [hn] at hbc3 hcap hXn hCh ⊢
    have HX : Hid (BC w3 ad n (cL X) ∧ Ch (cL X) n) := ⟨hbc3, hCh⟩
    have hblk := blk_stay HW.out.2 HB3.out
    have HBK : Hid (w3.heap[D]? = some (.cells #[.int .i64 sa, .int .i64 sm] 35)) := hblk
    have HU3 : Hid (Up w.heap.size w w3) := ⟨HW.out.1.trans (HB3.out.mono HW.out.1.size), Nat.le_trans HW.out.1.size HB3.out.size⟩
    clear cb0 ho3 hb3 hbc3 hCh hXb hn
    cases raw with
    | true =>
      have hS0 : ∃ pa pm : Int, w3.cell? ⟨D, 0, none⟩ = some (.int .i64 pa) ∧ w3.cell? ⟨D, 1, none⟩ = some (.int .i64 pm) := ⟨sa, sm, by simp [World.cell?, hblk], by simp [World.cell?, hblk]⟩
      obtain ⟨pa, pm, hS1⟩ := hS0
      have HS : Hid (w3.cell? ⟨D, 0, none⟩ = some (.int .i64 pa) ∧ w3.cell? ⟨D, 1, none⟩ = some (.int .i64 pm)) := hS1
      have HXq : Hid (BC w3 ad n (cL X) ∧ Ch (cL X) n) := HX.out
      have HUq : Hid (Up w.heap.size w w3) := HU3.out
      clear hblk hS1 HLO HBK HWS HX HU3 HW HB1 HB2 HB3 HH
      have HGq : Hid (Glb w3) := HG0.out.stay HUq.out.1
      obtain ⟨V1, hV1⟩ : ∃ V, w3.alloc (.cells #[.int .u8 (f : Int), .int .u8 ((f : Int) % 9)] 30) = V := ⟨_, rfl⟩
      have hV1h : V1.heap[w3.heap.size]? = some (.cells #[.int .u8 (f : Int), .int .u8 ((f : Int) % 9)] 30) := by rw [← hV1]; exact heap_alloc_new _ _
      have hV1b : Below w3.heap.size w3 V1 := by rw [← hV1]; exact below_alloc w3 _
      obtain ⟨Fb, hFb⟩ : ∃ Fb, w3.heap.size = Fb := ⟨_, rfl⟩
      have HV1 : Hid (Up w3.heap.size w3 V1 ∧ ∀ t, t < 2 → ∃ fv : Int, 0 ≤ fv ∧ V1.cell? ⟨Fb, t, none⟩ = some (.int .u8 fv)) := by
        refine ⟨⟨hV1b, hV1b.size⟩, fun t ht => ?_⟩
        rw [hFb] at hV1h
        match t, ht with
        | 0, _ => exact ⟨(f : Int), by omega, by simp [World.cell?, hV1h]⟩
        | 1, _ => exact ⟨(f : Int) % 9, by omega, by simp [World.cell?, hV1h]⟩
      clear hV1h hV1b
      go_wp2
      (try rw [hFb])
      clear hV1 hFb
      go_loopg [62] 2 (fun q iv wr => ∃ t : Nat, t ≤ 2 ∧ q = 2 - t ∧ iv = .int .i64 t ∧ Hid (Up V1.heap.size V1 wr))
      case atStart => exact ⟨0, Nat.zero_le _, rfl, rfl, Up.refl V1⟩
      case round =>
        obtain ⟨t, ht, hq1, rfl, HR1⟩ := hrel
        obtain ⟨wr1, rfl⟩ : ∃ wr1, wr1 = wr := ⟨_, rfl⟩
        by_cases hlt1 : t < 2
        · have a0 : (0 : Int) ≤ (t : Int) := by omega
          have a1 : (t : Int) < 2 := by omega
          obtain ⟨fv, hf0, hfv⟩ := HV1.out.2 t hlt1
          have hcf := cell_stay hfv HR1.out.1
          obtain ⟨V2, hV2⟩ : ∃ V, wr1.alloc (.cells #[.int .u8 (wh : Int), .int .u8 (1 + (wh : Int) % 7), .int .u8 1, .int .u8 5] 37) = V := ⟨_, rfl⟩
          have hV2h : V2.heap[wr1.heap.size]? = some (.cells #[.int .u8 (wh : Int), .int .u8 (1 + (wh : Int) % 7), .int .u8 1, .int .u8 5] 37) := by rw [← hV2]; exact heap_alloc_new _ _
          have hV2b : Below wr1.heap.size wr1 V2 := by rw [← hV2]; exact below_alloc wr1 _
          obtain ⟨Lb, hLb⟩ : ∃ Lb, wr1.heap.size = Lb := ⟨_, rfl⟩
          have HV2 : Hid (Up w3.heap.size w3 V2 ∧ (∀ t, t < 4 → ∃ lv : Int, V2.cell? ⟨Lb, t, none⟩ = some (.int .u8 lv)) ∧ Up V1.heap.size V1 V2) := by
            refine ⟨(HV1.out.1.stay HR1.out.1).stay hV2b, fun t ht => ?_, HR1.out.stay hV2b⟩
            rw [hLb] at hV2h
            match t, ht with
            | 0, _ => exact ⟨(wh : Int), by simp [World.cell?, hV2h]⟩
            | 1, _ => exact ⟨1 + (wh : Int) % 7, by simp [World.cell?, hV2h]⟩
            | 2, _ => exact ⟨1, by simp [World.cell?, hV2h]⟩
            | 3, _ => exact ⟨5, by simp [World.cell?, hV2h]⟩
          have HFV : Hid (0 ≤ fv) := hf0
          clear hV2h hV2b hfv hf0
          go_wp2
          (try rw [hLb])
          clear hV2 hLb hcf
          go_loopg [72] 4 (fun q iv wr => ∃ t2 : Nat, t2 ≤ 4 ∧ q = 4 - t2 ∧ iv = .int .i64 t2 ∧ Hid (Up V2.heap.size V2 wr))
          case atStart => exact ⟨0, Nat.zero_le _, rfl, rfl, Up.refl V2⟩
          case round =>
            obtain ⟨t2, ht2, hq2, rfl, HR2⟩ := hrel
            obtain ⟨wr2, rfl⟩ : ∃ wr2, wr2 = wr := ⟨_, rfl⟩
            by_cases hlt2 : t2 < 4
            · have b0 : (0 : Int) ≤ (t2 : Int) := by omega
              have b1 : (t2 : Int) < 4 := by omega
              obtain ⟨lv, hlv⟩ := HV2.out.2.1 t2 hlt2
              have hcl := cell_stay hlv HR2.out.1
              have hUq2 := HV2.out.1.stay HR2.out.1
              have d0 := cell_stay HS.out.1 hUq2.1
              have d1 := cell_stay HS.out.2 hUq2.1
              obtain ⟨V3, hV3⟩ : ∃ V, wr2.alloc (.cells #[.int .u8 lv, .int .i64 pa, .int .i64 pm] 40) = V := ⟨_, rfl⟩
              have hV3h : V3.heap[wr2.heap.size]? = some (.cells #[.int .u8 lv, .int .i64 pa, .int .i64 pm] 40) := by rw [← hV3]; exact heap_alloc_new _ _
              have hV3b : Below wr2.heap.size wr2 V3 := by rw [← hV3]; exact below_alloc wr2 _
              obtain ⟨Gb, hGb⟩ : ∃ Gb, wr2.heap.size = Gb := ⟨_, rfl⟩
              have e0 : V3.cell? ⟨Gb, 0, none⟩ = some (.int .u8 lv) := by rw [hGb] at hV3h; simp [World.cell?, hV3h]
              have e1 : V3.cell? ⟨Gb, 1, none⟩ = some (.int .i64 pa) := by rw [hGb] at hV3h; simp [World.cell?, hV3h]
              have e2 : V3.cell? ⟨Gb, 2, none⟩ = some (.int .i64 pm) := by rw [hGb] at hV3h; simp [World.cell?, hV3h]
              have HV3 : Hid (Up V2.heap.size V2 V3 ∧ Up w3.heap.size w3 V3) := ⟨HR2.out.stay hV3b, hUq2.stay hV3b⟩
              clear hV3h hV3b hlv hUq2
              by_cases hin : inB pa pm n = true
              · have hin4 : 0 ≤ pa ∧ 0 ≤ pm ∧ pa ≤ (n : Int) ∧ pm ≤ (n : Int) - pa := by
                  unfold inB at hin
                  simpa [and_assoc] using hin
                obtain ⟨A, hA⟩ : ∃ A : Nat, pa = (A : Int) := ⟨pa.toNat, by omega⟩
                obtain ⟨M, hM⟩ : ∃ M : Nat, pm = (M : Int) := ⟨pm.toNat, by omega⟩
                have hAM : A + M ≤ n := by omega
                have cu := units_any HXq.out.2.1 (HXq.out.1.stay HV3.out.2.1) hcap (by omega) hcbig hAM fv lv (HGq.out.stay HV3.out.2.1)
                rw [← hA, ← hM] at cu
                have hc8 : ∀ j, j < A + M → 0 ≤ cL X j ∧ cL X j ≤ 255 := fun j hj => by have := HXq.out.2.1 j (by omega); omega
                have hpos := un_pos (f := fv) (l := lv) hc8 (A + M - A) A rfl
                have hlen := un_len (f := fv) (l := lv) hc8 (A + M - A) A rfl
                have HRU : Hid (∀ w' : World, Up w3.heap.size w3 w' → Calls Tryd.prog 16 #[.int .u8 fv, .slice ad n cap, .agg #[.int .u8 lv, .int .i64 pa, .int .i64 pm]] w' (UnP w' (un fv lv (cL X) (A + M) A))) := fun w' hw' => by
                  rw [hA, hM]
                  exact runits_any HXq.out.2.1 (HXq.out.1.stay hw'.1) hcap (by omega) hcbig hAM HFV.out
                obtain ⟨U, hU⟩ : ∃ U, un fv lv (cL X) (A + M) A = U := ⟨_, rfl⟩
                rw [hU] at cu hpos hlen HRU
                have HLEN : Hid (U.length ≤ 1200) := by show _ ≤ _; omega
                have HBND : Hid ((∀ u ∈ U, -1000000 ≤ u.a ∧ u.a ≤ 1000000 ∧ -1000000 ≤ u.n ∧ u.n ≤ 1000000) ∧ ∀ y, U[U.length - 1]? = some y → inB y.a y.n n = true) := by
                  refine ⟨fun u hu => ?_, fun y hy => ?_⟩
                  · obtain ⟨a, k, q1, q2, q3, q4, q5, -⟩ := hpos u hu
                    omega
                  · obtain ⟨a, k, q1, q2, q3, q4, q5, -⟩ := hpos y (List.mem_of_getElem? hy)
                    unfold inB
                    simp
                    omega
                clear hpos hlen hc8 hin4 hU hin hA hM hAM
                go_wp2_with fail
                (try rw [hGb])
                refine cu.mono ?_
                rintro ev w5 ⟨uv, rfl, hUR, hb5⟩
                have HB5 : Hid (Up V2.heap.size V2 w5 ∧ US w5 uv U ∧ Up w3.heap.size w3 w5) := ⟨HV3.out.1.stay hb5, hUR.us, HV3.out.2.stay hb5⟩
                have e0' := cell_stay e0 hb5
                have e1' := cell_stay e1 hb5
                have e2' := cell_stay e2 hb5
                have cr := HRU.out w5 HB5.out.2.2
                clear cu hUR hb5 e0 e1 e2 hV3 hGb d0 d1 hcl
                go_wp2_with fail
                refine cr.mono ?_
                rintro ev wA ⟨rv, rfl, hURr, hbA⟩
                have hUA : Up V2.heap.size V2 wA := HB5.out.1.stay hbA
                have hUu := HB5.out.2.1.stay hbA
                have hUr := hURr.us
                clear cr hURr hbA e0' e1' e2' HRU HB5
                have HBA : Hid (Up V2.heap.size V2 wA ∧ US wA uv U ∧ US wA rv U) := ⟨hUA, hUu, hUr⟩
                have cS := rsameU_any hUu hUr (by have := HLEN.out; omega)
                clear hUA hUu hUr
                go_wp2_with fail
                refine cS.mono ?_
                rintro ev wB ⟨rfl, hbB⟩
                have HBB : Hid (Up V2.heap.size V2 wB ∧ US wB uv U ∧ US wB rv U) := ⟨HBA.out.1.stay hbB, HBA.out.2.1.stay hbB, HBA.out.2.2.stay hbB⟩
                have cT := text_any HBB.out.2.1 (by have := HLEN.out; omega)
                obtain ⟨TS, hTS⟩ : ∃ TS, strOfNums (tU U) = TS := ⟨_, rfl⟩
                have HTS : Hid (strOfNums (tU U) = TS) := hTS
                rw [hTS] at cT
                have ns : (TS.toList != TS.toList) = false := by simp
                clear cS hbB HBA hTS
                go_wp2_with fail
                refine cT.mono ?_
                rintro ev wC ⟨rfl, hbC⟩
                have HBC : Hid (Up V2.heap.size V2 wC ∧ US wC uv U ∧ US wC rv U) := ⟨HBB.out.1.stay hbC, HBB.out.2.1.stay hbC, HBB.out.2.2.stay hbC⟩
                have cT2 := rtextU_any HBC.out.2.2 (by have := HLEN.out; omega)
                rw [HTS.out] at cT2
                clear cT hbC HBB
                go_wp2_with fail
                refine cT2.mono ?_
                rintro ev wD ⟨rfl, hbD⟩
                have HBD : Hid (Up V2.heap.size V2 wD ∧ US wD uv U ∧ US wD rv U) := ⟨HBC.out.1.stay hbD, HBC.out.2.1.stay hbD, HBC.out.2.2.stay hbD⟩
                have cL1 := lit_any HXq.out.2.1 (HXq.out.1.stay (HV2.out.1.stay HBD.out.1.1).1) hcap (by omega) hcbig HBD.out.2.1 (by have := HLEN.out; omega) HBND.out.1
                obtain ⟨qb, hqb⟩ : ∃ qb, litB (cL X) n U = qb := ⟨_, rfl⟩
                have HQB : Hid (litB (cL X) n U = qb) := hqb
                rw [hqb] at cL1
                have nq : (qb != qb) = false := by simp
                clear cT2 hbD HBC hqb
                go_wp2_with fail
                refine cL1.mono ?_
                rintro ev wE ⟨rfl, hbE⟩
                have HBE : Hid (Up V2.heap.size V2 wE) := HBD.out.1.stay hbE
                have cL2 := rlit_any HXq.out.2.1 (HXq.out.1.stay (HV2.out.1.stay HBE.out.1).1) hcap (by omega) hcbig (HBD.out.2.1.stay hbE) (by have := HLEN.out; omega) HBND.out.1
                rw [HQB.out] at cL2
                clear cL1 hbE HBD HQB
                go_wp2_with fail
                refine cL2.mono ?_
                rintro ev wF ⟨rfl, hbF⟩
                have HBF : Hid (Up V2.heap.size V2 wF) := HBE.out.stay hbF
                clear cL2 hbF
                go_wp2
                go_roundg (4 - (t2 + 1))
                case measure => omega
                case rel => exact ⟨t2 + 1, by omega, rfl, by go_num, HBF⟩
              · have hif : inB pa pm n = false := by simpa using hin
                have cu := units_no (w := V3) (ad := ad) (n := n) (cap := cap) (f := fv) (l := lv) (by omega) hif
                have cr := fun w' => runits_no (w := w') (ad := ad) (n := n) (cap := cap) (f := fv) (l := lv) (by omega) hif
                have HLEN : Hid (([] : List U3).length ≤ 1200) := Nat.zero_le _
                have HBND : Hid ((∀ u ∈ ([] : List U3), -1000000 ≤ u.a ∧ u.a ≤ 1000000 ∧ -1000000 ≤ u.n ∧ u.n ≤ 1000000) ∧ ∀ y, ([] : List U3)[([] : List U3).length - 1]? = some y → inB y.a y.n n = true) := ⟨fun u hu => (by cases hu), fun y hy => (by simp at hy)⟩
                clear hin hif
                go_wp2_with fail
                (try rw [hGb])
                refine cu.mono ?_
                rintro ev w5 ⟨rfl, hb5⟩
                have HB5 : Hid (Up V2.heap.size V2 w5) := HV3.out.1.stay hb5
                have e0' := cell_stay e0 hb5
                have e1' := cell_stay e1 hb5
                have e2' := cell_stay e2 hb5
                clear cu hb5 e0 e1 e2 hV3 hGb d0 d1 hcl
                go_wp2_with fail
                refine (cr _).mono ?_
                rintro ev wA ⟨rfl, hbA⟩
                have hUA : Up V2.heap.size V2 wA := HB5.out.stay hbA
                have hUu : US wA (.slice none 0 0) [] := ⟨none, 0, rfl, Nat.le_refl _, fun i x hx => by simp at hx⟩
                have hUr := hUu
                clear cr hbA e0' e1' e2' HB5
                have HBA : Hid (Up V2.heap.size V2 wA ∧ US wA (.slice none 0 0) ([] : List U3) ∧ US wA (.slice none 0 0) ([] : List U3)) := ⟨hUA, hUu, hUr⟩
                have cS := rsameU_any hUu hUr (by have := HLEN.out; omega)
                clear hUA hUu hUr
                go_wp2_with fail
                refine cS.mono ?_
                rintro ev wB ⟨rfl, hbB⟩
                have HBB : Hid (Up V2.heap.size V2 wB ∧ US wB (.slice none 0 0) ([] : List U3) ∧ US wB (.slice none 0 0) ([] : List U3)) := ⟨HBA.out.1.stay hbB, HBA.out.2.1.stay hbB, HBA.out.2.2.stay hbB⟩
                have cT := text_any HBB.out.2.1 (by have := HLEN.out; omega)
                obtain ⟨TS, hTS⟩ : ∃ TS, strOfNums (tU ([] : List U3)) = TS := ⟨_, rfl⟩
                have HTS : Hid (strOfNums (tU ([] : List U3)) = TS) := hTS
                rw [hTS] at cT
                have ns : (TS.toList != TS.toList) = false := by simp
                clear cS hbB HBA hTS
                go_wp2_with fail
                refine cT.mono ?_
                rintro ev wC ⟨rfl, hbC⟩
                have HBC : Hid (Up V2.heap.size V2 wC ∧ US wC (.slice none 0 0) ([] : List U3) ∧ US wC (.slice none 0 0) ([] : List U3)) := ⟨HBB.out.1.stay hbC, HBB.out.2.1.stay hbC, HBB.out.2.2.stay hbC⟩
                have cT2 := rtextU_any HBC.out.2.2 (by have := HLEN.out; omega)
                rw [HTS.out] at cT2
                clear cT hbC HBB
                go_wp2_with fail
                refine cT2.mono ?_
                rintro ev wD ⟨rfl, hbD⟩
                have HBD : Hid (Up V2.heap.size V2 wD ∧ US wD (.slice none 0 0) ([] : List U3) ∧ US wD (.slice none 0 0) ([] : List U3)) := ⟨HBC.out.1.stay hbD, HBC.out.2.1.stay hbD, HBC.out.2.2.stay hbD⟩
                have cL1 := lit_any HXq.out.2.1 (HXq.out.1.stay (HV2.out.1.stay HBD.out.1.1).1) hcap (by omega) hcbig HBD.out.2.1 (by have := HLEN.out; omega) HBND.out.1
                obtain ⟨qb, hqb⟩ : ∃ qb, litB (cL X) n ([] : List U3) = qb := ⟨_, rfl⟩
                have HQB : Hid (litB (cL X) n ([] : List U3) = qb) := hqb
                rw [hqb] at cL1
                have nq : (qb != qb) = false := by simp
                clear cT2 hbD HBC hqb
                go_wp2_with fail
                refine cL1.mono ?_
                rintro ev wE ⟨rfl, hbE⟩
                have HBE : Hid (Up V2.heap.size V2 wE) := HBD.out.1.stay hbE
                have cL2 := rlit_any HXq.out.2.1 (HXq.out.1.stay (HV2.out.1.stay HBE.out.1).1) hcap (by omega) hcbig (HBD.out.2.1.stay hbE) (by have := HLEN.out; omega) HBND.out.1
                rw [HQB.out] at cL2
                clear cL1 hbE HBD HQB
                go_wp2_with fail
                refine cL2.mono ?_
                rintro ev wF ⟨rfl, hbF⟩
                have HBF : Hid (Up V2.heap.size V2 wF) := HBE.out.stay hbF
                clear cL2 hbF
                go_wp2
                go_roundg (4 - (t2 + 1))
                case measure => omega
                case rel => exact ⟨t2 + 1, by omega, rfl, by go_num, HBF⟩
            · have b1 : ¬ (t2 : Int) < 4 := by omega
              have HR1b : Hid (Up V1.heap.size V1 wr2) := HV2.out.2.2.stay HR2.out.1
              go_wp2
              go_roundg (2 - (t + 1))
              case measure => omega
              case rel => exact ⟨t + 1, by omega, rfl, by go_num, HR1b⟩
        · have a1 : ¬ (t : Int) < 2 := by omega
          go_wp2
          go_ret
          exact ⟨rfl, (HUq.out.stay (HV1.out.1.stay HR1.out.1).1).1⟩
    | false =>
      have y0 : w3.cell? ⟨D, 0, none⟩ = some (.int .i64 sa) := by simp [World.cell?, hblk]
      have y1 : w3.cell? ⟨D, 1, none⟩ = some (.int .i64 sm) := by simp [World.cell?, hblk]
      have z0 : w3.frozen? ⟨D, 0, none⟩ = false := by simp [World.frozen?, hblk]
      have z1 : w3.frozen? ⟨D, 1, none⟩ = false := by simp [World.frozen?, hblk]
      have k0 : ((n : Int) + 1 == 0) = false := beq_eq_false_iff_ne.2 (by omega)
      obtain ⟨A, hA, hAn⟩ := rem_in sa n (by omega)
      have hAI : (A : Int) ≤ (n : Int) := by omega
      have k1 : ((n : Int) - (A : Int) + 1 == 0) = false := beq_eq_false_iff_ne.2 (by omega)
      obtain ⟨M, hM, hMn⟩ := rem_in sm (n - A) (by omega)
      have hM2 : wrap64 ((IntKind.u64.wrap sm).tmod ((n : Int) - (A : Int) + 1)) = (M : Int) := by
        rw [← hM]
        congr 2
        omega
      obtain ⟨wq, hwq⟩ : ∃ wq, (w3.setCell ⟨D, 0, none⟩ (.int .i64 (A : Int))).setCell ⟨D, 1, none⟩ (.int .i64 (M : Int)) = wq := ⟨_, rfl⟩
      have h1 := heap_setCell_same w3 D 0 _ _ (.int .i64 (A : Int)) hblk
      have h2 := heap_setCell_same _ D 1 _ _ (.int .i64 (M : Int)) h1
      rw [hwq] at h2
      have hoth : ∀ q, q ≠ D → wq.heap[q]? = w3.heap[q]? := fun q hq => by
        rw [← hwq, heap_setCell_other _ ⟨D, 1, none⟩ q _ hq, heap_setCell_other _ ⟨D, 0, none⟩ q _ hq]
      have HS : Hid (wq.cell? ⟨D, 0, none⟩ = some (.int .i64 (A : Int)) ∧ wq.cell? ⟨D, 1, none⟩ = some (.int .i64 (M : Int))) := ⟨by simp [World.cell?, h2], by simp [World.cell?, h2]⟩
      have HXq : Hid (BC wq ad n (cL X) ∧ Ch (cL X) n) := ⟨fun q hq => by
        obtain ⟨b, off, e, hc⟩ := HX.out.1 q hq
        refine ⟨b, off, e, ?_⟩
        have hne : b ≠ D := by have := HLO.out b off e; omega
        simp only [World.cell?, hoth b hne]
        simpa [World.cell?] using hc, HX.out.2⟩
      have HUq : Hid (Up w.heap.size w wq) := by
        show Up _ _ _
        rw [← hwq]
        exact (HU3.out.setCell (show w.heap.size ≤ D by rw [HD.out]; exact Nat.le_refl _) _).setCell (show w.heap.size ≤ D by rw [HD.out]; exact Nat.le_refl _) _
      clear hblk h1 h2 hoth hAn hMn hM HLO HBK HWS HX HU3 HW HB1 HB2 HB3 HH
      go_upto_region 9 with fail
      (try rw [hwq])
      clear y0 y1 z0 z1 k0 k1 hA hM2 hAI hwq
      obtain ⟨pa, hpa⟩ : ∃ pa : Int, (A : Int) = pa := ⟨_, rfl⟩
      obtain ⟨pm, hpm⟩ : ∃ pm : Int, (M : Int) = pm := ⟨_, rfl⟩
      rw [hpa, hpm] at HS
      clear hpa hpm
      have HGq : Hid (Glb wq) := HG0.out.stay HUq.out.1
      obtain ⟨V1, hV1⟩ : ∃ V, wq.alloc (.cells #[.int .u8 (f : Int), .int .u8 ((f : Int) % 9)] 30) = V := ⟨_, rfl⟩
      have hV1h : V1.heap[wq.heap.size]? = some (.cells #[.int .u8 (f : Int), .int .u8 ((f : Int) % 9)] 30) := by rw [← hV1]; exact heap_alloc_new _ _
      have hV1b : Below wq.heap.size wq V1 := by rw [← hV1]; exact below_alloc wq _
      obtain ⟨Fb, hFb⟩ : ∃ Fb, wq.heap.size = Fb := ⟨_, rfl⟩
      have HV1 : Hid (Up wq.heap.size wq V1 ∧ ∀ t, t < 2 → ∃ fv : Int, 0 ≤ fv ∧ V1.cell? ⟨Fb, t, none⟩ = some (.int .u8 fv)) := by
        refine ⟨⟨hV1b, hV1b.size⟩, fun t ht => ?_⟩
        rw [hFb] at hV1h
        match t, ht with
        | 0, _ => exact ⟨(f : Int), by omega, by simp [World.cell?, hV1h]⟩
        | 1, _ => exact ⟨(f : Int) % 9, by omega, by simp [World.cell?, hV1h]⟩
      clear hV1h hV1b
      go_wp2
      (try rw [hFb])
      clear hV1 hFb
      go_loopg [62] 2 (fun q iv wr => ∃ t : Nat, t ≤ 2 ∧ q = 2 - t ∧ iv = .int .i64 t ∧ Hid (Up V1.heap.size V1 wr))
      case atStart => exact ⟨0, Nat.zero_le _, rfl, rfl, Up.refl V1⟩
      case round =>
        obtain ⟨t, ht, hq1, rfl, HR1⟩ := hrel
        obtain ⟨wr1, rfl⟩ : ∃ wr1, wr1 = wr := ⟨_, rfl⟩
        by_cases hlt1 : t < 2
        · have a0 : (0 : Int) ≤ (t : Int) := by omega
          have a1 : (t : Int) < 2 := by omega
          obtain ⟨fv, hf0, hfv⟩ := HV1.out.2 t hlt1
          have hcf := cell_stay hfv HR1.out.1
          obtain ⟨V2, hV2⟩ : ∃ V, wr1.alloc (.cells #[.int .u8 (wh : Int), .int .u8 (1 + (wh : Int) % 7), .int .u8 1, .int .u8 5] 37) = V := ⟨_, rfl⟩
          have hV2h : V2.heap[wr1.heap.size]? = some (.cells #[.int .u8 (wh : Int), .int .u8 (1 + (wh : Int) % 7), .int .u8 1, .int .u8 5] 37) := by rw [← hV2]; exact heap_alloc_new _ _
          have hV2b : Below wr1.heap.size wr1 V2 := by rw [← hV2]; exact below_alloc wr1 _
          obtain ⟨Lb, hLb⟩ : ∃ Lb, wr1.heap.size = Lb := ⟨_, rfl⟩
          have HV2 : Hid (Up wq.heap.size wq V2 ∧ (∀ t, t < 4 → ∃ lv : Int, V2.cell? ⟨Lb, t, none⟩ = some (.int .u8 lv)) ∧ Up V1.heap.size V1 V2) := by
            refine ⟨(HV1.out.1.stay HR1.out.1).stay hV2b, fun t ht => ?_, HR1.out.stay hV2b⟩
            rw [hLb] at hV2h
            match t, ht with
            | 0, _ => exact ⟨(wh : Int), by simp [World.cell?, hV2h]⟩
            | 1, _ => exact ⟨1 + (wh : Int) % 7, by simp [World.cell?, hV2h]⟩
            | 2, _ => exact ⟨1, by simp [World.cell?, hV2h]⟩
            | 3, _ => exact ⟨5, by simp [World.cell?, hV2h]⟩
          have HFV : Hid (0 ≤ fv) := hf0
          clear hV2h hV2b hfv hf0
          go_wp2
          (try rw [hLb])
          clear hV2 hLb hcf
          go_loopg [72] 4 (fun q iv wr => ∃ t2 : Nat, t2 ≤ 4 ∧ q = 4 - t2 ∧ iv = .int .i64 t2 ∧ Hid (Up V2.heap.size V2 wr))
          case atStart => exact ⟨0, Nat.zero_le _, rfl, rfl, Up.refl V2⟩
          case round =>
            obtain ⟨t2, ht2, hq2, rfl, HR2⟩ := hrel
            obtain ⟨wr2, rfl⟩ : ∃ wr2, wr2 = wr := ⟨_, rfl⟩
            by_cases hlt2 : t2 < 4
            · have b0 : (0 : Int) ≤ (t2 : Int) := by omega
              have b1 : (t2 : Int) < 4 := by omega
              obtain ⟨lv, hlv⟩ := HV2.out.2.1 t2 hlt2
              have hcl := cell_stay hlv HR2.out.1
              have hUq2 := HV2.out.1.stay HR2.out.1
              have d0 := cell_stay HS.out.1 hUq2.1
              have d1 := cell_stay HS.out.2 hUq2.1
              obtain ⟨V3, hV3⟩ : ∃ V, wr2.alloc (.cells #[.int .u8 lv, .int .i64 pa, .int .i64 pm] 40) = V := ⟨_, rfl⟩
              have hV3h : V3.heap[wr2.heap.size]? = some (.cells #[.int .u8 lv, .int .i64 pa, .int .i64 pm] 40) := by rw [← hV3]; exact heap_alloc_new _ _
              have hV3b : Below wr2.heap.size wr2 V3 := by rw [← hV3]; exact below_alloc wr2 _
              obtain ⟨Gb, hGb⟩ : ∃ Gb, wr2.heap.size = Gb := ⟨_, rfl⟩
              have e0 : V3.cell? ⟨Gb, 0, none⟩ = some (.int .u8 lv) := by rw [hGb] at hV3h; simp [World.cell?, hV3h]
              have e1 : V3.cell? ⟨Gb, 1, none⟩ = some (.int .i64 pa) := by rw [hGb] at hV3h; simp [World.cell?, hV3h]
              have e2 : V3.cell? ⟨Gb, 2, none⟩ = some (.int .i64 pm) := by rw [hGb] at hV3h; simp [World.cell?, hV3h]
              have HV3 : Hid (Up V2.heap.size V2 V3 ∧ Up wq.heap.size wq V3) := ⟨HR2.out.stay hV3b, hUq2.stay hV3b⟩
              clear hV3h hV3b hlv hUq2
              by_cases hin : inB pa pm n = true
              · have hin4 : 0 ≤ pa ∧ 0 ≤ pm ∧ pa ≤ (n : Int) ∧ pm ≤ (n : Int) - pa := by
                  unfold inB at hin
                  simpa [and_assoc] using hin
                obtain ⟨A, hA⟩ : ∃ A : Nat, pa = (A : Int) := ⟨pa.toNat, by omega⟩
                obtain ⟨M, hM⟩ : ∃ M : Nat, pm = (M : Int) := ⟨pm.toNat, by omega⟩
                have hAM : A + M ≤ n := by omega
                have cu := units_any HXq.out.2.1 (HXq.out.1.stay HV3.out.2.1) hcap (by omega) hcbig hAM fv lv (HGq.out.stay HV3.out.2.1)
                rw [← hA, ← hM] at cu
                have hc8 : ∀ j, j < A + M → 0 ≤ cL X j ∧ cL X j ≤ 255 := fun j hj => by have := HXq.out.2.1 j (by omega); omega
                have hpos := un_pos (f := fv) (l := lv) hc8 (A + M - A) A rfl
                have hlen := un_len (f := fv) (l := lv) hc8 (A + M - A) A rfl
                have HRU : Hid (∀ w' : World, Up wq.heap.size wq w' → Calls Tryd.prog 16 #[.int .u8 fv, .slice ad n cap, .agg #[.int .u8 lv, .int .i64 pa, .int .i64 pm]] w' (UnP w' (un fv lv (cL X) (A + M) A))) := fun w' hw' => by
                  rw [hA, hM]
                  exact runits_any HXq.out.2.1 (HXq.out.1.stay hw'.1) hcap (by omega) hcbig hAM HFV.out
                obtain ⟨U, hU⟩ : ∃ U, un fv lv (cL X) (A + M) A = U := ⟨_, rfl⟩
                rw [hU] at cu hpos hlen HRU
                have HLEN : Hid (U.length ≤ 1200) := by show _ ≤ _; omega
                have HBND : Hid ((∀ u ∈ U, -1000000 ≤ u.a ∧ u.a ≤ 1000000 ∧ -1000000 ≤ u.n ∧ u.n ≤ 1000000) ∧ ∀ y, U[U.length - 1]? = some y → inB y.a y.n n = true) := by
                  refine ⟨fun u hu => ?_, fun y hy => ?_⟩
                  · obtain ⟨a, k, q1, q2, q3, q4, q5, -⟩ := hpos u hu
                    omega
                  · obtain ⟨a, k, q1, q2, q3, q4, q5, -⟩ := hpos y (List.mem_of_getElem? hy)
                    unfold inB
                    simp
                    omega
                clear hpos hlen hc8 hin4 hU hin hA hM hAM
                go_wp2_with fail
                (try rw [hGb])
                refine cu.mono ?_
                rintro ev w5 ⟨uv, rfl, hUR, hb5⟩
                have HB5 : Hid (Up V2.heap.size V2 w5 ∧ US w5 uv U ∧ Up wq.heap.size wq w5) := ⟨HV3.out.1.stay hb5, hUR.us, HV3.out.2.stay hb5⟩
                have e0' := cell_stay e0 hb5
                have e1' := cell_stay e1 hb5
                have e2' := cell_stay e2 hb5
                have cr := HRU.out w5 HB5.out.2.2
                clear cu hUR hb5 e0 e1 e2 hV3 hGb d0 d1 hcl
                go_wp2_with fail
                refine cr.mono ?_
                rintro ev wA ⟨rv, rfl, hURr, hbA⟩
                have hUA : Up V2.heap.size V2 wA := HB5.out.1.stay hbA
                have hUu := HB5.out.2.1.stay hbA
                have hUr := hURr.us
                clear cr hURr hbA e0' e1' e2' HRU HB5
                have HBA : Hid (Up V2.heap.size V2 wA ∧ US wA uv U ∧ US wA rv U) := ⟨hUA, hUu, hUr⟩
                have cS := rsameU_any hUu hUr (by have := HLEN.out; omega)
                clear hUA hUu hUr
                go_wp2_with fail
                refine cS.mono ?_
                rintro ev wB ⟨rfl, hbB⟩
                have HBB : Hid (Up V2.heap.size V2 wB ∧ US wB uv U ∧ US wB rv U) := ⟨HBA.out.1.stay hbB, HBA.out.2.1.stay hbB, HBA.out.2.2.stay hbB⟩
                have cT := text_any HBB.out.2.1 (by have := HLEN.out; omega)
                obtain ⟨TS, hTS⟩ : ∃ TS, strOfNums (tU U) = TS := ⟨_, rfl⟩
                have HTS : Hid (strOfNums (tU U) = TS) := hTS
                rw [hTS] at cT
                have ns : (TS.toList != TS.toList) = false := by simp
                clear cS hbB HBA hTS
                go_wp2_with fail
                refine cT.mono ?_
                rintro ev wC ⟨rfl, hbC⟩
                have HBC : Hid (Up V2.heap.size V2 wC ∧ US wC uv U ∧ US wC rv U) := ⟨HBB.out.1.stay hbC, HBB.out.2.1.stay hbC, HBB.out.2.2.stay hbC⟩
                have cT2 := rtextU_any HBC.out.2.2 (by have := HLEN.out; omega)
                rw [HTS.out] at cT2
                clear cT hbC HBB
                go_wp2_with fail
                refine cT2.mono ?_
                rintro ev wD ⟨rfl, hbD⟩
                have HBD : Hid (Up V2.heap.size V2 wD ∧ US wD uv U ∧ US wD rv U) := ⟨HBC.out.1.stay hbD, HBC.out.2.1.stay hbD, HBC.out.2.2.stay hbD⟩
                have cL1 := lit_any HXq.out.2.1 (HXq.out.1.stay (HV2.out.1.stay HBD.out.1.1).1) hcap (by omega) hcbig HBD.out.2.1 (by have := HLEN.out; omega) HBND.out.1
                obtain ⟨qb, hqb⟩ : ∃ qb, litB (cL X) n U = qb := ⟨_, rfl⟩
                have HQB : Hid (litB (cL X) n U = qb) := hqb
                rw [hqb] at cL1
                have nq : (qb != qb) = false := by simp
                clear cT2 hbD HBC hqb
                go_wp2_with fail
                refine cL1.mono ?_
                rintro ev wE ⟨rfl, hbE⟩
                have HBE : Hid (Up V2.heap.size V2 wE) := HBD.out.1.stay hbE
                have cL2 := rlit_any HXq.out.2.1 (HXq.out.1.stay (HV2.out.1.stay HBE.out.1).1) hcap (by omega) hcbig (HBD.out.2.1.stay hbE) (by have := HLEN.out; omega) HBND.out.1
                rw [HQB.out] at cL2
                clear cL1 hbE HBD HQB
                go_wp2_with fail
                refine cL2.mono ?_
                rintro ev wF ⟨rfl, hbF⟩
                have HBF : Hid (Up V2.heap.size V2 wF) := HBE.out.stay hbF
                clear cL2 hbF
                go_wp2
                go_roundg (4 - (t2 + 1))
                case measure => omega
                case rel => exact ⟨t2 + 1, by omega, rfl, by go_num, HBF⟩
              · have hif : inB pa pm n = false := by simpa using hin
                have cu := units_no (w := V3) (ad := ad) (n := n) (cap := cap) (f := fv) (l := lv) (by omega) hif
                have cr := fun w' => runits_no (w := w') (ad := ad) (n := n) (cap := cap) (f := fv) (l := lv) (by omega) hif
                have HLEN : Hid (([] : List U3).length ≤ 1200) := Nat.zero_le _
                have HBND : Hid ((∀ u ∈ ([] : List U3), -1000000 ≤ u.a ∧ u.a ≤ 1000000 ∧ -1000000 ≤ u.n ∧ u.n ≤ 1000000) ∧ ∀ y, ([] : List U3)[([] : List U3).length - 1]? = some y → inB y.a y.n n = true) := ⟨fun u hu => (by cases hu), fun y hy => (by simp at hy)⟩
                clear hin hif
                go_wp2_with fail
                (try rw [hGb])
                refine cu.mono ?_
                rintro ev w5 ⟨rfl, hb5⟩
                have HB5 : Hid (Up V2.heap.size V2 w5) := HV3.out.1.stay hb5
                have e0' := cell_stay e0 hb5
                have e1' := cell_stay e1 hb5
                have e2' := cell_stay e2 hb5
                clear cu hb5 e0 e1 e2 hV3 hGb d0 d1 hcl
                go_wp2_with fail
                refine (cr _).mono ?_
                rintro ev wA ⟨rfl, hbA⟩
                have hUA : Up V2.heap.size V2 wA := HB5.out.stay hbA
                have hUu : US wA (.slice none 0 0) [] := ⟨none, 0, rfl, Nat.le_refl _, fun i x hx => by simp at hx⟩
                have hUr := hUu
                clear cr hbA e0' e1' e2' HB5
                have HBA : Hid (Up V2.heap.size V2 wA ∧ US wA (.slice none 0 0) ([] : List U3) ∧ US wA (.slice none 0 0) ([] : List U3)) := ⟨hUA, hUu, hUr⟩
                have cS := rsameU_any hUu hUr (by have := HLEN.out; omega)
                clear hUA hUu hUr
                go_wp2_with fail
                refine cS.mono ?_
                rintro ev wB ⟨rfl, hbB⟩
                have HBB : Hid (Up V2.heap.size V2 wB ∧ US wB (.slice none 0 0) ([] : List U3) ∧ US wB (.slice none 0 0) ([] : List U3)) := ⟨HBA.out.1.stay hbB, HBA.out.2.1.stay hbB, HBA.out.2.2.stay hbB⟩
                have cT := text_any HBB.out.2.1 (by have := HLEN.out; omega)
                obtain ⟨TS, hTS⟩ : ∃ TS, strOfNums (tU ([] : List U3)) = TS := ⟨_, rfl⟩
                have HTS : Hid (strOfNums (tU ([] : List U3)) = TS) := hTS
                rw [hTS] at cT
                have ns : (TS.toList != TS.toList) = false := by simp
                clear cS hbB HBA hTS
                go_wp2_with fail
                refine cT.mono ?_
                rintro ev wC ⟨rfl, hbC⟩
                have HBC : Hid (Up V2.heap.size V2 wC ∧ US wC (.slice none 0 0) ([] : List U3) ∧ US wC (.slice none 0 0) ([] : List U3)) := ⟨HBB.out.1.stay hbC, HBB.out.2.1.stay hbC, HBB.out.2.2.stay hbC⟩
                have cT2 := rtextU_any HBC.out.2.2 (by have := HLEN.out; omega)
                rw [HTS.out] at cT2
                clear cT hbC HBB
                go_wp2_with fail
                refine cT2.mono ?_
                rintro ev wD ⟨rfl, hbD⟩
                have HBD : Hid (Up V2.heap.size V2 wD ∧ US wD (.slice none 0 0) ([] : List U3) ∧ US wD (.slice none 0 0) ([] : List U3)) := ⟨HBC.out.1.stay hbD, HBC.out.2.1.stay hbD, HBC.out.2.2.stay hbD⟩
                have cL1 := lit_any HXq.out.2.1 (HXq.out.1.stay (HV2.out.1.stay HBD.out.1.1).1) hcap (by omega) hcbig HBD.out.2.1 (by have := HLEN.out; omega) HBND.out.1
                obtain ⟨qb, hqb⟩ : ∃ qb, litB (cL X) n ([] : List U3) = qb := ⟨_, rfl⟩
                have HQB : Hid (litB (cL X) n ([] : List U3) = qb) := hqb
                rw [hqb] at cL1
                have nq : (qb != qb) = false := by simp
                clear cT2 hbD HBC hqb
                go_wp2_with fail
                refine cL1.mono ?_
                rintro ev wE ⟨rfl, hbE⟩
                have HBE : Hid (Up V2.heap.size V2 wE) := HBD.out.1.stay hbE
                have cL2 := rlit_any HXq.out.2.1 (HXq.out.1.stay (HV2.out.1.stay HBE.out.1).1) hcap (by omega) hcbig (HBD.out.2.1.stay hbE) (by have := HLEN.out; omega) HBND.out.1
                rw [HQB.out] at cL2
                clear cL1 hbE HBD HQB
                go_wp2_with fail
                refine cL2.mono ?_
                rintro ev wF ⟨rfl, hbF⟩
                have HBF : Hid (Up V2.heap.size V2 wF) := HBE.out.stay hbF
                clear cL2 hbF
                go_wp2
                go_roundg (4 - (t2 + 1))
                case measure => omega
                case rel => exact ⟨t2 + 1, by omega, rfl, by go_num, HBF⟩
            · have b1 : ¬ (t2 : Int) < 4 := by omega
              have HR1b : Hid (Up V1.heap.size V1 wr2) := HV2.out.2.2.stay HR2.out.1
              go_wp2
              go_roundg (2 - (t + 1))
              case measure => omega
              case rel => exact ⟨t + 1, by omega, rfl, by go_num, HR1b⟩
        · have a1 : ¬ (t : Int) < 2 := by omega
          go_wp2
          go_ret
          exact ⟨rfl, (HUq.out.stay (HV1.out.1.stay HR1.out.1).1).1⟩
theorem units_u8 {w : World} (hG : Glb w) {f wh : Int} (hf : 0 ≤ f ∧ f < 256) (hw : 0 ≤ wh ∧ wh < 256) {ba : Option Addr} {bn bcap : Nat} {bc : Nat → Int} (hbC : Ch bc bn) (hb : BC w ba bn bc) (hbcap : bn ≤ bcap) (hbn : bn ≤ maxLen)
    {la : Option Addr} {ln lcap : Nat} {lc : Nat → Int} (hlC : Ch lc ln) (hl : BC w la ln lc) (hln : ln ≤ maxLen) {sa sm : Int} (hsa : (Lit.int .i64 sa).wf = true) (hsm : (Lit.int .i64 sm).wf = true) (raw : Bool) :
    Calls Tryd.prog 4 #[.int .u8 f, .int .u8 wh, .slice ba bn bcap, .slice la ln lcap, .agg #[.int .i64 sa, .int .i64 sm], .bool raw] w fun ev w' => ev = .returned (.bool true) ∧ Below w.heap.size w w' := by
  obtain ⟨F, rfl⟩ : ∃ F : Nat, f = (F : Int) := ⟨f.toNat, by omega⟩
  obtain ⟨H, rfl⟩ : ∃ H : Nat, wh = (H : Int) := ⟨wh.toNat, by omega⟩
  exact units_law hG hbC hb hbcap hbn hlC hl hln hsa hsm raw
end Go.Proofs.YtkfgfbdalkifjaaDoor
