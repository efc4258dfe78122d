/- SrcLex. -/
import Derived.Test.YtgebmmbnpdhooaasRs
import Derived.Test.YtgebmmbnpdhooaasBitM
import Derived.Test.YtgebmmbnpdhooaasLex
import Derived.Test.YtgebmmbnpdhooaalSame
namespace Go.Proofs.Ytgebmmbnpdhooaa
set_option linter.unusedVariables false
open Go.RowKit Go.ChangeShapes
theorem ptr_ne (T : Nat) (w : World) : (binOp .neq 30 (.pointer none) (.pointer none)).run Try.prog w = .ok (.bool false) w := by kernel_rfl
set_option maxRecDepth 100000 in
set_option maxHeartbeats 4000000 in
theorem lex_law {w : World} {a0 : Int} (ha0 : 0 ≤ a0 ∧ a0 < 256) {ba : Option Addr} {bn bcap : Nat} {bc : Nat → Int} (hbC : Ch bc bn) (hb : BC w ba bn bc) (hbcap : bn ≤ bcap) (hbn : bn ≤ maxLen) (hbc9 : bcap ≤ maxLen)
    {la : Option Addr} {ln lcap : Nat} {lc : Nat → Int} (hlC : Ch lc ln) (hl : BC w la ln lc) (hln : ln ≤ maxLen) :
    Calls Try.prog 3 #[.int .u8 a0, .slice ba bn bcap, .slice la ln lcap] w fun ev w' => ev = .returned (.bool true) ∧ Below w.heap.size w w' := by
  have ca := awake_any w
  have HH : Hid (Ch bc bn ∧ BC w ba bn bc ∧ bn ≤ maxLen ∧ Ch lc ln ∧ BC w la ln lc ∧ ln ≤ maxLen ∧ bn ≤ bcap ∧ bcap ≤ maxLen) := ⟨hbC, hb, hbn, hlC, hl, hln, hbcap, hbc9⟩
  have CPs : Hid (∀ w', Calls Try.prog 11 #[] w' fun ev w'' => ∃ G, ev = .returned (.slice (some ⟨G, 0, none⟩) 30 30) ∧ PS w'' G psP ∧ Below w'.heap.size w' w'') := pieces_any
  obtain ⟨X0, hX0⟩ : ∃ X : Nat, a0 = (X : Int) := ⟨a0.toNat, by omega⟩
  subst hX0
  have hx9 : X0 < 256 := by omega
  obtain ⟨r, hr⟩ : ∃ r, X0 % 5 = r := ⟨_, rfl⟩
  have hr5 : r < 5 := by rw [← hr]; exact Nat.mod_lt _ (by decide)
  have hmd : Int.tmod (X0 : Int) 5 = (r : Int) := by rw [← hr]; exact nat_mod X0 5
  obtain ⟨kf, hkf⟩ : ∃ x, 4 + (r : Int) = x := ⟨_, rfl⟩
  have hkb : 4 ≤ kf ∧ kf ≤ 8 := by omega
  have hwk : IntKind.u8.wrap (4 + (r : Int)) = kf := by
    have h5 : r = 0 ∨ r = 1 ∨ r = 2 ∨ r = 3 ∨ r = 4 := by omega
    rcases h5 with rfl | rfl | rfl | rfl | rfl <;> (subst hkf; rfl)
  have HK : Hid (4 ≤ kf ∧ kf ≤ 8 ∧ X0 < 256) := ⟨hkb.1, hkb.2, hx9⟩
  clear hbC hb hlC hl hln hbn hbcap hbc9 hr hr5 hkf hkb hx9 ha0
  go_enter Try.func3, Try.ntmps3
  go_wp2_with fail
  refine ca.mono ?_
  rintro ev w1 ⟨rfl, hb1⟩
  have HB1 : Hid (Below w.heap.size w w1) := hb1
  clear ca hb1
  by_cases h5 : (1000 : Int) < (bn : Int)
  · go_wp2
    go_ret
    exact ⟨rfl, HB1.out⟩
  · have cp := CPs.out w1
    clear CPs
    go_wp2_with fail
    refine cp.mono ?_
    rintro ev w2 ⟨G, rfl, hps, hb2⟩
    have HB2 : Hid (Below w.heap.size w w2) := HB1.out.trans (hb2.mono HB1.out.size)
    obtain ⟨S, hS⟩ : ∃ S, bts psP bc bn (nl lc ln) = S := ⟨_, rfl⟩
    have cb : Calls Try.prog 10 #[.slice (some ⟨G, 0, none⟩) 30 30, .slice la ln lcap, .slice ba bn bcap] w2 fun ev w' => ∃ v, ev = .returned v ∧ OB w' w2.heap.size v S ∧ Below w2.heap.size w2 w' := by
      rw [← hS]
      exact bits_any (pc := 30) (rcap := bcap) (lcap := lcap) hps (pslen (by decide)) (psbyt (by decide)) (by decide) HH.out.2.2.2.1 (HH.out.2.2.2.2.1.stay HB2.out) HH.out.2.2.2.2.2.1 HH.out.1 (HH.out.2.1.stay HB2.out) HH.out.2.2.1
    have hnS : S.length ≤ 6000 := by rw [← hS]; exact bts_len (pslen (by decide)) _ _ _
    have hcS : Ch (cL S) S.length := by
      rw [← hS]
      exact cL_ch (bts_byt (psbyt (by decide)) HH.out.1 _)
    obtain ⟨n, hn⟩ : ∃ n, S.length = n := ⟨_, rfl⟩
    rw [hn] at hnS hcS
    have HN : Hid (S.length = n ∧ Ch (cL S) n) := ⟨hn, hcS⟩
    clear hS hps hb2 hcS hn cp
    go_wp2_with fail
    refine cb.mono ?_
    rintro ev w3 ⟨v3, rfl, ho3, hb3⟩
    obtain ⟨ad, cap, rfl, hcap, hcap9⟩ := ob_form ho3
    have HB3 : Hid (Below w.heap.size w w3) := HB2.out.trans (hb3.mono HB2.out.size)
    have HC3 : Hid (BC w3 ad n (cL S)) := by
      have := ho3.bc
      rw [HN.out.1] at this
      exact this
    rw [HN.out.1] at hcap ⊢
    obtain ⟨D, hD⟩ : ∃ D, w3.heap.size = D := ⟨_, rfl⟩
    obtain ⟨W, hW⟩ : ∃ W, w3.alloc (.cells #[.slice ba bn bcap, .slice ad n cap] 22) = W := ⟨_, rfl⟩
    have hbW : Below w3.heap.size w3 W := by rw [← hW]; exact below_alloc w3 _
    have hW0 : W.heap[D]? = some (.cells #[.slice ba bn bcap, .slice ad n cap] 22) := by rw [← hW, ← hD]; exact heap_alloc_new _ _
    have HBW : Hid (Below w.heap.size w W) := HB3.out.trans (hbW.mono HB3.out.size)
    have HX : Hid (∀ k, k < 2 → ∃ pa m pc c, W.cell? ⟨D, k, none⟩ = some (.slice pa m pc) ∧ Ch c m ∧ BC W pa m c ∧ m ≤ 65536 ∧ m ≤ pc ∧ pc ≤ 9223372036854775807) := by
      intro k hk
      rcases (show k = 0 ∨ k = 1 by omega) with rfl | rfl
      · exact ⟨ba, bn, bcap, bc, by simp [World.cell?, hW0], HH.out.1, HH.out.2.1.stay HBW.out, by omega, HH.out.2.2.2.2.2.2.1, Nat.le_trans HH.out.2.2.2.2.2.2.2 (by unfold maxLen; omega)⟩
      · exact ⟨ad, n, cap, cL S, by simp [World.cell?, hW0], HN.out.2, HC3.out.stay hbW, by omega, hcap, hcap9⟩
    clear cb hb3 ho3 hbW hW0 hcap hcap9 hnS
    go_wp2_with fail
    clear hW
    (try rw [hD])
    clear hD
    go_loopg [27] 2 (fun q iv wr => ∃ k : Nat, k ≤ 2 ∧ q = 2 - k ∧ iv = .int .i64 k ∧ Hid (Below W.heap.size W wr))
    case atStart => exact ⟨0, by omega, rfl, rfl, Below.refl _ _⟩
    case round =>
      obtain ⟨k, hk, hq, rfl, HBr⟩ := hrel
      by_cases hlt : k < 2
      · have z1 : (k : Int) < 2 := by omega
        have z2 : (0 : Int) ≤ (k : Int) := by omega
        obtain ⟨pa, m, pc, c, hcell, hC, hbc, hm6, hmp, hp9⟩ := HX.out k hlt
        have y1 : wr.cell? ⟨D, k, none⟩ = some (.slice pa m pc) := cell_stay hcell HBr.out
        have HC : Hid (Ch c m) := hC
        have HBc : Hid (BC W pa m c) := hbc
        obtain ⟨sx, hsx⟩ : ∃ sx, strOfNums (cl c m) = sx := ⟨_, rfl⟩
        have HSX : Hid (strOfNums (cl c m) = sx) := hsx
        have HSC : Hid (SC sx c m) := by show SC _ _ _; rw [← hsx]; exact sc_nums hC
        obtain ⟨D2, hD2⟩ : ∃ D2, wr.heap.size = D2 := ⟨_, rfl⟩
        obtain ⟨V, hV⟩ : ∃ V, wr.alloc (.cells #[.int .u8 (X0 : Nat), .int .u8 kf] 28) = V := ⟨_, rfl⟩
        have hbV : Below wr.heap.size wr V := by rw [← hV]; exact below_alloc wr _
        have hV0 : V.heap[D2]? = some (.cells #[.int .u8 (X0 : Nat), .int .u8 kf] 28) := by rw [← hV, ← hD2]; exact heap_alloc_new _ _
        have HBV : Hid (Below W.heap.size W V) := HBr.out.trans (hbV.mono HBr.out.size)
        have HF2 : Hid (∀ j, j < 2 → ∃ f : Int, V.cell? ⟨D2, j, none⟩ = some (.int .u8 f) ∧ 0 ≤ f) := by
          intro j hj
          rcases (show j = 0 ∨ j = 1 by omega) with rfl | rfl
          · exact ⟨(X0 : Int), by simp [World.cell?, hV0], by omega⟩
          · exact ⟨kf, by simp [World.cell?, hV0], by have := HK.out; omega⟩
        clear hcell hC hbc hsx hbV hV0
        go_wp2_with fail
        clear hV y1
        (try rw [hD2])
        clear hD2
        obtain ⟨wT, rfl⟩ : ∃ wT, wT = wr := ⟨_, rfl⟩
        go_loopg [37] 2 (fun q iv wx => ∃ j : Nat, j ≤ 2 ∧ q = 2 - j ∧ iv = .int .i64 j ∧ Hid (Below V.heap.size V wx))
        case atStart => exact ⟨0, by omega, rfl, rfl, Below.refl _ _⟩
        case round =>
          obtain ⟨j, hj, hq2, rfl, HBx⟩ := hrel
          by_cases hjl : j < 2
          · have x1 : (j : Int) < 2 := by omega
            have x2 : (0 : Int) ≤ (j : Int) := by omega
            obtain ⟨f, hcf, hf0⟩ := HF2.out j hjl
            have y1 : wr.cell? ⟨D2, j, none⟩ = some (.int .u8 f) := cell_stay hcf HBx.out
            have HBc2 : Hid (BC wr pa m c) := (HBc.out.stay HBV.out).stay HBx.out
            by_cases hff : 4 ≤ f ∧ f ≤ 8
            · have cx := lex_any HC.out HBc2.out hm6 hmp hp9 hff
              have HS0 : Hid (∀ w', Calls Try.prog 13 #[.int .u8 f, .string sx] w' (SsP (fam f) c m w')) := fun w' => rsrc_any HSC.out hm6 hff w'
              obtain ⟨F, hF⟩ : ∃ F, fam f = F := ⟨_, rfl⟩
              rw [hF] at cx HS0
              clear hcf hff hF hf0
              go_wp2_with fail
              refine cx.mono ?_
              rintro ev wL ⟨T1, g1, rfl, -, -, hS1, hU1⟩
              have HBL : Hid (Below V.heap.size V wL) := HBx.out.trans (hU1.1.mono HBx.out.size)
              have HSL : Hid (Sh wL T1 g1 m (lxA F c m)) := hS1
              have hcv := str_bc (cap := pc) (HBc2.out.stay hU1.1)
              rw [HSX.out] at hcv
              have cs := HS0.out wL
              clear cx hS1 hU1 y1
              go_wp2_with fail
              refine cs.mono ?_
              rintro ev wS ⟨g2, rfl, -, hL2, hU2⟩
              have HBS : Hid (Below V.heap.size V wS) := HBL.out.trans (hU2.1.mono HBL.out.size)
              have HSS : Hid (Sh wS T1 g1 m (lxA F c m)) := HSL.out.stay hU2.1
              have HL2 : Hid (LR wS g2 m (lxA F c m)) := hL2
              have c1 := segs_any HSS.out hm6
              clear cs hL2 hU2 hcv
              go_wp2_with fail
              refine c1.mono ?_
              rintro ev w5 ⟨u1, rfl, hR1, hUB⟩
              have HB5 : Hid (Below V.heap.size V w5) := HBS.out.trans (hUB.1.mono HBS.out.size)
              have HR1 : Hid (SR w5 wS.heap.size u1 (sg (lxA F c m) m)) := hR1
              have c2 := rsegs_any (HL2.out.stay hUB.1) hm6
              clear c1 hR1 hUB
              go_wp2_with fail
              refine c2.mono ?_
              rintro ev w6 ⟨u2, rfl, hR2, hUB⟩
              have HB6 : Hid (Below V.heap.size V w6) := HB5.out.trans (hUB.1.mono HB5.out.size)
              have c3 := same_any (HR1.out.stay hUB.1) hR2 (Nat.le_trans (sg_len _ _) hm6)
              clear c2 hR2 hUB
              go_wp2_with fail
              refine c3.mono ?_
              rintro ev w7 ⟨rfl, hUB⟩
              have HB7 : Hid (Below V.heap.size V w7) := HB6.out.trans (hUB.1.mono HB6.out.size)
              clear c3 hUB
              go_wp2
              go_roundg (2 - (j + 1))
              case measure => omega
              case rel => exact ⟨j + 1, by omega, rfl, by go_num, HB7.out⟩
            · have cx := lex_no (w := wr) (f := f) (by omega) (.slice pa m pc)
              have HS0 : Hid (∀ w', Calls Try.prog 13 #[.int .u8 f, .string sx] w' fun ev w'' => ev = .returned (.tuple #[.slice none 0 0, .bool false]) ∧ w'' = w') := fun w' => rsrc_no (by omega) sx w'
              clear hcf hff hf0
              go_wp2_with fail
              refine cx.mono ?_
              rintro ev wL ⟨rfl, hU1⟩
              have HBL : Hid (Below V.heap.size V wL) := HBx.out.trans (hU1.mono HBx.out.size)
              have hcv := str_bc (cap := pc) (HBc2.out.stay hU1)
              rw [HSX.out] at hcv
              have cs := HS0.out wL
              have hpn := ptr_ne 0 wL
              clear cx hU1 y1
              go_wp2_with fail
              refine cs.mono ?_
              rintro ev wS ⟨rfl, hw⟩
              subst wS
              clear cs hcv
              go_wp2
              go_roundg (2 - (j + 1))
              case measure => omega
              case rel => exact ⟨j + 1, by omega, rfl, by go_num, HBL.out⟩
          · have x1 : ¬ (j : Int) < 2 := by omega
            have HBF : Hid (Below W.heap.size W wr) := HBV.out.trans (HBx.out.mono HBV.out.size)
            go_wp2
            go_roundg (2 - (k + 1))
            case measure => omega
            case rel => exact ⟨k + 1, by omega, rfl, by go_num, HBF.out⟩
      · have z1 : ¬ (k : Int) < 2 := by omega
        go_wp2
        go_ret
        exact ⟨rfl, HBW.out.trans (HBr.out.mono HBW.out.size)⟩
end Go.Proofs.Ytgebmmbnpdhooaa
