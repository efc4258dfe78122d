/- TexLex. -/
import Derived.Test.YtlgfmhhhecaddaaDoorxRx
import Derived.Test.YtlgfmhhhecaddaaDoorxBitM
import Derived.Test.YtlgfmhhhecaddaaDoorxLex
import Derived.Test.YtlgfmhhhecaddaaDoorlSame
namespace Go.Proofs.YtlgfmhhhecaddaaDoor
set_option linter.unusedVariables false
open Go.RowKit Go.ChangeShapes
theorem ob_form {w : World} {base : Nat} {v : Value} {l : List Int} (h : OB w base v l) : ∃ ad c, v = .slice ad l.length c ∧ l.length ≤ c ∧ c ≤ 9223372036854775807 := by
  have hml : maxLen ≤ 9223372036854775807 := by unfold maxLen; omega
  unfold OB at h
  obtain ⟨_, ⟨rfl, h2⟩ | ⟨g, cap, cur, rfl, _, _, h3, h4, _⟩⟩ := h
  · exact ⟨none, 0, by rw [h2], by omega, by omega⟩
  · exact ⟨_, _, rfl, h3, by omega⟩
set_option maxRecDepth 100000 in
set_option maxHeartbeats 2000000 in
theorem lex_law {w : World} (hG : GlX w) {ba : Option Addr} {bn bcap : Nat} {bc : Nat → Int} (hbC : Ch bc bn) (hb : BC w ba bn bc) (hbcap : bn ≤ bcap) (hbn : bn ≤ maxLen) (hbc9 : bcap ≤ maxLen)
    {la : Option Addr} {ln lcap : Nat} {lc : Nat → Int} (hlC : Ch lc ln) (hl : BC w la ln lc) (hln : ln ≤ maxLen) :
    Calls Tryd.prog 3 #[.slice ba bn bcap, .slice la ln lcap] w fun ev w' => ev = .returned (.bool true) ∧ Below w.heap.size w w' := by
  have ca := awake_any w hG
  have HH : Hid (GlX w ∧ Ch bc bn ∧ BC w ba bn bc ∧ bn ≤ maxLen ∧ Ch lc ln ∧ BC w la ln lc ∧ ln ≤ maxLen ∧ bn ≤ bcap ∧ bcap ≤ maxLen) := ⟨hG, hbC, hb, hbn, hlC, hl, hln, hbcap, hbc9⟩
  have CPs : Hid (∀ w', Calls Tryd.prog 11 #[] w' fun ev w'' => ∃ G, ev = .returned (.slice (some ⟨G, 0, none⟩) 42 42) ∧ PS w'' G psP ∧ Below w'.heap.size w' w'') := pieces_any
  clear hG hbC hb hlC hl hln hbn hbcap hbc9
  go_enter Tryd.func3, Tryd.ntmps3
  go_wp2_with fail
  refine ca.mono ?_
  rintro ev w1 ⟨rfl, hb1⟩
  have HB1 : Hid (Below w.heap.size w w1) := hb1
  clear ca hb1
  by_cases h5 : (1000 : Int) < (bn : Int)
  · go_wp2
    go_ret
    exact ⟨rfl, HB1.out⟩
  · have cp := CPs.out w1
    clear CPs
    go_wp2_with fail
    refine cp.mono ?_
    rintro ev w2 ⟨G, rfl, hps, hb2⟩
    have HB2 : Hid (Below w.heap.size w w2) := HB1.out.trans (hb2.mono HB1.out.size)
    obtain ⟨S, hS⟩ : ∃ S, bts psP bc bn (nl lc ln) = S := ⟨_, rfl⟩
    have cb : Calls Tryd.prog 10 #[.slice (some ⟨G, 0, none⟩) 42 42, .slice la ln lcap, .slice ba bn bcap] w2 fun ev w' => ∃ v, ev = .returned v ∧ OB w' w2.heap.size v S ∧ Below w2.heap.size w2 w' := by
      rw [← hS]
      exact bits_any (pc := 42) (rcap := bcap) (lcap := lcap) hps (pslen (by decide)) (psbyt (by decide)) (by decide) HH.out.2.2.2.2.1 (HH.out.2.2.2.2.2.1.stay HB2.out) HH.out.2.2.2.2.2.2.1 HH.out.2.1 (HH.out.2.2.1.stay HB2.out) HH.out.2.2.2.1
    have hnS : S.length ≤ 6000 := by rw [← hS]; exact bts_len (pslen (by decide)) _ _ _
    have hcS : Ch (cL S) S.length := by
      rw [← hS]
      exact cL_ch (bts_byt (psbyt (by decide)) HH.out.2.1 _)
    obtain ⟨n, hn⟩ : ∃ n, S.length = n := ⟨_, rfl⟩
    rw [hn] at hnS hcS
    have HN : Hid (S.length = n ∧ Ch (cL S) n) := ⟨hn, hcS⟩
    clear hS hps hb2 hcS hn cp
    go_wp2_with fail
    refine cb.mono ?_
    rintro ev w3 ⟨v3, rfl, ho3, hb3⟩
    obtain ⟨ad, cap, rfl, hcap, hcap9⟩ := ob_form ho3
    have HB3 : Hid (Below w.heap.size w w3) := HB2.out.trans (hb3.mono HB2.out.size)
    have HC3 : Hid (BC w3 ad n (cL S)) := by
      have := ho3.bc
      rw [HN.out.1] at this
      exact this
    rw [HN.out.1] at hcap ⊢
    obtain ⟨D, hD⟩ : ∃ D, w3.heap.size = D := ⟨_, rfl⟩
    obtain ⟨W, hW⟩ : ∃ W, w3.alloc (.cells #[.slice ba bn bcap, .slice ad n cap] 22) = W := ⟨_, rfl⟩
    have hbW : Below w3.heap.size w3 W := by rw [← hW]; exact below_alloc w3 _
    have hW0 : W.heap[D]? = some (.cells #[.slice ba bn bcap, .slice ad n cap] 22) := by rw [← hW, ← hD]; exact heap_alloc_new _ _
    have HBW : Hid (Below w.heap.size w W) := HB3.out.trans (hbW.mono HB3.out.size)
    have HX : Hid (∀ k, k < 2 → ∃ pa m pc c, W.cell? ⟨D, k, none⟩ = some (.slice pa m pc) ∧ Ch c m ∧ BC W pa m c ∧ m ≤ 65536 ∧ m ≤ pc ∧ pc ≤ 9223372036854775807) := by
      intro k hk
      rcases (show k = 0 ∨ k = 1 by omega) with rfl | rfl
      · exact ⟨ba, bn, bcap, bc, by simp [World.cell?, hW0], HH.out.2.1, HH.out.2.2.1.stay HBW.out, by omega, HH.out.2.2.2.2.2.2.2.1, Nat.le_trans HH.out.2.2.2.2.2.2.2.2 (by unfold maxLen; omega)⟩
      · exact ⟨ad, n, cap, cL S, by simp [World.cell?, hW0], HN.out.2, HC3.out.stay hbW, by omega, hcap, hcap9⟩
    clear cb hb3 ho3 hbW hW0 hcap hcap9 hnS
    go_wp2_with fail
    clear hW
    (try rw [hD])
    clear hD
    go_loopg [21] 2 (fun q iv wr => ∃ k : Nat, k ≤ 2 ∧ q = 2 - k ∧ iv = .int .i64 k ∧ Hid (Below W.heap.size W wr))
    case atStart => exact ⟨0, by omega, rfl, rfl, Below.refl _ _⟩
    case round =>
      obtain ⟨k, hk, hq, rfl, HBr⟩ := hrel
      by_cases hlt : k < 2
      · have z1 : (k : Int) < 2 := by omega
        have z2 : (0 : Int) ≤ (k : Int) := by omega
        obtain ⟨pa, m, pc, c, hcell, hC, hbc, hm6, hmp, hp9⟩ := HX.out k hlt
        have y1 : wr.cell? ⟨D, k, none⟩ = some (.slice pa m pc) := cell_stay hcell HBr.out
        have HC : Hid (Ch c m) := hC
        have HBc : Hid (BC wr pa m c) := hbc.stay HBr.out
        have cx := lex_any hC HBc.out hm6 hmp hp9 (HH.out.1.stay (HBW.out.trans (HBr.out.mono HBW.out.size)))
        obtain ⟨QX, hQX⟩ : ∃ QX, LxP c m wr = QX := ⟨_, rfl⟩
        have HQX : Hid (LxP c m wr = QX) := hQX
        rw [hQX] at cx
        clear hQX hcell hC hbc
        go_wp2_with fail
        refine cx.mono ?_
        intro ev wL hev
        rw [← HQX.out] at hev
        obtain ⟨T1, g1, rfl, -, -, hS1, hU1⟩ := hev
        have HBL : Hid (Below W.heap.size W wL) := HBr.out.trans (hU1.1.mono HBr.out.size)
        have HCL : Hid (BC wL pa m c) := HBc.out.stay hU1.1
        have HSL : Hid (Sh wL T1 g1 m (lxA c m)) := hS1
        obtain ⟨sx, hsx⟩ : ∃ sx, strOfNums (cl c m) = sx := ⟨_, rfl⟩
        have HSX : Hid (strOfNums (cl c m) = sx) := hsx
        have HSC : Hid (SC sx c m) := by show SC _ _ _; rw [← hsx]; exact sc_nums HC.out
        clear cx hS1 hU1 hsx y1 HQX
        go_upto_region 9 with fail
        refine wp_region_held_drew (S := fun w' => Up wL.heap.size wL w') (by kernel_rfl) (Up.drew (Up.refl wL)) (fun hHeld => ?_)
        (try dsimp only at hHeld)
        obtain ⟨x0, hx0⟩ : ∃ x0, wL.drew = x0 := ⟨_, rfl⟩
        rw [hx0] at hHeld ⊢
        clear hx0
        refine takeH (i := 0) (v := ?_) (d := (some 30)) rfl (by kernel_rfl) (by kernel_rfl) (by kernel_rfl) rfl (fun _ _ _ h => h) (Or.inl ⟨by kernel_rfl, ?_⟩) (by assumption) ?_; rotate_left
        · (intro w hSw; (try dsimp only at hSw); first | (go_simp; done) | (go_simp; with_reducible rfl))
        (try simp only [Act.put, List.setIfInBounds_toArray, List.set_cons_zero, List.set_cons_succ])
        refine takeH (i := 1) (v := ?_) (d := (some 31)) rfl (by kernel_rfl) (by kernel_rfl) (by kernel_rfl) rfl (fun _ _ _ h => h) (Or.inl ⟨by kernel_rfl, ?_⟩) (by assumption) ?_; rotate_left
        · (intro w hSw; (try dsimp only at hSw); first | (go_simp; done) | (go_simp; with_reducible rfl))
        (try simp only [Act.put, List.setIfInBounds_toArray, List.set_cons_zero, List.set_cons_succ])
        refine takeH (i := 2) (v := ?_) (d := (some 32)) rfl (by kernel_rfl) (by kernel_rfl) (by kernel_rfl) rfl (fun _ _ _ h => h) (Or.inl ⟨by kernel_rfl, ?_⟩) (by assumption) ?_; rotate_left
        · (intro w hSw; (try dsimp only at hSw); first | (go_simp; done) | (go_simp; with_reducible rfl))
        (try simp only [Act.put, List.setIfInBounds_toArray, List.set_cons_zero, List.set_cons_succ])
        refine takeH (i := 3) (v := ?_) (d := (some 33)) rfl (by kernel_rfl) (by kernel_rfl) (by kernel_rfl) rfl (fun _ _ _ h => h) (Or.inl ⟨by kernel_rfl, ?_⟩) (by assumption) ?_; rotate_left
        · (intro w hSw; (try dsimp only at hSw); first | (go_simp; done) | (go_simp; with_reducible rfl))
        (try simp only [Act.put, List.setIfInBounds_toArray, List.set_cons_zero, List.set_cons_succ])
        refine takeH (i := 5) (v := ?_) (d := (some 35)) rfl (by kernel_rfl) (by kernel_rfl) (by kernel_rfl) rfl (fun _ _ _ h => h) (Or.inl ⟨by kernel_rfl, ?_⟩) (by assumption) ?_; rotate_left
        · (intro w hSw; (try dsimp only at hSw); first | (go_simp; done) | (go_simp; with_reducible rfl))
        (try simp only [Act.put, List.setIfInBounds_toArray, List.set_cons_zero, List.set_cons_succ])
        refine takeH (i := 6) (v := ?_) (d := (some 36)) rfl (by kernel_rfl) (by kernel_rfl) (by kernel_rfl) rfl (fun _ _ _ h => h) (Or.inl ⟨by kernel_rfl, ?_⟩) (by assumption) ?_; rotate_left
        · (intro w hSw; (try dsimp only at hSw); have hs := str_bc (cap := pc) (HCL.out.stay hSw.1); rw [HSX.out] at hs; first | (go_simp; done) | (go_simp; with_reducible rfl))
        (try simp only [Act.put, List.setIfInBounds_toArray, List.set_cons_zero, List.set_cons_succ])
        have cs1 := segs_any (HSL.out.stay hHeld.1) hm6
        refine wpAnyH_ready (rs := [4]) (by kernel_rfl) (by simp) (AllReadyH.cons rfl (fun K hK => ?_) AllReadyH.nil)
        go_simp
        refine cs1.mono ?_
        rintro ev x1 ⟨u1, rfl, hR1, hUB⟩
        have HU1 : Hid (Up wL.heap.size wL x1) := hHeld.stay hUB.1
        have HR1 : Hid (SR x1 x0.heap.size u1 (sg (lxA c m) m)) := hR1
        clear cs1 hR1 hUB hHeld
        go_wp2_with fail
        refine hK.out _ _ HU1.out (fun hHeld => ?_)
        clear hK K
        (try dsimp only at hHeld)
        (try simp only [Act.put, List.setIfInBounds_toArray, List.set_cons_zero, List.set_cons_succ])
        have ch := rhtml_any HSC.out hm6 x1
        obtain ⟨QH, hQH⟩ : ∃ QH, RhP c m x1 = QH := ⟨_, rfl⟩
        have HQH : Hid (RhP c m x1 = QH) := hQH
        rw [hQH] at ch
        clear hQH
        refine wpAnyH_ready (rs := [7]) (by kernel_rfl) (by simp) (AllReadyH.cons rfl (fun K hK => ?_) AllReadyH.nil)
        go_simp
        refine ch.mono ?_
        intro ev x2 hev
        rw [← HQH.out] at hev
        obtain ⟨g2, rfl, -, hL2, hU2⟩ := hev
        have HU2 : Hid (Up wL.heap.size wL x2) := HU1.out.stay hU2.1
        have HR2 : Hid (SR x2 x0.heap.size u1 (sg (lxA c m) m)) := HR1.out.stay hU2.1
        have HL2 : Hid (LR x2 g2 m (lxA c m)) := hL2
        clear ch hL2 hU2 hHeld HQH
        go_wp2_with fail
        refine hK.out _ _ HU2.out (fun hHeld => ?_)
        clear hK K
        (try dsimp only at hHeld)
        (try simp only [Act.put, List.setIfInBounds_toArray, List.set_cons_zero, List.set_cons_succ])
        have cs2 := rsegs_any HL2.out hm6
        refine wpAnyH_ready (rs := [8]) (by kernel_rfl) (by simp) (AllReadyH.cons rfl (fun K hK => ?_) AllReadyH.nil)
        go_simp
        refine cs2.mono ?_
        rintro ev x3 ⟨u3, rfl, hR3, hU3⟩
        have HU3 : Hid (Up wL.heap.size wL x3) := HU2.out.stay hU3.1
        have csm := same_any (HR2.out.stay hU3.1) hR3 (Nat.le_trans (sg_len _ _) hm6)
        clear cs2 hR3 hU3 hHeld
        go_wp2_with fail
        refine hK.out _ _ HU3.out (fun hHeld => ?_)
        clear hK K
        (try dsimp only at hHeld)
        (try simp only [Act.put, List.setIfInBounds_toArray, List.set_cons_zero, List.set_cons_succ])
        refine wpAnyH_ready (rs := [9]) (by kernel_rfl) (by simp) (AllReadyH.cons rfl (fun K hK => ?_) AllReadyH.nil)
        go_simp
        refine csm.mono ?_
        rintro ev x4 ⟨rfl, hU4⟩
        have HU4 : Hid (Up wL.heap.size wL x4) := HU3.out.stay hU4.1
        clear csm hU4 hHeld
        go_wp2_with fail
        refine hK.out _ _ HU4.out (fun hHeld => ?_)
        clear hK K
        (try dsimp only at hHeld)
        (try simp only [Act.put, List.setIfInBounds_toArray, List.set_cons_zero, List.set_cons_succ])
        refine takeH (i := 10) (v := ?_) (d := (some 40)) rfl (by kernel_rfl) (by kernel_rfl) (by kernel_rfl) rfl (fun _ _ _ h => h) (Or.inl ⟨by kernel_rfl, ?_⟩) (by assumption) ?_; rotate_left
        · (intro w hSw; (try dsimp only at hSw); first | (go_simp; done) | (go_simp; with_reducible rfl))
        (try simp only [Act.put, List.setIfInBounds_toArray, List.set_cons_zero, List.set_cons_succ])
        refine takeH (i := 11) (v := ?_) (d := (some 41)) rfl (by kernel_rfl) (by kernel_rfl) (by kernel_rfl) rfl (fun _ _ _ h => h) (Or.inl ⟨by kernel_rfl, ?_⟩) (by assumption) ?_; rotate_left
        · (intro w hSw; (try dsimp only at hSw); first | (go_simp; done) | (go_simp; with_reducible rfl))
        (try simp only [Act.put, List.setIfInBounds_toArray, List.set_cons_zero, List.set_cons_succ])
        refine wpAnyH_done (by kernel_rfl) ?_ _
        go_wp2
        go_roundg (2 - (k + 1))
        case measure => omega
        case rel => exact ⟨k + 1, by omega, rfl, by go_num, HBL.out.trans (HU4.out.1.mono HBL.out.size)⟩
      · have z1 : ¬ (k : Int) < 2 := by omega
        go_wp2
        go_ret
        exact ⟨rfl, HBW.out.trans (HBr.out.mono HBW.out.size)⟩
end Go.Proofs.YtlgfmhhhecaddaaDoor
