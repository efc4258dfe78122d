/- PragmaReads: the law. -/
import Derived.Test.YteeeekpeokgaeaaDoorPkYPcs3
import Derived.Test.YteeeekpeokgaeaaDoorPkYAwk2
import Derived.BigQuiet
import Derived.Laws.StructEq
namespace Go.Proofs.YteeeekpeokgaeaaDoor
set_option linter.unusedVariables false
open Go.RowKit Go.ChangeShapes Tns

set_option maxHeartbeats 16000000 in
set_option maxRecDepth 100000 in
theorem reads_law {RL : RLt} (PO : PragOk RL) {w : World} (hT : PT w) {ba : Option Addr} {bn bcap : Nat} {bc : Nat → Int} (hbC : Ch bc bn) (hb : BC w ba bn bc) (hbcap : bn ≤ bcap) (hbn : bn ≤ maxLen)
    {la : Option Addr} {ln lcap : Nat} {lc : Nat → Int} (hlC : Ch lc ln) (hl : BC w la ln lc) (hln : ln ≤ maxLen) (t : ByteArray) :
    Calls Tryd.prog 3 #[.slice ba bn bcap, .slice la ln lcap, .string t] w fun ev w' => ev = .returned (.bool true) ∧ Below w.heap.size w w' := by
  have ca := awake_any PO w hT
  have HH : Hid (PT w ∧ Ch bc bn ∧ BC w ba bn bc ∧ bn ≤ maxLen ∧ Ch lc ln ∧ BC w la ln lc ∧ ln ≤ maxLen ∧ bn ≤ bcap) := ⟨hT, hbC, hb, hbn, hlC, hl, hln, hbcap⟩
  have HP : Hid (PragOk RL) := PO
  have CPs : Hid (∀ w', Calls Tryd.prog 10 #[] w' fun ev w'' => ∃ G, ev = .returned (.slice (some ⟨G, 0, none⟩) 25 25) ∧ PS w'' G psR ∧ Below w'.heap.size w' w'') := piecesR_any
  clear hT hbC hb hlC hl hln hbn hbcap PO
  go_enter Tryd.func3, Tryd.ntmps3
  go_wp2_with fail
  refine ca.mono ?_
  rintro ev w1 ⟨rfl, hb1⟩
  have HB1 : Hid (Below w.heap.size w w1) := hb1
  clear ca hb1
  by_cases h5 : (1000 : Int) < (bn : Int)
  · go_wp2
    go_ret
    exact ⟨rfl, HB1.out⟩
  · by_cases h6 : (300 : Int) < (t.size : Int)
    · go_wp2
      go_ret
      exact ⟨rfl, HB1.out⟩
    · have cp := CPs.out w1
      clear CPs
      go_wp2_with fail
      refine cp.mono ?_
      rintro ev w2 ⟨G, rfl, hps, hb2⟩
      have HB2 : Hid (Below w.heap.size w w2) := HB1.out.trans (hb2.mono HB1.out.size)
      obtain ⟨S, hS⟩ : ∃ S, bts psR bc bn (nl lc ln) = S := ⟨_, rfl⟩
      have cb : Calls Tryd.prog 9 #[.slice (some ⟨G, 0, none⟩) 25 25, .slice la ln lcap, .slice ba bn bcap] w2 fun ev w' => ∃ v, ev = .returned v ∧ OB w' w2.heap.size v S ∧ Below w2.heap.size w2 w' := by
        rw [← hS]
        exact bits_any (pc := 25) (rcap := bcap) (lcap := lcap) hps (pslen (by decide)) (psbyt (by decide)) (by decide) HH.out.2.2.2.2.1 (HH.out.2.2.2.2.2.1.stay HB2.out) HH.out.2.2.2.2.2.2.1 HH.out.2.1 (HH.out.2.2.1.stay HB2.out) HH.out.2.2.2.1
      have hnS : S.length ≤ 6000 := by rw [← hS]; exact bts_len (pslen (by decide)) _ _ _
      have hcS : Ch (cL S) S.length := by
        rw [← hS]
        exact cL_ch (bts_byt (psbyt (by decide)) HH.out.2.1 _)
      obtain ⟨n, hn⟩ : ∃ n, S.length = n := ⟨_, rfl⟩
      rw [hn] at hnS hcS
      have HN : Hid (S.length = n ∧ Ch (cL S) n) := ⟨hn, hcS⟩
      clear hS hps hb2 hcS hn cp
      go_wp2_with fail
      refine cb.mono ?_
      rintro ev w3 ⟨v3, rfl, ho3, hb3⟩
      obtain ⟨ad, cap, rfl, hcap⟩ := ho3.form
      have HB3 : Hid (Below w.heap.size w w3) := HB2.out.trans (hb3.mono HB2.out.size)
      have HC3 : Hid (BC w3 ad n (cL S)) := by
        have := ho3.bc
        rw [HN.out.1] at this
        exact this
      rw [HN.out.1] at hcap ⊢
      obtain ⟨D, hD⟩ : ∃ D, w3.heap.size = D := ⟨_, rfl⟩
      obtain ⟨W, hW⟩ : ∃ W, w3.alloc (.cells #[.slice ba bn bcap, .slice ad n cap] 22) = W := ⟨_, rfl⟩
      have hbW : Below w3.heap.size w3 W := by rw [← hW]; exact below_alloc w3 _
      have hW0 : W.heap[D]? = some (.cells #[.slice ba bn bcap, .slice ad n cap] 22) := by rw [← hW, ← hD]; exact heap_alloc_new _ _
      have HBW : Hid (Below w.heap.size w W) := HB3.out.trans (hbW.mono HB3.out.size)
      have HX : Hid (∀ k, k < 2 → ∃ pa m pc c, W.cell? ⟨D, k, none⟩ = some (.slice pa m pc) ∧ Ch c m ∧ BC W pa m c ∧ m ≤ 6000 ∧ m ≤ pc) := by
        intro k hk
        rcases (show k = 0 ∨ k = 1 by omega) with rfl | rfl
        · exact ⟨ba, bn, bcap, bc, by simp [World.cell?, hW0], HH.out.2.1, HH.out.2.2.1.stay HBW.out, by omega, HH.out.2.2.2.2.2.2.2⟩
        · exact ⟨ad, n, cap, cL S, by simp [World.cell?, hW0], HN.out.2, HC3.out.stay hbW, by omega, hcap⟩
      clear cb hb3 ho3 hbW hW0 hcap hnS
      go_wp2_with fail
      clear hW
      (try rw [hD])
      clear hD
      go_loopg [33] 2 (fun q iv wr => ∃ k : Nat, k ≤ 2 ∧ q = 2 - k ∧ iv = .int .i64 k ∧ Hid (Below W.heap.size W wr))
      case atStart => exact ⟨0, by omega, rfl, rfl, Below.refl _ _⟩
      case round =>
        obtain ⟨k, hk, hq, rfl, HBr⟩ := hrel
        by_cases hlt : k < 2
        · have z1 : (k : Int) < 2 := by omega
          have z2 : (0 : Int) ≤ (k : Int) := by omega
          obtain ⟨pa, m, pc, c, hcell, hC, hbc, hm6, hmp⟩ := HX.out k hlt
          have y1 : wr.cell? ⟨D, k, none⟩ = some (.slice pa m pc) := cell_stay hcell HBr.out
          obtain ⟨s, hs⟩ : ∃ s, strOfNums (cl c m) = s := ⟨_, rfl⟩
          have hsz : s.size = m := by rw [← hs, strOfNums_size, cl_len]
          have hbs := bsl_of_bc hC.1 (hbc.stay HBr.out) hmp
          rw [hs] at hbs
          have HBS : Hid (Lns.BSl wr (.slice pa m pc) s) := hbs
          have HB0 : Hid (Below w.heap.size w wr) := HBW.out.trans (HBr.out.mono HBW.out.size)
          have cr := HP.out.2.1 s _ wr (by omega) (HH.out.1.stay HB0.out) hbs
          obtain ⟨rows, hrows⟩ : ∃ z, (rdA s).r = z := ⟨_, rfl⟩
          obtain ⟨ws, hws⟩ : ∃ z, (rdA s).w = z := ⟨_, rfl⟩
          have HRW : Hid ((∀ p ∈ rows, p.1 + p.2 ≤ 6000) ∧ rows.length ≤ 6000) := by
            refine ⟨fun p hp => ?_, ?_⟩
            · rw [← hrows] at hp
              have := rdA_in s _ p hp
              omega
            · rw [← hrows]
              have := rdA_len s (Lns.nL s)
              have h2 := Lns.nL_le s
              show (rdL s (Lns.nL s)).r.length ≤ 6000
              omega
          have CRr : Hid (∀ w', Below wr.heap.size wr w' → Calls Tryd.prog 12 #[.slice pa m pc] w' fun e w'' => ∃ va vb, e = .returned (.agg #[va, vb]) ∧ SpR w'' w'.heap.size va rows ∧ SS w'' w'.heap.size vb ws ∧ Below w'.heap.size w' w'') := fun w' hbw => by
            rw [← hrows, ← hws]
            exact rread_any s _ w' (by omega) (HBS.out.stay hbw)
          rw [hrows, hws] at cr
          clear hcell hC hbc hs hbs hrows hws hsz
          go_wp2_with fail
          refine cr.mono ?_
          rintro ev w4 ⟨r, rfl, hr, hb4⟩
          obtain ⟨B0, hB0⟩ : ∃ z, wr.heap.size = z := ⟨_, rfl⟩
          have crr := CRr.out w4 hb4
          rw [hB0] at hr
          have HR4 : Hid (RL w4 B0 r rows ws) := hr
          have HB4 : Hid (Below W.heap.size W w4) := HBr.out.trans (hb4.mono HBr.out.size)
          clear cr hr hb4 hB0 CRr HBS
          go_wp2_with fail
          refine crr.mono ?_
          rintro ev w5 ⟨va, vb, rfl, hsv, hsw, hb5⟩
          have HR5 : Hid (RL w5 B0 r rows ws) := HP.out.stay HR4.out hb5
          have HB5 : Hid (Below W.heap.size W w5) := HB4.out.trans (hb5.mono HB4.out.size)
          have HSv : Hid (SpA w5 va rows) := hsv.any
          have HSw : Hid (StA w5 vb ws ∧ ws.length ≤ maxLen) := ⟨hsw.any, own_max hsw⟩
          obtain ⟨a1, a2, rfl⟩ : ∃ a1 a2, va = .slice a1 rows.length a2 := by
            obtain ⟨a, c9, e9, -⟩ := hsv.any
            exact ⟨a, c9, e9⟩
          obtain ⟨b1, b2, rfl⟩ : ∃ b1 b2, vb = .slice b1 ws.length b2 := by
            obtain ⟨a, c9, e9, -⟩ := hsw.any
            exact ⟨a, c9, e9⟩
          clear crr hb5 hsv hsw HR4 HB4
          obtain ⟨nr, hnr⟩ : ∃ z, rows.length = z := ⟨_, rfl⟩
          obtain ⟨nw, hnw⟩ : ∃ z, ws.length = z := ⟨_, rfl⟩
          have HNR : Hid (rows.length = nr) := hnr
          have HNW : Hid (ws.length = nw) := hnw
          rw [hnr] at HSv ⊢
          rw [hnw] at HSw ⊢
          obtain ⟨W6, hW6⟩ : ∃ x, w5.alloc (.cells #[.slice a1 nr a2, .slice b1 nw b2] 32) = x := ⟨_, rfl⟩
          obtain ⟨E, hE⟩ : ∃ x, w5.heap.size = x := ⟨_, rfl⟩
          have hb6 : Below w5.heap.size w5 W6 := by rw [← hW6]; exact below_alloc w5 _
          have hE0 : W6.heap[E]? = some (.cells #[.slice a1 nr a2, .slice b1 nw b2] 32) := by rw [← hW6, ← hE]; exact heap_alloc_new _ _
          have HE0 : Hid (W6.cell? ⟨E, 0, none⟩ = some (.slice a1 nr a2) ∧ W6.cell? ⟨E, 1, none⟩ = some (.slice b1 nw b2)) := by
            refine ⟨?_, ?_⟩ <;> simp [World.cell?, hE0]
          have HR6 : Hid (RL W6 B0 r rows ws) := HP.out.stay HR5.out hb6
          have HB6 : Hid (Below W.heap.size W W6) := HB5.out.trans (hb6.mono HB5.out.size)
          have HSv6 : Hid (SpA W6 (.slice a1 nr a2) rows) := HSv.out.stay hb6
          have HSw6 : Hid (StA W6 (.slice b1 nw b2) ws) := HSw.out.1.stay hb6
          have hmw : nw ≤ maxLen := HSw.out.2
          have cs := HP.out.2.2.2.2 W6 _ _ _ _ HR6.out
          clear hnr hnw HSv HSw HR5 HB5 hb6 hE0
          obtain ⟨k0, k1⟩ := HE0.out
          go_wp2_with fail
          refine cs.mono ?_
          rintro ev w7 ⟨v7, rfl, hS7, hb7⟩
          clear cs hW6 hE k0 k1
          obtain ⟨c1, c2, rfl⟩ : ∃ c1 c2, v7 = .slice c1 nr c2 := by
            obtain ⟨a, c9, e9, -⟩ := hS7.any
            exact ⟨a, c9, by rw [e9, HNR.out]⟩
          have HR7 : Hid (RL w7 B0 r rows ws) := HP.out.stay HR6.out hb7
          have HB7 : Hid (Below W.heap.size W w7) := HB6.out.trans (hb7.mono HB6.out.size)
          have HS7 : Hid (SpA w7 (.slice c1 nr c2) rows) := hS7.any
          have HSv7 : Hid (SpA w7 (.slice a1 nr a2) rows) := HSv6.out.stay hb7
          have HSw7 : Hid (StA w7 (.slice b1 nw b2) ws) := HSw6.out.stay hb7
          have HE7 : Hid (w7.cell? ⟨E, 0, none⟩ = some (.slice a1 nr a2) ∧ w7.cell? ⟨E, 1, none⟩ = some (.slice b1 nw b2)) := ⟨cell_stay HE0.out.1 hb7, cell_stay HE0.out.2 hb7⟩
          clear hS7 hb7 HR6 HB6 HSv6 HSw6 HE0
          obtain ⟨k0, k1⟩ := HE7.out
          have kk : ((nr : Int) != (nr : Int)) = false := by simp
          go_wp2
          go_loopg [51] nr (fun q iv wr => ∃ i : Nat, i ≤ nr ∧ q = nr - i ∧ iv = .int .i64 (i : Int) ∧ Hid (Up w7.heap.size w7 wr))
          case atStart => exact ⟨0, Nat.zero_le _, rfl, rfl, Up.refl _⟩
          case round =>
            clear k0 k1
            obtain ⟨i, hi, hqi, rfl, HU⟩ := hrel
            have k0 := cell_stay HE7.out.1 HU.out.1
            by_cases hil : i < nr
            · have x0 : (0 : Int) ≤ (i : Int) := by omega
              have x1 : (i : Int) < (nr : Int) := by omega
              have hnr6 : nr ≤ 6000 := by rw [← HNR.out]; exact HRW.out.2
              obtain ⟨p, hp⟩ : ∃ p, rows[i]? = some p := ⟨_, List.getElem?_eq_getElem (by rw [HNR.out]; exact hil)⟩
              obtain ⟨A, C, eA, -, hA⟩ := HS7.out.stay HU.out.1
              obtain ⟨A', C', eA', -, hA'⟩ := HSv7.out.stay HU.out.1
              injection eA with eA _ _
              injection eA' with eA' _ _
              subst eA eA'
              obtain ⟨b, off, rfl, -, q1, q2⟩ := hA i p hp
              obtain ⟨b', off', rfl, -, q3, q4⟩ := hA' i p hp

              clear hA hA' hp
              go_upto_region 15 with fail
              go_quiet (fail)
              have hbd := below_drewN (Below.refl wr.heap.size wr) nq
              have HU2 : Hid (Up w7.heap.size w7 (wr.drewN nq)) := HU.out.stay hbd
              clear hbd
              go_wp2
              go_roundg (nr - (i + 1))
              case measure => omega
              case rel => exact ⟨i + 1, by omega, rfl, by go_num, HU2⟩
            · have x1 : ¬ (i : Int) < (nr : Int) := by omega
              clear k0 hil hqi hi kk
              go_wp2
              go_loopg [13] (m + 2) (fun q iv wr => ∃ j : Nat, j ≤ m + 2 ∧ q = m + 2 - j ∧ iv = .int .i64 ((j : Int) - 1) ∧ Hid (Up w7.heap.size w7 wr))
              case atStart => exact ⟨0, Nat.zero_le _, rfl, rfl, HU⟩
              case round =>
                clear HU x1
                obtain ⟨j, hj, hqj, rfl, HU⟩ := hrel
                obtain ⟨J, hJ⟩ : ∃ J : Int, (j : Int) - 1 = J := ⟨_, rfl⟩
                rw [hJ]
                by_cases hjm : j < m + 2
                · have x2 : J ≤ (m : Int) := by omega
                  have x3 : IntKind.i64.wrap (J + 1) = (((j + 1 : Nat) : Int) - 1) := by rw [IntWalk.i64_in _ (by omega)]; omega
                  obtain ⟨Bv, hBv⟩ : ∃ z, offB rows J = z := ⟨_, rfl⟩
                  have CO : Hid (∀ w', Up w7.heap.size w7 w' → Calls Tryd.prog 14 #[r, .int .i64 J] w' fun e w'' => e = .returned (.bool Bv) ∧ Below w'.heap.size w' w'') := fun w' hu => by
                    rw [← hBv]
                    exact HP.out.2.2.1 w' _ _ _ _ J (HP.out.stay HR7.out hu.1) (by omega)
                  have CA : Hid (∀ w', Up w7.heap.size w7 w' → Calls Tryd.prog 15 #[.agg #[.slice a1 nr a2, .slice b1 nw b2], .int .i64 J] w' fun e w'' => e = .returned (.bool Bv) ∧ Below w'.heap.size w' w'') := fun w' hu => by
                    rw [← hBv]
                    exact ral_any (HSv7.out.stay hu.1) ⟨_, _, _, rfl⟩ J (by have := HRW.out.2; omega) (fun p hp => by have := HRW.out.1 p hp; omega)
                  have xe : (Bv != Bv) = false := by simp
                  clear hBv hJ
                  go_upto_region 21 with fail
                  refine wp_region_held_drew (S := fun w' => Up w7.heap.size w7 w') (by kernel_rfl) (Up.drew HU.out) (fun hHeld => ?_)
                  (try dsimp only at hHeld)
                  obtain ⟨x0, hx0⟩ : ∃ x0, wr.drew = x0 := ⟨_, rfl⟩
                  rw [hx0] at hHeld ⊢
                  clear hx0
                  refine takeH (i := 0) (v := ?_) (d := (some 71)) rfl (by kernel_rfl) (by kernel_rfl) (by kernel_rfl) rfl (fun _ _ _ h => h) (Or.inl ⟨by kernel_rfl, ?_⟩) (by assumption) ?_; rotate_left
                  · (intro w hSw; (try dsimp only at hSw); first | (go_simp; done) | (go_simp; with_reducible rfl))
                  (try simp only [Act.put, List.setIfInBounds_toArray, List.set_cons_zero, List.set_cons_succ])
                  refine takeH (i := 1) (v := ?_) (d := (some 72)) rfl (by kernel_rfl) (by kernel_rfl) (by kernel_rfl) rfl (fun _ _ _ h => h) (Or.inl ⟨by kernel_rfl, ?_⟩) (by assumption) ?_; rotate_left
                  · (intro w hSw; (try dsimp only at hSw); first | (go_simp; done) | (go_simp; with_reducible rfl))
                  (try simp only [Act.put, List.setIfInBounds_toArray, List.set_cons_zero, List.set_cons_succ])
                  refine takeH (i := 3) (v := ?_) (d := (some 74)) rfl (by kernel_rfl) (by kernel_rfl) (by kernel_rfl) rfl (fun _ _ _ h => h) (Or.inl ⟨by kernel_rfl, ?_⟩) (by assumption) ?_; rotate_left
                  · (intro w hSw; (try dsimp only at hSw); have q0 := cell_stay HE7.out.1 hSw.1; have q1 := cell_stay HE7.out.2 hSw.1; first | (go_simp; done) | (go_simp; with_reducible rfl))
                  (try simp only [Act.put, List.setIfInBounds_toArray, List.set_cons_zero, List.set_cons_succ])
                  refine takeH (i := 4) (v := ?_) (d := (some 75)) rfl (by kernel_rfl) (by kernel_rfl) (by kernel_rfl) rfl (fun _ _ _ h => h) (Or.inl ⟨by kernel_rfl, ?_⟩) (by assumption) ?_; rotate_left
                  · (intro w hSw; (try dsimp only at hSw); first | (go_simp; done) | (go_simp; with_reducible rfl))
                  (try simp only [Act.put, List.setIfInBounds_toArray, List.set_cons_zero, List.set_cons_succ])
                  have HV0 : Hid (Up w7.heap.size w7 x0) := hHeld
                  have cc1 := CO.out x0 hHeld
                  refine wpAnyH_ready (rs := [2]) (by kernel_rfl) (by simp) (AllReadyH.cons rfl (fun K hK => ?_) AllReadyH.nil)
                  (try rw [if_pos (by kernel_rfl)])
                  go_simp
                  refine cc1.mono ?_
                  rintro ev w8 ⟨rfl, hb8⟩
                  have HV1 : Hid (Up w7.heap.size w7 w8) := HV0.out.stay hb8
                  clear cc1 hb8 hHeld HV0
                  go_wp2_with fail
                  refine hK.out _ _ HV1.out (fun hHeld => ?_)
                  clear hK K
                  (try dsimp only at hHeld)
                  (try simp only [Act.put, List.setIfInBounds_toArray, List.set_cons_zero, List.set_cons_succ])
                  have cc2 := CA.out w8 HV1.out
                  refine wpAnyH_ready (rs := [5]) (by kernel_rfl) (by simp) (AllReadyH.cons rfl (fun K hK => ?_) AllReadyH.nil)
                  (try rw [if_pos (by kernel_rfl)])
                  go_simp
                  refine cc2.mono ?_
                  rintro ev w9 ⟨rfl, hb9⟩
                  have HV2 : Hid (Up w7.heap.size w7 w9) := HV1.out.stay hb9
                  clear cc2 hb9 hHeld HV1
                  go_wp2_with fail
                  refine hK.out _ _ HV2.out (fun hHeld => ?_)
                  clear hK K
                  (try dsimp only at hHeld)
                  (try simp only [Act.put, List.setIfInBounds_toArray, List.set_cons_zero, List.set_cons_succ])
                  refine takeH (i := 6) (v := ?_) (d := (some 77)) rfl (by kernel_rfl) (by kernel_rfl) (by kernel_rfl) rfl (fun _ _ _ h => h) (Or.inl ⟨by kernel_rfl, ?_⟩) (by assumption) ?_; rotate_left
                  · (intro w hSw; (try dsimp only at hSw); first | (go_simp; done) | (go_simp; with_reducible rfl))
                  (try simp only [Act.put, List.setIfInBounds_toArray, List.set_cons_zero, List.set_cons_succ])
                  refine wpAnyH_done (by kernel_rfl) ?_ _
                  clear hHeld HU CO CA
                  go_wp2
                  go_roundg (m + 2 - (j + 1))
                  case measure => omega
                  case rel => exact ⟨j + 1, by omega, rfl, by first | rfl | go_num, HV2⟩
                · obtain rfl : j = m + 2 := by omega
                  have x2 : ¬ J ≤ (m : Int) := by omega
                  clear hJ
                  obtain ⟨WS, hWS⟩ : ∃ x, wr.alloc (.cells #[.string t, .string ⟨#[119, 111, 114, 100]⟩, .string ⟨#[84, 69, 72]⟩, .string ⟨#[100, 111, 110, 39, 116]⟩, .string ⟨#[97]⟩, .string ⟨#[98]⟩, .string ⟨#[97, 98, 99]⟩, .string ⟨#[68, 69, 70]⟩, .string ⟨#[120]⟩, .string ⟨#[]⟩] 9) = x := ⟨_, rfl⟩
                  obtain ⟨F, hF⟩ : ∃ x, wr.heap.size = x := ⟨_, rfl⟩
                  have hcF : WS.heap[F]? = some (.cells #[.string t, .string ⟨#[119, 111, 114, 100]⟩, .string ⟨#[84, 69, 72]⟩, .string ⟨#[100, 111, 110, 39, 116]⟩, .string ⟨#[97]⟩, .string ⟨#[98]⟩, .string ⟨#[97, 98, 99]⟩, .string ⟨#[68, 69, 70]⟩, .string ⟨#[120]⟩, .string ⟨#[]⟩] 9) := by rw [← hWS, ← hF]; exact heap_alloc_new _ _
                  have ht3 : t.size ≤ 300 := by omega
                  have HWc : Hid (∀ i, i < 10 → ∃ x : ByteArray, WS.cell? ⟨F, i, none⟩ = some (.string x) ∧ x.size ≤ 5000) := by
                    intro i hi
                    rcases (show i = 0 ∨ i = 1 ∨ i = 2 ∨ i = 3 ∨ i = 4 ∨ i = 5 ∨ i = 6 ∨ i = 7 ∨ i = 8 ∨ i = 9 by omega) with rfl | rfl | rfl | rfl | rfl | rfl | rfl | rfl | rfl | rfl
                    · exact ⟨t, by simp [World.cell?, hcF], by omega⟩
                    all_goals exact ⟨_, by simp [World.cell?, hcF]; rfl, by decide⟩
                  have HUS : Hid (Up w7.heap.size w7 WS) := by rw [← hWS]; exact HU.out.alloc _
                  clear hcF HU
                  go_wp2
                  (try rw [hWS])
                  (try rw [hF])
                  clear hWS hF
                  go_loopg [81] 10 (fun q iv wr => ∃ i : Nat, i ≤ 10 ∧ q = 10 - i ∧ iv = .int .i64 (i : Int) ∧ Hid (Up WS.heap.size WS wr))
                  case atStart => exact ⟨0, by omega, rfl, rfl, Up.refl _⟩
                  case round =>
                    clear x2
                    obtain ⟨i, hi, hqi, rfl, HUw⟩ := hrel
                    by_cases hi10 : i < 10
                    · have x0 : (0 : Int) ≤ (i : Int) := by omega
                      have x1 : (i : Int) < 10 := by omega
                      obtain ⟨x, hxc, hxs⟩ := HWc.out i hi10
                      have hxc := cell_stay hxc HUw.out.1
                      have HU : Hid (Up w7.heap.size w7 wr) := HUS.out.stay HUw.out.1
                      obtain ⟨Bv, hBv⟩ : ∃ z, knB ws (fld x) = z := ⟨_, rfl⟩
                      have HBW7 : Hid (Below w.heap.size w w7) := HBW.out.trans (HB7.out.mono HBW.out.size)
                      have CO : Hid (∀ w', Up wr.heap.size wr w' → Calls Tryd.prog 16 #[r, .string x] w' fun e w'' => e = .returned (.bool Bv) ∧ Below w'.heap.size w' w'') := fun w' hu => by
                        rw [← hBv]
                        have hu7 := HU.out.stay hu.1
                        exact HP.out.2.2.2.1 w' _ _ _ _ x (HP.out.stay HR7.out hu7.1) hxs (HH.out.1.stay (HBW7.out.trans (hu7.1.mono HBW7.out.size))).1
                      have CA : Hid (∀ w', Up wr.heap.size wr w' → Calls Tryd.prog 17 #[.agg #[.slice a1 nr a2, .slice b1 nw b2], .string x] w' fun e w'' => e = .returned (.bool Bv) ∧ Below w'.heap.size w' w'') := fun w' hu => by
                        rw [← hBv]
                        have hu7 := HU.out.stay hu.1
                        exact rkn_any (HSw7.out.stay hu7.1) ⟨_, _, _, rfl⟩ x hxs (by rw [HNW.out]; exact hmw)
                      have xe : (Bv != Bv) = false := by simp
                      have HEr : Hid (wr.cell? ⟨E, 0, none⟩ = some (.slice a1 nr a2) ∧ wr.cell? ⟨E, 1, none⟩ = some (.slice b1 nw b2)) := ⟨cell_stay HE7.out.1 HU.out.1, cell_stay HE7.out.2 HU.out.1⟩
                      clear hBv HU hxs HBW7
                      go_upto_region 26 with fail
                      refine wp_region_held_drew (S := fun w' => Up wr.heap.size wr w') (by kernel_rfl) (Up.drew (Up.refl wr)) (fun hHeld => ?_)
                      (try dsimp only at hHeld)
                      obtain ⟨x0, hx0⟩ : ∃ x0, wr.drew = x0 := ⟨_, rfl⟩
                      rw [hx0] at hHeld ⊢
                      clear hx0
                      refine takeH (i := 0) (v := ?_) (d := (some 85)) rfl (by kernel_rfl) (by kernel_rfl) (by kernel_rfl) rfl (fun _ _ _ h => h) (Or.inl ⟨by kernel_rfl, ?_⟩) (by assumption) ?_; rotate_left
                      · (intro w hSw; (try dsimp only at hSw); first | (go_simp; done) | (go_simp; with_reducible rfl))
                      (try simp only [Act.put, List.setIfInBounds_toArray, List.set_cons_zero, List.set_cons_succ])
                      refine takeH (i := 1) (v := ?_) (d := (some 86)) rfl (by kernel_rfl) (by kernel_rfl) (by kernel_rfl) rfl (fun _ _ _ h => h) (Or.inl ⟨by kernel_rfl, ?_⟩) (by assumption) ?_; rotate_left
                      · (intro w hSw; (try dsimp only at hSw); first | (go_simp; done) | (go_simp; with_reducible rfl))
                      (try simp only [Act.put, List.setIfInBounds_toArray, List.set_cons_zero, List.set_cons_succ])
                      refine takeH (i := 3) (v := ?_) (d := (some 88)) rfl (by kernel_rfl) (by kernel_rfl) (by kernel_rfl) rfl (fun _ _ _ h => h) (Or.inl ⟨by kernel_rfl, ?_⟩) (by assumption) ?_; rotate_left
                      · (intro w hSw; (try dsimp only at hSw); have q0 := cell_stay HEr.out.1 hSw.1; have q1 := cell_stay HEr.out.2 hSw.1; first | (go_simp; done) | (go_simp; with_reducible rfl))
                      (try simp only [Act.put, List.setIfInBounds_toArray, List.set_cons_zero, List.set_cons_succ])
                      refine takeH (i := 4) (v := ?_) (d := (some 89)) rfl (by kernel_rfl) (by kernel_rfl) (by kernel_rfl) rfl (fun _ _ _ h => h) (Or.inl ⟨by kernel_rfl, ?_⟩) (by assumption) ?_; rotate_left
                      · (intro w hSw; (try dsimp only at hSw); first | (go_simp; done) | (go_simp; with_reducible rfl))
                      (try simp only [Act.put, List.setIfInBounds_toArray, List.set_cons_zero, List.set_cons_succ])
                      have HV0 : Hid (Up wr.heap.size wr x0) := hHeld
                      have cc1 := CO.out x0 hHeld
                      refine wpAnyH_ready (rs := [2]) (by kernel_rfl) (by simp) (AllReadyH.cons rfl (fun K hK => ?_) AllReadyH.nil)
                      (try rw [if_pos (by kernel_rfl)])
                      go_simp
                      refine cc1.mono ?_
                      rintro ev w8 ⟨rfl, hb8⟩
                      have HV1 : Hid (Up wr.heap.size wr w8) := HV0.out.stay hb8
                      clear cc1 hb8 hHeld HV0
                      go_wp2_with fail
                      refine hK.out _ _ HV1.out (fun hHeld => ?_)
                      clear hK K
                      (try dsimp only at hHeld)
                      (try simp only [Act.put, List.setIfInBounds_toArray, List.set_cons_zero, List.set_cons_succ])
                      have cc2 := CA.out w8 HV1.out
                      refine wpAnyH_ready (rs := [5]) (by kernel_rfl) (by simp) (AllReadyH.cons rfl (fun K hK => ?_) AllReadyH.nil)
                      (try rw [if_pos (by kernel_rfl)])
                      go_simp
                      refine cc2.mono ?_
                      rintro ev w9 ⟨rfl, hb9⟩
                      have HV2 : Hid (Up wr.heap.size wr w9) := HV1.out.stay hb9
                      clear cc2 hb9 hHeld HV1
                      go_wp2_with fail
                      refine hK.out _ _ HV2.out (fun hHeld => ?_)
                      clear hK K
                      (try dsimp only at hHeld)
                      (try simp only [Act.put, List.setIfInBounds_toArray, List.set_cons_zero, List.set_cons_succ])
                      refine takeH (i := 6) (v := ?_) (d := (some 91)) rfl (by kernel_rfl) (by kernel_rfl) (by kernel_rfl) rfl (fun _ _ _ h => h) (Or.inl ⟨by kernel_rfl, ?_⟩) (by assumption) ?_; rotate_left
                      · (intro w hSw; (try dsimp only at hSw); first | (go_simp; done) | (go_simp; with_reducible rfl))
                      (try simp only [Act.put, List.setIfInBounds_toArray, List.set_cons_zero, List.set_cons_succ])
                      refine wpAnyH_done (by kernel_rfl) ?_ _
                      have HV3 : Hid (Up WS.heap.size WS w9) := HUw.out.stay HV2.out.1
                      clear hHeld CO CA HV2 HUw hxc HEr
                      go_wp2
                      go_roundg (10 - (i + 1))
                      case measure => omega
                      case rel => exact ⟨i + 1, by omega, rfl, by go_num, HV3⟩
                    · obtain rfl : i = 10 := by omega
                      have HFin : Hid (Below W.heap.size W wr) := HB7.out.trans ((HUS.out.stay HUw.out.1).1.mono HB7.out.size)
                      go_wp2
                      go_roundg (2 - (k + 1))
                      case measure => omega
                      case rel => exact ⟨k + 1, by omega, rfl, by go_num, HFin⟩
        · have z1 : ¬ (k : Int) < 2 := by omega
          go_wp2
          go_ret
          exact ⟨rfl, HBW.out.trans (HBr.out.mono HBW.out.size)⟩
end Go.Proofs.YteeeekpeokgaeaaDoor
