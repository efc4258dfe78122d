/- The law LabelPlays. -/
import Derived.Test.YtfefdcolmalgjaalAct
import Derived.Test.YtfefdcolmalgjaalPut
import Derived.Test.YtfefdcolmalgjaalLay
import Derived.Test.YtfefdcolmalgjaalSame
import Derived.Deep.CutBlock
namespace Go.Proofs.Ytfefdcolmalgjaa
set_option linter.unusedVariables false
open Go.RowKit Go.ChangeShapes
/-- The sheet and the reference's row, apart. -/
structure Bo (w0 w : World) (T g X gm n : Nat) (L M : Nat → Int) : Prop where
  s : Sh w T g n L
  m : Mr w X gm n M
  h1 : g ≠ gm
  h2 : X ≠ g
  h3 : T ≠ gm
  h4 : w0.heap.size ≤ g
  h5 : w0.heap.size ≤ gm
  up : Up w0.heap.size w0 w
theorem Bo.stay {w0 w w' : World} {T g X gm n : Nat} {L M : Nat → Int} (h : Bo w0 w T g X gm n L M) (hb : Below w.heap.size w w') : Bo w0 w' T g X gm n L M :=
  ⟨h.s.stay hb, h.m.stay hb, h.h1, h.h2, h.h3, h.h4, h.h5, h.up.stay hb⟩
theorem Bo.setS {w0 w w' : World} {T g X gm n : Nat} {L M L1 : Nat → Int} (h : Bo w0 w T g X gm n L M) (hS : Sh w' T g n L1) (hG : w.grownBy w' (some g)) : Bo w0 w' T g X gm n L1 M :=
  ⟨hS, h.m.grown hG (fun e => h.h2 (Option.some.inj e)) (fun e => h.h1 (Option.some.inj e).symm), h.h1, h.h2, h.h3, h.h4, h.h5, h.up.grown hG (fun k hk => by cases hk; exact h.h4)⟩
theorem Bo.setM {w0 w w' : World} {T g X gm n : Nat} {L M M1 : Nat → Int} (h : Bo w0 w T g X gm n L M) (hS : Mr w' X gm n M1) (hG : w.grownBy w' (some gm)) : Bo w0 w' T g X gm n L M1 :=
  ⟨h.s.grown hG (fun e => h.h3 (Option.some.inj e)) (fun e => h.h1 (Option.some.inj e)), hS, h.h1, h.h2, h.h3, h.h4, h.h5, h.up.grown hG (fun k hk => by cases hk; exact h.h5)⟩
theorem Bo.far {w0 w w1 w' : World} {T g X gm n q : Nat} {L M : Nat → Int} (h : Bo w0 w T g X gm n L M) (h1 : Bo w0 w1 T g X gm n L M) (hq : w.heap.size ≤ q) (hG : w1.grownBy w' (some q)) : Bo w0 w' T g X gm n L M := by
  have e1 := h.s.lt
  have e2 := h.s.row.lt
  have e3 := h.m.lt
  have e4 := h.m.row.lt
  have e5 := h.up.2
  exact ⟨h1.s.grown hG (fun e => by cases e; omega) (fun e => by cases e; omega), h1.m.grown hG (fun e => by cases e; omega) (fun e => by cases e; omega), h.h1, h.h2, h.h3, h.h4, h.h5, h1.up.grown hG (fun k hk => by cases hk; omega)⟩
theorem tmod_bd (f : Int) : -70000 < f.tmod 70000 ∧ f.tmod 70000 < 70000 := by
  have h1 := Int.tmod_lt_of_pos f (show (0 : Int) < 70000 by decide)
  have h2 := Int.neg_tmod f 70000
  have h3 := Int.tmod_lt_of_pos (-f) (show (0 : Int) < 70000 by decide)
  omega
theorem some_ne {a b : Nat} (h : a ≠ b) : some a ≠ some b := fun e => h (Option.some.inj e)
theorem mark_same (L : Nat → Int) (l z : Int) (N p q n i : Nat) (hp : p ≤ N) (hq : q ≤ N) (hi : i < n) : layL L (setL (fun _ => 1) l p q) N z i = setL (setL L 1 z (z + N)) l (z + p) (z + q) i := by
  unfold layL setL
  dsimp only
  by_cases c : 0 ≤ (i : Int) - z ∧ (i : Int) - z < (N : Int)
  · rw [if_pos c]
    by_cases c2 : z + (p : Int) ≤ (i : Int) ∧ (i : Int) < z + (q : Int)
    · rw [if_pos c2, if_pos (by omega)]
    · rw [if_neg c2, if_neg (by omega), if_pos (by omega)]
  · rw [if_neg c, if_neg (by omega), if_neg (by omega)]
set_option maxHeartbeats 4000000 in
set_option maxRecDepth 100000 in
theorem plays_law {w : World} (n0 : Nat) (hn0 : n0 < 65536) {ad : Option Addr} {k c : Nat} {A : Nat → Ac} (hA : ASl w (.slice ad k c) k A) (hk : k ≤ maxLen) :
    Calls Try.prog 3 #[.int .u16 n0, .slice ad k c] w fun e w' => e = .returned (.bool true) ∧ Below w.heap.size w w' := by
  obtain ⟨n, hn0', hn⟩ : ∃ n : Nat, (n0 : Int) % 300 = (n : Int) ∧ n < 300 := ⟨n0 % 300, by omega, by omega⟩
  have wn : IntKind.i64.wrap (n : Int) = (n : Int) := (wrap_is _).trans (IntWalk.wrap64_in _ (by omega))
  have hk2 : k ≤ 9223372036854775807 := by unfold maxLen at hk; omega
  have HA : Hid (ASl w (.slice ad k c) k A) := hA
  have c0 := awake_any w
  clear hA hk
  go_enter Try.func3, Try.ntmps3
  go_wp2_with fail
  refine c0.mono ?_
  rintro e w1 ⟨rfl, hU⟩
  have HU1 : Hid (Up w.heap.size w w1) := hU
  clear c0 hU
  go_wp2_with fail
  refine (new_ok n (by omega) w1).mono ?_
  rintro e w2 ⟨T, g, rfl, hT, hg, hS, hU⟩
  have HU2 : Hid (Up w.heap.size w w2) := HU1.out.stay hU.1
  have HN2 : Hid (w.heap.size ≤ g) := Nat.le_trans HU1.out.2 hg
  have HS2 : Hid (Sh w2 T g n (fun _ => 1)) := hS
  clear hT hg hS hU HU1
  go_wp2_with fail
  refine (rall_any n (by omega) 1 w2).mono ?_
  rintro e w3 ⟨gm, rfl, hgm, hL, hU⟩
  have HU3 : Hid (Up w.heap.size w w3) := HU2.out.stay hU.1
  have HS3 : Hid (Sh w3 T g n (fun _ => 1)) := HS2.out.stay hU.1
  have HL3 : Hid (LR w3 gm n (fun _ => 1)) := hL
  have HN3 : Hid (g ≠ gm ∧ T ≠ gm ∧ w.heap.size ≤ gm) := by
    have h1 := HS2.out.lt
    have h2 := HS2.out.row.lt
    have h3 := HU2.out.2
    exact ⟨by omega, by omega, by omega⟩
  clear hgm hL hU HU2 HS2
  obtain ⟨W0, hW0⟩ : ∃ W, w3.alloc (.cells #[.slice (some ⟨gm, 0, none⟩) n n] 30) = W := ⟨_, rfl⟩
  have HB0 : Hid (Bo w W0 T g w3.heap.size gm n (fun _ => 1) (fun _ => 1)) := by
    have hb : Below w3.heap.size w3 W0 := by rw [← hW0]; exact (Below.refl _ _).alloc (Nat.le_refl _) _
    refine ⟨HS3.out.stay hb, ⟨?_, HL3.out.stay hb⟩, HN3.out.1, ?_, HN3.out.2.1, HN2.out, HN3.out.2.2, HU3.out.stay hb⟩
    · rw [← hW0]
      exact heap_alloc_new _ _
    · have := HS3.out.row.lt
      omega
  obtain ⟨X, eX⟩ : ∃ X, w3.heap.size = X := ⟨_, rfl⟩
  rw [eX] at HB0
  clear HU3 HS3 HL3 HN3 HN2
  go_upto_block 0 with fail
  go_cut [34] (fun iv wx => Hid (∃ L, Bo w wx T g X gm n L L))
  case first =>
    go_wp2_with fail
    clear hW0 eX
    go_loopg [34] k (fun q iv wr => ∃ i : Nat, i ≤ k ∧ q = k - i ∧ iv = .int .i64 i ∧ Hid (∃ L, Bo w wr T g X gm n L L))
    case atStart => exact ⟨0, Nat.zero_le _, rfl, rfl, ⟨_, HB0.out⟩⟩
    case round =>
      obtain ⟨i, hi, hq, rfl, HB⟩ := hrel
      by_cases hlt : i < k
      · have z1 : (i : Int) < (k : Int) := by omega
        have z2 : (0 : Int) ≤ (i : Int) := by omega
        obtain ⟨L, hBo⟩ := HB.out
        obtain ⟨b, off, rfl, hA⟩ := HA.out.at (by omega)
        have hAi := (hA i hlt).stay hBo.up.1
        generalize A i = ac at hAi
        obtain ⟨ak, al, af, at', aN⟩ := ac
        obtain ⟨a0, a1, a2, a3, a4, r0, r1, r4⟩ := hAi
        dsimp only at a0 a1 a2 a3 a4 r0 r1 r4
        clear hA HB
        obtain ⟨W, hW⟩ : ∃ W, wr.alloc (.cells (Ac.cs ⟨ak, al, af, at', aN⟩) 35) = W := ⟨_, rfl⟩
        dsimp only [Ac.cs] at hW
        have HBW : Hid (Bo w W T g X gm n L L) := by show Bo _ _ _ _ _ _ _ _ _; rw [← hW]; exact hBo.stay ((Below.refl _ _).alloc (Nat.le_refl _) _)
        have HK : Hid (Bk W wr.heap.size (Ac.cs ⟨ak, al, af, at', aN⟩) 35) := by show Bk _ _ _ _; rw [← hW]; exact Bk.new _ _ _
        have HNE : Hid (some wr.heap.size ≠ some g ∧ some wr.heap.size ≠ some gm) := by
          have h1 := hBo.s.row.lt
          have h2 := hBo.m.row.lt
          exact ⟨some_ne (by omega), some_ne (by omega)⟩
        have b0 : W.cell? ⟨wr.heap.size, 0, none⟩ = some (.int .u8 (ak : Int)) := HK.out.cell 0 rfl
        have b1 : W.cell? ⟨wr.heap.size, 1, none⟩ = some (.int .u8 (al : Int)) := HK.out.cell 1 rfl
        have b2 : W.cell? ⟨wr.heap.size, 2, none⟩ = some (.int .i64 af) := HK.out.cell 2 rfl
        have b3 : W.cell? ⟨wr.heap.size, 3, none⟩ = some (.int .i64 at') := HK.out.cell 3 rfl
        have b4 : W.cell? ⟨wr.heap.size, 4, none⟩ = some (.int .u8 (aN : Int)) := HK.out.cell 4 rfl
        obtain ⟨gB, egB⟩ : ∃ x, wr.heap.size = x := ⟨_, rfl⟩
        rw [egB] at HK HNE b0 b1 b2 b3 b4
        clear hBo
        by_cases h40 : 40 < i
        · have z3 : (40 : Int) < (i : Int) := by omega
          go_wp2
          go_meet
          case rel => exact ⟨L, HBW.out⟩
        · have z3 : ¬ (40 : Int) < (i : Int) := by omega
          obtain ⟨r, hr, h4⟩ : ∃ r : Int, (ak : Int) % 4 = r ∧ (r = 0 ∨ r = 1 ∨ r = 2 ∨ r = 3) := ⟨_, rfl, by omega⟩
          go_upto_block 2 with fail
          rw [hr]
          clear hr
          go_cut [34] (fun iv wx => iv = .int .i64 i ∧ Hid (∃ L, Bo w wx T g X gm n L L))
          case first =>
            clear hW egB a0 a1 a2 a3 a4
            rcases h4 with rfl | rfl | rfl | rfl
            · go_upto_region 13 with fail
              go_quiet (fail)
              have HBd : Hid (Bo w (W.drewN nq) T g X gm n L L) := HBW.out.stay (below_drewN (Below.refl _ _) nq)
              have HKd : Hid (Bk (W.drewN nq) gB (Ac.cs ⟨ak, al, af, at', aN⟩) 35) := HK.out
              clear HBW HK
              obtain ⟨Wd, hWd⟩ : ∃ x, W.drewN nq = x := ⟨_, rfl⟩
              rw [hWd] at HBd HKd
              have HBW := HBd
              have HK := HKd
              clear HBd HKd
              go_wp2_with fail
              clear hWd
              refine (set_any HBW.out.s (by omega) al (af.tmod 300) (at'.tmod 300)).mono ?_
              rintro e w5 ⟨rfl, hS, hG, _⟩
              have HB5 : Hid (Bo w w5 T g X gm n (setL L al (af.tmod 300) (at'.tmod 300)) L) := HBW.out.setS hS hG
              have hK5 := HK.out.grown hG HNE.out.1
              clear b0 b1 b2 b3 b4 hS hG
              have b2 : w5.cell? ⟨gB, 2, none⟩ = some (.int .i64 af) := hK5.cell 2 rfl
              have b3 : w5.cell? ⟨gB, 3, none⟩ = some (.int .i64 at') := hK5.cell 3 rfl
              clear hK5
              go_wp2_with fail
              refine (put_any HB5.out.m (by omega) al (af.tmod 300) (at'.tmod 300)).mono ?_
              rintro e w6 ⟨rfl, hS, hG, _⟩
              have HB6 : Hid (Bo w w6 T g X gm n (setL L al (af.tmod 300) (at'.tmod 300)) (setL L al (af.tmod 300) (at'.tmod 300))) := HB5.out.setM hS hG
              clear b2 b3 hS hG HB5 HBW HK
              go_wp2
              go_meet
              case rel => exact ⟨rfl, ⟨_, HB6.out⟩⟩
            · go_upto_region 13 with fail
              go_quiet (fail)
              have HBd : Hid (Bo w (W.drewN nq) T g X gm n L L) := HBW.out.stay (below_drewN (Below.refl _ _) nq)
              have HKd : Hid (Bk (W.drewN nq) gB (Ac.cs ⟨ak, al, af, at', aN⟩) 35) := HK.out
              clear HBW HK
              obtain ⟨Wd, hWd⟩ : ∃ x, W.drewN nq = x := ⟨_, rfl⟩
              rw [hWd] at HBd HKd
              have HBW := HBd
              have HK := HKd
              clear HBd HKd
              go_wp2_with fail
              clear hWd
              refine (set_any HBW.out.s (by omega) al (af.tmod 300) (at'.tmod 300)).mono ?_
              rintro e w5 ⟨rfl, hS, hG, _⟩
              have HB5 : Hid (Bo w w5 T g X gm n (setL L al (af.tmod 300) (at'.tmod 300)) L) := HBW.out.setS hS hG
              have hK5 := HK.out.grown hG HNE.out.1
              clear b0 b1 b2 b3 b4 hS hG
              have b2 : w5.cell? ⟨gB, 2, none⟩ = some (.int .i64 af) := hK5.cell 2 rfl
              have b3 : w5.cell? ⟨gB, 3, none⟩ = some (.int .i64 at') := hK5.cell 3 rfl
              clear hK5
              go_wp2_with fail
              refine (put_any HB5.out.m (by omega) al (af.tmod 300) (at'.tmod 300)).mono ?_
              rintro e w6 ⟨rfl, hS, hG, _⟩
              have HB6 : Hid (Bo w w6 T g X gm n (setL L al (af.tmod 300) (at'.tmod 300)) (setL L al (af.tmod 300) (at'.tmod 300))) := HB5.out.setM hS hG
              clear b2 b3 hS hG HB5 HBW HK
              go_wp2
              go_meet
              case rel => exact ⟨rfl, ⟨_, HB6.out⟩⟩
            · go_wp2_with fail
              refine (set_any HBW.out.s (by omega) al af at').mono ?_
              rintro e w5 ⟨rfl, hS, hG, _⟩
              have HB5 : Hid (Bo w w5 T g X gm n (setL L al af at') L) := HBW.out.setS hS hG
              have hK5 := HK.out.grown hG HNE.out.1
              clear b0 b1 b2 b3 b4 hS hG
              have b2 : w5.cell? ⟨gB, 2, none⟩ = some (.int .i64 af) := hK5.cell 2 rfl
              have b3 : w5.cell? ⟨gB, 3, none⟩ = some (.int .i64 at') := hK5.cell 3 rfl
              clear hK5
              go_wp2_with fail
              refine (put_any HB5.out.m (by omega) al af at').mono ?_
              rintro e w6 ⟨rfl, hS, hG, _⟩
              have HB6 : Hid (Bo w w6 T g X gm n (setL L al af at') (setL L al af at')) := HB5.out.setM hS hG
              clear b2 b3 hS hG HB5 HBW HK
              go_wp2
              go_meet
              case rel => exact ⟨rfl, ⟨_, HB6.out⟩⟩
            · have w4 : IntKind.i64.wrap (aN : Int) = (aN : Int) := (wrap_is _).trans (IntWalk.wrap64_in _ (by omega))
              obtain ⟨p, hp, hpN⟩ : ∃ p : Nat, (aN : Int) / 3 = (p : Int) ∧ p ≤ aN := ⟨aN / 3, by omega, by omega⟩
              obtain ⟨q, hq', hqN⟩ : ∃ q : Nat, (aN : Int) / 2 = (q : Int) ∧ q ≤ aN := ⟨aN / 2, by omega, by omega⟩
              obtain ⟨z, hz, hz1, hz2⟩ : ∃ z : Int, af.tmod 70000 = z ∧ -70000 < z ∧ z < 70000 := ⟨_, rfl, tmod_bd af⟩
              go_wp2_with fail
              refine (new_ok aN (by omega) W).mono ?_
              rintro e w5 ⟨T2, g2, rfl, hT2, hg2, hS, hU⟩
              have HB5 : Hid (Bo w w5 T g X gm n L L) := HBW.out.stay hU.1
              have hK5 := HK.out.stay hU.1
              have HK5 : Hid (Bk w5 gB (Ac.cs ⟨ak, al, af, at', aN⟩) 35) := hK5
              have HG2 : Hid (W.heap.size ≤ g2 ∧ some gB ≠ some g2) := ⟨hg2, some_ne (by have := HK.out.lt; omega)⟩
              have HS5 : Hid (Sh w5 T2 g2 aN (fun _ => 1)) := hS
              clear b0 b1 b2 b3 b4 hS hU hT2 hg2
              have b4 : w5.cell? ⟨gB, 4, none⟩ = some (.int .u8 (aN : Int)) := hK5.cell 4 rfl
              clear hK5
              go_wp2_with fail
              refine (set_any HS5.out (by omega) al p q).mono ?_
              rintro e w6 ⟨rfl, hS, hG, _⟩
              have HB6 : Hid (Bo w w6 T g X gm n L L) := HBW.out.far HB5.out HG2.out.1 hG
              have hK6 := HK5.out.grown hG HG2.out.2
              have HK6 : Hid (Bk w6 gB (Ac.cs ⟨ak, al, af, at', aN⟩) 35) := hK6
              have HS6 : Hid (Sh w6 T2 g2 aN (setL (fun _ => 1) al p q)) := hS
              clear b4 hS hG HS5 HB5 HK5
              have b2 : w6.cell? ⟨gB, 2, none⟩ = some (.int .i64 af) := hK6.cell 2 rfl
              clear hK6
              go_wp2_with fail
              by_cases hfar : z < -65536 ∨ 65536 < z
              · refine (lay_far z hfar _ _ w6).mono ?_
                rintro e w7 ⟨rfl, h7⟩
                subst w7
                have HE : Hid (∃ L, Bo w w6 T g X gm n L L) := ⟨_, HB6.out⟩
                have hf2 : z < -65536 ∨ (¬ z < -65536 ∧ 65536 < z) := by omega
                clear hfar HB6 HS6 HK6
                rcases hf2 with y1 | ⟨y1, y2⟩
                · go_wp2
                  go_meet
                  case rel => exact ⟨rfl, HE⟩
                · go_wp2
                  go_meet
                  case rel => exact ⟨rfl, HE⟩
              · have y1 : ¬ z < -65536 := by omega
                have y2 : ¬ 65536 < z := by omega
                clear hfar
                refine (slay_any HB6.out.s HS6.out (by omega) (by omega) z (by omega) (by omega)).mono ?_
                rintro e w7 ⟨rfl, hS, hG, _⟩
                have HB7 : Hid (Bo w w7 T g X gm n (layL L (setL (fun _ => 1) al p q) aN z) L) := HB6.out.setS hS hG
                have hK7 := HK6.out.grown hG HNE.out.1
                have HK7 : Hid (Bk w7 gB (Ac.cs ⟨ak, al, af, at', aN⟩) 35) := hK7
                clear b2 hS hG HS6 HB6 HK6
                have b4 : w7.cell? ⟨gB, 4, none⟩ = some (.int .u8 (aN : Int)) := hK7.cell 4 rfl
                have v1 : IntKind.i64.wrap (z + (aN : Int)) = z + (aN : Int) := IntWalk.i64_in _ (by omega)
                have v2 : IntKind.i64.wrap (z + (p : Int)) = z + (p : Int) := IntWalk.i64_in _ (by omega)
                have v3 : IntKind.i64.wrap (z + (q : Int)) = z + (q : Int) := IntWalk.i64_in _ (by omega)
                clear hK7
                go_wp2_with fail
                refine (put_any HB7.out.m (by omega) 1 z (z + aN)).mono ?_
                rintro e w8 ⟨rfl, hS, hG, _⟩
                have HB8 : Hid (Bo w w8 T g X gm n (layL L (setL (fun _ => 1) al p q) aN z) (setL L 1 z (z + aN))) := HB7.out.setM hS hG
                have hK8 := HK7.out.grown hG HNE.out.2
                clear b4 hS hG HB7 HK7
                have b4 : w8.cell? ⟨gB, 4, none⟩ = some (.int .u8 (aN : Int)) := hK8.cell 4 rfl
                clear hK8
                go_wp2_with fail
                refine (put_any HB8.out.m (by omega) al (z + p) (z + q)).mono ?_
                rintro e w9 ⟨rfl, hS, hG, _⟩
                have HE : Hid (∃ L, Bo w w9 T g X gm n L L) := by
                  have h9 := HB8.out.setM hS hG
                  exact ⟨_, ⟨h9.s, h9.m.congr fun i hi => (mark_same L al z aN p q n i hpN hqN hi).symm, h9.h1, h9.h2, h9.h3, h9.h4, h9.h5, h9.up⟩⟩
                clear b4 hS hG HB8
                go_wp2
                go_meet
                case rel => exact ⟨rfl, HE⟩
          case rest =>
            obtain ⟨rfl, HE⟩ := hcut
            obtain ⟨L', hBo⟩ := HE.out
            have HBc : Hid (Bo w wc T g X gm n L' L') := hBo
            have hcm := hBo.m.cell
            clear hBo HE HBW HK HNE hW egB b0 b1 b2 b3 b4 a0 a1 a2 a3 a4 h4
            go_upto_region 27 with fail
            refine wp_region_held_drew (S := fun w' => w'.cell? ⟨X, 0, none⟩ = some (.slice (some ⟨gm, 0, none⟩) n n)) (by kernel_rfl) hcm (fun hHeld => ?_)
            (try dsimp only at hHeld)
            have HBd : Hid (Bo w wc.drew T g X gm n L' L') := HBc.out.stay (Below.refl _ _).drew
            clear HBc hcm
            obtain ⟨x0, hx0⟩ : ∃ x0, wc.drew = x0 := ⟨_, rfl⟩
            rw [hx0] at HBd hHeld ⊢
            clear hx0
            refine takeH (i := 0) (v := ?_) (d := (some 134)) rfl (by kernel_rfl) (by kernel_rfl) (by kernel_rfl) rfl (fun _ _ _ h => h) (Or.inl ⟨by kernel_rfl, ?_⟩) (by first | assumption | trivial) ?_; rotate_left
            · (intro w hSw; (try dsimp only at hSw); first | (go_simp; done) | (go_simp; with_reducible rfl))
            (try simp only [Act.put, List.setIfInBounds_toArray, List.set_cons_zero, List.set_cons_succ])
            refine takeH (i := 2) (v := ?_) (d := (some 136)) rfl (by kernel_rfl) (by kernel_rfl) (by kernel_rfl) rfl (fun _ _ _ h => h) (Or.inl ⟨by kernel_rfl, ?_⟩) (by first | assumption | trivial) ?_; rotate_left
            · (intro w hSw; (try dsimp only at hSw); first | (go_simp; done) | (go_simp; with_reducible rfl))
            (try simp only [Act.put, List.setIfInBounds_toArray, List.set_cons_zero, List.set_cons_succ])
            refine wpAnyH_ready (rs := [1]) (by kernel_rfl) (by simp) (AllReadyH.cons rfl (fun K hK => ?_) AllReadyH.nil)
            rw [if_pos (by kernel_rfl)]
            go_simp
            refine (segs_any HBd.out.s (by omega)).mono ?_
            rintro e x1 ⟨v1, rfl, hR, hU⟩
            have HB1 : Hid (Bo w x1 T g X gm n L' L') := HBd.out.stay hU.1
            have HR1 : Hid (SR x1 x0.heap.size v1 (sg L' n)) := hR
            have hx1 := HB1.out.m.cell
            clear hR hU HBd
            go_wp2_with fail
            refine hK.out _ _ hx1 (fun hHeld' => ?_)
            clear hK K hHeld hx1
            have hHeld := hHeld'
            clear hHeld'
            (try dsimp only at hHeld)
            (try simp only [Act.put, List.setIfInBounds_toArray, List.set_cons_zero, List.set_cons_succ])
            refine wpAnyH_ready (rs := [3]) (by kernel_rfl) (by simp) (AllReadyH.cons rfl (fun K hK => ?_) AllReadyH.nil)
            rw [if_pos (by kernel_rfl)]
            go_simp
            refine (rsegs_any HB1.out.m.row (by omega)).mono ?_
            rintro e x2 ⟨v2, rfl, hR, hU⟩
            have HB2 : Hid (Bo w x2 T g X gm n L' L') := HB1.out.stay hU.1
            have c2 := same_any (HR1.out.stay hU.1) hR (by have := sg_len L' n; omega)
            have hx2 := HB2.out.m.cell
            clear hR hU HB1 HR1
            go_wp2_with fail
            refine hK.out _ _ hx2 (fun hHeld' => ?_)
            clear hK K hHeld hx2
            have hHeld := hHeld'
            clear hHeld'
            (try dsimp only at hHeld)
            (try simp only [Act.put, List.setIfInBounds_toArray, List.set_cons_zero, List.set_cons_succ])
            refine wpAnyH_ready (rs := [4]) (by kernel_rfl) (by simp) (AllReadyH.cons rfl (fun K hK => ?_) AllReadyH.nil)
            rw [if_pos (by kernel_rfl)]
            go_simp
            refine c2.mono ?_
            rintro e x3 ⟨rfl, hU⟩
            have HB3 : Hid (∃ L, Bo w x3 T g X gm n L L) := ⟨_, HB2.out.stay hU.1⟩
            have hx3 := (HB2.out.stay hU.1).m.cell
            clear hU HB2 c2
            go_wp2_with fail
            refine hK.out _ _ hx3 (fun hHeld' => ?_)
            clear hK K hHeld hx3
            have hHeld := hHeld'
            clear hHeld'
            (try dsimp only at hHeld)
            (try simp only [Act.put, List.setIfInBounds_toArray, List.set_cons_zero, List.set_cons_succ])
            refine takeH (i := 5) (v := ?_) (d := (some 139)) rfl (by kernel_rfl) (by kernel_rfl) (by kernel_rfl) rfl (fun _ _ _ h => h) (Or.inl ⟨by kernel_rfl, ?_⟩) (by first | assumption | trivial) ?_; rotate_left
            · (intro w hSw; (try dsimp only at hSw); first | (go_simp; done) | (go_simp; with_reducible rfl))
            (try simp only [Act.put, List.setIfInBounds_toArray, List.set_cons_zero, List.set_cons_succ])
            refine wpAnyH_done (by kernel_rfl) ?_ _
            clear hHeld
            go_wp2
            go_roundg (k - (i + 1))
            case measure => omega
            case rel => exact ⟨i + 1, by omega, rfl, by go_num, HB3.out⟩
      · obtain rfl : i = k := by omega
        have z1 : ¬ (i : Int) < (i : Int) := by omega
        go_wp2
        go_meet
        case rel => exact HB.out
  case rest =>
    obtain ⟨L, hBo⟩ := hcut.out
    have HB : Hid (Bo w wc T g X gm n L L) := hBo
    have hcm := hBo.m.cell
    clear hBo hcut HB0 hW0 eX HA
    go_wp2_with fail
    clear hcm
    go_loopg [143] n (fun q iv wr => ∃ i : Nat, i ≤ n ∧ q = n - i ∧ iv = .int .i64 i ∧ Hid (Bo w wr T g X gm n L L))
    case atStart => exact ⟨0, Nat.zero_le _, rfl, rfl, HB.out⟩
    case round =>
      obtain ⟨i, hi, hq, rfl, HB2⟩ := hrel
      clear HB
      by_cases hlt : i < n
      · have z1 : (i : Int) < (n : Int) := by omega
        have z2 : (0 : Int) ≤ (i : Int) := by omega
        have hcx := HB2.out.m.cell
        have hcl := HB2.out.m.row.cell hlt
        obtain ⟨x, ex⟩ : ∃ x, L i = x := ⟨_, rfl⟩
        rw [ex] at hcl
        have CA : Hid (∀ nq : Nat, Calls Try.prog 17 #[.pointer (some ⟨T, 0, none⟩), .int .i64 i] (wr.drewN nq) fun e w' => e = .returned (.int .u8 x) ∧ w' = wr.drewN nq) := fun nq => by
          have := at_any (HB2.out.s.stay (below_drewN (Below.refl _ _) nq)) i hlt
          rw [ex] at this
          exact this
        have v2 : (x != x) = false := by simp
        clear ex
        go_upto_region 33 with fail
        go_quiet (first | (go_at_call 17; exact Calls.quiet_of_same (CA.out _)))
        go_wp2
        go_roundg (n - (i + 1))
        case measure => omega
        case rel => exact ⟨i + 1, by omega, rfl, by go_num, HB2.out.stay (below_drewN (Below.refl _ _) _)⟩
      · obtain rfl : i = n := by omega
        have z1 : ¬ (i : Int) < (i : Int) := by omega
        have c1 := len_any HB2.out.s
        have c2 := at_no HB2.out.s (-1) (by omega)
        have c3 := at_no HB2.out.s (i : Int) (by omega)
        have HU : Hid (Below w.heap.size w wr) := HB2.out.up.1
        clear HB2
        go_wp2_with fail
        refine c1.mono ?_
        rintro e w5 ⟨rfl, h5⟩
        subst w5
        clear c1
        go_wp2_with fail
        refine c2.mono ?_
        rintro e w5 ⟨rfl, h5⟩
        subst w5
        clear c2
        go_wp2_with fail
        refine c3.mono ?_
        rintro e w5 ⟨rfl, h5⟩
        subst w5
        clear c3
        go_wp2
        go_ret
        exact ⟨rfl, HU.out⟩
end Go.Proofs.Ytfefdcolmalgjaa
