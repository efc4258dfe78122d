/- The law LabelCover. -/
import Derived.Test.YtfefdcolmalgjaalCov
import Derived.Test.YtfefdcolmalgjaalAct
namespace Go.Proofs.Ytfefdcolmalgjaa
set_option linter.unusedVariables false
open Go.RowKit Go.ChangeShapes
theorem setL_not0 {L : Nat → Int} {l f t : Int} (h : ∀ i, L i ≠ 0) (hl : l ≠ 0) (i : Nat) : setL L l f t i ≠ 0 := by
  unfold setL
  split
  · exact hl
  · exact h i
set_option maxHeartbeats 2000000 in
set_option maxRecDepth 100000 in
theorem cov_law {w : World} (n : Nat) (hn : n < 256) {ad : Option Addr} {k c : Nat} {A : Nat → Ac} (hA : ASl w (.slice ad k c) k A) (hk : k ≤ maxLen) :
    Calls Try.prog 5 #[.int .u8 n, .slice ad k c] w fun e w' => e = .returned (.bool true) ∧ Below w.heap.size w w' := by
  have wn : IntKind.i64.wrap (n : Int) = (n : Int) := (wrap_is _).trans (IntWalk.wrap64_in _ (by omega))
  have hk2 : k ≤ 9223372036854775807 := by unfold maxLen at hk; omega
  have HA : Hid (ASl w (.slice ad k c) k A) := hA
  obtain ⟨i0, hi0, hz0, hz1, hz2⟩ := info_parts infoP
  have c0 := awake_any w
  clear hA hk
  go_enter Try.func5, Try.ntmps5
  go_wp2_with fail
  refine c0.mono ?_
  rintro e w1 ⟨rfl, hU⟩
  have HU1 : Hid (Up w.heap.size w w1) := hU
  clear c0 hU
  go_wp2_with fail
  refine (new_ok n (by omega) w1).mono ?_
  rintro e w2 ⟨T, g, rfl, hT, hg, hS, hU⟩
  have HU2 : Hid (Up w.heap.size w w2) := HU1.out.stay hU.1
  have HN : Hid (w.heap.size ≤ g) := Nat.le_trans HU1.out.2 hg
  have HS2 : Hid (Sh w2 T g n (fun _ => 1)) := hS
  clear hT hg hS hU HU1
  go_wp2
  go_loopg [24] k (fun q iv wr => ∃ i : Nat, i ≤ k ∧ q = k - i ∧ iv = .int .i64 i ∧ Hid (∃ L, Sh wr T g n L ∧ ∀ j, L j ≠ 0) ∧ Hid (Up w.heap.size w wr))
  case atStart => exact ⟨0, Nat.zero_le _, rfl, rfl, ⟨_, HS2.out, fun j => by decide⟩, HU2.out⟩
  case round =>
    obtain ⟨i, hi, hq, rfl, HS, HU⟩ := hrel
    by_cases hlt : i < k
    · have z1 : (i : Int) < (k : Int) := by omega
      have z2 : (0 : Int) ≤ (i : Int) := by omega
      obtain ⟨b, off, rfl, hA⟩ := HA.out.at (by omega)
      have hAi := (hA i hlt).stay HU.out.1
      generalize A i = ac at hAi
      obtain ⟨ak, al, af, at', aN⟩ := ac
      obtain ⟨a0, a1, a2, a3, a4, r0, r1, r4⟩ := hAi
      dsimp only at a0 a1 a2 a3 a4 r0 r1 r4
      clear hA
      obtain ⟨W, hW⟩ : ∃ W, wr.alloc (.cells (Ac.cs ⟨ak, al, af, at', aN⟩) 35) = W := ⟨_, rfl⟩
      dsimp only [Ac.cs] at hW
      have hB : Bk W wr.heap.size (Ac.cs ⟨ak, al, af, at', aN⟩) 35 := by rw [← hW]; exact Bk.new _ _ _
      have HUW : Hid (Up w.heap.size w W) := by show Up _ _ _; rw [← hW]; exact HU.out.alloc _
      have HSW : Hid (∃ L, Sh W T g n L ∧ ∀ j, L j ≠ 0) := by
        obtain ⟨L, h1, h2⟩ := HS.out
        exact ⟨L, by rw [← hW]; exact h1.stay ((Below.refl _ _).alloc (Nat.le_refl _) _), h2⟩
      have b1 : W.cell? ⟨wr.heap.size, 1, none⟩ = some (.int .u8 (al : Int)) := hB.cell 1 rfl
      have b2 : W.cell? ⟨wr.heap.size, 2, none⟩ = some (.int .i64 af) := hB.cell 2 rfl
      have b3 : W.cell? ⟨wr.heap.size, 3, none⟩ = some (.int .i64 at') := hB.cell 3 rfl
      clear hB HS HU
      by_cases h40 : i < 40
      · have z3 : (i : Int) < 40 := by omega
        obtain ⟨L, hS, hL⟩ := HSW.out
        have c3 := set_any hS (by omega) (1 + (al : Int) % 7) (af.tmod 300) (at'.tmod 300)
        have HL : Hid (∀ j, L j ≠ 0) := hL
        clear hS hL HSW
        go_wp2_with fail
        refine c3.mono ?_
        rintro e w3 ⟨rfl, hS, hG, _⟩
        have HS3 : Hid (∃ L, Sh w3 T g n L ∧ ∀ j, L j ≠ 0) := ⟨_, hS, setL_not0 HL.out (by omega)⟩
        have HU3 : Hid (Up w.heap.size w w3) := HUW.out.grown hG (fun k hk => by cases hk; exact HN.out)
        clear c3 hS hG HUW HL b1 b2 b3 hW
        go_wp2
        go_roundg (k - (i + 1))
        case measure => omega
        case rel => exact ⟨i + 1, by omega, rfl, by go_num, HS3, HU3⟩
      · have z3 : ¬ (i : Int) < 40 := by omega
        go_wp2
        go_roundg (k - (i + 1))
        case measure => omega
        case rel => exact ⟨i + 1, by omega, rfl, by go_num, HSW, HUW⟩
    · obtain rfl : i = k := by omega
      have z1 : ¬ (i : Int) < (i : Int) := by omega
      obtain ⟨L, hS, hL⟩ := HS.out
      have c3 := segs_any hS (by omega)
      have hgd := (sg_good (hL 0) n).1
      have hsl := sg_len L n
      have HS2 : Hid (Sh wr T g n L) := hS
      clear hS hL HS
      go_wp2_with fail
      refine c3.mono ?_
      rintro e w3 ⟨v, rfl, hR, hU⟩
      have HU3 : Hid (Up w.heap.size w w3) := HU.out.stay hU.1
      have HS3 : Hid (Sh w3 T g n L) := HS2.out.stay hU.1
      generalize sg L n = l at hgd hsl hR
      obtain ⟨av, cv, rfl⟩ := hR.form
      have HR3 : Hid (SR w3 wr.heap.size (.slice av l.length cv) l) := hR
      have HGD : Hid (Good L 0 0 l n) := hgd
      obtain ⟨m, em⟩ : ∃ m, l.length = m := ⟨_, rfl⟩
      have HM : Hid (l.length = m) := em
      rw [em] at HR3 hsl ⊢
      clear c3 hR hU HU HS2 hgd em
      go_wp2
      go_loopg [9, 10, 47] m (fun q pv zv iv wr => ∃ (j a : Nat) (z : Int), j ≤ m ∧ q = m - j ∧ zv = .int .u8 z ∧ iv = .int .i64 j ∧ Hid (Good L z a (l.drop j) n) ∧ Hid (SP wr w3.heap.size pv (l.take j)) ∧ Hid (Up w3.heap.size w3 wr))
      case atStart => exact ⟨0, 0, 0, Nat.zero_le _, rfl, rfl, rfl, HGD.out, World.ownsRow_nil _ _ _ _, Up.refl w3⟩
      case round =>
        obtain ⟨j, a, z, hj, hq2, rfl, rfl, HD, HP, HX⟩ := hrel
        obtain ⟨ap, cp, rfl⟩ := HP.out.form
        have htl : (l.take j).length = j := by rw [List.length_take, HM.out]; omega
        rw [htl] at HP ⊢
        by_cases hlt2 : j < m
        · have x1 : (j : Int) < (m : Int) := by omega
          have x2 : (0 : Int) ≤ (j : Int) := by omega
          obtain ⟨s, hs, hd⟩ := drop_at (l := l) (j := j) (by rw [HM.out]; exact hlt2)
          have hz := HD.out
          rw [hd] at hz
          obtain ⟨h1, h2, h3, h4, h5⟩ := hz
          have hle := good_le _ _ _ _ h5
          obtain ⟨gp, rfl, -, -⟩ := own_at (n := m) (by have := HR3.out; unfold SR at this; rw [HM.out] at this; exact this) (by omega)
          obtain ⟨c1, c2, c3⟩ := (HR3.out.stay HX.out.1).cells HM.out.symm hs
          have htk : l.take (j + 1) = l.take j ++ [s] := by rw [List.take_add_one, hs]; rfl
          obtain ⟨sl, sa, sn⟩ := s
          dsimp only at c1 c2 c3 h1 h2 h3 h4 hle h5
          subst h1
          have HH : Hid (Good L sl (sa + sn) (l.drop (j + 1)) n ∧ (∀ i, sa ≤ i → i < sa + sn → L i = sl) ∧ l.take (j + 1) = l.take j ++ [⟨sl, sa, sn⟩]) := ⟨h5, h4, htk⟩
          have x3 : (sl == z) = false := by simpa using h3
          clear hd h3 h4 h5 hs HD htk htl
          obtain ⟨W, hW⟩ : ∃ W, wr.alloc (.cells #[.int .u8 sl, .int .i64 (sa : Int), .int .i64 (sn : Int)] 47) = W := ⟨_, rfl⟩
          have HB : Hid (Bk W wr.heap.size #[.int .u8 sl, .int .i64 (sa : Int), .int .i64 (sn : Int)] 47) := by show Bk _ _ _ _; rw [← hW]; exact Bk.new _ _ _
          have HXW : Hid (Up w3.heap.size w3 W) := by show Up _ _ _; rw [← hW]; exact HX.out.alloc _
          have HPW : Hid (SP W w3.heap.size (.slice ap j cp) (l.take j)) := by show SP _ _ _ _; rw [← hW]; exact HP.out.stay ((Below.refl _ _).alloc (Nat.le_refl _) _)
          have b1 := HB.out.cell 0 rfl
          have b2 := HB.out.cell 1 rfl
          have b3 := HB.out.cell 2 rfl
          obtain ⟨gB, egB⟩ : ∃ x, wr.heap.size = x := ⟨_, rfl⟩
          rw [egB] at HB b1 b2 b3
          clear HX HP
          have y1 : IntKind.i64.wrap ((sa : Int) + (sn : Int)) = (sa : Int) + (sn : Int) := IntWalk.i64_in _ (by omega)
          go_wp2_with fail
          clear hW b1 b2 b3 c1 c2 c3
          go_loopg [13] sn (fun q iv wr => ∃ i : Nat, sa ≤ i ∧ i ≤ sa + sn ∧ q = sa + sn - i ∧ iv = .int .i64 i ∧ Hid (Below W.heap.size W wr))
          case atStart => exact ⟨sa, Nat.le_refl _, by omega, by omega, rfl, Below.refl _ _⟩
          case round =>
            obtain ⟨i2, hi1, hi2, hq3, rfl, HW⟩ := hrel
            have hB := HB.out.stay HW.out
            have b1 := hB.cell 0 rfl
            have b2 := hB.cell 1 rfl
            have b3 := hB.cell 2 rfl
            clear egB
            by_cases hlt3 : i2 < sa + sn
            · have v1 : (i2 : Int) < (sa : Int) + (sn : Int) := by omega
              have hSx := HS3.out.stay (HXW.out.stay HW.out).1
              have hLi := HH.out.2.1 i2 hi1 hlt3
              have CA : Hid (∀ nq : Nat, Calls Try.prog 17 #[.pointer (some ⟨T, 0, none⟩), .int .i64 i2] (wr.drewN nq) fun e w' => e = .returned (.int .u8 sl) ∧ w' = wr.drewN nq) := fun nq => by
                have := at_any (hSx.stay (below_drewN (Below.refl _ _) nq)) i2 (by omega)
                rw [hLi] at this
                exact this
              have v2 : (sl != sl) = false := by simp
              clear hSx hLi hB
              go_upto_region 18 with fail
              go_quiet (first | (go_at_call 17; exact Calls.quiet_of_same (CA.out _)))
              go_wp2
              go_roundg (sa + sn - (i2 + 1))
              case measure => omega
              case rel => exact ⟨i2 + 1, by omega, by omega, rfl, by go_num, below_drewN HW.out _⟩
            · obtain rfl : i2 = sa + sn := by omega
              have v1 : ¬ (((sa + sn : Nat) : Int) < (sa : Int) + (sn : Int)) := by omega
              have HPX : Hid (wr.ownsRow w3.heap.size 45 2 (.slice ap j cp) j (spC (l.take j))) := by
                have := HPW.out.stay HW.out
                unfold SP at this
                rw [List.length_take, HM.out, Nat.min_eq_left (by omega)] at this
                exact this
              have HXX : Hid (Up w3.heap.size w3 wr) := HXW.out.stay HW.out
              have hu := HXX.out.2
              clear hB
              go_wp2_with (at_builtin; refine wpList_append_lies _ rfl _ _ 49 rfl w3.heap.size 45 i0 _ 2 16 Try.underlying49 hi0 hz0 hz1 hz2 rfl (by decide) _ _ _ rfl (HPX.out.alloc _) ⟨wr.heap.size, 0, none⟩ 1 1 [.int .i64 (sa : Int), .int .i64 (sn : Int)] rfl rfl (World.news_of_block (heap_alloc_new _ _)) (sp_cells _ _) (by omega) (by unfold maxLen; omega) (by omega) (by simp; omega) (wr.heap.size + 1) (by simp) ?_)
              intro g1 cap1 w5 ho1 hg1 ha1 _
              have HE : Hid (SP w5 w3.heap.size (.slice (some ⟨g1, 0, none⟩) (j + 1) cap1) (l.take (j + 1))) := by
                show SP _ _ _ _
                rw [HH.out.2.2]
                exact SP.snoc (by rw [List.length_take, HM.out, Nat.min_eq_left (by omega)]) ho1
              have HV : Hid (Up w3.heap.size w3 w5) := (HXX.out.alloc _).grown hg1 (own_base HPX.out)
              clear ho1 hg1 ha1 hu HPX HXX b1 b2 b3
              go_wp2
              go_roundg (m - (j + 1))
              case measure => omega
              case rel => exact ⟨j + 1, sa + sn, sl, by omega, rfl, rfl, by go_num, HH.out.1, HE, HV⟩
        · obtain rfl : j = m := by omega
          have x1 : ¬ (j : Int) < (j : Int) := by omega
          have hfull : l.take j = l := List.take_of_length_le (by rw [HM.out]; exact Nat.le_refl _)
          have hP := HP.out
          rw [hfull] at hP
          have c4 := cover_any hP HGD.out (by omega) (by rw [HM.out]; omega)
          have HUU : Hid (Up w.heap.size w wr) := HU3.out.stay HX.out.1
          clear hP hfull HP HX
          go_wp2_with fail
          refine c4.mono ?_
          rintro e w5 ⟨rfl, hU⟩
          have HU5 : Hid (Up w.heap.size w w5) := HUU.out.stay hU.1
          clear hU c4 HUU
          go_wp2
          go_ret
          exact ⟨rfl, HU5.out.1⟩
end Go.Proofs.Ytfefdcolmalgjaa
