/- The law NearWords. -/
import Derived.Test.YtfikkkodepfdkaaDoorpkH
import Derived.Test.YtfikkkodepfdkaaDoorpkF
import Derived.Test.YtfikkkodepfdkaaDoorpkC
namespace Go.Proofs.YtfikkkodepfdkaaDoor
set_option linter.unusedVariables false
open Go.RowKit Go.ChangeShapes
open Qns (dd far at_)
theorem nl_on {w : World} {b : Nat} {v : Value} {N : List Nr} (h : ON w b v N) : NL w v N := srcs_own h
theorem i64_range {x : Int} (h : (Lit.int .i64 x).wf = true) : -9223372036854775808 ≤ x ∧ x ≤ 9223372036854775807 := by
  simpa [Lit.wf, IntKind.min, IntKind.max, IntKind.signed, IntKind.bits] using h
set_option maxHeartbeats 4000000 in
set_option maxRecDepth 100000 in
theorem words_law (w : World) (hT : Tabs w) (v : Value) (Ls : List ByteArray) (hv : TL w v Ls) (hl : Ls.length ≤ 2000000) (hsz : ∀ s ∈ Ls, s.size ≤ 2000000) (s : ByteArray) (hs : s.size ≤ 2000000) (mo k0 : Int) (wm : (Lit.int .i64 mo).wf = true) (wk : (Lit.int .i64 k0).wf = true) (vp : Value) (Pf : List ByteArray) (hp : TL w vp Pf) (hpl : Pf.length ≤ 2000000) (hpz : ∀ s ∈ Pf, s.size ≤ 2000000) :
    Calls Tryd.prog 4 #[v, .string s, .int .i64 mo, .int .i64 k0, vp] w fun e w' => e = .returned (.bool true) ∧ Below w.heap.size w w' := by
  have HT : Hid (Tabs w) := hT
  have HV : Hid (TL w v Ls) := hv
  have HZ : Hid (∀ s ∈ Ls, s.size ≤ 2000000) := hsz
  have HP : Hid (TL w vp Pf) := hp
  have HPZ : Hid (∀ s ∈ Pf, s.size ≤ 2000000) := hpz
  obtain ⟨ad, c, rfl, -⟩ := hv
  obtain ⟨ap, cp, rfl, -⟩ := hp
  clear hT hsz hpz wm wk
  obtain ⟨np, hnp⟩ : ∃ np, Pf.length = np := ⟨_, rfl⟩
  have HNP : Hid (Pf.length = np) := hnp
  rw [hnp] at hpl HP ⊢
  clear hnp
  have c0 := awakeN_any w HT.out
  go_enter Tryd.func4, Tryd.ntmps4
  go_wp2_with fail
  refine c0.mono ?_
  rintro e w1 ⟨rfl, hb1⟩
  have HU1 : Hid (Up w.heap.size w w1) := (Up.refl w).stay hb1
  clear hb1 c0
  by_cases h300 : 300 < s.size
  · have y1 : (300 : Int) < (s.size : Int) := by omega
    go_wp2
    go_ret
    exact ⟨rfl, HU1.out.1⟩
  have y1 : ¬ (300 : Int) < (s.size : Int) := by omega
  by_cases h50 : 50 < np
  · have y2 : (50 : Int) < (np : Int) := by omega
    go_wp2
    go_ret
    exact ⟨rfl, HU1.out.1⟩
  have y2 : ¬ (50 : Int) < (np : Int) := by omega
  have c2 := sorted_any w1 (tabs_stay HT.out HU1.out.1) (.slice ad Ls.length c) Ls (HV.out.stay HU1.out.1) hl HZ.out
  go_wp2_with fail
  refine c2.mono ?_
  rintro e w3 ⟨v3, rfl, hO3, hU3⟩
  have HU3 : Hid (Up w.heap.size w w3) := HU1.out.stay hU3.1
  obtain ⟨hr, hgd, hL61⟩ := srtL_good Ls
  have hzz := makeP_zero hr hgd (by omega)
  have HO3 : Hid (OS w3 w1.heap.size v3 (srtL Ls)) := hO3
  generalize eL : srtL Ls = L at *
  have c3 := made_has w3 (tabs_stay HT.out HU3.out.1) v3 L hO3.tl hr hgd (by omega)
  have HZZ : Hid ((makeP L).1 = 0) := hzz
  have HGX : Hid (∀ s ∈ L, GoodX s) := fun s hs => GoodX.of (hgd s hs)
  clear hO3 hU3 c2 hr hgd hzz eL
  go_wp2_with fail
  refine c3.mono ?_
  rintro e w4 ⟨hb4, vN, l, rfl, hM, hPn, hOk, h3, -⟩
  have HU4 : Hid (Up w.heap.size w w4) := HU3.out.stay hb4
  have hTr := tr_made hM hPn hOk h3 HZZ.out (by omega)
  have HO4 : Hid (OS w4 w1.heap.size v3 L) := HO3.out.stay hb4
  generalize w3.heap.size + 1 = T at *
  have HTR : Hid (Tr w4 (.pointer (some ⟨T, 0, none⟩)) L) := hTr
  clear hM hPn hOk h3 hTr hb4 c3 HO3
  by_cases hbad : mo < 0 ∨ 3 < mo ∨ k0 < 0 ∨ 32 < k0
  · have c4 := words_bad (.pointer (some ⟨T, 0, none⟩)) s mo k0 (.slice ap np cp) w4 hbad
    go_wp2_with fail
    refine c4.mono ?_
    rintro e w5 ⟨rfl, hw5⟩
    subst w5
    clear c4
    by_cases g1 : mo < 0
    · clear hbad
      go_wp2
      go_ret
      exact ⟨rfl, HU4.out.1⟩
    by_cases g2 : 3 < mo
    · clear hbad
      go_wp2
      go_ret
      exact ⟨rfl, HU4.out.1⟩
    by_cases g3 : k0 < 0
    · clear hbad
      go_wp2
      go_ret
      exact ⟨rfl, HU4.out.1⟩
    have g4 : 32 < k0 := by omega
    clear hbad
    go_wp2
    go_ret
    exact ⟨rfl, HU4.out.1⟩
  obtain ⟨most, rfl, hmost⟩ : ∃ m : Nat, mo = (m : Int) ∧ m ≤ 3 := ⟨mo.toNat, by omega, by omega⟩
  obtain ⟨k, rfl, hk⟩ : ∃ m : Nat, k0 = (m : Int) ∧ m ≤ 32 := ⟨k0.toNat, by omega, by omega⟩
  have g1 : ¬ (most : Int) < 0 := by omega
  have g2 : ¬ (3 : Int) < (most : Int) := by omega
  have g3 : ¬ (k : Int) < 0 := by omega
  have g4 : ¬ (32 : Int) < (k : Int) := by omega
  clear hbad
  have hks := kS_le s
  have hrl : (rs s).length ≤ 300 := by rw [rs_len]; omega
  by_cases hlong : 64 < (rs s).length
  · have c4 := words_long (.pointer (some ⟨T, 0, none⟩)) s most k (.slice ap np cp) w4 (tabs_stay HT.out HU4.out.1) hmost hk hs hlong
    go_wp2_with fail
    refine c4.mono ?_
    rintro e w5 ⟨rfl, hb5⟩
    have HU5 : Hid (Up w.heap.size w w5) := HU4.out.stay hb5
    clear hb5 c4
    have c5 := runes_any s w5 hs (tabs_stay HT.out HU5.out.1)
    go_wp2_with fail
    refine c5.mono ?_
    rintro e w6 ⟨q, v6, rfl, hE, hO6, hb6⟩
    obtain rfl : q = kS s := (kS_is hE).symm
    rw [rcells_rs, ← rs_len] at hO6
    have HU6 : Hid (Up w.heap.size w w6) := HU5.out.stay hb6
    obtain ⟨n6, hn6⟩ : ∃ n, (rs s).length = n := ⟨_, rfl⟩
    rw [hn6] at hO6 hlong hrl
    obtain ⟨a6, c6, rfl⟩ := own_slice hO6
    have y6 : (64 : Int) < (n6 : Int) := by omega
    clear hE hO6 hb6 c5 hn6 hks
    go_wp2
    go_ret
    exact ⟨rfl, HU6.out.1⟩
  have hshort : (rs s).length ≤ 64 := by omega
  have c4 := words_any (s := s) (most := most) (k := k) (vp := .slice ap np cp) (Pf := Pf) (tabs_stay HT.out HU4.out.1) HTR.out (HP.out.stay HU4.out.1) (by rw [HNP.out]; omega) HPZ.out hmost hk hs hshort
  obtain ⟨N, hN⟩ : ∃ N, (nearsP Pf (rs s) most L).take k = N := ⟨_, rfl⟩
  have HN : Hid ((nearsP Pf (rs s) most L).take k = N) := hN
  have hNl : N.length ≤ 32 := by
    rw [← hN, List.length_take]
    omega
  rw [hN] at c4
  clear hN
  go_wp2_with fail
  refine c4.mono ?_
  rintro e w5 ⟨v5, rfl, ho5, hb5⟩
  have HU5 : Hid (Up w.heap.size w w5) := HU4.out.stay hb5
  have HO5 : Hid (ON w5 w4.heap.size v5 N) := ho5
  have HOL5 : Hid (OS w5 w1.heap.size v3 L) := HO4.out.stay hb5
  clear ho5 hb5 c4
  have c5 := runes_any s w5 hs (tabs_stay HT.out HU5.out.1)
  go_wp2_with fail
  refine c5.mono ?_
  rintro e w6 ⟨q, v6, rfl, hE, hO6, hb6⟩
  obtain rfl : q = kS s := (kS_is hE).symm
  rw [rcells_rs, ← rs_len] at hO6
  have HU6 : Hid (Up w.heap.size w w6) := HU5.out.stay hb6
  have HO6 : Hid (ON w6 w4.heap.size v5 N) := HO5.out.stay hb6
  have HOL6 : Hid (OS w6 w1.heap.size v3 L) := HOL5.out.stay hb6
  have c6 := nears_any HOL6.out.tl (by omega) HGX.out (HP.out.stay HU6.out.1) (by rw [HNP.out]; omega) s (by omega) hshort most k hmost hk
  rw [HN.out] at c6
  obtain ⟨n6, hn6⟩ : ∃ n, (rs s).length = n := ⟨_, rfl⟩
  rw [hn6] at hO6 hlong hrl
  obtain ⟨a6, c6', rfl⟩ := own_slice hO6
  have y6 : ¬ (64 : Int) < (n6 : Int) := by omega
  clear hE hO6 hb6 c5 hn6 hks HOL5 HO5 hshort
  go_wp2_with fail
  refine c6.mono ?_
  rintro e w7 ⟨v7, rfl, hNL, hb7⟩
  have HU7 : Hid (Up w.heap.size w w7) := HU6.out.stay hb7
  have c7 := sameN_any N v5 v7 w7 ((nl_on HO6.out).stay hb7) hNL (by omega)
  clear hNL hb7 c6
  go_wp2_with fail
  refine c7.mono ?_
  rintro e w8 ⟨rfl, hb8⟩
  have HU8 : Hid (Up w.heap.size w w8) := HU7.out.stay hb8
  clear hb8 c7
  go_wp2
  go_ret
  exact ⟨rfl, HU8.out.1⟩
end Go.Proofs.YtfikkkodepfdkaaDoor
