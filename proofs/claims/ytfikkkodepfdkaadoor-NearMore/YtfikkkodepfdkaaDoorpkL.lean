/- The law NearNone. -/
import Derived.Test.YtfikkkodepfdkaaDoorpkF
import Derived.Test.YtfikkkodepfdkaaDoorpkC
namespace Go.Proofs.YtfikkkodepfdkaaDoor
set_option linter.unusedVariables false
open Go.RowKit Go.ChangeShapes
open Qns (dd far at_)
theorem nears_none (Pf : List ByteArray) (W : List Int) (most k : Nat) : (nearsP Pf W most []).take k = [] := by
  show ([] : List Nr).take k = []
  simp
theorem on_none {w : World} {b : Nat} {v : Value} (h : ON w b v []) : ∃ ad c, v = .slice ad 0 c := own_slice h
theorem nat_mod (q m : Nat) : Int.tmod (q : Int) (m : Int) = ((q % m : Nat) : Int) := by
  rw [Int.tmod_eq_emod_of_nonneg (by omega)]
  exact (Int.natCast_emod q m).symm
set_option maxHeartbeats 2000000 in
set_option maxRecDepth 100000 in
theorem none_law (w : World) (hT : Tabs w) (s : ByteArray) (hs : s.size ≤ 2000000) (q0 k0 : Int) (wq : (Lit.int .u8 q0).wf = true) (wk : (Lit.int .u8 k0).wf = true) (v : Value) (Ls : List ByteArray) (hv : TL w v Ls) (hl : Ls.length ≤ 2000000) (hsz : ∀ s ∈ Ls, s.size ≤ 2000000) :
    Calls Tryd.prog 7 #[.string s, .int .u8 q0, .int .u8 k0, v] w fun e w' => e = .returned (.bool true) ∧ Below w.heap.size w w' := by
  obtain ⟨q, rfl, hq⟩ := u8_nat wq
  obtain ⟨k, rfl, hk⟩ := u8_nat wk
  clear wq wk
  have HT : Hid (Tabs w) := hT
  have HV : Hid (TL w v Ls) := hv
  have HZ : Hid (∀ s ∈ Ls, s.size ≤ 2000000) := hsz
  obtain ⟨ad, c, rfl, -⟩ := hv
  clear hT hsz
  obtain ⟨q4, hq4⟩ : ∃ x, q % 4 = x := ⟨_, rfl⟩
  obtain ⟨k33, hk33⟩ : ∃ x, k % 33 = x := ⟨_, rfl⟩
  have hq4l : q4 ≤ 3 := by omega
  have hk33l : k33 ≤ 32 := by omega
  have m1 : Int.tmod (q : Int) 4 = (q4 : Int) := by rw [← hq4]; exact nat_mod q 4
  have m2 : Int.tmod (k : Int) 33 = (k33 : Int) := by rw [← hk33]; exact nat_mod k 33
  have c0 := awakeN_any w HT.out
  clear hq4 hk33
  go_enter Tryd.func7, Tryd.ntmps7
  go_wp2_with fail
  refine c0.mono ?_
  rintro e w1 ⟨rfl, hb1⟩
  have HU1 : Hid (Up w.heap.size w w1) := (Up.refl w).stay hb1
  clear hb1 c0
  by_cases h64 : 64 < s.size
  · have y1 : (64 : Int) < (s.size : Int) := by omega
    go_wp2
    go_ret
    exact ⟨rfl, HU1.out.1⟩
  have y1 : ¬ (64 : Int) < (s.size : Int) := by omega
  have hrs : (rs s).length ≤ 64 := by rw [rs_len]; have := kS_le s; omega
  have c1 := words_any (tp := none) (s := s) (most := q4) (k := k33) (vp := .slice none 0 0) (Pf := []) (tabs_stay HT.out HU1.out.1) (tr_nil w1) ⟨none, 0, rfl, fun j s hs => by simp at hs⟩ (by simp) (fun s hs => by cases hs) hq4l hk33l hs hrs
  rw [nears_none] at c1
  go_wp2_with fail
  refine c1.mono ?_
  rintro e w2 ⟨v2, rfl, ho2, hb2⟩
  obtain ⟨a2, e2, rfl⟩ := on_none ho2
  have HU2 : Hid (Up w.heap.size w w2) := HU1.out.stay hb2
  clear ho2 hb2 c1
  have c2 := sorted_any w2 (tabs_stay HT.out HU2.out.1) (.slice ad Ls.length c) Ls (HV.out.stay HU2.out.1) hl HZ.out
  go_wp2_with fail
  refine c2.mono ?_
  rintro e w3 ⟨v3, rfl, hO3, hU3⟩
  have HU3 : Hid (Up w.heap.size w w3) := HU2.out.stay hU3.1
  obtain ⟨hr, hgd, hL61⟩ := srtL_good Ls
  have hzz := makeP_zero hr hgd (by omega)
  have c3 := made_has w3 (tabs_stay HT.out HU3.out.1) v3 (srtL Ls) hO3.tl hr hgd (by omega)
  have HZZ : Hid ((makeP (srtL Ls)).1 = 0) := hzz
  clear hO3 hU3 c2 hr hgd hzz
  go_wp2_with fail
  refine c3.mono ?_
  rintro e w4 ⟨hb4, vN, l, rfl, hM, hP, hOk, h3, -⟩
  have HU4 : Hid (Up w.heap.size w w4) := HU3.out.stay hb4
  have hTr := tr_made hM hP hOk h3 HZZ.out (by omega)
  generalize w3.heap.size + 1 = T at *
  have c4 := words_any (s := s) (most := q4) (k := 0) (vp := .slice none 0 0) (Pf := []) (tabs_stay HT.out HU4.out.1) hTr ⟨none, 0, rfl, fun j s hs => by simp at hs⟩ (by simp) (fun s hs => by cases hs) hq4l (by omega) hs hrs
  rw [List.take_zero] at c4
  clear hM hP hOk h3 hTr hb4 c3 hL61
  go_wp2_with fail
  refine c4.mono ?_
  rintro e w5 ⟨v5, rfl, ho5, hb5⟩
  obtain ⟨a5, e5, rfl⟩ := on_none ho5
  have HU5 : Hid (Up w.heap.size w w5) := HU4.out.stay hb5
  clear ho5 hb5 c4
  go_wp2
  go_ret
  exact ⟨rfl, HU5.out.1⟩
end Go.Proofs.YtfikkkodepfdkaaDoor
