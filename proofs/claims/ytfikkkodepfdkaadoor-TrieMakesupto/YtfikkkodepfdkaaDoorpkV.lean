/- The law TrieMakes. -/
import Derived.Test.YtfikkkodepfdkaaDoorpkU
import Derived.Test.YtfikkkodepfdkaaDoorpkC
import Derived.Test.YtfikkkodepfdkaaDoorpRg
import Derived.Test.YtfikkkodepfdkaaDoorpkS
import Derived.Test.YtfikkkodepfdkaaDoorpkB
namespace Go.Proofs.YtfikkkodepfdkaaDoor
set_option linter.unusedVariables false
open Go.RowKit Go.ChangeShapes
set_option maxHeartbeats 4000000 in
set_option maxRecDepth 100000 in
theorem makes_law (w : World) (hT : Tabs w) (v : Value) (Ls : List ByteArray) (hv : TL w v Ls) (hl : Ls.length ≤ 2000000) (hsz : ∀ s ∈ Ls, s.size ≤ 2000000) (b : Bool) :
    Calls Tryd.prog 3 #[v, .bool b] w fun e w' => e = .returned (.bool true) ∧ Below w.heap.size w w' := by
  have HT : Hid (Tabs w) := hT
  have HV : Hid (TL w v Ls) := hv
  have HZ : Hid (∀ s ∈ Ls, s.size ≤ 2000000) := hsz
  obtain ⟨ad, c, rfl, -⟩ := hv
  clear hT hsz
  have c0 := awake_any w HT.out
  by_cases hbig : 200 < Ls.length
  · have z1 : (200 : Int) < (Ls.length : Int) := by omega
    go_enter Tryd.func3, Tryd.ntmps3
    go_wp2_with fail
    refine c0.mono ?_
    rintro e w1 ⟨rfl, hb1⟩
    have HB : Hid (Below w.heap.size w w1) := hb1
    clear hb1 c0
    go_wp2
    go_ret
    exact ⟨rfl, HB.out⟩
  · have z1 : ¬ (200 : Int) < (Ls.length : Int) := by omega
    have hLs : Ls.length ≤ 200 := by omega
    clear hbig
    go_enter Tryd.func3, Tryd.ntmps3
    go_wp2_with fail
    refine c0.mono ?_
    rintro e w1 ⟨rfl, hb1⟩
    have HU1 : Hid (Up w.heap.size w w1) := (Up.refl w).stay hb1
    clear hb1 c0
    cases b
    case' false =>
      go_wp2_with fail
      have HW2 : Hid (TL w1 (.slice ad Ls.length c) Ls) := HV.out.stay HU1.out.1
      have HU2 := HU1
      clear HU1
      obtain ⟨w2, hw2⟩ : ∃ q, w1 = q := ⟨_, rfl⟩
      rw [hw2] at HW2 HU2 ⊢
      clear hw2 HV z1 hl
      obtain ⟨L, hL⟩ : ∃ q, Ls = q := ⟨_, rfl⟩
      rw [hL] at HW2 HZ hLs ⊢
      clear hL
      obtain ⟨adq, hadq⟩ : ∃ q, ad = q := ⟨_, rfl⟩
      obtain ⟨cq, hcq⟩ : ∃ q, c = q := ⟨_, rfl⟩
      rw [hadq, hcq] at HW2 ⊢
      clear hadq hcq
    case' true =>
      have c1 := sorted_any w1 (tabs_stay HT.out HU1.out.1) (.slice ad Ls.length c) Ls (HV.out.stay HU1.out.1) hl HZ.out
      go_wp2_with fail
      refine c1.mono ?_
      rintro e w2 ⟨v2, rfl, hO2, hU2⟩
      have HW2' : Hid (TL w2 v2 (srtL Ls)) := OS.tl hO2
      have HU2 : Hid (Up w.heap.size w w2) := HU1.out.stay hU2.1
      obtain ⟨hr, hgd, hL61⟩ := srtL_good Ls
      have HZ' : Hid (∀ s ∈ srtL Ls, s.size ≤ 2000000) := fun s hs => by have := (hgd s hs).2.1; omega
      clear c1 hO2 hU2 hr hgd HZ HV z1 hl hLs HU1
      obtain ⟨L, hL⟩ : ∃ q, srtL Ls = q := ⟨_, rfl⟩
      rw [hL] at HW2' HZ' hL61
      clear hL
      have HZ := HZ'
      have hLs : L.length ≤ 200 := by omega
      clear HZ' hL61
      obtain ⟨adq, cq, rfl, -⟩ := HW2'.out
      have HW2 := HW2'
      clear HW2'
      go_wp2_with fail
    all_goals
      refine (make_any w2 (tabs_stay HT.out HU2.out.1) (.slice adq L.length cq) L HW2.out (by omega) HZ.out).mono ?_
      rintro e w3 ⟨hb3, ⟨hne, rfl⟩ | ⟨hz, vN, l, rfl, hM, hlp, hok, h3, h0⟩⟩
      · have cr := right_any w3 (.slice adq L.length cq) L (HW2.out.stay hb3) hLs
        have HU3 : Hid (Up w.heap.size w w3) := HU2.out.stay hb3
        obtain ⟨cd, hcd⟩ : ∃ q, (makeP L).1 = q := ⟨_, rfl⟩
        rw [hcd] at hne cr ⊢
        clear hcd hb3 HU2
        go_wp2_with fail
        refine cr.mono ?_
        rintro e w4 ⟨rfl, hb4⟩
        have HU4 : Hid (Up w.heap.size w w4) := HU3.out.stay hb4
        clear cr hb4 HU3
        go_wp2
        go_ret
        exact ⟨rfl, HU4.out.1⟩
      · have cr := right_any w3 (.slice adq L.length cq) L (HW2.out.stay hb3) hLs
        rw [hz] at cr
        have HU3 : Hid (Up w.heap.size w w3) := HU2.out.stay hb3
        have HW3 : Hid (TL w3 (.slice adq L.length cq) L) := HW2.out.stay hb3
        have HM3 : Hid (TrieM w3 w2.heap.size (w2.heap.size + 1) L.length vN l) := hM
        have HP : Hid (l.map Nd.p = (makeP L).2 ∧ OkP (makeP L).2 ∧ (makeP L).2.length ≤ 300000 ∧ (makeP L).1 = 0) := ⟨hlp, hok, h3, hz⟩
        clear hb3 HU2 HW2 hM hlp hok h3 hz h0
        obtain ⟨Tb, hTb⟩ : ∃ q, w2.heap.size + 1 = q := ⟨_, rfl⟩
        rw [hTb] at HM3 ⊢
        clear hTb
        go_wp2_with fail
        refine cr.mono ?_
        rintro e w4 ⟨rfl, hb4⟩
        have HU4 : Hid (Up w.heap.size w w4) := HU3.out.stay hb4
        have HW4 : Hid (TL w4 (.slice adq L.length cq) L) := HW3.out.stay hb4
        have HM4 : Hid (TrieM w4 w2.heap.size Tb L.length vN l) := HM3.out.stay hb4
        clear cr hb4 HU3 HW3 HM3
        have cl := len_any HM4.out
        go_wp2_with fail
        refine cl.mono ?_
        rintro e w5 ⟨rfl, rfl⟩
        have cw := wordsT_any HM4.out HP.out.1 HP.out.2.1 HP.out.2.2.1 HP.out.2.2.2 (by omega)
        clear cl
        go_wp2_with fail
        refine cw.mono ?_
        rintro e w6 ⟨v6, rfl, hO6, hb6⟩
        have cs := same_tl L v6 (.slice adq L.length cq) w6 (OS.tl hO6) (HW4.out.stay hb6) (by omega)
        have HU6 : Hid (Up w.heap.size w w6) := HU4.out.stay hb6
        clear cw hO6 hb6 HU4
        go_wp2_with fail
        refine cs.mono ?_
        rintro e w7 ⟨rfl, hb7⟩
        have HU7 : Hid (Up w.heap.size w w7) := HU6.out.stay hb7
        clear cs hb7 HU6
        go_wp2
        go_ret
        exact ⟨rfl, HU7.out.1⟩
end Go.Proofs.YtfikkkodepfdkaaDoor
