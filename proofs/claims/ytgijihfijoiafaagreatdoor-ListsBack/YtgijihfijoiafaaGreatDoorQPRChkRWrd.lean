/- The reference's Check. -/
import Derived.Test.YtgijihfijoiafaaGreatDoorQPWSrtRRun
import Derived.Test.YtgijihfijoiafaaGreatDoorQPRRowLRis
import Derived.Test.YtgijihfijoiafaaGreatDoorQPSrcRPut
import Derived.Test.YtgijihfijoiafaaGreatDoorQPRBytRFld
namespace Go.Proofs.YtgijihfijoiafaaGreatDoor
set_option linter.unusedVariables false
open Go.RowKit Go.ChangeShapes
open Lns (takeH)
set_option maxHeartbeats 2000000 in
set_option maxRecDepth 100000 in
theorem rcheck_any (s : ByteArray) (w : World) (hs : s.size ≤ 5000) :
    Calls Tryz.prog 13 #[.string s] w fun e w' => e = .returned (.int .i64 (chk s)) ∧ Below w.heap.size w w' := by
  by_cases h64 : 64 < s.size
  · have hd : chk s = 3 := by unfold chk chkL; simp [h64]
    rw [hd]
    clear hd
    have h64' : (64 : Int) < (s.size : Int) := by omega
    go_enter Tryz.func13, Tryz.ntmps13
    go_wp2
    go_ret
    exact ⟨rfl, Below.refl _ _⟩
  · have h64' : ¬ (64 : Int) < (s.size : Int) := by omega
    have hd : chk s = bif okw false (rl s (kS s)) then 0 else 5 := by unfold chk chkL; rw [if_neg h64]
    rw [hd]
    clear hd
    have hfit : ∀ j, j < kS s → Fit (rn s (pos s j)) := fun j hj => rl_fit (kS_ends s) j hj
    obtain ⟨L, hL⟩ : ∃ L, rl s (kS s) = L := ⟨_, rfl⟩
    have hln : L.length = kS s := by rw [← hL]; simp [rl]
    have hat : ∀ j, j < kS s → L.getD j 0 = rn s (pos s j) := fun j hj => by
      have := rl_at s (kS s) j hj
      rw [hL] at this
      simp [List.getD, this]
    have c1 := rrunes_any s w (by omega)
    rw [hL]
    obtain ⟨Z, hZ⟩ : ∃ Z : Int, (bif okw false L then 0 else 5) = Z := ⟨_, rfl⟩
    rw [hZ]
    have HZ : Hid ((bif okw false L then (0 : Int) else 5) = Z) := hZ
    clear hZ
    go_enter Tryz.func13, Tryz.ntmps13
    go_wp2_with fail
    refine c1.mono ?_
    rintro e w1 ⟨k, v, rfl, he, hown, hb1⟩
    obtain rfl := kS_is he
    have HB1 : Hid (Below w.heap.size w w1) := hb1
    have hks := (kS_ends s).le
    have hcc : 0 < kS s → ∃ g c, v = .slice (some ⟨g, 0, none⟩) (kS s) c ∧ ∀ j, j < kS s → w1.cell? ⟨g, j, none⟩ = some (.int .i32 (L.getD j 0)) := fun h0 => by
      have h00 := hown
      obtain ⟨_, ⟨_, h2⟩ | ⟨g, cap, cur, rfl, hg, hh, h3⟩⟩ := hown
      · omega
      · refine ⟨g, cap, rfl, fun j hj => ?_⟩
        rw [h00.cellAt j (by omega), hat j hj]
        simp [rcells, List.getElem?_range hj]
    have hfit2 : ∀ j, j < kS s → Fit (L.getD j 0) := fun j hj => by rw [hat j hj]; exact hfit j hj
    obtain ⟨ad, cp, rfl⟩ := own_form hown
    generalize hkk : kS s = n at *
    clear hown hb1 c1 he hat hfit hL hkk
    have HA : Hid (∀ j, j < n → Fit (L.getD j 0)) := hfit2
    have HLN : Hid (L.length = n) := hln
    have HC : Hid (0 < n → ∃ g c, Value.slice ad n cp = .slice (some ⟨g, 0, none⟩) n c ∧ ∀ j, j < n → w1.cell? ⟨g, j, none⟩ = some (.int .i32 (L.getD j 0))) := hcc
    clear hfit2 hln hcc
    go_wp2
    go_loopg [4] (n) (fun g iv wr => ∃ i : Nat, i ≤ n ∧ g = n - i ∧ iv = .int .i64 i ∧ wr = w1 ∧ Hid (∀ j, j < i → good L j = true))
    case atStart => exact ⟨0, Nat.zero_le _, rfl, rfl, rfl, fun j hj => absurd hj (Nat.not_lt_zero j)⟩
    case round =>
      obtain ⟨i, hi, hg, rfl, hw, HG⟩ := hrel
      subst wr
      by_cases hlt : i < n
      · obtain ⟨g, c, hv, hcell⟩ := HC.out (by omega)
        cases hv
        have z0 : (0 : Int) ≤ (i : Int) := by omega
        have z1 : (i : Int) < (n : Int) := by omega
        have e1 := hcell i hlt
        have hf1 := HA.out i hlt
        have HCE : Hid (∀ j, j < n → w1.cell? ⟨g, j, none⟩ = some (.int .i32 (L.getD j 0))) := hcell
        clear hcell
        obtain ⟨x, hx⟩ : ∃ x, L.getD i 0 = x := ⟨_, rfl⟩
        rw [hx] at e1 hf1
        have E1 : Hid (w1.cell? ⟨g, i, none⟩ = some (.int .i32 x)) := e1
        have cl := rletter_any x hf1 w1
        cases hl : lB x
        · rw [hl] at cl
          by_cases h39 : x = 39
          · by_cases hi0 : 0 < i
            · have hi0' : (0 : Int) < (i : Int) := by omega
              by_cases hn1 : i + 1 < n
              · have hn1' : (i : Int) + 1 < (n : Int) := by omega
                obtain ⟨p, hp⟩ : ∃ p, i = p + 1 := ⟨i - 1, by omega⟩
                have hpi : (i : Int) - 1 = (p : Int) := by omega
                have ep := HCE.out p (by omega)
                have fp := HA.out p (by omega)
                have en := HCE.out (i + 1) hn1
                have fn := HA.out (i + 1) hn1
                have y0 : (0 : Int) ≤ (p : Int) := by omega
                have y1 : (p : Int) < (n : Int) := by omega
                have y2 : (0 : Int) ≤ (i : Int) + 1 := by omega
                have hpe : L.getD (i - 1) 0 = L.getD p 0 := by rw [hp]; rfl
                obtain ⟨y, hy⟩ : ∃ y, L.getD p 0 = y := ⟨_, rfl⟩
                obtain ⟨z, hz⟩ : ∃ z, L.getD (i + 1) 0 = z := ⟨_, rfl⟩
                rw [hy] at ep fp hpe
                rw [hz] at en fn
                have cy := rletter_any y fp w1
                have cz := rletter_any z fn w1
                cases hly : lB y
                · rw [hly] at cy
                  have hgd : good L i = false := by unfold good; rw [hx, hl]; rw [hpe, hly]; simp
                  have HZ2 : Hid (Z = 5) := by show _ = _; rw [← HZ.out, okw_false L i (by rw [HLN.out]; exact hlt) hgd]; rfl
                  clear hgd
                  clear hx hl hy hz hpe hly hp hi0 hn1
                  subst h39
                  go_wp2_with fail
                  refine cl.mono ?_
                  rintro e w2 ⟨rfl, hw⟩
                  subst w2
                  clear cl
                  go_wp2_with fail
                  refine cy.mono ?_
                  rintro e w2 ⟨rfl, hw⟩
                  subst w2
                  clear cy
                  go_wp2
                  go_ret
                  rw [HZ2.out]
                  exact ⟨rfl, HB1.out⟩
                · rw [hly] at cy
                  cases hlz : lB z
                  · rw [hlz] at cz
                    have hgd : good L i = false := by unfold good; rw [hx, hl]; rw [hz, hlz]; simp
                    have HZ2 : Hid (Z = 5) := by show _ = _; rw [← HZ.out, okw_false L i (by rw [HLN.out]; exact hlt) hgd]; rfl
                    clear hgd
                    clear hx hl hy hz hpe hly hlz hp hi0 hn1
                    subst h39
                    go_wp2_with fail
                    refine cl.mono ?_
                    rintro e w2 ⟨rfl, hw⟩
                    subst w2
                    clear cl
                    go_wp2_with fail
                    refine cy.mono ?_
                    rintro e w2 ⟨rfl, hw⟩
                    subst w2
                    clear cy
                    go_wp2_with fail
                    refine cz.mono ?_
                    rintro e w2 ⟨rfl, hw⟩
                    subst w2
                    clear cz
                    go_wp2
                    go_ret
                    rw [HZ2.out]
                    exact ⟨rfl, HB1.out⟩
                  · rw [hlz] at cz
                    have hgd : good L i = true := by
                      unfold good
                      rw [hx, hl, hpe, hly, hz, hlz, h39]
                      have hnn : i + 1 < L.length := by rw [HLN.out]; exact hn1
                      simp [hi0, hnn]
                    have HG2 : Hid (∀ j, j < i + 1 → good L j = true) := fun j hj => by
                      rcases Nat.lt_succ_iff_lt_or_eq.1 hj with h | h
                      · exact HG.out j h
                      · rw [h]; exact hgd
                    clear hgd hx hl hy hz hpe hly hlz hp hi0 hn1
                    subst h39
                    go_wp2_with fail
                    refine cl.mono ?_
                    rintro e w2 ⟨rfl, hw⟩
                    subst w2
                    clear cl
                    go_wp2_with fail
                    refine cy.mono ?_
                    rintro e w2 ⟨rfl, hw⟩
                    subst w2
                    clear cy
                    go_wp2_with fail
                    refine cz.mono ?_
                    rintro e w2 ⟨rfl, hw⟩
                    subst w2
                    clear cz
                    go_wp2
                    go_roundg (n - (i + 1))
                    case measure => omega
                    case rel => exact ⟨i + 1, hlt, rfl, by go_num, rfl, HG2⟩
              · have hn1' : ¬ (i : Int) + 1 < (n : Int) := by omega
                have hgd : good L i = false := by unfold good; rw [hx, hl]; have hnn : ¬ i + 1 < L.length := (by rw [HLN.out]; exact hn1); simp [hnn]
                have HZ2 : Hid (Z = 5) := by show _ = _; rw [← HZ.out, okw_false L i (by rw [HLN.out]; exact hlt) hgd]; rfl
                clear hgd
                clear hx hl hi0 hn1
                subst h39
                go_wp2_with fail
                refine cl.mono ?_
                rintro e w2 ⟨rfl, hw⟩
                subst w2
                clear cl
                go_wp2
                go_ret
                rw [HZ2.out]
                exact ⟨rfl, HB1.out⟩
            · have hi0' : ¬ (0 : Int) < (i : Int) := by omega
              have hgd : good L i = false := by unfold good; rw [hx, hl]; simp [hi0]
              have HZ2 : Hid (Z = 5) := by show _ = _; rw [← HZ.out, okw_false L i (by rw [HLN.out]; exact hlt) hgd]; rfl
              clear hgd
              clear hx hl hi0
              subst h39
              go_wp2_with fail
              refine cl.mono ?_
              rintro e w2 ⟨rfl, hw⟩
              subst w2
              clear cl
              go_wp2
              go_ret
              rw [HZ2.out]
              exact ⟨rfl, HB1.out⟩
          · have h39b : (x == 39) = false := by simpa using h39
            have hgd : good L i = false := by unfold good; rw [hx, hl]; simp [h39]
            have HZ2 : Hid (Z = 5) := by show _ = _; rw [← HZ.out, okw_false L i (by rw [HLN.out]; exact hlt) hgd]; rfl
            clear hgd
            clear hx hl
            go_wp2_with fail
            refine cl.mono ?_
            rintro e w2 ⟨rfl, hw⟩
            subst w2
            clear cl
            go_wp2
            go_ret
            rw [HZ2.out]
            exact ⟨rfl, HB1.out⟩
        · rw [hl] at cl
          have hgd : good L i = true := by unfold good; rw [hx, hl]; rfl
          have HG2 : Hid (∀ j, j < i + 1 → good L j = true) := fun j hj => by
            rcases Nat.lt_succ_iff_lt_or_eq.1 hj with h | h
            · exact HG.out j h
            · rw [h]; exact hgd
          clear hgd hx hl
          go_wp2_with fail
          refine cl.mono ?_
          rintro e w2 ⟨rfl, hw⟩
          subst w2
          clear cl
          go_wp2
          go_roundg (n - (i + 1))
          case measure => omega
          case rel => exact ⟨i + 1, hlt, rfl, by go_num, rfl, HG2⟩
      · obtain rfl : i = n := by omega
        by_cases h0 : i = 0
        · subst h0
          have HZ2 : Hid (Z = 5) := by
            show _ = _
            rw [← HZ.out, List.eq_nil_of_length_eq_zero HLN.out]; rfl
          go_wp2
          go_ret
          rw [HZ2.out]
          exact ⟨rfl, HB1.out⟩
        · have HZ2 : Hid (Z = 0) := by
            show _ = _
            rw [← HZ.out, okw_true L (by rw [HLN.out]; exact h0) (fun j hj => HG.out j (by rw [← HLN.out]; exact hj))]; rfl
          have h0' : ¬ (i : Int) = 0 := by omega
          go_wp2
          go_ret
          rw [HZ2.out]
          exact ⟨rfl, HB1.out⟩
end Go.Proofs.YtgijihfijoiafaaGreatDoor
/- The reference's Words. -/
namespace Go.Proofs.YtgijihfijoiafaaGreatDoor
set_option linter.unusedVariables false
open Go.RowKit Go.ChangeShapes
set_option maxRecDepth 100000 in
theorem rwords_long (s : ByteArray) (v : Value) (w : World) (hs : s.size ≤ 40000) (hb : Lns.BSl w v s) (j : Nat) (hL : longL (linesL s) 0 = j + 1) :
    Calls Tryz.prog 15 #[v] w fun e w' => e = .returned (.tuple #[.slice none 0 0, .int .i64 3, .int .i64 (j + 1)]) ∧ Below w.heap.size w w' := by
  have ct := rrows_long s v w hs hb j hL
  obtain ⟨vd, vc, rfl⟩ := hb.form
  clear hb hL
  have z : (0 : Int) < (j : Int) + 1 := by omega
  go_enter Tryz.func15, Tryz.ntmps15
  go_wp2_with fail
  refine ct.mono ?_
  rintro e w1 ⟨rfl, hb1⟩
  have HB : Hid (Below w.heap.size w w1) := hb1
  clear ct hb1
  go_wp2
  go_ret3
  exact ⟨rfl, HB.out⟩
/-- What the loop over rows keeps: the words so far, rising, are those that the program keeps in their order. -/
structure RW (st : WSt) (out : List ByteArray) : Prop where
  p : out.Perm st.L
  r : RiseK id out
  n : st.n ≤ 4096
  c : st.L.length ≤ st.n
theorem RW.len {st : WSt} {out : List ByteArray} (h : RW st out) : out.length = st.L.length := h.p.length_eq
theorem rise_nodup : ∀ {L : List ByteArray}, RiseK id L → L.Nodup
  | [], _ => List.nodup_nil
  | a :: L, h => by
    obtain ⟨h1, h2⟩ := List.pairwise_cons.1 h
    refine List.nodup_cons.2 ⟨fun hm => ?_, rise_nodup h2⟩
    have := h1 a hm
    rw [show lw (id a) (id a) = false from lw_irrefl a] at this
    cases this
theorem RW.srt {st : WSt} {out : List ByteArray} (h : RW st out) : out = srt st.L :=
  rise_one (h.p.trans (srt_perm st.L).symm) h.r (srt_rise st.L (h.p.nodup_iff.1 (rise_nodup h.r)))
open Classical in
set_option maxRecDepth 100000 in
set_option maxHeartbeats 2000000 in
theorem rwords_run (s : ByteArray) (v : Value) (w : World) (hs : s.size ≤ 40000) (hb : Lns.BSl w v s) (hL : longL (linesL s) 0 = 0) :
    Calls Tryz.prog 15 #[v] w fun e w' => ∃ st c ln, runR wstep (linesL s) 0 ⟨0, []⟩ = (st, c, ln) ∧ Below w.heap.size w w' ∧ st.L.length ≤ 4096 ∧
      ((c = 0 ∧ ∃ u, e = .returned (.tuple #[u, .int .i64 0, .int .i64 0]) ∧ w'.ownsRow w.heap.size 9 1 u st.L.length ((srt st.L).map Value.string)) ∨
       (c ≠ 0 ∧ e = .returned (.tuple #[.slice none 0 0, .int .i64 c, .int .i64 ln]))) := by
  have ct := rrows_any s v w hs hb hL
  have hnl := Lns.nL_le s
  have HL : Hid (∀ t ∈ linesL s, t.size ≤ 4096) := longL_zero _ _ hL
  obtain ⟨Z, hZ⟩ : ∃ Z, runR wstep (linesL s) 0 ⟨0, []⟩ = Z := ⟨_, rfl⟩
  rw [hZ]
  have HZ : Hid (runR wstep (linesL s) 0 ⟨0, []⟩ = Z) := hZ
  obtain ⟨vd, vc, rfl⟩ := hb.form
  clear hb hL hZ
  go_enter Tryz.func15, Tryz.ntmps15
  go_wp2_with fail
  refine ct.mono ?_
  rintro e w1 ⟨v1, rfl, hown, hb1⟩
  obtain ⟨g, hg, ht, hgl⟩ := tsg_own hown
  have HB : Hid (Up w.heap.size w w1) := (Up.refl w).stay hb1
  have HT : Hid (TSg w1 g v1 (Lns.nL s) (fun j => rowB (Lns.line s j))) := ht
  obtain ⟨ad, c, rfl, had⟩ := ht.form
  clear ht hown hb1 ct
  generalize hn : Lns.nL s = n at *
  have HN : Hid (Lns.nL s = n) := hn
  clear hn
  go_wp2
  go_loopg [7, 8, 9] (n) (fun gh ov nv iv wr => ∃ k : Nat, ∃ st : WSt, ∃ out : List ByteArray, k ≤ n ∧ gh = n - k ∧ iv = .int .i64 k ∧ nv = .int .i64 st.n ∧ Hid (RW st out) ∧ Hid (wr.ownsRow w1.heap.size 9 1 ov out.length (out.map Value.string)) ∧ Hid (Up w1.heap.size w1 wr) ∧ Hid (runR wstep ((linesL s).drop k) k st = Z))
  case atStart => exact ⟨0, ⟨0, []⟩, [], Nat.zero_le _, rfl, rfl, rfl, ⟨List.Perm.refl _, List.Pairwise.nil, Nat.zero_le _, Nat.le_refl _⟩, World.ownsRow_nil _ _ _ _, Up.refl w1, HZ⟩
  case round =>
    obtain ⟨k, st, out, hk, hgh, rfl, rfl, HW, HO, HU, HR⟩ := hrel
    by_cases hlt : k < n
    · obtain rfl := had (by omega)
      have z0 : (0 : Int) ≤ (k : Int) := by omega
      have z1 : (k : Int) < (n : Int) := by omega
      have hgw := hgl (by omega)
      have hc := HT.out.at (HU.out.1.block g hgw) k hlt
      have htl : (rowB (Lns.line s k)).size ≤ 4096 := Nat.le_trans (rowB_size _) (HL.out _ (by unfold linesL; rw [HN.out]; exact List.mem_map.2 ⟨k, List.mem_range.2 hlt, rfl⟩))
      have HR1 := HR.out
      rw [linesL_drop s k (by rw [HN.out]; exact hlt)] at HR1
      unfold runR at HR1
      (try simp only at hc)
      generalize rowB (Lns.line s k) = r at hc htl HR1
      have hol := HW.out.len
      have hst1 := HW.out.n
      have hst2 := HW.out.c
      by_cases hr : r.size = 0
      · rw [if_pos hr] at HR1
        have HR2 : Hid (runR wstep ((linesL s).drop (k + 1)) (k + 1) st = Z) := HR1
        clear HR HR1
        obtain rfl : r = ⟨#[]⟩ := by
          cases r with
          | mk d => congr 1; exact Array.eq_empty_of_size_eq_zero hr
        go_wp2
        go_roundg (n - (k + 1))
        case measure => omega
        case rel => exact ⟨k + 1, st, out, hlt, rfl, by go_num, rfl, HW, HO, HU, HR2⟩
      · rw [if_neg hr] at HR1
        have hne : r.toList.isEmpty = false := by
          cases e : r.toList.isEmpty
          · rfl
          · exfalso
            have h2 := toList_length r
            rw [List.isEmpty_iff.1 e] at h2
            exact hr h2.symm
        have cc := rcheck_any r wr (by omega)
        by_cases hcz : chk r = 0
        · rw [hcz] at cc
          have h64 := chk_small hcz
          by_cases h4 : st.n = 4096
          · have hws : wstep st r = (st, 4) := by unfold wstep; rw [if_neg (by simp [hcz]), if_pos h4]
            rw [hws, if_neg (by show ¬ (4 : Int) = 0; decide)] at HR1
            have HR2 : Hid ((st, (4 : Int), k + 1) = Z) := HR1
            have h4' : (st.n : Int) = 4096 := by omega
            rw [h4']
            clear HR HR1 hws hcz hr h4
            go_wp2_with fail
            refine cc.mono ?_
            rintro e w2 ⟨rfl, hb2⟩
            have HU2 : Hid (Up w1.heap.size w1 w2) := HU.out.stay hb2
            clear hb2 cc hc HU
            go_wp2
            go_ret3
            exact ⟨st, 4, k + 1, HR2.out.symm, (HB.out.stay HU2.out.1).1, by omega, Or.inr ⟨by decide, by go_num⟩⟩
          · have h4' : ¬ (st.n : Int) = 4096 := by omega
            have h4'' : st.n < 4096 := by omega
            by_cases hin : fld r ∈ st.L
            · have hws : wstep st r = (⟨st.n + 1, st.L⟩, 0) := by unfold wstep; rw [if_neg (by simp [hcz]), if_neg h4, if_pos hin]
              rw [hws, if_pos rfl] at HR1
              have HR2 : Hid (runR wstep ((linesL s).drop (k + 1)) (k + 1) ⟨st.n + 1, st.L⟩ = Z) := HR1
              have hin2 : fld r ∈ out := HW.out.p.mem_iff.2 hin
              have HW2 : Hid (RW ⟨st.n + 1, st.L⟩ out) := ⟨HW.out.p, HW.out.r, by show st.n + 1 ≤ _; omega, by show st.L.length ≤ st.n + 1; omega⟩
              have cf := fun w' => rfold_any r w' (by omega)
              have ch := fun w' (ho : w'.ownsRow w1.heap.size 9 1 u7 out.length (out.map Value.string)) => rhas_any out w1.heap.size u7 (fld r) w' (by omega) ho
              rw [decide_eq_true hin2] at ch
              clear HR HR1 hws hcz hr h4 hin hin2
              generalize fld r = f at cf ch
              go_wp2_with fail
              refine cc.mono ?_
              rintro e w2 ⟨rfl, hb2⟩
              have HU2 : Hid (Up w1.heap.size w1 w2) := HU.out.stay hb2
              have HO2 : Hid (w2.ownsRow w1.heap.size 9 1 u7 out.length (out.map Value.string)) := own_stay HO.out hb2
              have hc2 : w2.cell? ⟨g, k, none⟩ = some (.string r) := (hb2.cell (World.block_lt_of_cell? wr _ hc)).trans hc
              clear hb2 cc hc HU HO
              go_wp2_with fail
              refine (cf w2).mono ?_
              rintro e w3 ⟨rfl, hb3⟩
              have HU3 : Hid (Up w1.heap.size w1 w3) := HU2.out.stay hb3
              have HO3 : Hid (w3.ownsRow w1.heap.size 9 1 u7 out.length (out.map Value.string)) := own_stay HO2.out hb3
              clear hb3 cf hc2 HU2 HO2
              go_wp2_with fail
              refine (ch w3 HO3.out).mono ?_
              rintro e w4 ⟨rfl, hw⟩
              subst w4
              clear ch
              go_wp2
              go_roundg (n - (k + 1))
              case measure => omega
              case rel => exact ⟨k + 1, ⟨st.n + 1, st.L⟩, out, hlt, rfl, by go_num, by go_num, HW2, HO3, HU3, HR2⟩
            · have hws : wstep st r = (⟨st.n + 1, st.L ++ [fld r]⟩, 0) := by unfold wstep; rw [if_neg (by simp [hcz]), if_neg h4, if_neg hin]
              rw [hws, if_pos rfl] at HR1
              have HR2 : Hid (runR wstep ((linesL s).drop (k + 1)) (k + 1) ⟨st.n + 1, st.L ++ [fld r]⟩ = Z) := HR1
              have hin2 : ¬ fld r ∈ out := fun h => hin (HW.out.p.mem_iff.1 h)
              have HW2 : Hid (RW ⟨st.n + 1, st.L ++ [fld r]⟩ (putK id out (fld r))) :=
                ⟨(putK_perm id out (fld r)).trans (((List.Perm.cons _ HW.out.p)).trans (List.perm_append_singleton _ _).symm), putK_rise id out (fld r) HW.out.r (by simpa using hin2), by show st.n + 1 ≤ _; omega, by show (st.L ++ [fld r]).length ≤ st.n + 1; simp; omega⟩
              have HPL : Hid ((putK id out (fld r)).length = out.length + 1) := putK_len id out (fld r)
              have cf := fun w' => rfold_any r w' (by omega)
              have ch := fun w' (ho : w'.ownsRow w1.heap.size 9 1 u7 out.length (out.map Value.string)) => rhas_any out w1.heap.size u7 (fld r) w' (by omega) ho
              have cp := fun w' (ho : w'.ownsRow w1.heap.size 9 1 u7 out.length (out.map Value.string)) => rput_any out (fld r) w1.heap.size u7 w' (by omega) ho
              rw [decide_eq_false hin2] at ch
              clear HR HR1 hws hcz hr h4 hin hin2
              generalize putK id out (fld r) = out2 at cp HW2 HPL
              generalize fld r = f at cf ch cp HW2 HR2
              go_wp2_with fail
              refine cc.mono ?_
              rintro e w2 ⟨rfl, hb2⟩
              have HU2 : Hid (Up w1.heap.size w1 w2) := HU.out.stay hb2
              have HO2 : Hid (w2.ownsRow w1.heap.size 9 1 u7 out.length (out.map Value.string)) := own_stay HO.out hb2
              have hc2 : w2.cell? ⟨g, k, none⟩ = some (.string r) := (hb2.cell (World.block_lt_of_cell? wr _ hc)).trans hc
              clear hb2 cc hc HU HO
              go_wp2_with fail
              refine (cf w2).mono ?_
              rintro e w3 ⟨rfl, hb3⟩
              have HU3 : Hid (Up w1.heap.size w1 w3) := HU2.out.stay hb3
              have HO3 : Hid (w3.ownsRow w1.heap.size 9 1 u7 out.length (out.map Value.string)) := own_stay HO2.out hb3
              clear hb3 cf hc2 HU2 HO2
              go_wp2_with fail
              refine (ch w3 HO3.out).mono ?_
              rintro e w4 ⟨rfl, hw⟩
              subst w4
              clear ch
              go_wp2_with fail
              refine (cp w3 HO3.out).mono ?_
              rintro e w4 ⟨u, rfl, hown4, hb4⟩
              have HU4 : Hid (Up w1.heap.size w1 w4) := HU3.out.stay hb4
              have HO4 : Hid (w4.ownsRow w1.heap.size 9 1 u out2.length (out2.map Value.string)) := by
                show w4.ownsRow _ _ _ _ _ _
                rw [HPL.out]
                exact own_mono2 hown4 HU3.out.2
              clear cp hb4 hown4 HO3 HU3
              go_wp2
              go_roundg (n - (k + 1))
              case measure => omega
              case rel => exact ⟨k + 1, ⟨st.n + 1, st.L ++ [f]⟩, out2, hlt, rfl, by go_num, by go_num, HW2, HO4, HU4, HR2⟩
        · have hws : wstep st r = (st, chk r) := by unfold wstep; rw [if_pos hcz]
          rw [hws, if_neg hcz] at HR1
          have HR2 : Hid ((st, chk r, k + 1) = Z) := HR1
          clear HR HR1 hws hr
          generalize chk r = z at cc hcz HR2
          go_wp2_with fail
          refine cc.mono ?_
          rintro e w2 ⟨rfl, hb2⟩
          have HU2 : Hid (Up w1.heap.size w1 w2) := HU.out.stay hb2
          clear hb2 cc hc HU
          go_wp2
          go_ret3
          exact ⟨st, z, k + 1, HR2.out.symm, (HB.out.stay HU2.out.1).1, by omega, Or.inr ⟨hcz, by go_num⟩⟩
    · obtain rfl : k = n := by omega
      have HR1 := HR.out
      rw [← HN.out, linesL_end] at HR1
      have HR2 : Hid ((st, 0, 0) = Z) := HR1
      have hst1 := HW.out.n
      have hst2 := HW.out.c
      clear HR1 HR
      obtain ⟨oa, oc, hof⟩ := own_form HO.out
      subst hof
      go_wp2
      go_ret3
      refine ⟨st, 0, 0, HR2.out.symm, (HB.out.stay HU.out.1).1, by omega, Or.inl ⟨rfl, _, rfl, ?_⟩⟩
      rw [← HW.out.srt, ← HW.out.len]
      exact own_mono2 HO.out HB.out.2
end Go.Proofs.YtgijihfijoiafaaGreatDoor
