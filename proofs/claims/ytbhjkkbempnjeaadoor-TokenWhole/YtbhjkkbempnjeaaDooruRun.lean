/- The reference: runs. -/
import Derived.Test.YtbhjkkbempnjeaaDooruRef
import Derived.Laws.AppendOwn
namespace Go.Proofs.YtbhjkkbempnjeaaDoor
set_option linter.unusedVariables false
open Go.RowKit Go.ChangeShapes
/-- Pairs as cells. -/
def pC (l : List (Nat × Nat)) : List Value := l.flatMap fun p => [.int .i64 (p.1 : Int), .int .i64 (p.2 : Int)]
theorem pC_app (l m : List (Nat × Nat)) : pC (l ++ m) = pC l ++ pC m := by simp [pC]
theorem pC_len : ∀ l : List (Nat × Nat), (pC l).length = l.length * 2
  | [] => rfl
  | p :: l => by
    show (([.int .i64 (p.1 : Int), .int .i64 (p.2 : Int)] : List Value) ++ pC l).length = (l.length + 1) * 2
    rw [List.length_append, pC_len l]
    show 2 + _ = _
    omega
theorem pC_at : ∀ (l : List (Nat × Nat)) (i : Nat) (p : Nat × Nat), l[i]? = some p → (pC l)[i * 2]? = some (.int .i64 (p.1 : Int)) ∧ (pC l)[i * 2 + 1]? = some (.int .i64 (p.2 : Int))
  | [], i, p, h => by simp at h
  | x :: l, 0, p, h => by
    obtain rfl : x = p := by simpa using h
    exact ⟨rfl, rfl⟩
  | x :: l, i + 1, p, h => by
    have h' : l[i]? = some p := by simpa using h
    obtain ⟨h1, h2⟩ := pC_at l i p h'
    have e : ∀ j, (pC (x :: l))[(i * 2 + j) + 2]? = (pC l)[i * 2 + j]? := fun j => by
      show ([_, _] ++ pC l)[(i * 2 + j) + 2]? = _
      rw [List.getElem?_append_right (by show 2 ≤ _; omega)]
      congr 1
    exact ⟨by rw [← h1, show (i + 1) * 2 = i * 2 + 0 + 2 by omega, e 0]; rfl, by rw [← h2, show (i + 1) * 2 + 1 = i * 2 + 1 + 2 by omega, e 1]⟩
/-- Pairs in a row of their own. -/
def PR (w : World) (base : Nat) (v : Value) (l : List (Nat × Nat)) : Prop := w.ownsRow base 23 2 v l.length (pC l)
theorem PR.stay {w w' : World} {base : Nat} {v : Value} {l : List (Nat × Nat)} (h : PR w base v l) (hb : Below w.heap.size w w') : PR w' base v l := own_stay h hb
theorem PR.mono {w : World} {base base' : Nat} {v : Value} {l : List (Nat × Nat)} (h : PR w base v l) (hb : base' ≤ base) : PR w base' v l := own_mono h hb
theorem infoP : (Tryd.prog.info? 23).map (fun i => (i.zero, i.size, i.bytes)) = some (some (.agg #[.int .i64 0, .int .i64 0]), 2, 16) := by kernel_rfl
theorem runsF_len (R : Nat → Int) (k : Nat) : ∀ f i, (runsF R k f i).length ≤ f
  | 0, i => Nat.le_refl 0
  | f + 1, i => by
    show (bif inn R k i then (i, rEnd R k i) :: runsF R k f (rEnd R k i) else runsF R k f (i + 1)).length ≤ f + 1
    cases inn R k i
    · exact Nat.le_succ_of_le (runsF_len R k f (i + 1))
    · exact Nat.succ_le_succ (runsF_len R k f (rEnd R k i))
theorem runsL_len (R : Nat → Int) (k i : Nat) : (runsL R k i).length ≤ k - i := runsF_len R k (k - i) i
set_option maxRecDepth 100000 in
set_option maxHeartbeats 4000000 in
theorem rruns_any {w : World} {v : Value} {l : List U3} (h : US w v l) (hF : FitU l) (hk : l.length ≤ 100000) :
    Calls Tryd.prog 14 #[v] w fun e w' => ∃ v', e = .returned v' ∧ PR w' w.heap.size v' (runsL (RU l) l.length 0) ∧ Below w.heap.size w w' := by
  have CI : Hid (∀ (w' : World) (j : Nat), Up w.heap.size w w' → j ≤ 100001 → Calls Tryd.prog 27 #[v, .int .i64 (j : Int)] w' fun e w'' => e = .returned (.bool (inn (RU l) l.length j)) ∧ w'' = w') := fun w' j hu hj => rinn_any (h.stay hu.1) hF (by omega) j (by omega)
  obtain ⟨A, C, rfl, hC, hh⟩ := h
  obtain ⟨n, hn⟩ : ∃ n, l.length = n := ⟨_, rfl⟩
  rw [hn] at hk hC CI ⊢
  obtain ⟨R, hR⟩ : ∃ R, RU l = R := ⟨_, rfl⟩
  rw [hR] at CI ⊢
  obtain ⟨L, hL⟩ : ∃ L, runsL R n 0 = L := ⟨_, rfl⟩
  rw [hL]
  have HL : Hid (runsL R n 0 = L) := hL
  obtain ⟨i0, hi, hz0, hz1, hz2⟩ := info_parts infoP
  clear hn hR hL hh hF
  go_enter Tryd.func14, Tryd.ntmps14
  go_wp2
  go_loopg [3, 4] n (fun q ov iv wr => ∃ (i k : Nat), i ≤ n ∧ q = n - i ∧ iv = .int .i64 (i : Int) ∧ k ≤ i ∧ Hid (∃ dn : List (Nat × Nat), dn.length = k ∧ wr.ownsRow w.heap.size 23 2 ov k (pC dn) ∧ dn ++ runsL R n i = L) ∧ Hid (Up w.heap.size w wr))
  case atStart => exact ⟨0, 0, Nat.zero_le _, rfl, rfl, Nat.le_refl _, ⟨[], rfl, World.ownsRow_nil _ _ _ _, HL.out⟩, Up.refl _⟩
  case round =>
    obtain ⟨i, k, hi1, hq, rfl, hk2, HO, HU⟩ := hrel
    by_cases hlt : i < n
    · have z1 : (i : Int) < (n : Int) := by omega
      have c1 := CI.out wr i HU.out (by omega)
      cases hin : inn R n i
      · rw [hin] at c1
        have HO2 : Hid (∃ dn : List (Nat × Nat), dn.length = k ∧ wr.ownsRow w.heap.size 23 2 u3 k (pC dn) ∧ dn ++ runsL R n (i + 1) = L) := by
          obtain ⟨dn, d1, d2, d3⟩ := HO.out
          exact ⟨dn, d1, d2, by rw [← d3, runsL_no hin]⟩
        clear HO
        go_wp2_with fail
        refine c1.mono ?_
        rintro ev w1 ⟨rfl, hw1⟩
        subst w1
        clear c1
        go_wp2
        go_roundg (n - (i + 1))
        case measure => omega
        case rel => exact ⟨i + 1, k, by omega, rfl, by go_num, by omega, HO2, HU⟩
      · rw [hin] at c1
        obtain ⟨E, hE⟩ : ∃ E, rEnd R n i = E := ⟨_, rfl⟩
        have HE : Hid (rEnd R n i = E) := hE
        have hEi : i < E := by rw [← hE]; exact rEnd_gt hin
        have hEn : E ≤ n := by rw [← hE]; exact rEnd_le (n - i) i (by omega)
        have HO2 : Hid (∃ dn : List (Nat × Nat), dn.length = k ∧ wr.ownsRow w.heap.size 23 2 u3 k (pC dn) ∧ dn ++ (i, E) :: runsL R n E = L) := by
          obtain ⟨dn, d1, d2, d3⟩ := HO.out
          exact ⟨dn, d1, d2, by rw [← d3, runsL_yes hin, hE]⟩
        clear HO hE hin
        go_wp2_with fail
        refine c1.mono ?_
        rintro ev w1 ⟨rfl, hw1⟩
        subst w1
        clear c1
        go_wp2
        go_loopg [5] (n - i) (fun q jv wr2 => ∃ j : Nat, i ≤ j ∧ j ≤ E ∧ q = n - j ∧ jv = .int .i64 (j : Int) ∧ wr2 = wr)
        case atStart => exact ⟨i, Nat.le_refl _, by omega, rfl, rfl, rfl⟩
        case round =>
          obtain ⟨j, hj1, hj2, hqj, rfl, rfl⟩ := hrel
          by_cases hjE : j < E
          · have hin : inn R n j = true := rEnd_all (n - i) i (by omega) j hj1 (by rw [HE.out]; exact hjE)
            have c2 := CI.out wr j HU.out (by omega)
            rw [hin] at c2
            clear hin
            have y1 : IntKind.i64.wrap ((j : Int) + 1) = ((j + 1 : Nat) : Int) := by rw [IntWalk.i64_in _ (by omega)]; omega
            go_wp2_with fail
            refine c2.mono ?_
            rintro ev w1 ⟨rfl, hw1⟩
            subst w1
            clear c2
            go_wp2
            go_roundg (n - (j + 1))
            case measure => omega
            case rel => exact ⟨j + 1, by omega, by omega, rfl, by go_num, rfl⟩
          · obtain rfl : j = E := by omega
            have hin : inn R n j = false := by rw [← HE.out]; exact rEnd_not (n - i) i (by omega)
            have c2 := CI.out wr j HU.out (by omega)
            rw [hin] at c2
            clear hin
            obtain ⟨dn, hdl, hdo, hdr⟩ := HO2.out
            go_wp2_with fail
            refine c2.mono ?_
            rintro ev w1 ⟨rfl, hw1⟩
            subst w1
            clear c2
            go_wp2_with (at_builtin; refine wpList_append_own _ rfl _ _ 30 rfl w.heap.size 23 i0 _ 2 16 Tryd.underlying30 hi hz0 hz1 hz2 rfl (by decide) _ _ _ rfl (World.ownsRow.alloc hdo _) ⟨wr.heap.size, 0, none⟩ 1 1 [.int .i64 (i : Int), .int .i64 (j : Int)] rfl rfl ?c1 ?c2 ?c3 ?c4 ?c5 ?_)
            case c1 =>
              intro j u hj
              match j, hj with
              | 0, hj => simp at hj; subst hj; simp [Addr.add]
              | 1, hj => simp at hj; subst hj; simp [Addr.add]
              | (j + 2), hj => simp at hj
            case c2 => intro u hu; simp at hu; rcases hu with rfl | rfl <;> rfl
            case c3 => unfold maxLen; omega
            case c4 => omega
            case c5 => have := HU.out.2; simp only [World.size_alloc]; omega
            intro v' w3 hown2 hgr hnil
            have HO3 : Hid (∃ dn : List (Nat × Nat), dn.length = k + 1 ∧ w3.ownsRow w.heap.size 23 2 v' (k + 1) (pC dn) ∧ dn ++ runsL R n j = L) := by
              refine ⟨dn ++ [(i, j)], by rw [List.length_append, hdl]; rfl, ?_, ?_⟩
              · rw [pC_app]; exact hown2
              · rw [← hdr]; simp
            have HU3 : Hid (Up w.heap.size w w3) := (HU.out.alloc _).grown hgr (own_base hdo)
            clear hown2 hgr hnil HO2 hdo hdl hdr
            go_wp2
            go_roundg (n - j)
            case measure => omega
            case rel => exact ⟨j, k + 1, by omega, rfl, by go_num, by omega, HO3, HU3⟩
    · have z1 : ¬ (i : Int) < (n : Int) := by omega
      obtain ⟨dn, d1, d2, d3⟩ := HO.out
      rw [runsL_end (by omega), List.append_nil] at d3
      subst d3
      have HFn : Hid (PR wr w.heap.size u3 dn ∧ Below w.heap.size w wr) := ⟨by unfold PR; rw [d1]; exact d2, HU.out.1⟩
      clear d1 d2 HO HU
      go_wp2
      go_ret
      exact ⟨_, rfl, HFn.out.1, HFn.out.2⟩
end Go.Proofs.YtbhjkkbempnjeaaDoor
