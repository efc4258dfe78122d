/- The reference's Dist: a table. -/
import Derived.BigRegion
import Derived.Test.YtfikkkodepfdkaaDoorpkD2
namespace Go.Proofs.YtfikkkodepfdkaaDoor.Qns
set_option linter.unusedVariables false
open Go.RowKit Go.ChangeShapes
theorem info26 : (Tryd.prog.info? 50).map (fun i => (i.zero, i.size, i.bytes)) = some (some (.slice none 0 0), 1, 24) := by kernel_rfl
/-- The table's rows, the first i made. -/
def rows (g n i : Nat) : Nat → Value := fun j => if j < i then .slice (some ⟨g + 1 + j, 0, none⟩) (n + 1) (n + 1) else .slice none 0 0
/-- The table in memory: the first i rows are done. -/
structure Tb (A B : Nat → Int) (g k n i r : Nat) (w wr : World) : Prop where
  up : Up g w wr
  size : wr.heap.size = g + 1 + r
  d : wr.rowIs g 50 (k + 1) (rows g n r)
  row : ∀ j, j < i → IR wr (g + 1 + j) (n + 1) (fun c => (dd A B j c : Int))
theorem dd_no {A B : Nat → Int} {i k : Nat} (h : ¬ (1 ≤ i ∧ 1 ≤ k ∧ A i = B (k - 1) ∧ A (i - 1) = B k)) : dd A B (i + 1) (k + 1) = min (min (dd A B i (k + 1) + 1) (dd A B (i + 1) k + 1)) (dd A B i k + if A i = B k then 0 else 1) := by
  rw [dd_s, if_neg h]
theorem dd_yes {A B : Nat → Int} {i k : Nat} (h1 : A (i + 1) = B k) (h2 : A i = B (k + 1)) : dd A B (i + 1 + 1) (k + 1 + 1) = min (min (min (dd A B (i + 1) (k + 1 + 1) + 1) (dd A B (i + 1 + 1) (k + 1) + 1)) (dd A B (i + 1) (k + 1) + if A (i + 1) = B (k + 1) then 0 else 1)) (dd A B i k + 1) := by
  rw [dd_s, if_pos ⟨by omega, by omega, h1, h2⟩]
  rfl
set_option maxRecDepth 100000 in
theorem rdist_long {w : World} {aa ab : Option Addr} {ca cb k n : Nat} (h : 64 < k ∨ 64 < n) (hk : k ≤ 1000) (hn : n ≤ 1000) :
    Calls Tryd.prog 38 #[.slice aa k ca, .slice ab n cb] w fun e w' => e = .returned (.int .i64 ((max k n : Nat) : Int)) ∧ w' = w := by
  by_cases h1 : n < k
  · have e : max k n = k := by omega
    rw [e]
    have z1 : (n : Int) < (k : Int) := by omega
    have z2 : (64 : Int) < (k : Int) := by omega
    clear h h1 e
    go_enter Tryd.func38, Tryd.ntmps38
    go_wp2
    go_ret
    exact ⟨rfl, rfl⟩
  · have e : max k n = n := by omega
    rw [e]
    have z1 : ¬ (n : Int) < (k : Int) := by omega
    have z2 : (64 : Int) < (n : Int) := by omega
    clear h h1 e
    by_cases h3 : 64 < k
    · have z3 : (64 : Int) < (k : Int) := by omega
      go_enter Tryd.func38, Tryd.ntmps38
      go_wp2
      go_ret
      exact ⟨rfl, rfl⟩
    · have z3 : ¬ (64 : Int) < (k : Int) := by omega
      go_enter Tryd.func38, Tryd.ntmps38
      go_wp2
      go_ret
      exact ⟨rfl, rfl⟩
theorem Tb.drew {A B : Nat → Int} {g k n i r : Nat} {w wr : World} (h : Tb A B g k n i r w wr) : Tb A B g k n i r w wr.drew := ⟨h.up.drew, h.size, h.d.drew, fun j hj => (h.row j hj).drew⟩
theorem Up.drewN {B : Nat} {a w : World} (h : Up B a w) : ∀ n, Up B a (w.drewN n)
  | 0 => h
  | n + 1 => by
    have := (Up.drewN h n).drew
    exact this
theorem IR.drewN {w : World} {b n : Nat} {N : Nat → Int} (h : IR w b n N) (m : Nat) : IR (w.drewN m) b n N := h
theorem Tb.drewN {A B : Nat → Int} {g k n i r : Nat} {w wr : World} (h : Tb A B g k n i r w wr) (m : Nat) : Tb A B g k n i r w (wr.drewN m) := ⟨h.up.drewN m, h.size, h.d, fun j hj => (h.row j hj).drewN m⟩
/-- A row more is made. -/
theorem Tb.make {A B : Nat → Int} {g k n i : Nat} {w wr : World} (h : Tb A B g k n i i w wr) (hg : g < g + 1 + i) : Tb A B g k n i (i + 1) w ((wr.alloc (.cells (madeCells #[Value.int .i64 0] (n + 1)) 3)).setCell ⟨g, i, none⟩ (.slice (some ⟨g + 1 + i, 0, none⟩) (n + 1) (n + 1))) := by
  refine ⟨(h.up.alloc _).setCell (Nat.le_refl _) _, ?_, ?_, fun j hj => ?_⟩
  · show ((wr.heap.push _).modify _ _).size = _
    rw [Array.size_modify, Array.size_push, h.size]
    omega
  · refine ((h.d.alloc _).set i _).congr fun j _ => ?_
    unfold rows
    by_cases e : j = i
    · rw [if_pos e, if_pos (by omega), e]
    · rw [if_neg e]
      by_cases e2 : j < i
      · rw [if_pos e2, if_pos (by omega)]
      · rw [if_neg e2, if_neg (by omega)]
  · exact World.rowIs.setOther (World.rowIs.alloc (h.row j hj) _) (by show g + 1 + j ≠ g; omega) _
theorem Tb.fresh {A B : Nat → Int} {g k n i : Nat} {w wr : World} (h : Tb A B g k n i i w wr) (hg : g < g + 1 + i) : IR ((wr.alloc (.cells (madeCells #[Value.int .i64 0] (n + 1)) 3)).setCell ⟨g, i, none⟩ (.slice (some ⟨g + 1 + i, 0, none⟩) (n + 1) (n + 1))) (g + 1 + i) (n + 1) (fun _ => 0) := by
  have := made_ir wr (n + 1)
  rw [h.size] at this
  exact World.rowIs.setOther this (by show g + 1 + i ≠ g; omega) _
/-- A number is laid into the row that is being made. -/
theorem Tb.set {A B : Nat → Int} {g k n i : Nat} {w wr : World} (h : Tb A B g k n i (i + 1) w wr) (c : Nat) (v : Value) : Tb A B g k n i (i + 1) w (wr.setCell ⟨g + 1 + i, c, none⟩ v) :=
  ⟨h.up.setCell (by show g ≤ g + 1 + i; omega) _, by simpa [World.setCell] using h.size, h.d.setOther (by show g ≠ g + 1 + i; omega) _, fun j hj => World.rowIs.setOther (h.row j hj) (by show g + 1 + j ≠ g + 1 + i; omega) _⟩
theorem Tb.done {A B : Nat → Int} {g k n i : Nat} {w wr : World} (h : Tb A B g k n i (i + 1) w wr) {N : Nat → Int} (hN : IR wr (g + 1 + i) (n + 1) N) (he : ∀ c, c < n + 1 → N c = (dd A B i c : Int)) : Tb A B g k n (i + 1) (i + 1) w wr := by
  refine ⟨h.up, h.size, h.d, fun j hj => ?_⟩
  rcases Nat.lt_or_ge j i with e | e
  · exact h.row j e
  · obtain rfl : j = i := by omega
    exact World.rowIs.congr hN fun c hc => by rw [he c hc]
theorem Tb.at {A B : Nat → Int} {g k n i r : Nat} {w wr : World} (h : Tb A B g k n i r w wr) {j : Nat} (hj : j < r) (hk : j < k + 1) : wr.cell? ⟨g, j, none⟩ = some (.slice (some ⟨g + 1 + j, 0, none⟩) (n + 1) (n + 1)) := by
  rw [h.d.cell hk]
  unfold rows
  rw [if_pos hj]
set_option maxHeartbeats 1000000 in
set_option maxRecDepth 100000 in
theorem rdist_near {w : World} {va vb : Value} {k n : Nat} {A B : Nat → Int} (hA : RSl w va k A) (hB : RSl w vb n B) (hk : k ≤ 64) (hn : n ≤ 64) :
    Calls Tryd.prog 38 #[va, vb] w fun e w' => e = .returned (.int .i64 (dd A B k n : Int)) ∧ Up w.heap.size w w' := by
  have HA : Hid (RSl w va k A) := hA
  have HB : Hid (RSl w vb n B) := hB
  obtain ⟨aa, ca, rfl⟩ := hA.form
  obtain ⟨ab, cb, rfl⟩ := hB.form
  clear hA hB
  have z1 : ¬ (64 : Int) < (k : Int) := by omega
  have z2 : ¬ (64 : Int) < (n : Int) := by omega
  have hmk : ∀ (w : World), (Instr.makeSlice 103 (.int .i64 ((k : Int) + 1)) (.int .i64 ((k : Int) + 1))).run Tryd.prog w = .ok (.slice (some ⟨w.heap.size, 0, none⟩) (k + 1) (k + 1)) (w.alloc (.cells (madeCells #[Value.slice none 0 0] (k + 1)) 50)) := run_make_row' (P := Tryd.prog) 103 50 (.slice none 0 0) 24 Tryd.underlying103 info26 rfl .i64 .i64 (k + 1) (by omega) (by omega)
  have hmk2 : ∀ (w : World), (Instr.makeSlice 50 (.int .i64 ((n : Int) + 1)) (.int .i64 ((n : Int) + 1))).run Tryd.prog w = .ok (.slice (some ⟨w.heap.size, 0, none⟩) (n + 1) (n + 1)) (w.alloc (.cells (madeCells #[Value.int .i64 0] (n + 1)) 3)) := run_make_row' (P := Tryd.prog) 50 3 (.int .i64 0) 8 Tryd.underlying50 info3 rfl .i64 .i64 (n + 1) (by omega) (by omega)
  go_enter Tryd.func38, Tryd.ntmps38
  go_wp2
  generalize hg : w.heap.size = g at *
  have HG : Hid (w.heap.size = g) := hg
  clear hg
  go_loopg [6] (k + 1) (fun m iv wr => ∃ i : Nat, i ≤ k + 1 ∧ m = k + 1 - i ∧ iv = .int .i64 i ∧ Hid (Tb A B g k n i i w wr))
  case atStart =>
    refine ⟨0, Nat.zero_le _, rfl, rfl, ⟨?_, ?_, ?_, fun j hj => absurd hj (Nat.not_lt_zero j)⟩⟩
    · have := (Up.refl w).alloc (.cells (madeCells #[Value.slice none 0 0] (k + 1)) 50)
      rw [HG.out] at this
      exact this
    · show (w.heap.push _).size = _
      rw [Array.size_push, HG.out]
    · have := World.rowIs_made w (.slice none 0 0) (k + 1) 50
      rw [HG.out] at this
      exact this.congr fun j _ => by unfold rows; rw [if_neg (Nat.not_lt_zero j)]
  case round =>
    obtain ⟨i, hi, hm, rfl, HT⟩ := hrel
    by_cases hlt : i < k + 1
    · have x1 : ((i : Nat) : Int) ≤ (k : Int) := by omega
      have x2 : (0 : Int) ≤ (i : Int) := by omega
      have x3 : ((i : Nat) : Int) < (k : Int) + 1 := by omega
      have hsz := HT.out.size
      have hci : (wr.alloc (.cells (madeCells #[Value.int .i64 0] (n + 1)) 3)).cell? ⟨g, i, none⟩ = some (.slice none 0 0) := by
        rw [(HT.out.d.alloc _).cell hlt]
        unfold rows
        rw [if_neg (Nat.lt_irrefl i)]
      have hfi : (wr.alloc (.cells (madeCells #[Value.int .i64 0] (n + 1)) 3)).frozen? ⟨g, i, none⟩ = false := (HT.out.d.alloc _).frozen i
      go_wp2
      go_loopg [7] (n + 1) (fun m cv wx => ∃ c : Nat, c ≤ n + 1 ∧ m = n + 1 - c ∧ cv = .int .i64 c ∧ Hid (Tb A B g k n i (i + 1) w wx) ∧ Hid (∃ N, IR wx (g + 1 + i) (n + 1) N ∧ ∀ j, j < c → N j = (dd A B i j : Int)))
      case atStart =>
        refine ⟨0, Nat.zero_le _, rfl, rfl, ?_, ⟨fun _ => 0, ?_, fun j hj => absurd hj (Nat.not_lt_zero j)⟩⟩
        · exact HT.out.make (by omega)
        · exact HT.out.fresh (by omega)
      case round =>
        obtain ⟨c, hc, hm2, rfl, HT2, HN⟩ := hrel
        by_cases hlt2 : c < n + 1
        · -- INNER
          have y1 : ((c : Nat) : Int) ≤ (n : Int) := by omega
          have y2 : (0 : Int) ≤ (c : Int) := by omega
          have y3 : ((c : Nat) : Int) < (n : Int) + 1 := by omega
          obtain ⟨N, hN, he⟩ := HN.out
          have HN2 : Hid (IR wr (g + 1 + i) (n + 1) N) := hN
          have HE : Hid (∀ j, j < c → N j = (dd A B i j : Int)) := he
          have di := HT2.out.at (j := i) (by omega) hlt
          have ci := hN.cell (i := c) hlt2
          have fi := hN.frozen c
          clear hN he HN
          rcases Nat.eq_zero_or_pos c with h0 | h0
          · subst h0
            have q1 : ((0 : Nat) : Int) = 0 := rfl
            go_wp2
            go_roundg (n + 1 - (0 + 1))
            case measure => omega
            case rel =>
              refine ⟨0 + 1, by omega, rfl, by go_num, HT2.out.set 0 _, ⟨_, HN2.out.set 0 _, fun j hj => ?_⟩⟩
              obtain rfl : j = 0 := by omega
              rw [dd_i]
              rfl
          have q1 : ¬ (c : Int) = 0 := by omega
          rcases Nat.eq_zero_or_pos i with h1 | h1
          · subst h1
            go_wp2
            go_roundg (n + 1 - (c + 1))
            case measure => omega
            case rel =>
              refine ⟨c + 1, by omega, rfl, by go_num, HT2.out.set c _, ⟨_, HN2.out.set c _, fun j hj => ?_⟩⟩
              unfold setN
              rw [dd_0]
              rcases Nat.lt_or_ge j c with e | e
              · rw [if_neg (by omega), HE.out j e, dd_0]
              · rw [if_pos (by omega)]
                omega
          obtain ⟨i', rfl⟩ : ∃ i', i = i' + 1 := ⟨i - 1, by omega⟩
          obtain ⟨c', rfl⟩ : ∃ c', c = c' + 1 := ⟨c - 1, by omega⟩
          have q2 : ¬ ((i' : Int) + 1 = 0) := by omega
          have q3 : ¬ ((c' : Int) + 1 = 0) := by omega
          have q4 : (0 : Int) ≤ (i' : Int) := by omega
          have q5 : (i' : Int) < (k : Int) + 1 := by omega
          have q6 : (0 : Int) ≤ (c' : Int) := by omega
          have q7 : (c' : Int) < (n : Int) + 1 := by omega
          have q8 : (i' : Int) < (k : Int) := by omega
          have q9 : (c' : Int) < (n : Int) := by omega
          have q10 : (i' : Int) + 1 < (k : Int) + 1 := by omega
          have q11 : (c' : Int) + 1 < (n : Int) + 1 := by omega
          obtain ⟨fa, oa, rfl, hRA⟩ := HA.out.at (by omega)
          obtain ⟨fb, ob, rfl, hRB⟩ := HB.out.at (by omega)
          have HRA : Hid (Rs w fa oa k A) := hRA
          have HRB : Hid (Rs w fb ob n B) := hRB
          clear hRA hRB
          have di' := HT2.out.at (j := i') (by omega) (by omega)
          have e1 := (HT2.out.row i' (by omega)).cell (i := c' + 1) hlt2
          have e2 := (HT2.out.row i' (by omega)).cell (i := c') (by omega)
          have e3 := HN2.out.cell (i := c') (by omega)
          rw [HE.out c' (by omega)] at e3
          have s1 := dd_bound A B i' (c' + 1)
          have s2 := dd_bound A B i' c'
          have s3 := dd_bound A B (i' + 1) c'
          obtain ⟨x, ex⟩ : ∃ x, dd A B i' (c' + 1) = x := ⟨_, rfl⟩
          obtain ⟨y, ey⟩ : ∃ x, dd A B (i' + 1) c' = x := ⟨_, rfl⟩
          obtain ⟨z, ez⟩ : ∃ x, dd A B i' c' = x := ⟨_, rfl⟩
          have EX : Hid (dd A B i' (c' + 1) = x ∧ dd A B (i' + 1) c' = y ∧ dd A B i' c' = z) := ⟨ex, ey, ez⟩
          rw [ex] at e1 s1
          rw [ey] at e3 s3
          rw [ez] at e2 s2
          have b1 : x ≤ 1000 := by omega
          have b2 : y ≤ 1000 := by omega
          have b3 : z ≤ 1000 := by omega
          clear ex ey ez s1 s2 s3
          go_upto_if 91 with fail
          go_cut [8] from 45 to 181 (fun lv wy => lv = .int .i64 ((min (x + 1) (y + 1) : Nat) : Int) ∧ wy = wr)
          case first =>
            by_cases h : y < x
            · have h' : (y : Int) + 1 < (x : Int) + 1 := by omega
              have h2 : min (x + 1) (y + 1) = y + 1 := by omega
              go_wp2
              go_meet
              case rel => exact ⟨congrArg (Value.int .i64) (by omega), rfl⟩
            · have h' : ¬ (y : Int) + 1 < (x : Int) + 1 := by omega
              have h2 : min (x + 1) (y + 1) = x + 1 := by omega
              go_wp2
              go_meet
              case rel => exact ⟨congrArg (Value.int .i64) (by omega), rfl⟩
          case rest =>
            obtain ⟨rfl, rfl⟩ := hcut
            obtain ⟨l, el⟩ : ∃ l, min (x + 1) (y + 1) = l := ⟨_, rfl⟩
            rw [el]
            have EL : Hid (min (x + 1) (y + 1) = l) := el
            have b4 : l ≤ 1001 := by omega
            clear el
            have ca' := (HRA.out.stay (by rw [HG.out]; exact HT2.out.up.1)) i' (by omega)
            have cb' := (HRB.out.stay (by rw [HG.out]; exact HT2.out.up.1)) c' (by omega)
            go_upto_region 22 with fail
            go_quiet (fail)
            obtain ⟨tt, et⟩ : ∃ tt : Nat, z + (if A i' = B c' then 0 else 1) = tt := ⟨_, rfl⟩
            have ET : Hid (z + (if A i' = B c' then 0 else 1) = tt) := et
            clear et
            go_upto_if 112 with fail
            go_cut [10] from 45 to 181 (fun nv wy => nv = .int .i64 (tt : Int) ∧ Hid (Tb A B g k n (i' + 1) (i' + 1 + 1) w wy) ∧ Hid (IR wy (g + 1 + (i' + 1)) (n + 1) N))
            case first =>
              by_cases h : A i' = B c'
              · go_wp2
                go_meet
                case rel =>
                  have := ET.out
                  rw [if_pos h] at this
                  exact ⟨congrArg (Value.int .i64) (by omega), HT2.out.drewN _, HN2.out.drewN _⟩
              · go_wp2
                go_meet
                case rel =>
                  have := ET.out
                  rw [if_neg h] at this
                  exact ⟨congrArg (Value.int .i64) (by omega), HT2.out.drewN _, HN2.out.drewN _⟩
            case rest =>
              obtain ⟨rfl, HT3, HN3⟩ := hcut
              have di3 := HT3.out.at (j := i' + 1) (by omega) hlt
              have ci3 := HN3.out.cell (i := c' + 1) hlt2
              have fi3 := HN3.out.frozen (c' + 1)
              have ca3 := (HRA.out.stay (by rw [HG.out]; exact HT3.out.up.1)) i' (by omega)
              have cb3 := (HRB.out.stay (by rw [HG.out]; exact HT3.out.up.1)) c' (by omega)
              have b5 : tt ≤ 1001 := by
                have := ET.out
                by_cases h : A i' = B c'
                · rw [if_pos h] at this; omega
                · rw [if_neg h] at this; omega
              clear di ci fi di' e1 e2 e3 ca' cb'
              go_upto_if 117 with fail
              go_cut [8] from 45 to 181 (fun lv wy => lv = .int .i64 ((min l tt : Nat) : Int) ∧ wy = wc)
              case first =>
                by_cases h : tt < l
                · have h' : (tt : Int) < (l : Int) := by omega
                  go_wp2
                  go_meet
                  case rel => exact ⟨congrArg (Value.int .i64) (by omega), rfl⟩
                · have h' : ¬ (tt : Int) < (l : Int) := by omega
                  go_wp2
                  go_meet
                  case rel => exact ⟨congrArg (Value.int .i64) (by omega), rfl⟩
              case rest =>
                obtain ⟨rfl, rfl⟩ := hcut
                obtain ⟨u, eu⟩ : ∃ u, min l tt = u := ⟨_, rfl⟩
                rw [eu]
                have EU : Hid (min l tt = u) := eu
                have b6 : u ≤ 1001 := by omega
                clear eu
                rcases Nat.eq_zero_or_pos i' with hi0 | hi0
                · subst hi0
                  have t1 : decide ((1 : Int) < ((0 + 1 : Nat) : Int)) = false := rfl
                  go_upto_region 26 with fail
                  go_quiet (fail)
                  go_wp2
                  go_roundg (n + 1 - (c' + 1 + 1))
                  case measure => omega
                  case rel =>
                    refine ⟨c' + 1 + 1, by omega, rfl, by go_num, ?_, ⟨setN N (c' + 1) u, ?_, fun j hj => ?_⟩⟩
                    · first | exact (HT3.out.drewN _).set _ _ | exact (HT3.out.set _ _).drewN _
                    · first | exact (HN3.out.drewN _).set _ _ | exact (HN3.out.set _ _).drewN _
                    · unfold setN
                      rcases Nat.lt_or_ge j (c' + 1) with e | e
                      · rw [if_neg (by omega)]
                        exact HE.out j e
                      · obtain rfl : j = c' + 1 := by omega
                        rw [if_pos rfl]
                        rw [dd_no (fun h => by omega), EX.out.1, EX.out.2.1, EX.out.2.2, EL.out, ET.out, EU.out]
                obtain ⟨i2, rfl⟩ : ∃ i2, i' = i2 + 1 := ⟨i' - 1, by omega⟩
                have t1 : (1 : Int) < ((i2 + 1 + 1 : Nat) : Int) := by omega
                have t9 : (1 : Int) < (i2 : Int) + 1 + 1 := by omega
                rcases Nat.eq_zero_or_pos c' with hc0 | hc0
                · subst hc0
                  have t2 : decide ((1 : Int) < ((0 + 1 : Nat) : Int)) = false := rfl
                  go_upto_region 26 with fail
                  go_quiet (fail)
                  go_wp2
                  go_roundg (n + 1 - (0 + 1 + 1))
                  case measure => omega
                  case rel =>
                    refine ⟨0 + 1 + 1, by omega, rfl, by go_num, ?_, ⟨setN N (0 + 1) u, ?_, fun j hj => ?_⟩⟩
                    · first | exact (HT3.out.drewN _).set _ _ | exact (HT3.out.set _ _).drewN _
                    · first | exact (HN3.out.drewN _).set _ _ | exact (HN3.out.set _ _).drewN _
                    · unfold setN
                      rcases Nat.lt_or_ge j (0 + 1) with e | e
                      · rw [if_neg (by omega)]
                        exact HE.out j e
                      · obtain rfl : j = 0 + 1 := by omega
                        rw [if_pos rfl]
                        rw [dd_no (fun h => by omega), EX.out.1, EX.out.2.1, EX.out.2.2, EL.out, ET.out, EU.out]
                obtain ⟨c2, rfl⟩ : ∃ c2, c' = c2 + 1 := ⟨c' - 1, by omega⟩
                have t2 : (1 : Int) < ((c2 + 1 + 1 : Nat) : Int) := by omega
                have t3 : (0 : Int) ≤ (i2 : Int) := by omega
                have t4 : (i2 : Int) < (k : Int) := by omega
                have t5 : (0 : Int) ≤ (c2 : Int) := by omega
                have t6 : (c2 : Int) < (n : Int) := by omega
                have t7 : (i2 : Int) < (k : Int) + 1 := by omega
                have t8 : (c2 : Int) < (n : Int) + 1 := by omega
                have t10 : (1 : Int) < (c2 : Int) + 1 + 1 := by omega
                have t11 : (i2 : Int) + 1 < (k : Int) := by omega
                have t12 : (c2 : Int) + 1 < (n : Int) := by omega
                have t13 : (i2 : Int) + 1 + 1 - 2 = (i2 : Int) := by omega
                have t14 : (c2 : Int) + 1 + 1 - 2 = (c2 : Int) := by omega
                have ca4 := (HRA.out.stay (by rw [HG.out]; exact HT3.out.up.1)) i2 (by omega)
                have cb4 := (HRB.out.stay (by rw [HG.out]; exact HT3.out.up.1)) c2 (by omega)
                have di4 := HT3.out.at (j := i2) (by omega) (by omega)
                have e5 := (HT3.out.row i2 (by omega)).cell (i := c2) (by omega)
                have s4 := dd_bound A B i2 c2
                obtain ⟨v, ev⟩ : ∃ v, dd A B i2 c2 = v := ⟨_, rfl⟩
                rw [ev] at e5 s4
                have EV : Hid (dd A B i2 c2 = v) := ev
                have b7 : v ≤ 1000 := by omega
                clear ev s4
                by_cases g1 : A (i2 + 1) = B c2
                · by_cases g2 : A i2 = B (c2 + 1)
                  · have G : Hid (A (i2 + 1) = B c2 ∧ A i2 = B (c2 + 1)) := ⟨g1, g2⟩
                    have g1' : (A (i2 + 1) == B c2) = true := by simpa using g1
                    have g2' : (A i2 == B (c2 + 1)) = true := by simpa using g2
                    by_cases g3 : v + 1 < u
                    · have g3' : (v : Int) + 1 < (u : Int) := by omega
                      go_upto_region 26 with fail
                      go_quiet (fail)
                      go_wp2
                      go_roundg (n + 1 - (c2 + 1 + 1 + 1))
                      case measure => omega
                      case rel =>
                        refine ⟨c2 + 1 + 1 + 1, by omega, rfl, by go_num, ?_, ⟨setN N (c2 + 1 + 1) (v + 1), ?_, fun j hj => ?_⟩⟩
                        · first | exact (HT3.out.drewN _).set _ _ | exact (HT3.out.set _ _).drewN _
                        · first | exact (HN3.out.drewN _).set _ _ | exact (HN3.out.set _ _).drewN _
                        · unfold setN
                          rcases Nat.lt_or_ge j (c2 + 1 + 1) with e | e
                          · rw [if_neg (by omega)]
                            exact HE.out j e
                          · obtain rfl : j = c2 + 1 + 1 := by omega
                            rw [if_pos rfl]
                            rw [dd_yes G.out.1 G.out.2, EX.out.1, EX.out.2.1, EX.out.2.2, EL.out, ET.out, EU.out, EV.out]
                            omega
                    · have g3' : decide ((v : Int) + 1 < (u : Int)) = false := decide_eq_false (by omega)
                      go_upto_region 26 with fail
                      go_quiet (fail)
                      go_wp2
                      go_roundg (n + 1 - (c2 + 1 + 1 + 1))
                      case measure => omega
                      case rel =>
                        refine ⟨c2 + 1 + 1 + 1, by omega, rfl, by go_num, ?_, ⟨setN N (c2 + 1 + 1) u, ?_, fun j hj => ?_⟩⟩
                        · first | exact (HT3.out.drewN _).set _ _ | exact (HT3.out.set _ _).drewN _
                        · first | exact (HN3.out.drewN _).set _ _ | exact (HN3.out.set _ _).drewN _
                        · unfold setN
                          rcases Nat.lt_or_ge j (c2 + 1 + 1) with e | e
                          · rw [if_neg (by omega)]
                            exact HE.out j e
                          · obtain rfl : j = c2 + 1 + 1 := by omega
                            rw [if_pos rfl]
                            rw [dd_yes G.out.1 G.out.2, EX.out.1, EX.out.2.1, EX.out.2.2, EL.out, ET.out, EU.out, EV.out]
                            omega
                  · have g1' : (A (i2 + 1) == B c2) = true := by simpa using g1
                    have g2' : (A i2 == B (c2 + 1)) = false := by simpa using g2
                    have G : Hid (¬ A i2 = B (c2 + 1)) := g2
                    go_upto_region 26 with fail
                    go_quiet (fail)
                    go_wp2
                    go_roundg (n + 1 - (c2 + 1 + 1 + 1))
                    case measure => omega
                    case rel =>
                      refine ⟨c2 + 1 + 1 + 1, by omega, rfl, by go_num, ?_, ⟨setN N (c2 + 1 + 1) u, ?_, fun j hj => ?_⟩⟩
                      · first | exact (HT3.out.drewN _).set _ _ | exact (HT3.out.set _ _).drewN _
                      · first | exact (HN3.out.drewN _).set _ _ | exact (HN3.out.set _ _).drewN _
                      · unfold setN
                        rcases Nat.lt_or_ge j (c2 + 1 + 1) with e | e
                        · rw [if_neg (by omega)]
                          exact HE.out j e
                        · obtain rfl : j = c2 + 1 + 1 := by omega
                          rw [if_pos rfl]
                          rw [dd_no (fun h => G.out h.2.2.2), EX.out.1, EX.out.2.1, EX.out.2.2, EL.out, ET.out, EU.out]
                · have g1' : (A (i2 + 1) == B c2) = false := by simpa using g1
                  have G : Hid (¬ A (i2 + 1) = B c2) := g1
                  go_upto_region 26 with fail
                  go_quiet (fail)
                  go_wp2
                  go_roundg (n + 1 - (c2 + 1 + 1 + 1))
                  case measure => omega
                  case rel =>
                    refine ⟨c2 + 1 + 1 + 1, by omega, rfl, by go_num, ?_, ⟨setN N (c2 + 1 + 1) u, ?_, fun j hj => ?_⟩⟩
                    · first | exact (HT3.out.drewN _).set _ _ | exact (HT3.out.set _ _).drewN _
                    · first | exact (HN3.out.drewN _).set _ _ | exact (HN3.out.set _ _).drewN _
                    · unfold setN
                      rcases Nat.lt_or_ge j (c2 + 1 + 1) with e | e
                      · rw [if_neg (by omega)]
                        exact HE.out j e
                      · obtain rfl : j = c2 + 1 + 1 := by omega
                        rw [if_pos rfl]
                        rw [dd_no (fun h => G.out h.2.2.1), EX.out.1, EX.out.2.1, EX.out.2.2, EL.out, ET.out, EU.out]
          -- OUTER
        · obtain rfl : c = n + 1 := by omega
          have y1 : ¬ ((n : Int) + 1 ≤ (n : Int)) := by omega
          go_wp2
          go_roundg (k + 1 - (i + 1))
          case measure => omega
          case rel =>
            obtain ⟨N, hN, he⟩ := HN.out
            exact ⟨i + 1, by omega, rfl, by go_num, HT2.out.done hN he⟩
    · obtain rfl : i = k + 1 := by omega
      have x1 : ¬ ((k : Int) + 1 ≤ (k : Int)) := by omega
      have hck := HT.out.at (j := k) (by omega) (by omega)
      have hcn := (HT.out.row k (by omega)).cell (i := n) (by omega)
      have x2 : ((k : Nat) : Int) < (k : Int) + 1 := by omega
      have x3 : (0 : Int) ≤ (k : Int) := by omega
      have x4 : ((n : Nat) : Int) < (n : Int) + 1 := by omega
      have x5 : (0 : Int) ≤ (n : Int) := by omega
      go_wp2
      go_ret
      refine ⟨rfl, ?_⟩
      rw [HG.out]
      exact HT.out.up
end Go.Proofs.YtfikkkodepfdkaaDoor.Qns
