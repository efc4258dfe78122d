/- lines.New, and that what it made hangs on its own memory alone. -/
import Derived.Test.YtihplafalbokdaaDoorWalksW
namespace Go.Proofs.YtihplafalbokdaaDoor
set_option linter.unusedVariables false
open Go.RowKit Go.ChangeShapes
theorem own_far {w w' : World} {base e size n : Nat} {v : Value} {xs : List Value} (h : w.ownsRow base e size v n xs) (hb : ∀ b, base ≤ b → w'.heap[b]? = w.heap[b]?) : w'.ownsRow base e size v n xs := by
  obtain ⟨h1, h2 | ⟨g, cap, cur, rfl, hg, hh, h3⟩⟩ := h
  · exact ⟨h1, Or.inl h2⟩
  · exact ⟨h1, Or.inr ⟨g, cap, cur, rfl, hg, (hb g hg).trans hh, h3⟩⟩
set_option maxRecDepth 100000 in
set_option maxHeartbeats 2000000 in
theorem new_far (s : ByteArray) (b off cap : Nat) (w : World) (hs : s.size ≤ 5000) (hcap : s.size ≤ cap) (hT : Tabs w) (hb : By w b off s) :
    Calls Tryd.prog 9 #[.slice (some ⟨b, off, none⟩) s.size cap] w fun e w' => ∃ K, ∃ v, e = .returned v ∧ Idx w' v s K ∧ (∀ w2 : World, (∀ b, w.heap.size ≤ b → w2.heap[b]? = w'.heap[b]?) → Idx w2 v s K) ∧ Below w.heap.size w w' := by
  obtain ⟨i0, hi, hz0, hz1, hz2⟩ := info_parts info3
  have HU0 : Hid (Up w.heap.size w (w.alloc (.cells #[.int .i64 s.size, .slice none 0 0, .slice none 0 0] 54))) := (Up.refl w).alloc _
  have cu := units_any s b off cap (w.alloc (.cells #[.int .i64 s.size, .slice none 0 0, .slice none 0 0] 54)) hs hcap (tabs_stay hT HU0.out.1) (hb.stay HU0.out.1)
  have hbx : (w.alloc (.cells #[.int .i64 s.size, .slice none 0 0, .slice none 0 0] 54)).heap[w.heap.size]? = some (.cells #[.int .i64 s.size, .slice none 0 0, .slice none 0 0] 54 (0, 0)) := heap_alloc_new _ _
  have hsw : (w.alloc (.cells #[.int .i64 s.size, .slice none 0 0, .slice none 0 0] 54)).heap.size = w.heap.size + 1 := by simp
  obtain ⟨W, hW⟩ : ∃ W, w.alloc (.cells #[.int .i64 s.size, .slice none 0 0, .slice none 0 0] 54) = W := ⟨_, rfl⟩
  rw [hW] at HU0 cu hbx hsw
  clear hT hb
  go_enter Tryd.func9, Tryd.ntmps9
  go_wp2_with fail
  refine cu.mono ?_
  rintro e wU ⟨K, vU, rfl, he, hown, hbU⟩
  have HE : Hid (Ends s K) := he
  have hK := he.le
  have hgx : w.heap.size < wU.heap.size := by have := hbU.size; omega
  have hwU : w.heap.size ≤ wU.heap.size := by omega
  have HN0 : Hid (NI w wU w.heap.size s.size wU (.slice none 0 0) (.slice none 0 0) [] []) := ⟨by rw [hbU.block w.heap.size (by omega)]; exact hbx, World.ownsRow_nil _ _ _ _, World.ownsRow_nil _ _ _ _, (fun g hg => by cases hg), (fun _ _ _ => rfl), (HU0.out.stay hbU).1, Nat.le_refl _⟩
  have hform : ∃ a1 c1, vU = .slice a1 K c1 ∧ (∀ j, j < K → ∃ g, a1 = some ⟨g, 0, none⟩ ∧ w.heap.size < g ∧ Us wU g K s) := by
    have h0 := hown
    obtain ⟨_, ⟨rfl, rfl⟩ | ⟨g, cap, cur, rfl, hg, _⟩⟩ := hown
    · exact ⟨none, 0, rfl, fun j hj => absurd hj (Nat.not_lt_zero j)⟩
    · exact ⟨_, cap, rfl, fun j _ => ⟨g, rfl, by omega, us_of h0⟩⟩
  obtain ⟨a1, c1, rfl, hus⟩ := hform
  have HS : Hid (∀ j, j < K → ∃ g, a1 = some ⟨g, 0, none⟩ ∧ w.heap.size < g ∧ Us wU g K s) := hus
  clear hus hown hbU he hbx hsw cu hW HU0
  go_wp2
  go_loopg [4, 14] K (fun m bv iv wr => ∃ k : Nat, k ≤ K ∧ m = K - k ∧ iv = .int .i64 k ∧ bv = .bool (isSt s (pos s k)) ∧ Hid (∃ vl vs, NI w wU w.heap.size s.size wr vl vs (lst s (pos s k)) (posL s k)))
  case atStart => exact ⟨0, Nat.zero_le _, rfl, rfl, rfl, ⟨_, _, HN0.out⟩⟩
  case round =>
    obtain ⟨k, hk, hm, rfl, rfl, HX⟩ := hrel
    obtain ⟨vl, vs, hN⟩ := HX.out
    clear HX HN0
    by_cases hlt : k < K
    · have z0 : (0 : Int) ≤ (k : Int) := by omega
      have z1 : (k : Int) < (K : Int) := by omega
      obtain ⟨g, hgg, hgw, hus⟩ := HS.out k hlt
      subst hgg
      obtain ⟨u0, u1, u2, u3⟩ := hus k hlt
      have hkg := hN.kept g u0 (by omega)
      have a1 := (World.cell?_of_block (a := ⟨g, k * 3, none⟩) hkg).trans u1
      have a2 := (World.cell?_of_block (a := ⟨g, k * 3 + 1, none⟩) hkg).trans u2
      have a3 := (World.cell?_of_block (a := ⟨g, k * 3 + 2, none⟩) hkg).trans u3
      have hp := HE.out.2 k hlt
      have HST : Hid (lst s (pos s (k + 1)) = lst s (pos s k) ++ (if isSt s (pos s k) then [pos s k] else [])) := lst_step s _ hp
      have HNX : Hid (isSt s (pos s (k + 1)) = decide (rn s (pos s k) = 10)) := isSt_next s _ hp
      have HPL : Hid (posL s (k + 1) = posL s k ++ [pos s k]) := posL_succ s k
      have hll := lst_len s (pos s k)
      have hml : (posL s k).length ≤ 5000 := by rw [posL_len]; omega
      clear hus u1 u2 u3 hkg
      generalize rn s (pos s k) = r at a1 HNX ⊢
      generalize wd s (pos s k) = d at a3 ⊢
      generalize lst s (pos s k) = l at hN HST hll
      generalize posL s k = mm at hN HPL hml
      generalize isSt s (pos s k) = b0 at HST ⊢
      generalize pos s k = p at a2 hp HST HPL hll ⊢
      have HN1 : Hid (NI w wU w.heap.size s.size (wr.alloc (.cells #[.int .i32 r, .int .i64 p, .int .i64 d] 58)) vl vs l mm) := hN.alloc hgx hwU _
      obtain ⟨wA, hwA⟩ : ∃ wA, wr.alloc (.cells #[.int .i32 r, .int .i64 p, .int .i64 d] 58) = wA := ⟨_, rfl⟩
      have q0 : wA.cell? ⟨wr.heap.size, 0, none⟩ = some (.int .i32 r) := by rw [← hwA]; simp
      have q1 : wA.cell? ⟨wr.heap.size, 1, none⟩ = some (.int .i64 p) := by rw [← hwA]; simp
      rw [hwA] at HN1
      obtain ⟨n0, n1, n2, f1, f2⟩ := HN1.out.cells
      have hu1 : some wr.heap.size ≠ vl.ownBlock := fun h => by have := (hN.rowL.lt _ h.symm).2; omega
      have hu2 : some wr.heap.size ≠ vs.ownBlock := fun h => by have := (hN.rowS.lt _ h.symm).2; omega
      have hwr := hN.size
      have hwA2 := hwA
      clear hwA2
      cases b0
      · have HSTx := HST
        clear HST
        have HST : Hid (lst s (pos s (k + 1)) = l) := by show lst s (pos s (k + 1)) = l; have := HSTx.out; simpa using this
        clear HSTx
        go_upto_region 8 with fail
        clear hwA
        go_cut [14] from 14 to 46 (fun iv wx => iv = .int .i64 k ∧ Hid (∃ vl3 vs3, NI w wU w.heap.size s.size wx vl3 vs3 l (mm ++ [p]) ∧ wx.cell? ⟨wr.heap.size, 0, none⟩ = some (.int .i32 r) ∧ wx.cell? ⟨wr.heap.size, 1, none⟩ = some (.int .i64 p)))
        case first =>
          obtain ⟨_, n1', n2', f1', f2'⟩ := (HN1.out.alloc hgx hwU (.cells #[.int .i64 (p : Nat)] 3)).cells
          go_region_law (refine step_append_lies _ rfl (.tmp 35) (.tmp 39) 52 rfl wU.heap.size 3 i0 _ 1 8 Tryd.underlying52 hi hz0 hz1 hz2 rfl (by decide) vs mm.length (icells mm) (by simp [Act.eval]) (by first | exact (HN1.out.alloc hgx hwU _).drew.rowS | exact ((HN1.out.drew).alloc hgx hwU _).rowS) ⟨wA.heap.size, 0, none⟩ 1 1 [.int .i64 (p : Nat)] (by simp [Act.eval]) rfl (by first | exact one_new _ _ _ | exact fun j x hj => one_new wA _ _ j x hj) (one_one _ rfl) (by decide) (by unfold maxLen; omega) (by omega) (by have := HN1.out.size; simp; omega) _ rfl ?_; intro g2 cap2 w1 hown hgrow hat hlt2; obtain ⟨m1, m2, m3, m4⟩ := NI.mid (by first | exact (HN1.out.alloc hgx hwU _).drew | exact (HN1.out.drew).alloc hgx hwU _) hgx (Or.inr rfl) hgrow)
          all_goals
            go_wp2
            go_meet
            case rel => exact ⟨rfl, ⟨_, _, NI.putS (by first | exact (HN1.out.alloc hgx hwU _).drew | exact (HN1.out.drew).alloc hgx hwU _) hgx (Nat.le_refl _) hown hgrow hat rfl, far_cell hgrow (cell_stay q0 ((Up.refl wA).alloc _).1.drew) hu2 (by show w.heap.size ≠ wr.heap.size; omega), far_cell hgrow (cell_stay q1 ((Up.refl wA).alloc _).1.drew) hu2 (by show w.heap.size ≠ wr.heap.size; omega)⟩⟩
        case rest =>
          obtain ⟨rfl, HC⟩ := hcut
          obtain ⟨vl3, vs3, hN3, c0, c1'⟩ := HC.out
          have HN3 : Hid (NI w wU w.heap.size s.size wc vl3 vs3 l (mm ++ [p])) := hN3
          clear hN3 HC n0 n1 n2 f1 f2 q0 q1
          by_cases hr : r = 10
          · subst hr
            go_wp2
            go_roundg (K - (k + 1))
            case measure => omega
            case rel => exact ⟨k + 1, by omega, rfl, by go_num, by rw [HNX.out]; rfl, ⟨vl3, vs3, by rw [HST.out, HPL.out]; exact HN3.out⟩⟩
          · go_wp2
            go_roundg (K - (k + 1))
            case measure => omega
            case rel => exact ⟨k + 1, by omega, rfl, by go_num, by rw [HNX.out, decide_eq_false hr]; simp [hr], ⟨vl3, vs3, by rw [HST.out, HPL.out]; exact HN3.out⟩⟩
      · have HSTx := HST
        clear HST
        have HST : Hid (lst s (pos s (k + 1)) = l ++ [p]) := by show lst s (pos s (k + 1)) = l ++ [p]; have := HSTx.out; simpa using this
        clear HSTx
        go_upto_region 7 with fail
        clear hwA
        go_cut [14] from 14 to 46 (fun iv wx => iv = .int .i64 k ∧ Hid (∃ vl2, NI w wU w.heap.size s.size wx vl2 vs (l ++ [p]) mm ∧ wx.cell? ⟨wr.heap.size, 0, none⟩ = some (.int .i32 r) ∧ wx.cell? ⟨wr.heap.size, 1, none⟩ = some (.int .i64 p)))
        case first =>
          obtain ⟨_, n1', n2', f1', f2'⟩ := (HN1.out.alloc hgx hwU (.cells #[.int .i64 (p : Nat)] 3)).cells
          go_region_law (refine step_append_lies _ rfl (.tmp 23) (.tmp 27) 52 rfl wU.heap.size 3 i0 _ 1 8 Tryd.underlying52 hi hz0 hz1 hz2 rfl (by decide) vl l.length (icells l) (by simp [Act.eval]) (by first | exact (HN1.out.alloc hgx hwU _).drew.rowL | exact ((HN1.out.drew).alloc hgx hwU _).rowL) ⟨wA.heap.size, 0, none⟩ 1 1 [.int .i64 (p : Nat)] (by simp [Act.eval]) rfl (by first | exact one_new _ _ _ | exact fun j x hj => one_new wA _ _ j x hj) (one_one _ rfl) (by decide) (by unfold maxLen; omega) (by omega) (by have := HN1.out.size; simp; omega) _ rfl ?_; intro g2 cap2 w1 hown hgrow hat hlt2; obtain ⟨m1, m2, m3, m4⟩ := NI.mid (by first | exact (HN1.out.alloc hgx hwU _).drew | exact (HN1.out.drew).alloc hgx hwU _) hgx (Or.inl rfl) hgrow)
          all_goals
            go_wp2
            go_meet
            case rel => exact ⟨rfl, ⟨_, NI.putL (by first | exact (HN1.out.alloc hgx hwU _).drew | exact (HN1.out.drew).alloc hgx hwU _) hgx (Nat.le_refl _) hown hgrow hat rfl, far_cell hgrow (cell_stay q0 ((Up.refl wA).alloc _).1.drew) hu1 (by show w.heap.size ≠ wr.heap.size; omega), far_cell hgrow (cell_stay q1 ((Up.refl wA).alloc _).1.drew) hu1 (by show w.heap.size ≠ wr.heap.size; omega)⟩⟩
        case rest =>
          obtain ⟨rfl, HC⟩ := hcut
          obtain ⟨vl2, hN2, q0, q1⟩ := HC.out
          clear HC n0 n1 n2 f1 f2 HN1
          have HN1 : Hid (NI w wU w.heap.size s.size wc vl2 vs (l ++ [p]) mm) := hN2
          clear hN2
          obtain ⟨n0, n1, n2, f1, f2⟩ := HN1.out.cells
          go_upto_region 8 with fail
          go_cut [14] from 14 to 46 (fun iv wx => iv = .int .i64 k ∧ Hid (∃ vl3 vs3, NI w wU w.heap.size s.size wx vl3 vs3 (l ++ [p]) (mm ++ [p]) ∧ wx.cell? ⟨wr.heap.size, 0, none⟩ = some (.int .i32 r) ∧ wx.cell? ⟨wr.heap.size, 1, none⟩ = some (.int .i64 p)))
          case first =>
            obtain ⟨_, n1', n2', f1', f2'⟩ := (HN1.out.alloc hgx hwU (.cells #[.int .i64 (p : Nat)] 3)).cells
            go_region_law (refine step_append_lies _ rfl (.tmp 35) (.tmp 39) 52 rfl wU.heap.size 3 i0 _ 1 8 Tryd.underlying52 hi hz0 hz1 hz2 rfl (by decide) vs mm.length (icells mm) (by simp [Act.eval]) (by first | exact (HN1.out.alloc hgx hwU _).drew.rowS | exact ((HN1.out.drew).alloc hgx hwU _).rowS) ⟨wc.heap.size, 0, none⟩ 1 1 [.int .i64 (p : Nat)] (by simp [Act.eval]) rfl (by first | exact one_new _ _ _ | exact fun j x hj => one_new wc _ _ j x hj) (one_one _ rfl) (by decide) (by unfold maxLen; omega) (by omega) (by have := HN1.out.size; simp; omega) _ rfl ?_; intro g2 cap2 w1 hown hgrow hat hlt2; obtain ⟨m1, m2, m3, m4⟩ := NI.mid (by first | exact (HN1.out.alloc hgx hwU _).drew | exact (HN1.out.drew).alloc hgx hwU _) hgx (Or.inr rfl) hgrow)
            all_goals
              go_wp2
              go_meet
              case rel => exact ⟨rfl, ⟨_, _, NI.putS (by first | exact (HN1.out.alloc hgx hwU _).drew | exact (HN1.out.drew).alloc hgx hwU _) hgx (Nat.le_refl _) hown hgrow hat rfl, far_cell hgrow (cell_stay q0 ((Up.refl wc).alloc _).1.drew) hu2 (by show w.heap.size ≠ wr.heap.size; omega), far_cell hgrow (cell_stay q1 ((Up.refl wc).alloc _).1.drew) hu2 (by show w.heap.size ≠ wr.heap.size; omega)⟩⟩
          case rest =>
            obtain ⟨rfl, HC⟩ := hcut
            obtain ⟨vl3, vs3, hN3, c0, c1'⟩ := HC.out
            have HN3 : Hid (NI w wU w.heap.size s.size wc vl3 vs3 (l ++ [p]) (mm ++ [p])) := hN3
            clear hN3 HC n0 n1 n2 f1 f2 q0 q1
            by_cases hr : r = 10
            · subst hr
              go_wp2
              go_roundg (K - (k + 1))
              case measure => omega
              case rel => exact ⟨k + 1, by omega, rfl, by go_num, by rw [HNX.out]; rfl, ⟨vl3, vs3, by rw [HST.out, HPL.out]; exact HN3.out⟩⟩
            · go_wp2
              go_roundg (K - (k + 1))
              case measure => omega
              case rel => exact ⟨k + 1, by omega, rfl, by go_num, by rw [HNX.out, decide_eq_false hr]; simp [hr], ⟨vl3, vs3, by rw [HST.out, HPL.out]; exact HN3.out⟩⟩
    · obtain rfl : k = K := by omega
      have hE := HE.out.1
      rw [hE] at hN
      obtain ⟨n0, n1, n2, f1, f2⟩ := hN.cells
      have HN9 : Hid (NI w wU w.heap.size s.size wr vl vs (lst s s.size) (posL s k)) := hN
      clear hN
      go_wp2
      go_ret
      have key : ∀ w2 : World, (∀ b, w.heap.size ≤ b → w2.heap[b]? = wr.heap[b]?) → Idx w2 (.pointer (some ⟨w.heap.size, 0, none⟩)) s k := fun w2 hw2 => by
        have h5 := own_far HN9.out.rowS (fun b hb => hw2 b (by omega))
        rw [posL_len] at h5
        exact ⟨HE.out, w.heap.size, vl, vs, rfl, (World.cell?_of_block (a := ⟨w.heap.size, 0, none⟩) (hw2 _ (Nat.le_refl _))).trans n0, (World.cell?_of_block (a := ⟨w.heap.size, 1, none⟩) (hw2 _ (Nat.le_refl _))).trans n1, (World.cell?_of_block (a := ⟨w.heap.size, 2, none⟩) (hw2 _ (Nat.le_refl _))).trans n2, isl_own (own_far HN9.out.rowL (fun b hb => hw2 b (by omega))) (fun i hi => S_at hi), isl_own h5 (fun i hi => by simp [posL, List.getElem?_range hi])⟩
      exact ⟨k, _, rfl, key wr (fun _ _ => rfl), key, HN9.out.below⟩
theorem new_zero_far (s : ByteArray) (ad : Option Addr) (cap : Nat) (w : World) (h0 : s.size = 0) :
    Calls Tryd.prog 9 #[.slice ad 0 cap] w fun e w' => ∃ K, ∃ v, e = .returned v ∧ Idx w' v s K ∧ (∀ w2 : World, (∀ b, w.heap.size ≤ b → w2.heap[b]? = w'.heap[b]?) → Idx w2 v s K) ∧ Below w.heap.size w w' := by
  have H0 : Hid (s.size = 0) := h0
  clear h0
  have k0 : (w.alloc (.cells #[.int .i64 0, .slice none 0 0, .slice none 0 0] 54)).cell? ⟨w.heap.size, 0, none⟩ = some (.int .i64 0) := by simp
  have k1 : (w.alloc (.cells #[.int .i64 0, .slice none 0 0, .slice none 0 0] 54)).cell? ⟨w.heap.size, 1, none⟩ = some (.slice none 0 0) := by simp
  have k2 : (w.alloc (.cells #[.int .i64 0, .slice none 0 0, .slice none 0 0] 54)).cell? ⟨w.heap.size, 2, none⟩ = some (.slice none 0 0) := by simp
  have HB : Hid (Below w.heap.size w (w.alloc (.cells #[.int .i64 0, .slice none 0 0, .slice none 0 0] 54))) := ((Up.refl w).alloc _).1
  obtain ⟨W, hW⟩ : ∃ W, w.alloc (.cells #[.int .i64 0, .slice none 0 0, .slice none 0 0] 54) = W := ⟨_, rfl⟩
  rw [hW] at HB k0 k1 k2
  have HI : Hid (∀ w2 : World, (∀ b, w.heap.size ≤ b → w2.heap[b]? = W.heap[b]?) → Idx w2 (.pointer (some ⟨w.heap.size, 0, none⟩)) s 0) := fun w2 hw2 =>
    ⟨ends_zero H0.out, w.heap.size, _, _, rfl, by rw [H0.out]; exact (World.cell?_of_block (a := ⟨w.heap.size, 0, none⟩) (hw2 _ (Nat.le_refl _))).trans k0, (World.cell?_of_block (a := ⟨w.heap.size, 1, none⟩) (hw2 _ (Nat.le_refl _))).trans k1, (World.cell?_of_block (a := ⟨w.heap.size, 2, none⟩) (hw2 _ (Nat.le_refl _))).trans k2, Or.inl ⟨none, 0, rfl, nL_zero H0.out⟩, Or.inl ⟨none, 0, rfl, rfl⟩⟩
  clear k0 k1 k2
  go_enter Tryd.func9, Tryd.ntmps9
  go_wp2_with fail
  refine (units_zero ad cap W).mono ?_
  rintro e w1 ⟨rfl, rfl⟩
  go_wp2
  go_loopg [4, 14] (0) (fun g b i wr => b = .bool true ∧ i = .int .i64 0 ∧ wr = w1)
  case atStart => exact ⟨rfl, rfl, rfl⟩
  case round =>
    obtain ⟨rfl, rfl, rfl⟩ := hrel
    go_wp2_with fail
    go_ret
    exact ⟨0, _, rfl, HI.out _ (fun _ _ => rfl), HI.out, HB.out⟩
theorem new_any_far (s : ByteArray) (v : Value) (w : World) (hs : s.size ≤ 5000) (hT : Tabs w) (h : BSl w v s) :
    Calls Tryd.prog 9 #[v] w fun e w' => ∃ K, ∃ v, e = .returned v ∧ Idx w' v s K ∧ (∀ w2 : World, (∀ b, w.heap.size ≤ b → w2.heap[b]? = w'.heap[b]?) → Idx w2 v s K) ∧ Below w.heap.size w w' := by
  rcases h with ⟨ad, c, rfl, h⟩ | ⟨b, off, c, rfl, h1, h2, h⟩
  · exact new_zero_far s ad c w h
  · exact new_far s b off c w hs h2 hT h
end Go.Proofs.YtihplafalbokdaaDoor
