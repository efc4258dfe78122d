/- TrieLimits. -/
import Derived.Test.YtdadpfjbdljpkaaDoortLim
import Derived.Test.YtdadpfjbdljpkaaDoortAwk
namespace Go.Proofs.YtdadpfjbdljpkaaDoor
set_option linter.unusedVariables false
open Go.RowKit Go.ChangeShapes
theorem infoS : (Tryd.prog.info? 9).map (fun i => (i.zero, i.size, i.bytes)) = some (some (.string ⟨#[]⟩), 1, 16) := by kernel_rfl
theorem oneCell_str (s : ByteArray) : ∀ u ∈ [Value.string s], u.oneCell' = true := by
  intro u hu
  simp at hu
  rw [hu]; rfl
theorem TL_own {w : World} {b : Nat} {v : Value} (L : List ByteArray) (h : w.ownsRow b 9 1 v L.length (L.map Value.string)) : TL w v L := by
  have h0 := h
  obtain ⟨_, ⟨rfl, h2⟩ | ⟨g, cap, cur, rfl, -⟩⟩ := h
  · refine ⟨none, 0, by rw [h2], fun j s hs => ?_⟩
    have := (List.getElem?_eq_some_iff.1 hs).1
    omega
  · refine ⟨_, _, rfl, fun j s hs => ⟨g, 0, rfl, ?_⟩⟩
    have := (List.getElem?_eq_some_iff.1 hs).1
    rw [Nat.zero_add, h0.cellAt j (by omega), List.getElem?_map, hs]; rfl
set_option maxHeartbeats 2000000 in
set_option maxRecDepth 100000 in
theorem limits_law (n k many : Int) (w : World) (hn : (Lit.int .u8 n).wf = true) (hk : (Lit.int .u8 k).wf = true) (hm : (Lit.int .u16 many).wf = true) (hT : Tabs w) :
    Calls Tryd.prog 6 #[.int .u8 n, .int .u8 k, .int .u16 many] w fun e w' => e = .returned (.bool true) ∧ Below w.heap.size w w' := by
  have e1 : IntKind.u8.min = 0 := by decide
  have e2 : IntKind.u8.max = 255 := by decide
  have e3 : IntKind.u16.min = 0 := by decide
  have e4 : IntKind.u16.max = 65535 := by decide
  simp only [Lit.wf, Bool.and_eq_true, decide_eq_true_eq, e1, e2, e3, e4] at hn hk hm
  clear e1 e2 e3 e4
  have ca := awake_any w hT
  have HT : Hid (Tabs w) := hT
  clear hT
  obtain ⟨i5, hi5, hz0, hz1, hz2⟩ := info_parts info5
  obtain ⟨i9, hi9, hy0, hy1, hy2⟩ := info_parts infoS
  obtain ⟨N, rfl⟩ : ∃ N : Nat, n = (N : Int) := ⟨n.toNat, by omega⟩
  obtain ⟨c, hc, hc1⟩ : ∃ c : Int, 97 + k % 26 = c ∧ 97 ≤ c ∧ c ≤ 122 := ⟨_, rfl, by omega, by omega⟩
  obtain ⟨M, hM, hM1⟩ : ∃ M : Nat, (4000 : Int) + many % 200 = (M : Int) ∧ M ≤ 4199 := ⟨(4000 + many % 200).toNat, by omega, by omega⟩
  have hN : N ≤ 255 := by omega
  go_enter Tryd.func6, Tryd.ntmps6
  go_wp2_with fail
  refine ca.mono ?_
  rintro e w1 ⟨rfl, hb1⟩
  have HU1 : Hid (Up w.heap.size w w1) := (Up.refl w).stay hb1
  clear ca hb1
  have hmk := run_make (P := Tryd.prog) w1 47 5 i5 _ Tryd.underlying47 hi5 hz0 .u8 .u8 (N : Int) (N : Int) (by omega) (by omega) (by rw [hz2]; omega) (by omega)
  rw [hz1, Int.toNat_natCast, Nat.mul_one] at hmk
  go_upto_region 4 with fail
  have hO := World.ownsRow_lit (base := w1.heap.size) (e := 5) (size := 1) w1 (madeCells #[.int .u8 0] N) N (Nat.le_refl _) (by unfold maxLen; omega) (by rw [size_madeCells, Nat.mul_one])
  have hU2 : Up w.heap.size w (w1.alloc (.cells (madeCells #[.int .u8 0] N) 5)) := HU1.out.alloc _
  have hlo : w.heap.size ≤ w1.heap.size := HU1.out.2
  generalize w1.alloc (.cells (madeCells #[.int .u8 0] N) 5) = w2 at *
  generalize w1.heap.size = B at *
  have HO2 : Hid (w2.ownsRow B 5 1 (.slice (some ⟨B, 0, none⟩) N N) N (madeCells #[.int .u8 0] N).toList) := hO
  have HU2 : Hid (Up w.heap.size w w2) := hU2
  clear hO hU2 hmk
  go_wp2
  go_loopg [22] N (fun g ix wr => ∃ (j : Nat) (xs : List Value), j ≤ N ∧ g = N - j ∧ ix = .int .i64 j ∧ Hid (wr.ownsRow B 5 1 (.slice (some ⟨B, 0, none⟩) N N) N xs) ∧ Hid (∀ q, q < j → xs[q]? = some (.int .u8 c)) ∧ Hid (Up w.heap.size w wr))
  case atStart => exact ⟨0, _, Nat.zero_le _, rfl, rfl, HO2, (fun q hq => absurd hq (Nat.not_lt_zero q)), HU2⟩
  case round =>
    obtain ⟨j, xs, hj, hg, rfl, HO, HX, HU⟩ := hrel
    have hxl : xs.length ≤ N ∧ N ≤ xs.length := by have := HO.out.1; omega
    by_cases hlt : j < N
    · have z1 : ((j : Nat) : Int) < (N : Int) := by omega
      have z2 : (0 : Int) ≤ (j : Int) := by omega
      have d1 : wr.cell? ⟨B, j, none⟩ = some (xs[j]'(by omega)) := by rw [HO.out.cellAt j (by omega), List.getElem?_eq_getElem (by omega)]
      have f1 := HO.out.frozenAt j
      obtain ⟨HS, _⟩ := HO.out.stored j (.int .u8 c)
      have HS' : Hid ((wr.setCell ⟨B, j, none⟩ (.int .u8 c)).ownsRow B 5 1 (.slice (some ⟨B, 0, none⟩) N N) N (xs.set j (.int .u8 c))) := HS
      generalize xs[j]'(by omega) = y at d1
      clear HS
      go_wp2
      go_roundg (N - (j + 1))
      case measure => omega
      case rel =>
        refine ⟨j + 1, xs.set j (.int .u8 c), by omega, rfl, by go_num, HS', ?_, HU.out.setCell (p := ⟨B, j, none⟩) hlo _⟩
        intro q hq
        rw [List.getElem?_set]
        by_cases e : j = q
        · subst e
          rw [if_pos rfl, if_pos (by omega)]
        · rw [if_neg e]; exact HX.out q (by omega)
    · obtain rfl : j = N := by omega
      have hxs : xs = cellsOf (List.replicate j c) := by
        apply List.ext_getElem?
        intro q
        by_cases hq : q < j
        · rw [HX.out q hq]; simp [cellsOf, hq]
        · rw [List.getElem?_eq_none (by omega), List.getElem?_eq_none (by simp [cellsOf]; omega)]
      have hcv : (convert 47 9 (.slice (some ⟨B, 0, none⟩) j j)).run Tryd.prog wr = .ok (.string (strOfNums (List.replicate j c))) wr := own_text (by rw [← hxs]; exact HO.out)
      have hsm : SmL (List.replicate j c) := fun b hb => by rw [List.eq_of_mem_replicate hb]; exact hc1
      have hone := make_one (List.replicate j c) hsm
      rw [List.length_replicate] at hone
      have hsz : (strOfNums (List.replicate j c)).size ≤ 1000000 := by rw [strOfNums_size, List.length_replicate]; omega
      generalize strOfNums (List.replicate j c) = s at *
      clear hsm hxs HX hxl HO2 HU2 HO
      have hl1 := World.ownsRow_lit (base := wr.heap.size) (e := 9) (size := 1) wr #[.string s] 1 (Nat.le_refl _) (by unfold maxLen; omega) rfl
      have hb4 : Up w.heap.size w (wr.alloc (.cells #[.string s] 9)) := HU.out.alloc _
      have cm := make_any (wr.alloc (.cells #[.string s] 9)) (tabs_stay HT.out hb4.1) _ [s] (TL_own [s] hl1) (by simp) (by intro x hx; simp at hx; subst hx; exact hsz)
      have HONE : Hid ((makeP [s]).1 = 0 ↔ 0 < j ∧ j ≤ 64) := hone
      clear hl1 hsz hone
      go_wp2_with fail
      refine cm.mono ?_
      clear cm hcv
      have HU4 : Hid (Up w.heap.size w (wr.alloc (.cells #[.string s] 9))) := hb4
      clear hb4
      rintro e w5 ⟨hb5, hres⟩
      have HU5 : Hid (Up w.heap.size w w5) := HU4.out.stay hb5
      obtain ⟨p, z, rfl, hpz⟩ : ∃ (p : Option Addr) (z : Int), e = .returned (.tuple #[.pointer p, .int .i64 z]) ∧ Hid ((0 < j ∧ j ≤ 64 ∧ p.isSome = true ∧ z = 0) ∨ (¬ (0 < j ∧ j ≤ 64) ∧ p = none ∧ ¬ z = 0)) := by
        rcases hres with ⟨h1, h2⟩ | ⟨h1, vN, l, h2, _⟩
        · exact ⟨_, _, h2, Or.inr ⟨fun h => h1 (HONE.out.2 h), rfl, h1⟩⟩
        · have := HONE.out.1 h1
          exact ⟨_, _, h2, Or.inl ⟨this.1, this.2, rfl, rfl⟩⟩
      clear hres hb5 HONE HU4
      have hmM : 0 ≤ many % 200 ∧ many % 200 < 200 := by omega
      by_cases h0 : 0 < j
      · go_upto_region 11 with fail
        obtain ⟨b, hb⟩ : ∃ b, decide ((j : Int) ≤ 64) = b := ⟨_, rfl⟩
        rw [hb]
        have HB : Hid ((b = true ∧ p.isSome = true ∧ z = 0) ∨ (b = false ∧ p = none ∧ ¬ z = 0)) := by
          rcases hpz.out with ⟨_, h2, h3, h4⟩ | ⟨h1, h2, h3⟩
          · exact Or.inl ⟨by rw [← hb, decide_eq_true_iff]; omega, h3, h4⟩
          · refine Or.inr ⟨?_, h2, h3⟩
            rw [← hb, decide_eq_false_iff_not]
            omega
        clear hb hpz hn hc hc1 hlt hg hj hlo
        go_wp2_with fail
        (try rw [hM])
        clear h0 hN
        go_loopg [12, 49] M (fun g lv iv wr => ∃ (i : Nat), i ≤ M ∧ g = M - i ∧ iv = .int .i64 i ∧ Hid (wr.ownsRow w5.heap.size 9 1 lv i ((List.range i).map fun q => Value.string (strOfNums (wT q)))) ∧ Hid (Up w.heap.size w wr) ∧ Hid (w5.heap.size ≤ wr.heap.size))
        case atStart => exact ⟨0, Nat.zero_le _, rfl, rfl, World.ownsRow_nil _ _ _ _, HU5, Nat.le_refl _⟩
        case round =>
          obtain ⟨i, hiM, hgh, rfl, HO, HUq, HS⟩ := hrel
          clear HU hM hmM hm hk
          by_cases hlt : i < M
          · have z1 : ((i : Nat) : Int) < (M : Int) := by omega
            have z2 : (0 : Int) ≤ (i : Int) := by omega
            have hl5 := World.ownsRow_lit (base := wr.heap.size) (e := 5) (size := 1) wr #[.int .u8 (97 + (i : Int) / 676 % 26), .int .u8 (97 + (i : Int) / 26 % 26), .int .u8 (97 + (i : Int) % 26)] 3 (Nat.le_refl _) (by unfold maxLen; omega) rfl
            have hcv : (convert 47 9 (.slice (some ⟨wr.heap.size, 0, none⟩) 3 3)).run Tryd.prog (wr.alloc (.cells #[.int .u8 (97 + (i : Int) / 676 % 26), .int .u8 (97 + (i : Int) / 26 % 26), .int .u8 (97 + (i : Int) % 26)] 5)) = .ok (.string (strOfNums (wT i))) _ := own_text (l := wT i) hl5
            clear hl5
            have hS := HS.out
            have hnw : ∀ (q : Nat) (u : Value), [Value.string (strOfNums (wT i))][q]? = some u → ((wr.alloc (.cells #[.int .u8 (97 + (i : Int) / 676 % 26), .int .u8 (97 + (i : Int) / 26 % 26), .int .u8 (97 + (i : Int) % 26)] 5)).alloc (.cells #[.string (strOfNums (wT i))] 9)).cell? ((⟨wr.heap.size + 1, 0, none⟩ : Addr).add q) = some u := by
              have h7 := heap_alloc_new (wr.alloc (.cells #[.int .u8 (97 + (i : Int) / 676 % 26), .int .u8 (97 + (i : Int) / 26 % 26), .int .u8 (97 + (i : Int) % 26)] 5)) (.cells #[.string (strOfNums (wT i))] 9)
              rw [World.size_alloc] at h7
              exact World.news_of_block h7
            have HNW : Hid _ := hnw
            clear hnw
            go_wp2_with (at_builtin; refine wpList_append_own _ rfl _ _ 22 rfl w5.heap.size 9 i9 _ 1 16 Tryd.underlying22 hi9 hy0 hy1 hy2 rfl (by decide) _ _ _ rfl ((HO.out.alloc _).alloc _) ⟨wr.heap.size + 1, 0, none⟩ 1 1 [.string (strOfNums (wT i))] rfl rfl HNW.out (oneCell_str _) (by unfold maxLen; omega) (by omega) (by simp; omega) ?_)
            intro v8 w8 ho8 hg8 _
            have HO8 : Hid (w8.ownsRow w5.heap.size 9 1 v8 (i + 1) ((List.range (i + 1)).map fun q => Value.string (strOfNums (wT q)))) := by
              show w8.ownsRow _ _ _ _ _ _
              rw [List.range_succ, List.map_append]
              exact ho8
            have HU8 : Hid (Up w.heap.size w w8) := ((HUq.out.alloc _).alloc _).grown hg8 (fun q hq => Nat.le_trans HU5.out.2 (own_base HO.out q hq))
            have HS8 : Hid (w5.heap.size ≤ w8.heap.size) := by
              have := hg8.size
              simp at this
              show w5.heap.size ≤ w8.heap.size
              omega
            clear ho8 hg8 HNW hcv
            go_wp2
            go_roundg (M - (i + 1))
            case measure => omega
            case rel => exact ⟨i + 1, by omega, rfl, by go_num, HO8, HU8, HS8⟩
          · obtain rfl : i = M := by omega
            have hLn : ((List.range i).map fun q => strOfNums (wT q)).length = i := by simp
            have HO' : wr.ownsRow w5.heap.size 9 1 u12 ((List.range i).map fun q => strOfNums (wT q)).length (((List.range i).map fun q => strOfNums (wT q)).map Value.string) := by
              rw [hLn, List.map_map]
              exact HO.out
            obtain ⟨al, cl, hu12⟩ := own_slice HO.out
            have cm := make_any wr (tabs_stay HT.out HUq.out.1) u12 _ (TL_own _ HO') (by rw [hLn]; omega) (by intro x hx; obtain ⟨q, _, rfl⟩ := List.mem_map.1 hx; rw [strOfNums_size]; show (3 : Nat) ≤ 1000000; omega)
            rw [make_list i (by omega), hLn] at cm
            clear HO' hLn HO
            subst hu12
            by_cases h4 : i ≤ 4096
            · rw [if_pos h4] at cm
              go_wp2_with fail
              refine cm.mono ?_
              clear cm
              rintro e w7 ⟨hb7, ⟨h, _⟩ | ⟨_, vN, l, rfl, hM7, -⟩⟩
              · exact absurd rfl h
              · have cl7 := len_any hM7
                have HU7 : Hid (Up w.heap.size w w7) := HUq.out.stay hb7
                have z1 : ((i : Nat) : Int) ≤ 4096 := by omega
                clear hM7 hb7
                rcases HB.out with ⟨hb1, hb2, hb3⟩ | ⟨hb1, hb2, hb3⟩
                · subst hb1 hb3
                  obtain ⟨pa, rfl⟩ := Option.isSome_iff_exists.1 hb2
                  go_wp2_with fail
                  refine cl7.mono ?_
                  rintro e w8 ⟨rfl, hw8⟩
                  subst w8
                  clear cl7
                  go_wp2
                  go_ret
                  exact ⟨rfl, HU7.out.1⟩
                · have hz0' : (z == 0) = false := by simpa using hb3
                  subst hb2
                  subst hb1
                  go_wp2_with fail
                  refine cl7.mono ?_
                  rintro e w8 ⟨rfl, hw8⟩
                  subst w8
                  clear cl7
                  go_wp2
                  go_ret
                  exact ⟨rfl, HU7.out.1⟩
            · rw [if_neg h4] at cm
              go_wp2_with fail
              refine cm.mono ?_
              clear cm
              rintro e w7 ⟨hb7, ⟨_, rfl⟩ | ⟨h, _⟩⟩
              · have HU7 : Hid (Up w.heap.size w w7) := HUq.out.stay hb7
                have z1 : ¬ ((i : Nat) : Int) ≤ 4096 := by omega
                have hd : decide (((i : Nat) : Int) ≤ 4096) = false := decide_eq_false z1
                clear hb7
                rcases HB.out with ⟨hb1, hb2, hb3⟩ | ⟨hb1, hb2, hb3⟩
                · subst hb1 hb3
                  obtain ⟨pa, rfl⟩ := Option.isSome_iff_exists.1 hb2
                  go_wp2
                  go_ret
                  exact ⟨by first | rfl | (rw [hd]; rfl) | (simp [hd]), HU7.out.1⟩
                · have hz0' : (z == 0) = false := by simpa using hb3
                  subst hb2
                  subst hb1
                  go_wp2
                  go_ret
                  exact ⟨by first | rfl | (rw [hd]; rfl) | (simp [hd]), HU7.out.1⟩
              · exact absurd h (by decide)
      · go_upto_region 11 with fail
        obtain ⟨b, hb⟩ : ∃ b, false = b := ⟨_, rfl⟩
        have HB : Hid ((false = true ∧ p.isSome = true ∧ z = 0) ∨ (false = false ∧ p = none ∧ ¬ z = 0)) := by
          rcases hpz.out with ⟨h1, _⟩ | ⟨h1, h2, h3⟩
          · exact absurd h1 h0
          · exact Or.inr ⟨rfl, h2, h3⟩
        clear hb hpz hn hc hc1 hlt hg hj hlo
        go_wp2_with fail
        (try rw [hM])
        clear h0 hN
        go_loopg [12, 49] M (fun g lv iv wr => ∃ (i : Nat), i ≤ M ∧ g = M - i ∧ iv = .int .i64 i ∧ Hid (wr.ownsRow w5.heap.size 9 1 lv i ((List.range i).map fun q => Value.string (strOfNums (wT q)))) ∧ Hid (Up w.heap.size w wr) ∧ Hid (w5.heap.size ≤ wr.heap.size))
        case atStart => exact ⟨0, Nat.zero_le _, rfl, rfl, World.ownsRow_nil _ _ _ _, HU5, Nat.le_refl _⟩
        case round =>
          obtain ⟨i, hiM, hgh, rfl, HO, HUq, HS⟩ := hrel
          clear HU hM hmM hm hk
          by_cases hlt : i < M
          · have z1 : ((i : Nat) : Int) < (M : Int) := by omega
            have z2 : (0 : Int) ≤ (i : Int) := by omega
            have hl5 := World.ownsRow_lit (base := wr.heap.size) (e := 5) (size := 1) wr #[.int .u8 (97 + (i : Int) / 676 % 26), .int .u8 (97 + (i : Int) / 26 % 26), .int .u8 (97 + (i : Int) % 26)] 3 (Nat.le_refl _) (by unfold maxLen; omega) rfl
            have hcv : (convert 47 9 (.slice (some ⟨wr.heap.size, 0, none⟩) 3 3)).run Tryd.prog (wr.alloc (.cells #[.int .u8 (97 + (i : Int) / 676 % 26), .int .u8 (97 + (i : Int) / 26 % 26), .int .u8 (97 + (i : Int) % 26)] 5)) = .ok (.string (strOfNums (wT i))) _ := own_text (l := wT i) hl5
            clear hl5
            have hS := HS.out
            have hnw : ∀ (q : Nat) (u : Value), [Value.string (strOfNums (wT i))][q]? = some u → ((wr.alloc (.cells #[.int .u8 (97 + (i : Int) / 676 % 26), .int .u8 (97 + (i : Int) / 26 % 26), .int .u8 (97 + (i : Int) % 26)] 5)).alloc (.cells #[.string (strOfNums (wT i))] 9)).cell? ((⟨wr.heap.size + 1, 0, none⟩ : Addr).add q) = some u := by
              have h7 := heap_alloc_new (wr.alloc (.cells #[.int .u8 (97 + (i : Int) / 676 % 26), .int .u8 (97 + (i : Int) / 26 % 26), .int .u8 (97 + (i : Int) % 26)] 5)) (.cells #[.string (strOfNums (wT i))] 9)
              rw [World.size_alloc] at h7
              exact World.news_of_block h7
            have HNW : Hid _ := hnw
            clear hnw
            go_wp2_with (at_builtin; refine wpList_append_own _ rfl _ _ 22 rfl w5.heap.size 9 i9 _ 1 16 Tryd.underlying22 hi9 hy0 hy1 hy2 rfl (by decide) _ _ _ rfl ((HO.out.alloc _).alloc _) ⟨wr.heap.size + 1, 0, none⟩ 1 1 [.string (strOfNums (wT i))] rfl rfl HNW.out (oneCell_str _) (by unfold maxLen; omega) (by omega) (by simp; omega) ?_)
            intro v8 w8 ho8 hg8 _
            have HO8 : Hid (w8.ownsRow w5.heap.size 9 1 v8 (i + 1) ((List.range (i + 1)).map fun q => Value.string (strOfNums (wT q)))) := by
              show w8.ownsRow _ _ _ _ _ _
              rw [List.range_succ, List.map_append]
              exact ho8
            have HU8 : Hid (Up w.heap.size w w8) := ((HUq.out.alloc _).alloc _).grown hg8 (fun q hq => Nat.le_trans HU5.out.2 (own_base HO.out q hq))
            have HS8 : Hid (w5.heap.size ≤ w8.heap.size) := by
              have := hg8.size
              simp at this
              show w5.heap.size ≤ w8.heap.size
              omega
            clear ho8 hg8 HNW hcv
            go_wp2
            go_roundg (M - (i + 1))
            case measure => omega
            case rel => exact ⟨i + 1, by omega, rfl, by go_num, HO8, HU8, HS8⟩
          · obtain rfl : i = M := by omega
            have hLn : ((List.range i).map fun q => strOfNums (wT q)).length = i := by simp
            have HO' : wr.ownsRow w5.heap.size 9 1 u12 ((List.range i).map fun q => strOfNums (wT q)).length (((List.range i).map fun q => strOfNums (wT q)).map Value.string) := by
              rw [hLn, List.map_map]
              exact HO.out
            obtain ⟨al, cl, hu12⟩ := own_slice HO.out
            have cm := make_any wr (tabs_stay HT.out HUq.out.1) u12 _ (TL_own _ HO') (by rw [hLn]; omega) (by intro x hx; obtain ⟨q, _, rfl⟩ := List.mem_map.1 hx; rw [strOfNums_size]; show (3 : Nat) ≤ 1000000; omega)
            rw [make_list i (by omega), hLn] at cm
            clear HO' hLn HO
            subst hu12
            by_cases h4 : i ≤ 4096
            · rw [if_pos h4] at cm
              go_wp2_with fail
              refine cm.mono ?_
              clear cm
              rintro e w7 ⟨hb7, ⟨h, _⟩ | ⟨_, vN, l, rfl, hM7, -⟩⟩
              · exact absurd rfl h
              · have cl7 := len_any hM7
                have HU7 : Hid (Up w.heap.size w w7) := HUq.out.stay hb7
                have z1 : ((i : Nat) : Int) ≤ 4096 := by omega
                clear hM7 hb7
                rcases HB.out with ⟨hb1, hb2, hb3⟩ | ⟨hb1, hb2, hb3⟩
                · exact absurd hb1 Bool.false_ne_true
                · have hz0' : (z == 0) = false := by simpa using hb3
                  subst hb2
                  clear hb1
                  go_wp2_with fail
                  refine cl7.mono ?_
                  rintro e w8 ⟨rfl, hw8⟩
                  subst w8
                  clear cl7
                  go_wp2
                  go_ret
                  exact ⟨rfl, HU7.out.1⟩
            · rw [if_neg h4] at cm
              go_wp2_with fail
              refine cm.mono ?_
              clear cm
              rintro e w7 ⟨hb7, ⟨_, rfl⟩ | ⟨h, _⟩⟩
              · have HU7 : Hid (Up w.heap.size w w7) := HUq.out.stay hb7
                have z1 : ¬ ((i : Nat) : Int) ≤ 4096 := by omega
                have hd : decide (((i : Nat) : Int) ≤ 4096) = false := decide_eq_false z1
                clear hb7
                rcases HB.out with ⟨hb1, hb2, hb3⟩ | ⟨hb1, hb2, hb3⟩
                · exact absurd hb1 Bool.false_ne_true
                · have hz0' : (z == 0) = false := by simpa using hb3
                  subst hb2
                  clear hb1
                  go_wp2
                  go_ret
                  exact ⟨by first | rfl | (rw [hd]; rfl) | (simp [hd]), HU7.out.1⟩
              · exact absurd h (by decide)
end Go.Proofs.YtdadpfjbdljpkaaDoor
