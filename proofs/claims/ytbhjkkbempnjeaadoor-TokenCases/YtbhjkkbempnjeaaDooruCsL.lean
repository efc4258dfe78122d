/- TokenCases. -/
import Derived.Test.YtbhjkkbempnjeaaDooruCsQ
import Derived.Test.YtbhjkkbempnjeaaDoorPkUShelfD4
import Derived.Lib.SmallJoins
namespace Go.Proofs.YtbhjkkbempnjeaaDoor
set_option linter.unusedVariables false
open Go.RowKit Go.ChangeShapes
/-- Bytes that lie where a slice points. -/
def BR (w : World) (v : Value) (zs : List Nat) : Prop := ∃ ad c, v = .slice ad zs.length c ∧ ∀ (j : Nat) (x : Nat), zs[j]? = some x → x ≤ 255 ∧ ∃ b off, ad = some ⟨b, off, none⟩ ∧ w.cell? ⟨b, off + j, none⟩ = some (.int .u8 (x : Int))
theorem BR.stay {w w' : World} {v : Value} {zs : List Nat} (h : BR w v zs) (hb : Below w.heap.size w w') : BR w' v zs := by
  obtain ⟨ad, c, e, h⟩ := h
  refine ⟨ad, c, e, fun j x hx => ?_⟩
  obtain ⟨h0, b, off, e1, e2⟩ := h j x hx
  exact ⟨h0, b, off, e1, cell_stay e2 hb⟩
/-- Rows of bytes. -/
def BRR (w : World) (v : Value) (Z : List (List Nat)) : Prop := ∃ ad c, v = .slice ad Z.length c ∧ ∀ (j : Nat) (zs : List Nat), Z[j]? = some zs → zs.length ≤ maxLen ∧ ∃ b off u, ad = some ⟨b, off, none⟩ ∧ w.cell? ⟨b, off + j, none⟩ = some u ∧ BR w u zs
theorem BRR.stay {w w' : World} {v : Value} {Z : List (List Nat)} (h : BRR w v Z) (hb : Below w.heap.size w w') : BRR w' v Z := by
  obtain ⟨ad, c, e, h⟩ := h
  refine ⟨ad, c, e, fun j x hx => ?_⟩
  obtain ⟨h0, b, off, u, e1, e2, e3⟩ := h j x hx
  exact ⟨h0, b, off, u, e1, cell_stay e2 hb, e3.stay hb⟩
/-- The word that bytes stand for. -/
def wdN (zs : List Nat) : List Int := (zs.take 7).map fun x => ((97 + x % 26 : Nat) : Int)
theorem wdN_len (zs : List Nat) : (wdN zs).length ≤ 7 := by
  unfold wdN
  rw [List.length_map, List.length_take]
  omega
theorem wdN_sm (zs : List Nat) : SmL (wdN zs) := by
  intro r hr
  obtain ⟨x, _, rfl⟩ := List.mem_map.1 hr
  have := Nat.mod_lt x (show 0 < 26 by decide)
  omega
theorem wdN_more {zs : List Nat} {j x : Nat} (h : zs[j]? = some x) (hj : j < 7) : wdN (zs.take (j + 1)) = wdN (zs.take j) ++ [((97 + x % 26 : Nat) : Int)] := by
  unfold wdN
  rw [List.take_take, Nat.min_eq_right (by omega), List.take_take, Nat.min_eq_right (by omega), List.take_add_one, h]
  simp
theorem wdN_same {zs : List Nat} {j : Nat} (hj : 7 ≤ j) : wdN (zs.take (j + 1)) = wdN (zs.take j) := by
  unfold wdN
  rw [List.take_take, Nat.min_eq_left (by omega), List.take_take, Nat.min_eq_left hj]
/-- A word in a case. -/
def cw (κ : Nat) (w : List Int) : List Int := if κ = 0 then wrL 2 w else if κ = 1 then w else wrL 3 w
/-- The words that are kept. -/
def kept (Z : List (List Nat)) : List (List Int) := ((Z.take 10).map wdN).filter fun w => decide (1 < w.length)
theorem as_sg {A : List Int} (h : AsL A) : sg (strOfNums A) A.length = A := by
  rw [← as_tx h]
  exact tx_sg A (as_Ok h)
theorem sm_as {w : List Int} (h : SmL w) : AsL w := fun x hx => by have := h x hx; omega
theorem wr2_as {w : List Int} (h : SmL w) : AsL (wrL 2 w) := by
  have := as_fst (W := [w]) (fun x hx => by rw [List.mem_singleton] at hx; subst hx; exact h)
  intro x hx
  exact this x (by show x ∈ wrL 2 w ++ []; rw [List.append_nil]; exact hx)
theorem wr3_gr {w : List Int} (h : SmL w) : ∀ x ∈ wrL 3 w, gB x = true ∧ 0 ≤ x ∧ x < 128 := by
  intro x hx
  obtain ⟨i, hi⟩ := List.mem_iff_getElem?.1 hx
  have hil := (List.getElem?_eq_some_iff.1 hi).1
  rw [wrL_len] at hil
  rw [List.getElem?_eq_getElem (by rw [wrL_len]; exact hil), wr_great h i hil] at hi
  have hi := Option.some.inj hi
  have h1 := h _ (List.getElem_mem hil)
  rw [← hi]
  exact ⟨gr_gB h1, by omega, by omega⟩
theorem wr3_as {w : List Int} (h : SmL w) : AsL (wrL 3 w) := fun x hx => (wr3_gr h x hx).2
theorem kept_snoc {Z : List (List Nat)} {i : Nat} {zs : List Nat} (h : Z[i]? = some zs) (hi : i < 10) : kept (Z.take (i + 1)) = kept (Z.take i) ++ (if 1 < (wdN zs).length then [wdN zs] else []) := by
  unfold kept
  rw [List.take_take, Nat.min_eq_right (by omega), List.take_take, Nat.min_eq_right (by omega), List.take_add_one, h]
  simp only [Option.toList_some, List.map_append, List.map_cons, List.map_nil, List.filter_append]
  congr 1
  by_cases h1 : 1 < (wdN zs).length
  · rw [if_pos h1, List.filter_cons_of_pos (by simpa using h1)]
    rfl
  · rw [if_neg h1, List.filter_cons_of_neg (by simpa using h1)]
    rfl
theorem kept_same {Z : List (List Nat)} {i : Nat} (hi : 10 ≤ i) : kept (Z.take (i + 1)) = kept (Z.take i) := by
  unfold kept
  rw [List.take_take, Nat.min_eq_left (by omega), List.take_take, Nat.min_eq_left hi]
theorem kept_mem {Z : List (List Nat)} : ∀ w ∈ kept Z, SmL w ∧ 2 ≤ w.length ∧ w.length ≤ 7 := by
  intro w hw
  unfold kept at hw
  obtain ⟨h1, h2⟩ := List.mem_filter.1 hw
  obtain ⟨zs, _, rfl⟩ := List.mem_map.1 h1
  exact ⟨wdN_sm zs, by have := of_decide_eq_true h2; omega, wdN_len zs⟩
theorem kept_len (Z : List (List Nat)) : (kept Z).length ≤ 10 := by
  unfold kept
  refine Nat.le_trans (List.length_filter_le _ _) ?_
  rw [List.length_map, List.length_take]
  omega
theorem cw_len (κ : Nat) (w : List Int) : (cw κ w).length = w.length := by
  unfold cw
  split
  · exact wrL_len 2 w
  · split
    · rfl
    · exact wrL_len 3 w
theorem cas_len {κ : Nat} : ∀ (W : List (List Int)), (∀ w ∈ W, w.length ≤ 7) → (W.flatMap (cw κ)).length ≤ W.length * 7
  | [], _ => Nat.le_refl _
  | w :: W, h => by
    rw [List.flatMap_cons, List.length_append, cw_len, List.length_cons]
    have h1 := h w (List.mem_cons_self ..)
    have h2 := cas_len (κ := κ) W (fun x hx => h x (List.mem_cons_of_mem _ hx))
    omega
theorem all_size (κ : Nat) (Z : List (List Nat)) : (strOfNums ((kept Z).flatMap (cw κ))).size ≤ 70 := by
  rw [strOfNums_size]
  have h1 := cas_len (κ := κ) (kept Z) (fun w hw => (kept_mem w hw).2.2)
  have h2 := kept_len Z
  omega
theorem cas_as (κ : Nat) {W : List (List Int)} (hW : ∀ w ∈ W, SmL w) : AsL (W.flatMap (cw κ)) := by
  intro x hx
  obtain ⟨w, hw, hx⟩ := List.mem_flatMap.1 hx
  have h := hW w hw
  unfold cw at hx
  split at hx
  · exact wr2_as h x hx
  · split at hx
    · exact sm_as h x hx
    · exact wr3_as h x hx
theorem cas_case {κ : Nat} (hκ : κ ≠ 0) {W : List (List Int)} (hW : ∀ w ∈ W, SmL w) : (∀ x ∈ W.flatMap (cw κ), sB x = true) ∨ ∀ x ∈ W.flatMap (cw κ), gB x = true := by
  by_cases h1 : κ = 1
  · left
    intro x hx
    obtain ⟨w, hw, hx⟩ := List.mem_flatMap.1 hx
    unfold cw at hx
    rw [if_neg hκ, if_pos h1] at hx
    exact sm_sB (hW w hw x hx)
  · right
    intro x hx
    obtain ⟨w, hw, hx⟩ := List.mem_flatMap.1 hx
    unfold cw at hx
    rw [if_neg hκ, if_neg h1] at hx
    exact (wr3_gr (hW w hw) x hx).1
theorem cas_ne {κ : Nat} {W : List (List Int)} (hW : ∀ w ∈ W, 2 ≤ w.length) (h : W ≠ []) : W.flatMap (cw κ) ≠ [] := by
  cases W with
  | nil => exact absurd rfl h
  | cons w W =>
    intro e
    have h1 := congrArg List.length e
    rw [List.flatMap_cons, List.length_append, cw_len, List.length_nil] at h1
    have := hW w (List.mem_cons_self ..)
    omega
/-- What Words answers of the words that are put together. -/
theorem words_cas {κ : Nat} {W : List (List Int)} (hW : ∀ w ∈ W, SmL w ∧ 2 ≤ w.length ∧ w.length ≤ 7) (hW10 : W.length ≤ 10) {F : List Int} (hF : W.flatMap (cw κ) = F) {c : Nat → Int} {n : Nat} {L : List W4}
    (hL : wordsL c n (unS (strOfNums F) F.length) 1 1000 = L) : (W = [] → L = []) ∧ (W ≠ [] → κ ≠ 0 → L.map W4.t = [strOfNums F]) ∧ (W ≠ [] → κ = 0 → L.map W4.t = W.map fun w => strOfNums (wrL 2 w)) := by
  subst hL
  subst hF
  refine ⟨fun h => ?_, fun h hκ => ?_, fun h hκ => ?_⟩
  · subst h
    rfl
  · have h7 := cas_len (κ := κ) W (fun w hw => (hW w hw).2.2)
    exact words_one (cas_as κ fun w hw => (hW w hw).1) (cas_ne (fun w hw => (hW w hw).2.1) h) (by omega) (cas_case hκ fun w hw => (hW w hw).1)
  · subst hκ
    exact words_fst hW h
theorem foldw_any {w : List Int} (h : SmL w) (hl : w.length ≤ 7) (W : World) (hT : Tns.Tabs W) : Calls Tryd.prog 24 #[.string (strOfNums (wrL 2 w))] W fun e w' => e = .returned (.string (strOfNums w)) ∧ Below W.heap.size W w' := by
  have h1 := Tns.fold_any (strOfNums (wrL 2 w)) (wrL 2 w).length W (by rw [strOfNums_size, wrL_len]; omega) hT (as_ends (wr2_as h))
  rw [as_sg (wr2_as h), wrL_twice, wr_sm w h, as_tx (sm_as h)] at h1
  exact h1
theorem info9S : (Tryd.prog.info? 9).map (fun i => (i.zero, i.size, i.bytes)) = some (some (.string ByteArray.empty), 1, 16) := by kernel_rfl
/-- As answers of a word of small letters. -/
theorem asw_any (c : Int) {w : List Int} (h : SmL w) (hl : w.length ≤ 7) (W : World) (hT : Tns.Tabs W) : Calls Tryd.prog 23 #[.int .u8 c, .string (strOfNums w)] W fun e w' => e = .returned (.string (tx (wrL c w))) ∧ Below W.heap.size W w' := by
  have h1 := Tns.as_any c (strOfNums w) w.length W (by rw [strOfNums_size]; omega) hT (as_ends (sm_as h))
  rw [as_sg (sm_as h)] at h1
  exact h1
set_option maxRecDepth 100000 in
set_option maxHeartbeats 8000000 in
theorem cases_law (WO : WordsOk) {w : World} (hT : Lns.Tabs w) (hT2 : Tns.Tabs w) {v : Value} {Z : List (List Nat)} (hZ : BRR w v Z) (hZm : Z.length ≤ maxLen) {q : Nat} (hq : q < 256) :
    Calls Tryd.prog 6 #[v, .int .u8 (q : Nat)] w fun ev w' => ev = .returned (.bool true) ∧ Below w.heap.size w w' := by
  have HZ : Hid (BRR w v Z) := hZ
  have HT : Hid (Lns.Tabs w ∧ Tns.Tabs w) := ⟨hT, hT2⟩
  have HO : Hid WordsOk := WO
  have ca := awake_any WO w hT
  obtain ⟨A, C, rfl, -⟩ := hZ
  obtain ⟨m, hm⟩ : ∃ m, Z.length = m := ⟨_, rfl⟩
  have HM : Hid (Z.length = m) := hm
  rw [hm] at hZm HZ ⊢
  have hm2 : m ≤ 9223372036854775807 := by
    have : maxLen ≤ 9223372036854775807 := by unfold maxLen; omega
    omega
  obtain ⟨κ, hκ⟩ : ∃ κ, q % 3 = κ := ⟨_, rfl⟩
  have hκ3 : κ < 3 := by omega
  have hκT : (q : Int).tmod 3 = (κ : Int) := by rw [Int.tmod_eq_emod_of_nonneg (by omega)]; omega
  have hκE : (q : Int) % 3 = (κ : Int) := by omega
  clear hT hT2 WO hm hκ
  go_enter Tryd.func6, Tryd.ntmps6
  go_wp2_with fail
  refine ca.mono ?_
  rintro ev w1 ⟨rfl, hb1⟩
  have HU1 : Hid (Up w.heap.size w w1) := ⟨hb1, hb1.size⟩
  clear ca hb1
  go_wp2
  go_loopg [5, 6, 19] m (fun gg wv av iv wr => ∃ i : Nat, i ≤ m ∧ gg = m - i ∧ iv = .int .i64 (i : Int) ∧ av = .string (strOfNums ((kept (Z.take i)).flatMap (cw κ))) ∧ Hid (wr.ownsRow w.heap.size 9 1 wv (kept (Z.take i)).length ((kept (Z.take i)).map fun w => .string (strOfNums w))) ∧ Hid (Up w.heap.size w wr))
  case atStart => exact ⟨0, Nat.zero_le _, rfl, rfl, rfl, World.ownsRow_nil _ _ _ _, HU1⟩
  case round =>
    obtain ⟨i, hi, hgg, rfl, rfl, HW, HU⟩ := hrel
    by_cases him : i < m
    · have y0 : (0 : Int) ≤ (i : Int) := by omega
      have y1 : (i : Int) < (m : Int) := by omega
      obtain ⟨zs, hzs⟩ : ∃ zs, Z[i]? = some zs := ⟨_, List.getElem?_eq_getElem (by rw [HM.out]; exact him)⟩
      obtain ⟨A2, C2, eA, hA⟩ := HZ.out.stay HU.out.1
      injection eA with eA eN eC
      subst eA eC
      clear eN
      obtain ⟨hzl, b, off, u, rfl, c1, hBR⟩ := hA i zs hzs
      have HBR : Hid (BR wr u zs) := hBR
      obtain ⟨A3, C3, rfl, -⟩ := hBR
      obtain ⟨n, hn⟩ : ∃ n, zs.length = n := ⟨_, rfl⟩
      have HN : Hid (zs.length = n) := hn
      have hn2 : n ≤ 9223372036854775807 := by
        have : maxLen ≤ 9223372036854775807 := by unfold maxLen; omega
        omega
      rw [hn] at c1 HBR
      have HZI : Hid (Z[i]? = some zs) := hzs
      obtain ⟨AL, hAL⟩ : ∃ z, strOfNums ((kept (Z.take i)).flatMap (cw κ)) = z := ⟨_, rfl⟩
      have HAL : Hid (strOfNums ((kept (Z.take i)).flatMap (cw κ)) = AL) := hAL
      rw [hAL]
      clear hA hzs hn hAL hzl
      go_wp2
      go_loopg [9, 26] n (fun g2 sv jv wr2 => ∃ j : Nat, j ≤ n ∧ g2 = n - j ∧ jv = .int .i64 (j : Int) ∧ sv = .string (strOfNums (wdN (zs.take j))) ∧ Hid (Up wr.heap.size wr wr2))
      case atStart => exact ⟨0, Nat.zero_le _, rfl, rfl, rfl, Up.refl _⟩
      case round =>
        obtain ⟨j, hj, hg2, rfl, rfl, HUr⟩ := hrel
        by_cases hjn : j < n
        · have r0 : (0 : Int) ≤ (j : Int) := by omega
          have r1 : (j : Int) < (n : Int) := by omega
          obtain ⟨x, hx⟩ : ∃ x, zs[j]? = some x := ⟨_, List.getElem?_eq_getElem (by rw [HN.out]; exact hjn)⟩
          obtain ⟨A4, C4, eA, hA4⟩ := HBR.out.stay HUr.out.1
          injection eA with eA eN eC
          subst eA eC
          clear eN
          obtain ⟨hx255, b4, o4, rfl, d1⟩ := hA4 j x hx
          by_cases hj7 : j < 7
          · have r2 : (j : Int) < 7 := by omega
            obtain ⟨y, hy⟩ : ∃ y, x % 26 = y := ⟨_, rfl⟩
            have hy26 : y < 26 := by omega
            have m1 : (x : Int).tmod 26 = (y : Int) := by rw [Int.tmod_eq_emod_of_nonneg (by omega)]; omega
            have m1' : (x : Int) % 26 = (y : Int) := by omega
            have m2 : IntKind.u8.wrap (y : Int) = (y : Int) := by simp [IntKind.wrap, IntKind.bits, IntKind.signed]; omega
            obtain ⟨Y, hY⟩ : ∃ Y : Int, 97 + (y : Int) = Y := ⟨_, rfl⟩
            have m3 : IntKind.u8.wrap Y = Y := by simp [IntKind.wrap, IntKind.bits, IntKind.signed]; omega
            have hcv : (convert 22 9 (.slice (some ⟨wr.heap.size, 0, none⟩) 1 1)).run Tryd.prog (wr.alloc (.cells #[.int .u8 Y] 5)) = .ok (.string (strOfNums [Y])) (wr.alloc (.cells #[.int .u8 Y] 5)) := by
              have := str_bc (cap := 1) (one_bc wr Y)
              rw [cl_one] at this
              exact this
            obtain ⟨S, hS⟩ : ∃ S, strOfNums (wdN (zs.take j)) = S := ⟨_, rfl⟩
            obtain ⟨S1, hS1⟩ : ∃ S, strOfNums [Y] = S := ⟨_, rfl⟩
            have HSS : Hid (strOfNums (wdN (zs.take (j + 1))) = S ++ S1) := by
              show _ = _
              rw [wdN_more hx hj7, nums_app, hS, ← hS1, hy, ← hY]
              congr 3
            have hsz : ¬ 9223372036854775807 < S.size + S1.size := by
              rw [← hS, ← hS1, strOfNums_size, strOfNums_size]
              have := wdN_len (zs.take j)
              have : ([Y] : List Int).length = 1 := rfl
              omega
            rw [hS1] at hcv
            rw [hS]
            clear hS hS1 hA4
            go_wp2
            go_roundg (n - (j + 1))
            case measure => omega
            case rel => exact ⟨j + 1, by omega, rfl, by go_num, by rw [HSS.out], HUr.out.alloc _⟩
          · have r2 : ¬ (j : Int) < 7 := by omega
            have HSS : Hid (strOfNums (wdN (zs.take (j + 1))) = strOfNums (wdN (zs.take j))) := by show _ = _; rw [wdN_same (by omega)]
            clear hA4
            go_wp2
            go_roundg (n - (j + 1))
            case measure => omega
            case rel => exact ⟨j + 1, by omega, rfl, by go_num, by rw [HSS.out], HUr⟩
        · have r1 : ¬ (j : Int) < (n : Int) := by omega
          have htk : zs.take j = zs := List.take_of_length_le (by rw [HN.out]; omega)
          rw [htk]
          have HW2 : Hid (wr.ownsRow w.heap.size 9 1 u5 (kept (Z.take i)).length ((kept (Z.take i)).map fun w => .string (strOfNums w))) := own_stay HW.out HUr.out.1
          have HU2 : Hid (Up w.heap.size w wr) := HU.out.stay HUr.out.1
          obtain ⟨S, hS⟩ : ∃ S, strOfNums (wdN zs) = S := ⟨_, rfl⟩
          have HSE : Hid (strOfNums (wdN zs) = S) := hS
          have hSs : S.size = (wdN zs).length := by rw [← hS, strOfNums_size]
          have hS7 := wdN_len zs
          have hALs : AL.size ≤ 70 := by rw [← HAL.out]; exact all_size κ (Z.take i)
          rw [hS]
          clear hS htk HW HU HUr
          by_cases hi10 : i < 10
          · have t0 : (i : Int) < 10 := by omega
            by_cases hL : 1 < (wdN zs).length
            · have t1 : (1 : Int) < (S.size : Int) := by omega
              have t2 : (1 < S.size) = True := eq_true (by omega)
              have t3 : (i < 10) = True := eq_true hi10
              have t4 : ((1 : Int) < (S.size : Int)) = True := eq_true t1
              have t5 : ((i : Int) < 10) = True := eq_true t0
              have HKP : Hid (kept (Z.take (i + 1)) = kept (Z.take i) ++ [wdN zs]) := by show _ = _; rw [kept_snoc HZI.out hi10, if_pos hL]
              have hk10 := kept_len (Z.take i)
              obtain ⟨hown0, -⟩ : wr.ownsRow w.heap.size 9 1 u5 (kept (Z.take i)).length ((kept (Z.take i)).map fun w => .string (strOfNums w)) ∧ True := ⟨HW2.out, trivial⟩
              obtain ⟨i0, hin0, hz0, hz1, hz2⟩ := info_parts info9S
              go_upto_region 16 with fail
              go_wp2_with (at_builtin; refine wpList_append_own _ rfl _ _ 28 rfl w.heap.size 9 i0 _ 1 16 Tryd.underlying28 hin0 hz0 hz1 hz2 rfl (by decide) _ _ _ rfl (World.ownsRow.alloc hown0 _) ⟨wr.heap.size, 0, none⟩ 1 1 [.string S] rfl rfl ?c1 ?c2 ?c3 ?c4 ?c5 ?_)
              case c2 => rfl
              case c3 => unfold maxLen; omega
              case c4 => omega
              case c5 => have := HU2.out.2; omega
              intro v' w3 hown2 hgr hnil
              have HU3 : Hid (Up w.heap.size w w3) := (HU2.out.alloc _).grown hgr (own_base hown0)
              have HO3 : Hid (w3.ownsRow w.heap.size 9 1 v' (kept (Z.take (i + 1))).length ((kept (Z.take (i + 1))).map fun w => .string (strOfNums w))) := by
                show w3.ownsRow _ _ _ _ _ _
                rw [HKP.out, List.length_append, List.map_append, List.map_cons, List.map_nil, HSE.out]
                exact hown2
              clear hown0 HW2 HU2
              have hκc : κ = 0 ∨ κ = 1 ∨ κ = 2 := by omega
              rcases hκc with rfl | rfl | rfl
              · skip
                have cA := asw_any 2 (wdN_sm zs) (wdN_len zs) w3 (Tns.tabs_stay HT.out.2 HU3.out.1)
                obtain ⟨T2, hT2⟩ : ∃ z, tx (wrL 2 (wdN zs)) = z := ⟨_, rfl⟩
                have hT3 : strOfNums (wrL 2 (wdN zs)) = T2 := by rw [← hT2, as_tx (wr2_as (wdN_sm zs))]
                have hT2s : T2.size ≤ 7 := by rw [← hT3, strOfNums_size, wrL_len]; exact wdN_len zs
                rw [hT2, HSE.out] at cA
                have hsz2 : ¬ 9223372036854775807 < AL.size + T2.size := by have := hALs; omega
                have HNX : Hid (strOfNums ((kept (Z.take (i + 1))).flatMap (cw 0)) = AL ++ T2) := by
                  show _ = _
                  rw [HKP.out, List.flatMap_append, nums_app, HAL.out, ← hT3]
                  congr 1
                  show strOfNums (wrL 2 (wdN zs) ++ []) = _
                  rw [List.append_nil]
                clear hown2 hgr hnil hT2 hT3
                go_wp2_with fail
                refine cA.mono ?_
                rintro ev w4 ⟨rfl, hb4⟩
                have HU4 : Hid (Up w.heap.size w w4) := HU3.out.stay hb4
                have HO4 : Hid (w4.ownsRow w.heap.size 9 1 v' (kept (Z.take (i + 1))).length ((kept (Z.take (i + 1))).map fun w => .string (strOfNums w))) := own_stay HO3.out hb4
                clear cA hb4 HO3 HU3
                go_wp2
                go_roundg (m - (i + 1))
                case measure => omega
                case rel => exact ⟨i + 1, by omega, rfl, by go_num, by rw [HNX.out], HO4, HU4⟩
              · skip
                have hsz2 : ¬ 9223372036854775807 < AL.size + S.size := by have := hALs; omega
                have HNX : Hid (strOfNums ((kept (Z.take (i + 1))).flatMap (cw 1)) = AL ++ S) := by
                  show _ = _
                  rw [HKP.out, List.flatMap_append, nums_app, HAL.out]
                  congr 1
                  show strOfNums (wdN zs ++ []) = S
                  rw [List.append_nil]
                  exact HSE.out
                clear hown2 hgr hnil
                go_wp2
                go_roundg (m - (i + 1))
                case measure => omega
                case rel => exact ⟨i + 1, by omega, rfl, by go_num, by rw [HNX.out], HO3, HU3⟩
              · skip
                have cA := asw_any 3 (wdN_sm zs) (wdN_len zs) w3 (Tns.tabs_stay HT.out.2 HU3.out.1)
                obtain ⟨T2, hT2⟩ : ∃ z, tx (wrL 3 (wdN zs)) = z := ⟨_, rfl⟩
                have hT3 : strOfNums (wrL 3 (wdN zs)) = T2 := by rw [← hT2, as_tx (wr3_as (wdN_sm zs))]
                have hT2s : T2.size ≤ 7 := by rw [← hT3, strOfNums_size, wrL_len]; exact wdN_len zs
                rw [hT2, HSE.out] at cA
                have hsz2 : ¬ 9223372036854775807 < AL.size + T2.size := by have := hALs; omega
                have HNX : Hid (strOfNums ((kept (Z.take (i + 1))).flatMap (cw 2)) = AL ++ T2) := by
                  show _ = _
                  rw [HKP.out, List.flatMap_append, nums_app, HAL.out, ← hT3]
                  congr 1
                  show strOfNums (wrL 3 (wdN zs) ++ []) = _
                  rw [List.append_nil]
                clear hown2 hgr hnil hT2 hT3
                go_wp2_with fail
                refine cA.mono ?_
                rintro ev w4 ⟨rfl, hb4⟩
                have HU4 : Hid (Up w.heap.size w w4) := HU3.out.stay hb4
                have HO4 : Hid (w4.ownsRow w.heap.size 9 1 v' (kept (Z.take (i + 1))).length ((kept (Z.take (i + 1))).map fun w => .string (strOfNums w))) := own_stay HO3.out hb4
                clear cA hb4 HO3 HU3
                go_wp2
                go_roundg (m - (i + 1))
                case measure => omega
                case rel => exact ⟨i + 1, by omega, rfl, by go_num, by rw [HNX.out], HO4, HU4⟩
            · have t1 : ¬ (1 : Int) < (S.size : Int) := by omega
              have HKP : Hid (kept (Z.take (i + 1)) = kept (Z.take i)) := by show _ = _; rw [kept_snoc HZI.out hi10, if_neg hL, List.append_nil]
              go_wp2
              go_roundg (m - (i + 1))
              case measure => omega
              case rel => exact ⟨i + 1, by omega, rfl, by go_num, by rw [HKP.out, HAL.out], by rw [HKP.out]; exact HW2, HU2⟩
          · have t0 : ¬ (i : Int) < 10 := by omega
            have HKP : Hid (kept (Z.take (i + 1)) = kept (Z.take i)) := kept_same (by omega)
            go_wp2
            go_roundg (m - (i + 1))
            case measure => omega
            case rel => exact ⟨i + 1, by omega, rfl, by go_num, by rw [HKP.out, HAL.out], by rw [HKP.out]; exact HW2, HU2⟩
    · have y1 : ¬ (i : Int) < (m : Int) := by omega
      have htk : Z.take i = Z := List.take_of_length_le (by rw [HM.out]; omega)
      rw [htk] at HW ⊢
      obtain ⟨K, hK⟩ : ∃ K, kept Z = K := ⟨_, rfl⟩
      have HKM : Hid (∀ w ∈ K, SmL w ∧ 2 ≤ w.length ∧ w.length ≤ 7) := by show ∀ w ∈ K, _; rw [← hK]; exact kept_mem
      have hK10 : K.length ≤ 10 := by rw [← hK]; exact kept_len Z
      rw [hK] at HW ⊢
      obtain ⟨F, hF⟩ : ∃ F, K.flatMap (cw κ) = F := ⟨_, rfl⟩
      have HF : Hid (K.flatMap (cw κ) = F) := hF
      have hFA : AsL F := by rw [← hF]; exact cas_as κ fun w hw => (HKM.out w hw).1
      have hF70 : F.length ≤ 70 := by
        rw [← hF]
        have := cas_len (κ := κ) K (fun w hw => (HKM.out w hw).2.2)
        omega
      rw [hF]
      have hFB : Byt F := fun x hx => by have := hFA x hx; omega
      obtain ⟨e, he⟩ : ∃ e, F.length = e := ⟨_, rfl⟩
      obtain ⟨AL, hAL⟩ : ∃ z, strOfNums F = z := ⟨_, rfl⟩
      have HAL : Hid (strOfNums F = AL ∧ F.length = e) := ⟨hAL, he⟩
      have he70 : e ≤ 70 := by rw [← he]; exact hF70
      have hAe : AL.size = e := by rw [← hAL, strOfNums_size, he]
      have hcvA : ∀ w' : World, (convert 9 22 (.string AL)).run Tryd.prog w' = .ok (.slice (some ⟨w'.heap.size, 0, none⟩) e (grownCap w' e 0 5)) (Lib.bytesWorld w' 5 AL) := fun w' => by
        have := Lib.run_convert_string_bytes (P := Tryd.prog) w' 9 22 5 AL (u := .string) Tryd.underlying9 Tryd.underlying22 Tryd.underlying5
        rw [hAe] at this
        exact this
      have hcv1 := hcvA wr
      obtain ⟨x1, hx1⟩ : ∃ x, Lib.bytesWorld wr 5 AL = x := ⟨_, rfl⟩
      obtain ⟨cp1, hcp1⟩ : ∃ c, grownCap wr e 0 5 = c := ⟨_, rfl⟩
      have hc1 : e ≤ cp1 ∧ cp1 ≤ maxLen := by rw [← hcp1]; exact ⟨grownCap_ge _ _ _ _, grownCap_le_maxLen _ _ _ _ (by unfold maxLen; omega)⟩
      have hbc1 : BC x1 (some ⟨wr.heap.size, 0, none⟩) e (cL F) := by rw [← hx1, ← hAL, ← he]; exact conv_cl hFB
      have hbl1 : Below wr.heap.size wr x1 := by rw [← hx1]; exact conv_below wr AL
      rw [hx1, hcp1] at hcv1
      have hcv2 := hcvA x1
      obtain ⟨x2, hx2⟩ : ∃ x, Lib.bytesWorld x1 5 AL = x := ⟨_, rfl⟩
      obtain ⟨cp2, hcp2⟩ : ∃ c, grownCap x1 e 0 5 = c := ⟨_, rfl⟩
      have hc2 : e ≤ cp2 ∧ cp2 ≤ maxLen := by rw [← hcp2]; exact ⟨grownCap_ge _ _ _ _, grownCap_le_maxLen _ _ _ _ (by unfold maxLen; omega)⟩
      have hbc2 : BC x2 (some ⟨x1.heap.size, 0, none⟩) e (cL F) := by rw [← hx2, ← hAL, ← he]; exact conv_cl hFB
      have hbl2 : Below x1.heap.size x1 x2 := by rw [← hx2]; exact conv_below x1 AL
      rw [hx2, hcp2] at hcv2
      have HUx : Hid (Up w.heap.size w x2) := (HU.out.stay hbl1).stay hbl2
      have HBX : Hid (BC x2 (some ⟨wr.heap.size, 0, none⟩) e (cL F)) := hbc1.stay hbl2
      have HWx : Hid (x2.ownsRow w.heap.size 9 1 u5 K.length (K.map fun w => .string (strOfNums w))) := own_stay (own_stay HW.out hbl1) hbl2
      have hch : ∀ j, j < e → 0 ≤ cL F j ∧ cL F j < 256 := by
        have := (cL_ch hFB).1
        rw [he] at this
        exact this
      have HCH : Hid (∀ j, j < e → 0 ≤ cL F j ∧ cL F j < 256) := hch
      have hcl : strOfNums (cl (cL F) e) = AL := by rw [← he, cl_cL, hAL]
      have hml : maxLen ≤ 9223372036854775807 := by unfold maxLen; omega
      have cu := unitsB_any (Lns.tabs_stay HT.out.1 HUx.out.1) hch hbc2 hc2.1 (by omega)
      rw [hcl] at cu
      have hends : Ends AL e := by rw [← hAL, ← he]; exact as_ends hFA
      have HEN : Hid (Ends AL e) := hends
      obtain ⟨B1, hB1⟩ : ∃ z, wr.heap.size = z := ⟨_, rfl⟩
      obtain ⟨B2, hB2⟩ : ∃ z, x1.heap.size = z := ⟨_, rfl⟩
      rw [hB1] at hcv1 HBX
      rw [hB2] at hcv2 cu
      rw [hAL]
      clear hF hFA hFB hbc1 hbc2 hbl1 hbl2 hcvA hx1 hx2 hcp1 hcp2 hch hcl hends hB1 hB2 hAL he HW HU htk hK
      go_wp2_with fail
      refine cu.mono ?_
      rintro ev w3 ⟨k, v3, rfl, he3, -, hR3, hb3⟩
      obtain rfl : k = e := he3.one HEN.out
      have HU3 : Hid (Up w.heap.size w w3) := HUx.out.stay hb3
      have HW3 : Hid (w3.ownsRow w.heap.size 9 1 u5 K.length (K.map fun w => .string (strOfNums w))) := own_stay HWx.out hb3
      have cwd := HO.out w3 _ k cp1 (cL F) v3 (unS AL k) 1 1000 HCH.out (HBX.out.stay hb3) hc1.1 (by omega) (by omega) hR3.us (unS_fit HEN.out) (by rw [unS_len]; omega) (unS_bd HEN.out (by omega)) (by decide) (by decide)
      obtain ⟨L, hL⟩ : ∃ L, wordsL (cL F) k (unS AL k) 1 1000 = L := ⟨_, rfl⟩
      have HLT : Hid ((K = [] → L = []) ∧ (K ≠ [] → κ ≠ 0 → L.map W4.t = [AL]) ∧ (K ≠ [] → κ = 0 → L.map W4.t = K.map fun w => strOfNums (wrL 2 w))) := by
        have h1 := words_cas (κ := κ) HKM.out hK10 HF.out (c := cL F) (n := k) (L := L) (by rw [HAL.out.1, HAL.out.2]; exact hL)
        rw [HAL.out.1] at h1
        exact h1
      rw [hL] at cwd
      clear cu hb3 he3 hR3 HUx HWx HBX hL hcv1 hcv2
      go_wp2_with fail
      refine cwd.mono ?_
      rintro ev w4 ⟨v4, rfl, hW4, hb4⟩
      have HU4 : Hid (Up w.heap.size w w4) := HU3.out.stay hb4
      have HW4 : Hid (w4.ownsRow w.heap.size 9 1 u5 K.length (K.map fun w => .string (strOfNums w))) := own_stay HW3.out hb4
      have HG : Hid (WS w4 v4 L) := hW4
      obtain ⟨A4, C4, rfl, -⟩ := hW4
      clear cwd hb4 HU3 HW3
      obtain ⟨A5, C5, rfl⟩ := own_frm HW4.out
      have HK10 : Hid (K.length ≤ 10) := hK10
      clear HAL HF HEN HCH hK10
      by_cases hK0 : K = []
      · obtain rfl := HLT.out.1 hK0
        subst hK0
        clear HLT HKM HG HW4
        have hmin0 : min ((0 : Nat) : Int) 1 = 0 := by decide
        have hmin1 : min (0 : Int) 1 = 0 := by decide
        have hκc : κ = 0 ∨ 0 < κ := by omega
        rcases hκc with rfl | hκ1
        · go_wp2
          go_ret
          exact ⟨rfl, HU4.out.1⟩
        · have hκ2 : (0 : Int) < (κ : Int) := by omega
          go_wp2
          go_ret
          exact ⟨rfl, HU4.out.1⟩
      · obtain ⟨kl, hkl⟩ : ∃ z, K.length = z := ⟨_, rfl⟩
        have HKL : Hid (K.length = kl) := hkl
        have hkl0 : 0 < kl := by rw [← hkl]; exact List.length_pos_iff.2 hK0
        have hkl10 : kl ≤ 10 := by rw [← hkl]; exact HK10.out
        have hmin : min (kl : Int) 1 = 1 := by omega
        have hkz : ((kl : Int) == 0) = false := beq_eq_false_iff_ne.2 (by omega)
        by_cases hκ0 : κ = 0
        · have hLm := HLT.out.2.2 hK0 hκ0
          have hLl : L.length = kl := by
            have := congrArg List.length hLm
            rw [List.length_map, List.length_map, hkl] at this
            exact this
          have HLL : Hid (L.length = kl) := hLl
          have HLM : Hid (L.map W4.t = K.map fun w => strOfNums (wrL 2 w)) := hLm
          rw [hLl] at HG ⊢
          rw [hkl] at HW4 ⊢
          obtain ⟨g5, rfl, -, -⟩ := own_at HW4.out hkl0
          subst hκ0
          clear hLm hLl HLT hkl hK0
          go_wp2
          go_loopg [110] kl (fun gg jv wr2 => ∃ j : Nat, j ≤ kl ∧ gg = kl - j ∧ jv = .int .i64 (j : Int) ∧ Hid (Up w4.heap.size w4 wr2))
          case atStart => exact ⟨0, Nat.zero_le _, rfl, rfl, Up.refl _⟩
          case round =>
            obtain ⟨j, hj, hgg, rfl, HU⟩ := hrel
            by_cases hjl : j < kl
            · have r0 : (0 : Int) ≤ (j : Int) := by omega
              have r1 : (j : Int) < (kl : Int) := by omega
              obtain ⟨x, hx⟩ : ∃ x, L[j]? = some x := ⟨_, List.getElem?_eq_getElem (by rw [HLL.out]; exact hjl)⟩
              obtain ⟨kw, hkw⟩ : ∃ x, K[j]? = some x := ⟨_, List.getElem?_eq_getElem (by rw [HKL.out]; exact hjl)⟩
              have hxt : x.t = strOfNums (wrL 2 kw) := by
                have h1 := congrArg (fun l => l[j]?) HLM.out
                rw [List.getElem?_map, List.getElem?_map, hx, hkw] at h1
                exact Option.some.inj h1
              have hkm := HKM.out kw (List.mem_of_getElem? hkw)
              obtain ⟨A6, C6, eA, -, hA⟩ := HG.out.stay HU.out.1
              injection eA with eA eN eC
              subst eA eC
              clear eN
              obtain ⟨b6, o6, rfl, hbl, a1, a2, a3, a4⟩ := hA j x hx
              have hcw := (own_stay HW4.out HU.out.1).cellAt j (by omega)
              rw [List.getElem?_map, hkw] at hcw
              have hcw2 : wr.cell? ⟨g5, j, none⟩ = some (.string (strOfNums kw)) := hcw
              obtain ⟨tt, htt⟩ : ∃ z, x.t = z := ⟨_, rfl⟩
              obtain ⟨ta, hta⟩ : ∃ z, x.a = z := ⟨_, rfl⟩
              obtain ⟨tn, htn⟩ : ∃ z, x.n = z := ⟨_, rfl⟩
              obtain ⟨tl, htl⟩ : ∃ z, x.l = z := ⟨_, rfl⟩
              rw [htt] at a1 hxt
              rw [hta] at a2
              rw [htn] at a3
              rw [htl] at a4
              obtain ⟨wz, hwz⟩ : ∃ x, wr.alloc (.cells #[.string tt, .int .i64 ta, .int .i64 tn, .bool tl] 51) = x := ⟨_, rfl⟩
              have hz : wz.heap[wr.heap.size]? = some (.cells #[.string tt, .int .i64 ta, .int .i64 tn, .bool tl] 51) := by rw [← hwz]; exact heap_alloc_new _ _
              have hbz : Below wr.heap.size wr wz := by rw [← hwz]; exact below_alloc wr _
              obtain ⟨D2, hD2⟩ : ∃ z, wr.heap.size = z := ⟨_, rfl⟩
              have HZ0 : Hid (wz.cell? ⟨D2, 0, none⟩ = some (.string tt)) := by
                rw [← hD2]
                show wz.cell? _ = _
                simp [World.cell?, hz]
              obtain ⟨T9, hT9⟩ : ∃ z, strOfNums kw = z := ⟨_, rfl⟩
              have HC9 : Hid (wz.cell? ⟨g5, j, none⟩ = some (.string T9)) := by
                show wz.cell? _ = _
                rw [← hT9]
                exact cell_stay hcw2 hbz
              have HUz : Hid (Up w4.heap.size w4 wz) := HU.out.stay hbz
              have HCF : Hid (∀ w', Up wz.heap.size wz w' → Calls Tryd.prog 24 #[.string tt] w' fun e w'' => e = .returned (.string T9) ∧ Below w'.heap.size w' w'') := fun w' hu => by
                rw [hxt, ← hT9]
                exact foldw_any hkm.1 hkm.2.2 w' (Tns.tabs_stay HT.out.2 (HU4.out.stay (HUz.out.stay hu.1).1).1)
              clear hA hbl hz hbz htt hta htn htl hcw hcw2 hT9 hxt hkm hx hkw HU
              go_upto_region 32 with fail
              (try rw [hwz])
              clear a1 a2 a3 a4 hwz
              skip
              refine wp_region_held_drew (S := fun w' => Up wz.heap.size wz w') (by kernel_rfl) (Up.drew (Up.refl wz)) (fun hHeld => ?_)
              (try dsimp only at hHeld)
              obtain ⟨x0, hx0⟩ : ∃ x0, wz.drew = x0 := ⟨_, rfl⟩
              rw [hx0] at hHeld ⊢
              clear hx0
              refine takeH (i := 0) (v := ?_) (d := (some 115)) rfl (by kernel_rfl) (by kernel_rfl) (by kernel_rfl) rfl (fun _ _ _ h => h) (Or.inl ⟨by kernel_rfl, ?_⟩) (by assumption) ?_; rotate_left
              · (intro w hSw; (try dsimp only at hSw); first | (go_simp; done) | (go_simp; with_reducible rfl))
              (try simp only [Act.put, List.setIfInBounds_toArray, List.set_cons_zero, List.set_cons_succ])
              refine takeH (i := 1) (v := ?_) (d := (some 116)) rfl (by kernel_rfl) (by kernel_rfl) (by kernel_rfl) rfl (fun _ _ _ h => h) (Or.inl ⟨by kernel_rfl, ?_⟩) (by assumption) ?_; rotate_left
              · (intro w hSw; (try dsimp only at hSw); have q0 := cell_stay HZ0.out hSw.1; first | (go_simp; done) | (go_simp; with_reducible rfl))
              (try simp only [Act.put, List.setIfInBounds_toArray, List.set_cons_zero, List.set_cons_succ])
              refine takeH (i := 3) (v := ?_) (d := (some 118)) rfl (by kernel_rfl) (by kernel_rfl) (by kernel_rfl) rfl (fun _ _ _ h => h) (Or.inl ⟨by kernel_rfl, ?_⟩) (by assumption) ?_; rotate_left
              · (intro w hSw; (try dsimp only at hSw); first | (go_simp; done) | (go_simp; with_reducible rfl))
              (try simp only [Act.put, List.setIfInBounds_toArray, List.set_cons_zero, List.set_cons_succ])
              refine takeH (i := 4) (v := ?_) (d := (some 119)) rfl (by kernel_rfl) (by kernel_rfl) (by kernel_rfl) rfl (fun _ _ _ h => h) (Or.inl ⟨by kernel_rfl, ?_⟩) (by assumption) ?_; rotate_left
              · (intro w hSw; (try dsimp only at hSw); first | (go_simp; done) | (go_simp; with_reducible rfl))
              (try simp only [Act.put, List.setIfInBounds_toArray, List.set_cons_zero, List.set_cons_succ])
              refine takeH (i := 5) (v := ?_) (d := (some 120)) rfl (by kernel_rfl) (by kernel_rfl) (by kernel_rfl) rfl (fun _ _ _ h => h) (Or.inl ⟨by kernel_rfl, ?_⟩) (by assumption) ?_; rotate_left
              · (intro w hSw; (try dsimp only at hSw); first | (go_simp; done) | (go_simp; with_reducible rfl))
              (try simp only [Act.put, List.setIfInBounds_toArray, List.set_cons_zero, List.set_cons_succ])
              refine takeH (i := 6) (v := ?_) (d := (some 121)) rfl (by kernel_rfl) (by kernel_rfl) (by kernel_rfl) rfl (fun _ _ _ h => h) (Or.inl ⟨by kernel_rfl, ?_⟩) (by assumption) ?_; rotate_left
              · (intro w hSw; (try dsimp only at hSw); have q0 := cell_stay HC9.out hSw.1; first | (go_simp; done) | (go_simp; with_reducible rfl))
              (try simp only [Act.put, List.setIfInBounds_toArray, List.set_cons_zero, List.set_cons_succ])
              have hh0 : Up wz.heap.size wz x0 := hHeld
              have cF := HCF.out x0 hh0
              refine wpAnyH_ready (rs := [2]) (by kernel_rfl) (by simp) (AllReadyH.cons rfl (fun K hK => ?_) AllReadyH.nil)
              (try rw [if_pos (by kernel_rfl)])
              go_simp
              refine cF.mono ?_
              rintro ev w9 ⟨rfl, hb9⟩
              have HU9 : Hid (Up wz.heap.size wz w9) := hh0.stay hb9
              clear cF hb9 hh0 hHeld
              go_wp2_with fail
              refine hK.out _ _ HU9.out (fun hHeld => ?_)
              clear hK K
              (try dsimp only at hHeld)
              (try simp only [Act.put, List.setIfInBounds_toArray, List.set_cons_zero, List.set_cons_succ])
              refine takeH (i := 7) (v := ?_) (d := (some 122)) rfl (by kernel_rfl) (by kernel_rfl) (by kernel_rfl) rfl (fun _ _ _ h => h) (Or.inl ⟨by kernel_rfl, ?_⟩) (by assumption) ?_; rotate_left
              · (intro w hSw; (try dsimp only at hSw); first | (go_simp; done) | (go_simp; with_reducible rfl))
              (try simp only [Act.put, List.setIfInBounds_toArray, List.set_cons_zero, List.set_cons_succ])
              refine wpAnyH_done (by kernel_rfl) ?_ _
              have HUe : Hid (Up w4.heap.size w4 w9) := HUz.out.stay HU9.out.1
              clear HUz HU9 hHeld HCF HC9 HZ0
              go_wp2
              go_roundg (kl - (j + 1))
              case measure => omega
              case rel => exact ⟨j + 1, by omega, rfl, by go_num, HUe⟩
            · have r1 : ¬ (j : Int) < (kl : Int) := by omega
              go_wp2
              go_ret
              exact ⟨rfl, (HU4.out.stay HU.out.1).1⟩
        · have hLm := HLT.out.2.1 hK0 hκ0
          obtain ⟨x, rfl⟩ : ∃ x, L = [x] := by
            cases L with
            | nil => cases hLm
            | cons x L' =>
              cases L' with
              | nil => exact ⟨x, rfl⟩
              | cons y L'' => cases hLm
          have hxt : x.t = AL := by
            have := List.cons.inj hLm
            exact this.1
          obtain ⟨A6, C6, eA, -, hA⟩ := HG.out
          injection eA with eA eN eC
          subst eA eC
          obtain ⟨b6, o6, rfl, hbl, a1, -⟩ := hA 0 x rfl
          rw [Nat.zero_mul, Nat.add_zero, hxt] at a1
          rw [hkl]
          have hl1 : ([x] : List W4).length = 1 := rfl
          rw [hl1]
          clear hA hbl hxt hLm HLT eN hl1 HG hkl
          have hκc : κ = 1 ∨ κ = 2 := by omega
          rcases hκc with rfl | rfl
          all_goals
            go_wp2
            go_ret
            exact ⟨rfl, HU4.out.1⟩
end Go.Proofs.YtbhjkkbempnjeaaDoor
