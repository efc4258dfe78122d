/- The law NearMore. -/
import Derived.Test.YtfikkkodepfdkaaDoorpMp
import Derived.Test.YtfikkkodepfdkaaDoorpkM
import Derived.Test.YtfikkkodepfdkaaDoorpkN
namespace Go.Proofs.YtfikkkodepfdkaaDoor
set_option linter.unusedVariables false
open Go.RowKit Go.ChangeShapes
open Qns (dd far at_)
/-- What was told last. -/
def lastL (L : List ByteArray) (W : List Int) : Nat → List Nr
  | 0 => []
  | m + 1 => (nearsP [] W m L).take 32
set_option maxHeartbeats 8000000 in
set_option maxRecDepth 100000 in
theorem more_law (w : World) (hT : Tabs w) (v : Value) (Z : List (List Nat)) (hv : BRR w v Z) (hl : Z.length ≤ maxLen) (q0 k0 : Int) (wq : (Lit.int .u8 q0).wf = true) (wk : (Lit.int .u8 k0).wf = true) :
    Calls Tryd.prog 6 #[v, .int .u8 q0, .int .u8 k0] w fun e w' => e = .returned (.bool true) ∧ Below w.heap.size w w' := by
  obtain ⟨q, rfl, hq⟩ := u8_nat wq
  obtain ⟨k, rfl, hk⟩ := u8_nat wk
  clear wq wk
  have HT : Hid (Tabs w) := hT
  have HV : Hid (BRR w v Z) := hv
  obtain ⟨ad, c, rfl, hc⟩ := hv
  have HC : Hid (∀ (j : Nat) (zs : List Nat), Z[j]? = some zs → zs.length ≤ maxLen ∧ ∃ b off u, ad = some ⟨b, off, none⟩ ∧ w.cell? ⟨b, off + j, none⟩ = some u ∧ BR w u zs) := hc
  obtain ⟨n, hn⟩ : ∃ n, Z.length = n := ⟨_, rfl⟩
  have HN : Hid (Z.length = n) := hn
  have hmx : maxLen ≤ 9223372036854775807 := by unfold maxLen; omega
  have hn2 : n ≤ 9223372036854775807 := by omega
  rw [hn]
  obtain ⟨k33, hk33⟩ : ∃ x, k % 33 = x := ⟨_, rfl⟩
  have hk33l : k33 ≤ 32 := by omega
  have m2 : Int.tmod (k : Int) 33 = (k33 : Int) := by rw [← hk33]; exact nat_mod k 33
  obtain ⟨i9, hi9, hz90, hz91, hz92⟩ := info_parts info9
  obtain ⟨i5, hi5, hz0, hz1, hz2⟩ := info_parts info5
  have c0 := awakeN_any w HT.out
  clear hT hc hk33 hn hl
  go_enter Tryd.func6, Tryd.ntmps6
  go_wp2_with fail
  refine c0.mono ?_
  rintro e w1 ⟨rfl, hb1⟩
  have HU1 : Hid (Up w.heap.size w w1) := (Up.refl w).stay hb1
  clear hb1 c0
  go_wp2
  go_loopg [7, 26] n (fun g l iv wr => ∃ (j : Nat) (l7 : Value), l = l7 ∧ j ≤ n ∧ g = n - j ∧ iv = .int .i64 j ∧ Hid (OS wr w.heap.size l7 (((Z.take j).take 40).map (mtx 6 4))) ∧ Hid (Up w.heap.size w wr))
  case atStart => exact ⟨0, _, rfl, Nat.zero_le _, rfl, rfl, World.ownsRow_nil _ _ _ _, HU1⟩
  case round =>
    obtain ⟨j, l7, rfl, hj, hg, rfl, HO, HU⟩ := hrel
    have z0 : (0 : Int) ≤ (j : Int) := by omega
    obtain ⟨wT, rfl⟩ : ∃ wT, wT = wr := ⟨_, rfl⟩
    by_cases hlt : j < n
    · have z1 : (j : Int) < (n : Int) := by omega
      obtain ⟨zs, hzs⟩ : ∃ x, Z[j]? = some x := ⟨_, List.getElem?_eq_getElem (by rw [HN.out]; exact hlt)⟩
      obtain ⟨hzl, b, off, u, rfl, hcu, hbu⟩ := HC.out j zs hzs
      have hcw := cell_stay hcu HU.out.1
      have hbr := hbu.stay HU.out.1
      obtain ⟨au, cu, rfl, hcb⟩ := hbr
      have HCB : Hid (∀ (i : Nat) (x : Nat), zs[i]? = some x → x ≤ 255 ∧ ∃ b off, au = some ⟨b, off, none⟩ ∧ wT.cell? ⟨b, off + i, none⟩ = some (.int .u8 (x : Int))) := hcb
      obtain ⟨nz, hnz⟩ : ∃ q, zs.length = q := ⟨_, rfl⟩
      have HNZ : Hid (zs.length = nz) := hnz
      rw [hnz] at hcw hzl
      have hnz2 : nz ≤ 9223372036854775807 := by omega
      have HZS : Hid (Z[j]? = some zs) := hzs
      clear hzs hcu hbu hcb hnz
      go_wp2
      go_loopg [10, 33] nz (fun g l iv wr => ∃ (i : Nat) (l10 : Value), l = l10 ∧ i ≤ nz ∧ g = nz - i ∧ iv = .int .i64 i ∧ Hid (wr.ownsRow wT.heap.size 5 1 l10 (mlt 4 ((zs.take i).take 6)).length (cellsOf (mlt 4 ((zs.take i).take 6)))) ∧ Hid (Up wT.heap.size wT wr))
      case atStart => exact ⟨0, _, rfl, Nat.zero_le _, rfl, rfl, World.ownsRow_nil _ _ _ _, Up.refl wT⟩
      case round =>
        obtain ⟨i, l10, rfl, hi, hgi, rfl, HB, HUB⟩ := hrel
        have y0 : (0 : Int) ≤ (i : Int) := by omega
        by_cases hlti : i < nz
        · have y1 : (i : Int) < (nz : Int) := by omega
          obtain ⟨x, hx⟩ : ∃ x, zs[i]? = some x := ⟨_, List.getElem?_eq_getElem (by rw [HNZ.out]; exact hlti)⟩
          obtain ⟨hx255, bb, boff, rfl, hcx⟩ := HCB.out i x hx
          have hcx2 := cell_stay hcx HUB.out.1
          by_cases h6 : i < 6
          · have y2 : (i : Int) < 6 := by omega
            obtain ⟨r, hr⟩ : ∃ r, x % 4 = r := ⟨_, rfl⟩
            have m1 : Int.tmod (x : Int) 4 = (r : Int) := by rw [← hr]; exact nat_mod x 4
            have m3 := u8_sum r (by omega)
            have hle6 : (mlt 4 ((zs.take i).take 6)).length ≤ 6 := by unfold mlt; rw [List.length_map, List.length_take]; omega
            have HNX : Hid (cellsOf (mlt 4 ((zs.take (i + 1)).take 6)) = cellsOf (mlt 4 ((zs.take i).take 6)) ++ [.int .u8 ((97 + r : Nat) : Int)]) := by
              show _ = _
              rw [take_more 6 i zs x hx h6, mlt_app, hr]
            have HNL : Hid ((mlt 4 ((zs.take (i + 1)).take 6)).length = (mlt 4 ((zs.take i).take 6)).length + 1) := by
              show _ = _
              rw [take_more 6 i zs x hx h6]
              simp [mlt]
            clear hx hcx hr hx255
            go_wp2_with (at_builtin; refine wpList_append_own _ rfl _ _ 43 rfl wT.heap.size 5 i5 _ 1 1 Tryd.underlying43 hi5 hz0 hz1 hz2 rfl (by decide) _ _ _ rfl (HB.out.alloc _) ⟨wr.heap.size, 0, none⟩ 1 1 [.int .u8 ((97 + r : Nat) : Int)] rfl rfl (World.news_of_block (Array.getElem?_push_size (xs := wr.heap) (x := .cells #[.int .u8 ((97 + r : Nat) : Int)] 5))) (one_one _ rfl) (by unfold maxLen; omega) (by omega) (by have := HUB.out.2; simp only [World.size_alloc]; omega) ?_)
            intro v' w3 hown2 hgr hnil
            have HB2 : Hid (w3.ownsRow wT.heap.size 5 1 v' (mlt 4 ((zs.take (i + 1)).take 6)).length (cellsOf (mlt 4 ((zs.take (i + 1)).take 6)))) := by
              show w3.ownsRow _ _ _ _ _ _
              rw [HNX.out, HNL.out]
              exact hown2
            have HU2 : Hid (Up wT.heap.size wT w3) := (HUB.out.alloc _).grown hgr (own_base HB.out)
            clear hown2 hgr hnil HB HUB hcx2
            go_wp2
            go_roundg (nz - (i + 1))
            case measure => omega
            case rel => exact ⟨i + 1, _, rfl, by omega, rfl, by go_num, HB2, HU2⟩
          · have y2 : ¬ (i : Int) < 6 := by omega
            have HB2 : Hid (wr.ownsRow wT.heap.size 5 1 u10 (mlt 4 ((zs.take (i + 1)).take 6)).length (cellsOf (mlt 4 ((zs.take (i + 1)).take 6)))) := by
              show wr.ownsRow _ _ _ _ _ _
              rw [take_same 6 i zs (by omega)]
              exact HB.out
            clear hx hcx
            go_wp2
            go_roundg (nz - (i + 1))
            case measure => omega
            case rel => exact ⟨i + 1, _, rfl, by omega, rfl, by go_num, HB2, HUB⟩
        · obtain rfl : i = nz := by omega
          have y1 : ¬ (i : Int) < (i : Int) := by omega
          have hcv := own_text HB.out
          obtain ⟨T, hTx⟩ : ∃ T, strOfNums (mlt 4 ((zs.take i).take 6)) = T := ⟨_, rfl⟩
          have HTX : Hid (mtx 6 4 zs = T) := by
            show _ = _
            rw [← hTx, List.take_of_length_le (l := zs) (by rw [HNZ.out]; exact Nat.le_refl _)]
            rfl
          rw [hTx] at hcv
          have HUr : Hid (Up w.heap.size w wr) := HU.out.stay HUB.out.1
          have HOr : Hid (OS wr w.heap.size u7 (((Z.take j).take 40).map (mtx 6 4))) := HO.out.stay HUB.out.1
          clear hTx HO HU HB HUB hcw
          by_cases h40 : j < 40
          · have z2 : (j : Int) < 40 := by omega
            have HNX : Hid ((((Z.take (j + 1)).take 40).map (mtx 6 4)) = ((Z.take j).take 40).map (mtx 6 4) ++ [T]) := by
              show _ = _
              have : ((Z.take (j + 1)).take 40) = (Z.take j).take 40 ++ [zs] := by
                rw [List.take_take, Nat.min_eq_right (by omega), List.take_take, Nat.min_eq_right (by omega), List.take_add_one, HZS.out]
                rfl
              rw [this, List.map_append, ← HTX.out]
              rfl
            have hle : (((Z.take j).take 40).map (mtx 6 4)).length ≤ 40 := by rw [List.length_map, List.length_take]; omega
            obtain ⟨F, hF⟩ : ∃ F, ((Z.take j).take 40).map (mtx 6 4) = F := ⟨_, rfl⟩
            rw [hF] at HOr HNX hle
            clear hF
            go_wp2_with (at_builtin; refine wpList_append_own _ rfl _ _ 22 rfl w.heap.size 9 i9 _ 1 16 Tryd.underlying22 hi9 hz90 hz91 hz92 rfl (by decide) _ _ _ rfl (World.ownsRow.alloc HOr.out _) ⟨wr.heap.size, 0, none⟩ 1 1 [.string T] rfl rfl (World.news_of_block (Array.getElem?_push_size (xs := wr.heap) (x := .cells #[.string T] 9))) (one_one _ rfl) (by unfold maxLen; omega) (by omega) (by have := HUr.out.2; simp only [World.size_alloc]; omega) ?_)
            intro v' w3 hown2 hgr hnil
            have HO3 : Hid (OS w3 w.heap.size v' (((Z.take (j + 1)).take 40).map (mtx 6 4))) := by
              show w3.ownsRow _ _ _ _ _ _
              rw [HNX.out, List.length_append, List.map_append]
              exact hown2
            have HU3 : Hid (Up w.heap.size w w3) := (HUr.out.alloc _).grown hgr (own_base HOr.out)
            clear hown2 hgr hnil HOr HUr hcv
            go_wp2
            go_roundg (n - (j + 1))
            case measure => omega
            case rel => exact ⟨j + 1, _, rfl, by omega, rfl, by go_num, HO3, HU3⟩
          · have z2 : ¬ (j : Int) < 40 := by omega
            have HO2 : Hid (OS wr w.heap.size u7 (((Z.take (j + 1)).take 40).map (mtx 6 4))) := by
              show OS _ _ _ _
              rw [List.take_take, Nat.min_eq_left (by omega)]
              have := HOr.out
              rw [List.take_take, Nat.min_eq_left (by omega)] at this
              exact this
            clear hcv
            go_wp2
            go_roundg (n - (j + 1))
            case measure => omega
            case rel => exact ⟨j + 1, _, rfl, by omega, rfl, by go_num, HO2, HUr⟩
    · obtain rfl : j = n := by omega
      have z1 : ¬ (j : Int) < (j : Int) := by omega
      have hO := HO.out
      rw [List.take_of_length_le (l := Z) (by rw [HN.out]; exact Nat.le_refl _)] at hO
      have hsz : ∀ s ∈ (Z.take 40).map (mtx 6 4), s.size ≤ 2000000 := fun s hs => by
        obtain ⟨zs, _, rfl⟩ := List.mem_map.1 hs
        have := mtx_size 6 4 zs
        omega
      have c2 := sorted_any wT (tabs_stay HT.out HU.out.1) u7 _ hO.tl (by rw [List.length_map, List.length_take]; omega) hsz
      obtain ⟨Ls, eLs⟩ : ∃ Ls, (Z.take 40).map (mtx 6 4) = Ls := ⟨_, rfl⟩
      rw [eLs] at c2
      clear hO hsz eLs
      go_wp2_with fail
      refine c2.mono ?_
      rintro e w3 ⟨v3, rfl, hO3, hU3⟩
      have HU3 : Hid (Up w.heap.size w w3) := HU.out.stay hU3.1
      obtain ⟨hr, hgd, hL61⟩ := srtL_good Ls
      have hzz := makeP_zero hr hgd (by omega)
      generalize eL : srtL Ls = L at *
      have HO3 : Hid (OS w3 w.heap.size v3 L) := own_mono hO3 HU.out.2
      have HR : Hid (RiseK id L) := hr
      have HGD : Hid (∀ s ∈ L, GoodW s) := hgd
      have HZZ : Hid ((makeP L).1 = 0) := hzz
      have HGX : Hid (∀ s ∈ L, GoodX s) := fun s hs => GoodX.of (hgd s hs)
      obtain ⟨nL, hnL⟩ : ∃ q, L.length = q := ⟨_, rfl⟩
      have HL : Hid (L.length = nL) := hnL
      rw [hnL] at hL61
      obtain ⟨a3, c3, rfl, -, hno3, hso3⟩ := HO3.out.form
      have HSO : Hid (0 < nL → ∃ g, a3 = some ⟨g, 0, none⟩ ∧ g < w3.heap.size ∧ ∀ j, (hj : j < L.length) → w3.cell? ⟨g, j, none⟩ = some (.string L[j])) := fun h0 => by
        cases a3 with
        | none =>
          have := (hno3 rfl).1
          rw [this] at hnL
          simp at hnL
          omega
        | some a =>
          obtain ⟨g, rfl, _, h4, h5⟩ := hso3 a rfl
          exact ⟨g, rfl, h4, h5⟩
      rw [hnL] at HO3 ⊢
      clear hO3 hU3 c2 hr hgd hzz eL hnL hno3 hso3 HO HU
      by_cases hnl0 : nL = 0
      · subst hnl0
        go_wp2
        go_ret
        exact ⟨rfl, HU3.out.1⟩
      have g0 : ¬ (nL : Int) = 0 := by omega
      obtain ⟨g, rfl, hg3, hcs⟩ := HSO.out (by omega)
      have c3' := made_has w3 (tabs_stay HT.out HU3.out.1) (.slice (some ⟨g, 0, none⟩) nL c3) L HO3.out.tl HR.out HGD.out (by rw [HL.out]; omega)
      have HCS : Hid (∀ j, (hj : j < L.length) → w3.cell? ⟨g, j, none⟩ = some (.string L[j])) := hcs
      clear hcs HSO
      go_wp2_with fail
      refine c3'.mono ?_
      rintro e w7 ⟨hb7, vN, l, rfl, hM, hPn, hOk, h3, -⟩
      have HU7 : Hid (Up w.heap.size w w7) := HU3.out.stay hb7
      have hTr := tr_made hM hPn hOk h3 HZZ.out (by rw [HL.out]; omega)
      have HRS : Hid ((L.map rs).Pairwise (· < ·)) := hTr.rise
      obtain ⟨ix, hix⟩ : ∃ ix, q % nL = ix := ⟨_, rfl⟩
      have hixl : ix < nL := by rw [← hix]; exact Nat.mod_lt _ (by omega)
      have m4 : Int.tmod (q : Int) (nL : Int) = (ix : Int) := by rw [← hix]; exact nat_mod q nL
      have hcl := cell_stay (HCS.out ix (by rw [HL.out]; exact hixl)) hb7
      obtain ⟨word, ht⟩ : ∃ t, L[ix]'(by rw [HL.out]; exact hixl) = t := ⟨_, rfl⟩
      rw [ht] at hcl
      have HWD : Hid (word ∈ L) := by
        show word ∈ L
        rw [← ht]
        exact List.getElem_mem _
      have hwg := HGX.out word HWD.out
      have hws : word.size ≤ 64 := hwg.2.1
      have hwr : (rs word).length ≤ 64 := hwg.2.2.2
      have g3 : (ix : Int) < (nL : Int) := by omega
      have g4 : (0 : Int) ≤ (ix : Int) := by omega
      generalize w3.heap.size + 1 = T at *
      have HTR : Hid (Tr w7 (.pointer (some ⟨T, 0, none⟩)) L) := hTr
      obtain ⟨W, eW⟩ : ∃ W, rs word = W := ⟨_, rfl⟩
      have HEW : Hid (rs word = W) := eW
      clear hM hPn hOk h3 hTr hb7 c3' HO3 hix ht hwg eW HCS
      go_wp2
      go_loopg [16, 74] 4 (fun g l iv wr => ∃ (m : Nat) (l16 : Value), l = l16 ∧ m ≤ 4 ∧ g = 4 - m ∧ iv = .int .i64 m ∧ Hid (NL wr l16 (lastL L W m)) ∧ Hid (Up w7.heap.size w7 wr))
      case atStart => exact ⟨0, _, rfl, Nat.zero_le _, rfl, rfl, ⟨rfl, Or.inl ⟨_, 0, rfl, rfl⟩⟩, (Up.refl w7).alloc _⟩
      case round =>
        obtain ⟨m, l16, rfl, hm, hgm, rfl, HLS, HUm⟩ := hrel
        obtain ⟨wM, rfl⟩ : ∃ wM, wM = wr := ⟨_, rfl⟩
        have y0 : (0 : Int) ≤ (m : Int) := by omega
        by_cases hltm : m < 4
        · have y1 : (m : Int) < 4 := by omega
          have HUM : Hid (Up w.heap.size w wM) := HU7.out.stay HUm.out.1
          have hnodup := nodup_of HRS.out
          obtain ⟨R, hR⟩ : ∃ R, nearsP [] W m L = R := ⟨_, rfl⟩
          obtain ⟨rest, hself⟩ := near_self HRS.out HGX.out m HWD.out
          rw [HEW.out, hR] at hself
          have HSELF : Hid (R = ⟨word, 0⟩ :: rest) := hself
          have HLAST : Hid ((R.take 32).take (lastL L W m).length = lastL L W m ∧ (lastL L W m).length ≤ (R.take 32).length) := by
            cases m with
            | zero => exact ⟨rfl, Nat.zero_le _⟩
            | succ m' =>
              obtain ⟨rest2, h2⟩ := near_less hnodup [] W m'
              rw [hR] at h2
              exact take_last h2
          have HR2 : Hid (lastL L W (m + 1) = R.take 32) := by show (nearsP [] W m L).take 32 = _; rw [hR]
          obtain ⟨hf1, hf2⟩ := take_few (R := R) hk33l
          have c4 := words_any (s := word) (most := m) (k := 32) (vp := .slice none 0 0) (Pf := []) (tabs_stay HT.out HUM.out.1) (HTR.out.stay HUm.out) ⟨none, 0, rfl, fun j s hs => by simp at hs⟩ (by simp) (fun s hs => by cases hs) (by omega) (by omega) (by omega) hwr
          rw [HEW.out, hR] at c4
          have HRm : Hid (nearsP [] W m L = R) := hR
          clear hnodup hself hR
          go_wp2_with fail
          refine c4.mono ?_
          rintro e w8 ⟨v8, rfl, ho8, hb8⟩
          have HU8 : Hid (Up w7.heap.size w7 w8) := HUm.out.stay hb8
          have HO8 : Hid (ON w8 wM.heap.size v8 (R.take 32)) := ho8
          have HLS8 : Hid (NL w8 u16 (lastL L W m)) := HLS.out.stay hb8
          have c5 := words_any (s := word) (most := m) (k := k33) (vp := .slice none 0 0) (Pf := []) (tabs_stay HT.out (HU7.out.stay HU8.out.1).1) (HTR.out.stay HU8.out) ⟨none, 0, rfl, fun j s hs => by simp at hs⟩ (by simp) (fun s hs => by cases hs) (by omega) hk33l (by omega) hwr
          rw [HEW.out, HRm.out] at c5
          clear ho8 hb8 c4 HLS HUm HUM
          go_wp2_with fail
          refine c5.mono ?_
          rintro e w9 ⟨v9, rfl, ho9, hb9⟩
          have HU9 : Hid (Up w7.heap.size w7 w9) := HU8.out.stay hb9
          have HF9 : Hid (ON w9 w8.heap.size v9 (R.take k33)) := ho9
          have HA9 : Hid (ON w9 wM.heap.size v8 (R.take 32)) := HO8.out.stay hb9
          have HL9 : Hid (NL w9 u16 (lastL L W m)) := HLS8.out.stay hb9
          obtain ⟨nA, hnA⟩ : ∃ q, (R.take 32).length = q := ⟨_, rfl⟩
          obtain ⟨nF, hnF⟩ : ∃ q, (R.take k33).length = q := ⟨_, rfl⟩
          obtain ⟨nS, hnS⟩ : ∃ q, (lastL L W m).length = q := ⟨_, rfl⟩
          obtain ⟨aA, cA, rfl⟩ : ∃ a c, v8 = .slice a nA c := by rw [← hnA]; exact own_slice HA9.out
          obtain ⟨aF, cF, rfl⟩ : ∃ a c, v9 = .slice a nF c := by rw [← hnF]; exact own_slice HF9.out
          obtain ⟨aS, cS, eS, -⟩ := HL9.out.form
          rw [hnS] at eS
          rw [eS] at HL9
          rw [hnA, hnF] at hf1
          rw [hnF] at hf2
          have hla := HLAST.out
          rw [hnS, hnA] at hla
          have hA0 : (R.take 32)[0]? = some ⟨word, 0⟩ := by rw [HSELF.out]; rfl
          have hnA32 : nA ≤ 32 := by rw [← hnA, List.length_take]; omega
          have hnA1 : 0 < nA := by
            have := (List.getElem?_eq_some_iff.1 hA0).1
            omega
          obtain ⟨gA, rfl, hc0, hc1, -, -⟩ := on_cells HA9.out hnA hA0
          have hnFA : nF ≤ nA := by omega
          obtain ⟨hs1, ht1, hncA⟩ := srcs_take HA9.out hnA hnFA
          obtain ⟨hs2, ht2, -⟩ := srcs_take HA9.out hnA hla.2
          have c6 := sameN_any (R.take k33) (.slice aF nF cF) (.slice (some ⟨gA, 0, none⟩) nF cA) w9 (nl_on HF9.out) (by
            show Srcs _ _ _ _ _
            rw [hf2] at hs1
            rw [hnF]
            exact hs1) (by omega)
          have HS2 : Hid (NL w9 (.slice (some ⟨gA, 0, none⟩) nS cA) (lastL L W m)) := by
            show Srcs _ _ _ _ _
            rw [hla.1] at hs2
            rw [hnS]
            exact hs2
          have e1 : min (nA : Int) (k33 : Int) = (nF : Int) := by omega
          have e2 : ¬ (nA : Int) = 0 := by omega
          have e3 : (0 : Int) < (nA : Int) := by omega
          have e4 : (nF : Int) ≤ (cA : Int) := by omega
          have e5 : (0 : Int) ≤ (nF : Int) := by omega
          have e6 : (nS : Int) ≤ (cA : Int) := by have := hla.2; omega
          have e7 : (0 : Int) ≤ (nS : Int) := by omega
          have hc0' : w9.cell? ⟨gA, 0, none⟩ = some (.string word) := by simpa using hc0
          have hc1' : w9.cell? ⟨gA, 1, none⟩ = some (.int .i64 0) := by simpa using hc1
          have hnS5 : nS ≤ 5000 := by have := hla.2; omega
          have HNS : Hid ((lastL L W m).length = nS) := hnS
          have HC0 : Hid (w9.cell? ⟨gA, 0, none⟩ = some (.string word) ∧ w9.cell? ⟨gA, 1, none⟩ = some (.int .i64 0)) := ⟨hc0', hc1'⟩
          clear ho9 hb9 c5 HO8 HLS8 hnA hnF hnS hs1 hs2 ht1 ht2 hA0 hf1 hf2 hla hc0 hc1 hc0' hc1'
          subst eS
          go_wp2_with fail
          refine c6.mono ?_
          rintro e wA ⟨rfl, hbA⟩
          have HUA : Hid (Up w7.heap.size w7 wA) := HU9.out.stay hbA
          have HAA : Hid (ON wA wM.heap.size (.slice (some ⟨gA, 0, none⟩) nA cA) (R.take 32)) := HA9.out.stay hbA
          have c7 := sameN_any (lastL L W m) (.slice aS nS cS) (.slice (some ⟨gA, 0, none⟩) nS cA) wA (HL9.out.stay hbA) (HS2.out.stay hbA) (by rw [HNS.out]; exact hnS5)
          have hc0 := cell_stay HC0.out.1 hbA
          have hc1 := cell_stay HC0.out.2 hbA
          clear hbA c6 HA9 HL9 HS2 HF9
          go_wp2_with fail
          refine c7.mono ?_
          rintro e wB ⟨rfl, hbB⟩
          have HUB : Hid (Up w7.heap.size w7 wB) := HUA.out.stay hbB
          have HNB : Hid (NL wB (.slice (some ⟨gA, 0, none⟩) nA cA) (lastL L W (m + 1))) := by
            show NL _ _ _
            rw [HR2.out]
            exact (nl_on HAA.out).stay hbB
          clear hbB c7 HAA hc0 hc1
          go_wp2
          go_roundg (4 - (m + 1))
          case measure => omega
          case rel => exact ⟨m + 1, _, rfl, by omega, rfl, by go_num, HNB, HUB⟩
        · obtain rfl : m = 4 := by omega
          go_wp2
          go_ret
          exact ⟨rfl, (HU7.out.stay HUm.out.1).1⟩
end Go.Proofs.YtfikkkodepfdkaaDoor
