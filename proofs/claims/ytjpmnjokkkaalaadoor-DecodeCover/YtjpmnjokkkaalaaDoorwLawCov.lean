/- DecodeCover. -/
import Derived.Test.YtjpmnjokkkaalaaDoorwOneP
import Derived.Test.YtjpmnjokkkaalaaDoorwCovP
namespace Go.Proofs.YtjpmnjokkkaalaaDoor
set_option linter.unusedVariables false
open Go.RowKit Go.ChangeShapes
def plA (X : List Int) (i : Nat) : Bool := (X.take i).all plB
theorem plA_step {X : List Int} {i : Nat} {x : Int} (h : X[i]? = some x) : plA X (i + 1) = (plA X i && plB x) := by
  unfold plA
  rw [List.take_add_one, h, List.all_append]
  simp
set_option maxRecDepth 100000 in
set_option maxHeartbeats 8000000 in
theorem cover_law {w : World} (hG : Glb w) {f wh : Nat} {ba : Option Addr} {bn bcap : Nat} {bc : Nat → Int} (hbC : Ch bc bn) (hb : BC w ba bn bc) (hbcap : bn ≤ bcap) (hbn : bn ≤ maxLen)
    {la : Option Addr} {ln lcap : Nat} {lc : Nat → Int} (hlC : Ch lc ln) (hl : BC w la ln lc) (hln : ln ≤ maxLen) :
    Calls Tryd.prog 5 #[.int .u8 (f : Nat), .int .u8 (wh : Nat), .slice ba bn bcap, .slice la ln lcap] w fun ev w' => ev = .returned (.bool true) ∧ Below w.heap.size w w' := by
  have HH : Hid (Glb w ∧ (Ch bc bn ∧ BC w ba bn bc ∧ bn ≤ maxLen) ∧ (Ch lc ln ∧ BC w la ln lc ∧ ln ≤ maxLen)) := ⟨hG, ⟨hbC, hb, hbn⟩, ⟨hlC, hl, hln⟩⟩
  have ca := awake_any w hG
  clear hG hbC hb hlC hl
  go_enter Tryd.func5, Tryd.ntmps5
  go_wp2_with fail
  refine ca.mono ?_
  rintro ev w1 ⟨rfl, hb1⟩
  have HB1 : Hid (Below w.heap.size w w1) := hb1
  clear ca hb1
  by_cases hlong : 500 < bn
  · have g0 : (500 : Int) < (bn : Int) := by omega
    go_wp2
    go_ret
    exact ⟨rfl, HB1.out⟩
  · have g0 : ¬ (500 : Int) < (bn : Int) := by omega
    have cp := pieces_any w1
    go_wp2_with fail
    refine cp.mono ?_
    rintro ev w2 ⟨G, rfl, hP, hb2⟩
    have HB2 : Hid (Below w.heap.size w w2) := HB1.out.trans (hb2.mono HB1.out.size)
    have hps : psP.length = 37 := rfl
    have cb0 := bits_any (pc := 37) (rcap := bcap) (lcap := lcap) hP (pslen (by decide)) (psbyt (by decide)) (by decide) HH.out.2.2.1 (HH.out.2.2.2.1.stay HB2.out) HH.out.2.2.2.2 HH.out.2.1.1 (HH.out.2.1.2.1.stay HB2.out) HH.out.2.1.2.2
    rw [hps] at cb0
    obtain ⟨X, hX⟩ : ∃ X, bts psP bc bn (nl lc ln) = X := ⟨_, rfl⟩
    have hXn : X.length ≤ 1200 := by rw [← hX]; exact bts_len2 psP_20 _ _ _
    have hXb : Byt X := by rw [← hX]; exact bts_byt (psbyt (by decide)) HH.out.2.1.1 _
    rw [hX] at cb0
    clear cp hP hb2 hX hps
    go_wp2_with fail
    refine cb0.mono ?_
    rintro ev w3 ⟨v3, rfl, ho3, hb3⟩
    have HB3 : Hid (Below w.heap.size w w3) := HB2.out.trans (hb3.mono HB2.out.size)
    obtain ⟨ad, cap, rfl, hcap, hcbig⟩ := ob_form ho3
    have hbc3 := ho3.bc
    have hCh := cL_ch hXb
    obtain ⟨n, hn⟩ : ∃ n, X.length = n := ⟨_, rfl⟩
    have HXN : Hid (X.length = n) := hn
    rw [hn] at hbc3 hcap hXn hCh ⊢
    have HX : Hid (BC w3 ad n (cL X) ∧ Ch (cL X) n ∧ Byt X) := ⟨hbc3, hCh, hXb⟩
    clear cb0 ho3 hb3 hbc3 hCh hXb hn
    obtain ⟨fv, hfv⟩ : ∃ q : Int, (f : Int) % 9 = q := ⟨_, rfl⟩
    obtain ⟨lv, hlv⟩ : ∃ q : Int, 1 + (wh : Int) % 7 = q := ⟨_, rfl⟩
    have cu0 := units_any (A := 0) (M := n) HX.out.2.1.1 HX.out.1 hcap (by omega) hcbig (by omega) fv lv (HH.out.1.stay HB3.out)
    rw [Nat.zero_add] at cu0
    have cu : Calls Tryd.prog 15 #[.int .u8 fv, .slice ad n cap, .agg #[.int .u8 lv, .int .i64 0, .int .i64 (n : Int)]] w3 (UnQ w3 (un fv lv (cL X) n 0)) := cu0
    have hch := un_chn (f := fv) (l := lv) (c := cL X) (e := n) (fun j hj => by have := HX.out.2.1.1 j hj; omega) n 0 (by omega) (Nat.zero_le _)
    have hlen := un_len (f := fv) (l := lv) (c := cL X) (e := n) (fun j hj => by have := HX.out.2.1.1 j hj; omega) n 0 (by omega)
    have hpos := un_pos (f := fv) (l := lv) (c := cL X) (e := n) (fun j hj => by have := HX.out.2.1.1 j hj; omega) n 0 (by omega)
    have hall : ∀ k, (∀ j, j < n → plB (cL X j) = true) → Ends (strOfNums (cl (cL X) n)) k → un fv lv (cL X) n 0 = unS (strOfNums (cl (cL X) n)) k := fun k hp he => un_all (fun j hj => by have := HX.out.2.1.1 j hj; omega) hp he
    obtain ⟨U, hU⟩ : ∃ U, un fv lv (cL X) n 0 = U := ⟨_, rfl⟩
    rw [hU] at cu hch hlen hpos hall
    have HU : Hid (Chn 0 (spU U) n ∧ (∀ u ∈ U, ∃ a k : Nat, u.a = (a : Int) ∧ u.n = (k : Int) ∧ 0 ≤ a ∧ 0 < k ∧ a + k ≤ n ∧ -1 ≤ u.r ∧ u.r ≤ 1114111) ∧ (∀ k, (∀ j, j < n → plB (cL X j) = true) → Ends (strOfNums (cl (cL X) n)) k → U = unS (strOfNums (cl (cL X) n)) k)) := ⟨hch, hpos, hall⟩
    have hU9 : U.length ≤ 1200 := by omega
    clear cu0 hch hpos hall hlen hU
    go_wp2_with fail
    (try simp only [hfv])
    refine cu.mono ?_
    rintro ev w4 ⟨uv, rfl, hUR, hb4⟩
    have HB4 : Hid (Below w3.heap.size w3 w4) := hb4
    obtain ⟨uad, ucap, rfl, hucap, hh⟩ := hUR.us
    have HUS : Hid (US w4 (.slice uad U.length ucap) U) := hUR.us
    obtain ⟨m, hm⟩ : ∃ m, U.length = m := ⟨_, rfl⟩
    have HM : Hid (U.length = m) := hm
    rw [hm] at hucap hU9 HUS ⊢
    clear cu hUR hb4 hh hm hfv hlv
    obtain ⟨i0, hi, hz0, hz1, hz2⟩ := info_parts infoP
    go_wp2
    go_loopg [12, 43] m (fun q sv jv wr => ∃ j : Nat, j ≤ m ∧ q = m - j ∧ jv = .int .i64 j ∧ Hid (SP wr w4.heap.size sv (spU (U.take j))) ∧ Hid (Up w4.heap.size w4 wr))
    case atStart => exact ⟨0, Nat.zero_le _, rfl, rfl, World.ownsRow_nil _ _ _ _, Up.refl w4⟩
    case round =>
      obtain ⟨j, hj, hq, rfl, HS, HUp⟩ := hrel
      by_cases hlt : j < m
      · have z0 : (0 : Int) ≤ (j : Int) := by omega
        have z1 : (j : Int) < (m : Int) := by omega
        obtain ⟨x, hx⟩ : ∃ x, U[j]? = some x := ⟨_, List.getElem?_eq_getElem (by rw [HM.out]; exact hlt)⟩
        obtain ⟨a, kk, ha, hkk, -, -, -, -, -⟩ := HU.out.2.1 x (List.mem_of_getElem? hx)
        obtain ⟨A', C', eA, -, hA⟩ := HUS.out.stay HUp.out.1
        injection eA with eA e2 e3
        subst eA
        obtain ⟨b2, o2, rfl, -, c1, c2, c3⟩ := hA j x hx
        clear e2 e3
        rw [ha] at c2
        rw [hkk] at c3
        obtain ⟨xr, hxr⟩ : ∃ q, x.r = q := ⟨_, rfl⟩
        rw [hxr] at c1
        have HST : Hid (spU (U.take (j + 1)) = spU (U.take j) ++ [(a, kk)]) := by
          show _ = _
          rw [List.take_add_one, hx]
          simp [spU, ha, hkk]
        have hsl : (spU (U.take j)).length = j := by unfold spU; rw [List.length_map, List.length_take, HM.out]; omega
        obtain ⟨V, hV⟩ : ∃ V, wr.alloc (.cells #[.int .i32 xr, .int .i64 (a : Int), .int .i64 (kk : Int)] 53) = V := ⟨_, rfl⟩
        have hV0 : V.heap[wr.heap.size]? = some (.cells #[.int .i32 xr, .int .i64 (a : Int), .int .i64 (kk : Int)] 53) := by rw [← hV]; exact heap_alloc_new _ _
        have d1 : V.cell? ⟨wr.heap.size, 1, none⟩ = some (.int .i64 (a : Int)) := by simp [World.cell?, hV0]
        have d2 : V.cell? ⟨wr.heap.size, 2, none⟩ = some (.int .i64 (kk : Int)) := by simp [World.cell?, hV0]
        have hSV := HS.out
        unfold SP at hSV
        rw [hsl] at hSV
        have hdo : V.ownsRow w4.heap.size 35 2 u12 j (spC (spU (U.take j))) := by rw [← hV]; exact World.ownsRow.alloc hSV _
        have HU2 : Hid (Up w4.heap.size w4 V) := by show Up _ _ _; rw [← hV]; exact HUp.out.alloc _
        obtain ⟨Bw, hBw⟩ : ∃ B, wr.heap.size = B := ⟨_, rfl⟩
        rw [hBw] at d1 d2
        have HSL : Hid ((spU (U.take j)).length = j) := hsl
        clear hx ha hkk hA hxr hV0 hSV HS HUp hsl
        go_wp2_with (at_builtin; refine wpList_append_own _ rfl _ _ 51 rfl w4.heap.size 35 i0 _ 2 16 Tryd.underlying51 hi hz0 hz1 hz2 rfl (by decide) _ _ _ rfl (World.ownsRow.alloc hdo _) ⟨V.heap.size, 0, none⟩ 1 1 [.int .i64 (a : Int), .int .i64 (kk : Int)] rfl rfl ?c1 ?c2 ?c3 ?c4 ?c5 ?_)
        case c1 =>
          intro q u hq
          match q, hq with
          | 0, hq => simp at hq; subst hq; simp [Addr.add]
          | 1, hq => simp at hq; subst hq; simp [Addr.add]
          | (q + 2), hq => simp at hq
        case c2 => intro u hu; simp at hu; rcases hu with rfl | rfl <;> rfl
        case c3 => unfold maxLen; omega
        case c4 => omega
        case c5 => have := HU2.out.2; simp only [World.size_alloc]; omega
        intro v' w5 hown2 hgr hnil
        have HO3 : Hid (SP w5 w4.heap.size v' (spU (U.take (j + 1)))) := by
          show SP _ _ _ _
          rw [HST.out]
          unfold SP
          rw [spC_app, List.length_append, HSL.out]
          exact hown2
        have HU3 : Hid (Up w4.heap.size w4 w5) := (HU2.out.alloc _).grown hgr (own_base hdo)
        clear hown2 hgr hnil HU2 hdo hV hBw
        go_wp2
        go_roundg (m - (j + 1))
        case measure => omega
        case rel => exact ⟨j + 1, by omega, rfl, by go_num, HO3, HU3⟩
      · have z1 : ¬ (j : Int) < (m : Int) := by omega
        have hjm : j = m := by omega
        obtain ⟨wq, rfl⟩ : ∃ wq, wq = wr := ⟨_, rfl⟩
        have hS := HS.out
        rw [hjm, ← HM.out, List.take_length] at hS
        have HS1 : Hid (SP wq w4.heap.size u12 (spU U)) := hS
        have HBq : Hid (Below w.heap.size w wq) := (HB3.out.trans (HB4.out.mono HB3.out.size)).trans (HUp.out.1.mono (Nat.le_trans HB3.out.size HB4.out.size))
        have HBX : Hid (BC wq ad n (cL X)) := (HX.out.1.stay HB4.out).stay HUp.out.1
        have HUq : Hid (US wq (.slice uad m ucap) U) := HUS.out.stay HUp.out.1
        clear hS HS HUp
        go_wp2
        go_loopg [15, 55] n (fun q pv iv wr => ∃ i : Nat, i ≤ n ∧ q = n - i ∧ iv = .int .i64 i ∧ pv = .bool (plA X i) ∧ wr = wq)
        case atStart => exact ⟨0, Nat.zero_le _, rfl, rfl, rfl, rfl⟩
        case round =>
          obtain ⟨i, hi2, hq2, rfl, rfl, hwr⟩ := hrel
          have hwr' := hwr.symm
          subst hwr'
          clear hwr
          by_cases hin : i < n
          · have y0 : (0 : Int) ≤ (i : Int) := by omega
            have y1 : (i : Int) < (n : Int) := by omega
            obtain ⟨bx, ox, rfl, hcx⟩ := HBX.out i hin
            obtain ⟨x, hx⟩ : ∃ x, X[i]? = some x := ⟨_, List.getElem?_eq_getElem (by rw [HXN.out]; exact hin)⟩
            rw [cL_in hx] at hcx
            have HST : Hid (plA X (i + 1) = (plA X i && plB x)) := plA_step hx
            obtain ⟨pb, hpb⟩ : ∃ pb, plA X i = pb := ⟨_, rfl⟩
            have HPB : Hid (plA X i = pb) := hpb
            (try rw [hpb])
            clear hx hpb
            cases pb with
            | false =>
              have HN : Hid (plA X (i + 1) = false) := by show _ = _; rw [HST.out, HPB.out]; rfl
              go_wp2
              go_roundg (n - (i + 1))
              case measure => omega
              case rel => exact ⟨i + 1, by omega, rfl, by go_num, by rw [HN.out], rfl⟩
            | true =>
              by_cases t1 : x = 38
              · have e1 : (x != 38) = false := by rw [t1]; rfl
                have HN : Hid (plA X (i + 1) = false) := by show _ = _; rw [HST.out, HPB.out, t1]; rfl
                clear t1
                go_wp2
                go_roundg (n - (i + 1))
                case measure => omega
                case rel => exact ⟨i + 1, by omega, rfl, by go_num, by rw [HN.out], rfl⟩
              · have e1 : (x != 38) = true := by simpa using t1
                by_cases t2 : x = 92
                · have e2 : (x != 92) = false := by rw [t2]; rfl
                  have HN : Hid (plA X (i + 1) = false) := by show _ = _; rw [HST.out, HPB.out, t2]; rfl
                  clear t1 t2
                  go_wp2
                  go_roundg (n - (i + 1))
                  case measure => omega
                  case rel => exact ⟨i + 1, by omega, rfl, by go_num, by rw [HN.out], rfl⟩
                · have e2 : (x != 92) = true := by simpa using t2
                  by_cases t3 : x = 39
                  · have e3 : (x != 39) = false := by rw [t3]; rfl
                    have HN : Hid (plA X (i + 1) = false) := by show _ = _; rw [HST.out, HPB.out, t3]; rfl
                    clear t1 t2 t3
                    go_wp2
                    go_roundg (n - (i + 1))
                    case measure => omega
                    case rel => exact ⟨i + 1, by omega, rfl, by go_num, by rw [HN.out], rfl⟩
                  · have e3 : (x != 39) = true := by simpa using t3
                    have HN : Hid (plA X (i + 1) = true) := by show _ = _; rw [HST.out, HPB.out]; unfold plB; rw [e1, e2, e3]; rfl
                    clear t1 t2 t3
                    go_wp2
                    go_roundg (n - (i + 1))
                    case measure => omega
                    case rel => exact ⟨i + 1, by omega, rfl, by go_num, by rw [HN.out], rfl⟩
          · have y1 : ¬ (i : Int) < (n : Int) := by omega
            have hin2 : i = n := by omega
            have cc := cover_any HS1.out HU.out.1 (by omega) (by unfold spU; rw [List.length_map, HM.out]; omega)
            obtain ⟨pb, hpb⟩ : ∃ pb, plA X i = pb := ⟨_, rfl⟩
            have HPB : Hid (plA X i = pb) := hpb
            (try rw [hpb])
            clear hpb
            cases pb with
            | false =>
              go_wp2_with fail
              refine cc.mono ?_
              rintro ev w6 ⟨rfl, hb6⟩
              have HB6 : Hid (Below w.heap.size w w6) := HBq.out.trans (hb6.1.mono HBq.out.size)
              clear cc hb6
              go_wp2
              go_ret
              exact ⟨rfl, HB6.out⟩
            | true =>
              have HPL : Hid (∀ j, j < n → plB (cL X j) = true) := fun j hj => by
                have h1 := HPB.out
                unfold plA at h1
                rw [hin2, List.take_of_length_le (by rw [HXN.out]; exact Nat.le_refl _)] at h1
                obtain ⟨x, hx⟩ : ∃ x, X[j]? = some x := ⟨_, List.getElem?_eq_getElem (by rw [HXN.out]; exact hj)⟩
                rw [cL_in hx]
                exact List.all_eq_true.1 h1 x (List.mem_of_getElem? hx)
              have HG3 : Hid (Glb wq) := HH.out.1.stay HBq.out
              go_wp2_with fail
              refine cc.mono ?_
              rintro ev w6 ⟨rfl, hb6⟩
              have hBX6 : BC w6 ad n (cL X) := HBX.out.stay hb6.1
              have hsz : (strOfNums (cl (cL X) n)).size = n := by rw [strOfNums_size, cl_len]
              have hBS : Lns.BSl w6 (.slice ad n cap) (strOfNums (cl (cL X) n)) := by
                rcases Nat.eq_zero_or_pos n with h0 | h0
                · exact Or.inl ⟨ad, cap, by rw [h0], by rw [hsz, h0]⟩
                · obtain ⟨bx, ox, rfl, -⟩ := hBX6 0 h0
                  exact Or.inr ⟨bx, ox, cap, by rw [hsz], by rw [hsz]; exact h0, by rw [hsz]; exact hcap, bc_by HX.out.2.1.1 hBX6⟩
              have cU := Lns.unitsS_any (strOfNums (cl (cL X) n)) _ w6 (by rw [hsz]; omega) (HG3.out.stay hb6.1).1 hBS
              have HB6 : Hid (Below w.heap.size w w6 ∧ US w6 (.slice uad m ucap) U) := ⟨HBq.out.trans (hb6.1.mono HBq.out.size), HUq.out.stay hb6.1⟩
              clear cc hb6 hBX6 hBS
              go_wp2_with fail
              refine cU.mono ?_
              rintro ev w7 ⟨k7, v7, rfl, he7, hr7, hb7⟩
              have hUeq := HU.out.2.2 k7 HPL.out he7
              have hus : US w7 v7 U := by rw [hUeq]; exact unS_us hr7
              have csm := rsameU_any (HB6.out.2.stay hb7) hus (by rw [HM.out]; omega)
              have HB7 : Hid (Below w.heap.size w w7) := HB6.out.1.trans (hb7.mono HB6.out.1.size)
              clear cU hr7 hb7 hUeq hus he7
              go_wp2_with fail
              refine csm.mono ?_
              rintro ev w8 ⟨rfl, hb8⟩
              have HB8 : Hid (Below w.heap.size w w8) := HB7.out.trans (hb8.mono HB7.out.size)
              clear csm hb8
              go_wp2
              go_ret
              exact ⟨rfl, HB8.out⟩
theorem cover_u8 {w : World} (hG : Glb w) {f wh : Int} (hf : 0 ≤ f ∧ f < 256) (hw : 0 ≤ wh ∧ wh < 256) {ba : Option Addr} {bn bcap : Nat} {bc : Nat → Int} (hbC : Ch bc bn) (hb : BC w ba bn bc) (hbcap : bn ≤ bcap) (hbn : bn ≤ maxLen)
    {la : Option Addr} {ln lcap : Nat} {lc : Nat → Int} (hlC : Ch lc ln) (hl : BC w la ln lc) (hln : ln ≤ maxLen) :
    Calls Tryd.prog 5 #[.int .u8 f, .int .u8 wh, .slice ba bn bcap, .slice la ln lcap] w fun ev w' => ev = .returned (.bool true) ∧ Below w.heap.size w w' := by
  obtain ⟨F, rfl⟩ : ∃ F : Nat, f = (F : Int) := ⟨f.toNat, by omega⟩
  obtain ⟨H, rfl⟩ : ∃ H : Nat, wh = (H : Int) := ⟨wh.toNat, by omega⟩
  exact cover_law hG hbC hb hbcap hbn hlC hl hln
end Go.Proofs.YtjpmnjokkkaalaaDoor
