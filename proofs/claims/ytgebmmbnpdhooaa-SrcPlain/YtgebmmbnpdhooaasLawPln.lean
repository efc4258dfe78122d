/- SrcPlain. -/
import Derived.Test.YtgebmmbnpdhooaasApp
import Derived.Test.YtgebmmbnpdhooaasLawL
namespace Go.Proofs.Ytgebmmbnpdhooaa
set_option linter.unusedVariables false
open Go.RowKit Go.ChangeShapes
def plP : List (List Int) := [[97], [49], [32], [10], [43, 32], [40], [41], [123, 125], [120, 32, 61, 32, 121], [59], [92]]
theorem plP_ok : ∀ r, r < 11 → ∃ t, plP[r]? = some t ∧ (t.all fun x => plB x && decide (0 ≤ x) && decide (x < 256)) = true ∧ t.length ≤ 5 := by decide
def mkP : List (List Int) := [[47, 47], [47, 47], [35], [35], [45, 45]]
theorem mkP_ok : ∀ r, r < 5 → mkP[r]? = some (lineM r) := by decide
def ntK : List Int := [97, 98, 32, 34, 39, 47, 42]
theorem ntK_ok : ∀ r, r < 7 → cL ntK r ≠ 10 ∧ 0 ≤ cL ntK r ∧ cL ntK r < 256 := by decide
theorem ntK_at (r : Nat) (hr : r < 7) (h : r < (⟨#[97, 98, 32, 34, 39, 47, 42]⟩ : ByteArray).size) : (((⟨#[97, 98, 32, 34, 39, 47, 42]⟩ : ByteArray)[r]'h).toNat : Int) = cL ntK r := by
  revert h
  revert r
  decide
set_option maxRecDepth 100000 in
set_option maxHeartbeats 16000000 in
theorem plain_law {w : World} {a0 : Int} (ha0 : 0 ≤ a0 ∧ a0 < 256) {la na : Option Addr} {ln lcap nn ncap : Nat} {lc nc : Nat → Int} (hlC : Ch lc ln) (hl : BC w la ln lc) (hln : ln ≤ maxLen) (hnC : Ch nc nn) (hno : BC w na nn nc) (hnn : nn ≤ maxLen) :
    Calls Try.prog 8 #[.int .u8 a0, .slice la ln lcap, .slice na nn ncap] w fun ev w' => ev = .returned (.bool true) ∧ Below w.heap.size w w' := by
  have ca := awake_any w
  have hml : maxLen ≤ 9223372036854775807 := by unfold maxLen; omega
  have HH : Hid (Ch lc ln ∧ BC w la ln lc ∧ Ch nc nn ∧ BC w na nn nc) := ⟨hlC, hl, hnC, hno⟩
  obtain ⟨X0, hX0⟩ : ∃ X : Nat, a0 = (X : Int) := ⟨a0.toNat, by omega⟩
  subst hX0
  clear hlC hl ha0 hnC hno
  go_enter Try.func8, Try.ntmps8
  go_wp2_with fail
  refine ca.mono ?_
  rintro e w1 ⟨rfl, hb1⟩
  have HU1 : Hid (Up w.heap.size w w1) := ⟨hb1, hb1.size⟩
  clear ca hb1
  go_wp2
  go_loopg [7, 25] ln (fun q sv iv wr => ∃ (i : Nat) (S : ByteArray), i ≤ ln ∧ q = ln - i ∧ iv = .int .i64 i ∧ sv = .string S ∧ S.size ≤ 5 * min i 100 ∧ Hid (∃ B, S = strOfNums B ∧ Byt B ∧ ∀ x ∈ B, plB x = true) ∧ Hid (Up w.heap.size w wr))
  case atStart => exact ⟨0, _, Nat.zero_le _, rfl, rfl, rfl, Nat.zero_le _, ⟨[], rfl, fun x hx => (by cases hx), fun x hx => (by cases hx)⟩, HU1⟩
  case round =>
    obtain ⟨i, S, hi, hq, rfl, rfl, hS, HB, HU⟩ := hrel
    have hu := HU.out.2
    by_cases hlt : i < ln
    · have z1 : (i : Int) < (ln : Int) := by omega
      have z2 : (0 : Int) ≤ (i : Int) := by omega
      obtain ⟨b, off, rfl, hc⟩ := HH.out.2.1 i hlt
      have hcw := cell_stay hc HU.out.1
      have hci := HH.out.1.1 i hlt
      obtain ⟨X, hX⟩ : ∃ X : Nat, lc i = (X : Int) := ⟨(lc i).toNat, by omega⟩
      rw [hX] at hcw
      clear hc hX hci
      by_cases h9 : i < 100
      · have z3 : (i : Int) < 100 := by omega
        obtain ⟨r, hr⟩ : ∃ r, X % 11 = r := ⟨_, rfl⟩
        have hr8 : r < 11 := by rw [← hr]; exact Nat.mod_lt _ (by decide)
        have hmd : Int.tmod (X : Int) 11 = (r : Int) := by rw [← hr]; exact nat_mod X 11
        obtain ⟨t, ht, hall, ht2⟩ := plP_ok r hr8
        obtain ⟨Nm, hNm⟩ : ∃ Nm, strOfNums t = Nm := ⟨_, rfl⟩
        have hNs : Nm.size ≤ 5 := by rw [← hNm, strOfNums_size]; exact ht2
        obtain ⟨W, hW⟩ : ∃ W, wr.alloc (.cells #[.string ⟨#[97]⟩, .string ⟨#[49]⟩, .string ⟨#[32]⟩, .string ⟨#[10]⟩, .string ⟨#[43, 32]⟩, .string ⟨#[40]⟩, .string ⟨#[41]⟩, .string ⟨#[123, 125]⟩, .string ⟨#[120, 32, 61, 32, 121]⟩, .string ⟨#[59]⟩, .string ⟨#[92]⟩] 9) = W := ⟨_, rfl⟩
        have hbW : Below wr.heap.size wr W := by rw [← hW]; exact below_alloc wr _
        have hPS : PS W wr.heap.size plP := by rw [← hW]; exact lit_ps wr plP
        have y1 : W.cell? ⟨wr.heap.size, r, none⟩ = some (.string Nm) := by rw [← hNm]; exact hPS r t ht
        have HUW : Hid (Up w.heap.size w W) := HU.out.stay hbW
        have HBN : Hid (∃ B, S ++ Nm = strOfNums B ∧ Byt B ∧ ∀ x ∈ B, plB x = true) := by
          obtain ⟨B, e, hP, hPs⟩ := HB.out
          have ha : ∀ x ∈ t, (plB x = true ∧ 0 ≤ x) ∧ x < 256 := fun x hx => by simpa using List.all_eq_true.1 hall x hx
          refine ⟨B ++ t, by rw [nums_app, ← e, hNm], byt_app hP (fun x hx => ⟨(ha x hx).1.2, (ha x hx).2⟩), fun x hx => ?_⟩
          rcases List.mem_append.1 hx with h2 | h2
          · exact hPs x h2
          · exact (ha x h2).1.1
        have hsz : (S ++ Nm).size ≤ 5 * min (i + 1) 100 := by rw [ByteArray.size_append]; omega
        have q1 : ¬ 9223372036854775807 < S.size + Nm.size := by omega
        have z5 : (0 : Int) ≤ (r : Int) := by omega
        have z6 : (r : Int) < 11 := by omega
        clear hNm hbW hr HB hPS ht hall ht2
        go_wp2
        go_roundg (ln - (i + 1))
        case measure => omega
        case rel => exact ⟨i + 1, S ++ Nm, by omega, rfl, by go_num, rfl, hsz, HBN, HUW⟩
      · have z3 : ¬ (i : Int) < 100 := by omega
        go_wp2
        go_roundg (ln - (i + 1))
        case measure => omega
        case rel => exact ⟨i + 1, S, by omega, rfl, by go_num, rfl, by omega, HB, HU⟩
    · have z1 : ¬ (i : Int) < (ln : Int) := by omega
      obtain ⟨Bl, eB, hBy, hBp⟩ := HB.out
      have hS500 : S.size ≤ 500 := by omega
      obtain ⟨r, hr⟩ : ∃ r, X0 % 5 = r := ⟨_, rfl⟩
      have hr5 : r < 5 := by rw [← hr]; exact Nat.mod_lt _ (by decide)
      have hmd : Int.tmod (X0 : Int) 5 = (r : Int) := by rw [← hr]; exact nat_mod X0 5
      have z5 : (0 : Int) ≤ (r : Int) := by omega
      have z6 : (r : Int) < 5 := by omega
      obtain ⟨kf, hkf⟩ : ∃ x, 4 + (r : Int) = x := ⟨_, rfl⟩
      have hkb : 4 ≤ kf ∧ kf ≤ 8 := by omega
      have hwk : IntKind.u8.wrap (4 + (r : Int)) = kf := by
        have h5 : r = 0 ∨ r = 1 ∨ r = 2 ∨ r = 3 ∨ r = 4 := by omega
        rcases h5 with rfl | rfl | rfl | rfl | rfl <;> (subst hkf; rfl)
      obtain ⟨Mk, hMk⟩ : ∃ Mk, strOfNums (lineM r) = Mk := ⟨_, rfl⟩
      obtain ⟨mz, hmz⟩ : ∃ mz, (lineM r).length = mz := ⟨_, rfl⟩
      have hMs : Mk.size = mz := by rw [← hMk, strOfNums_size, hmz]
      have hmz2 : 1 ≤ mz ∧ mz ≤ 2 := by have := line_is hr5; omega
      obtain ⟨W, hW⟩ : ∃ W, wr.alloc (.cells #[.string ⟨#[47, 47]⟩, .string ⟨#[47, 47]⟩, .string ⟨#[35]⟩, .string ⟨#[35]⟩, .string ⟨#[45, 45]⟩] 9) = W := ⟨_, rfl⟩
      have hbW : Below wr.heap.size wr W := by rw [← hW]; exact below_alloc wr _
      have hPS : PS W wr.heap.size mkP := by rw [← hW]; exact lit_ps wr mkP
      have y1 : W.cell? ⟨wr.heap.size, r, none⟩ = some (.string Mk) := by rw [← hMk]; exact hPS r _ (mkP_ok r hr5)
      have HUW : Hid (Up w.heap.size w W) := HU.out.stay hbW
      obtain ⟨S2, hS2⟩ : ∃ S2, S ++ ⟨#[32]⟩ = S2 := ⟨_, rfl⟩
      have e2 : strOfNums (Bl ++ [32]) = S2 := by rw [nums_app, ← eB, ← hS2]; rfl
      obtain ⟨n, hn⟩ : ∃ n, (Bl ++ [32]).length = n := ⟨_, rfl⟩
      obtain ⟨bz, hbz⟩ : ∃ bz, S.size = bz := ⟨_, rfl⟩
      have hnz : n = bz + 1 := by
        rw [← hn, ← hbz, eB, strOfNums_size]
        simp
      have hby2 : Byt (Bl ++ [32]) := byt_app hBy (byt_lit _ rfl)
      obtain ⟨V, gc, hcv, hbV, cx⟩ := str_lex (wr := W) hby2 (by omega) e2 hn hkb
      have HUV : Hid (Up w.heap.size w V) := HUW.out.stay hbV
      have HLs : Hid (∀ j, j < n → lxA (fam kf) (cL (Bl ++ [32])) n j = 4) := fun j hj => by
        have := code_lab hkb hby2 (fun x hx => by
          rcases List.mem_append.1 hx with h2 | h2
          · exact hBp x h2
          · rw [List.mem_singleton] at h2; subst h2; rfl) j (by rw [hn]; exact hj)
        rw [hn] at this
        exact this
      have HR : Hid (r < 5 ∧ 4 + (r : Int) = kf ∧ strOfNums (lineM r) = Mk ∧ (lineM r).length = mz ∧ (4 ≤ kf ∧ kf ≤ 8)) := ⟨hr5, hkf, hMk, hmz, hkb⟩
      have HBl : Hid (S = strOfNums Bl ∧ Byt Bl ∧ (∀ x ∈ Bl, plB x = true) ∧ Bl.length = bz) := ⟨eB, hBy, hBp, by rw [← hbz, eB, strOfNums_size]⟩
      have q1 : ¬ 9223372036854775807 < bz + 1 := by omega
      have q2 : ¬ 9223372036854775807 < 1 + mz := by omega
      have q3 : ¬ 9223372036854775807 < bz + (1 + mz) := by omega
      have hnw : IntKind.i64.wrap ((bz : Int) + 1) = (n : Int) := by rw [Go.IntWalk.i64_in _ (by omega)]; omega
      have HNZ : Hid (n = bz + 1) := hnz
      have hnle : n ≤ 501 := by omega
      clear hr hr5 hkf hkb hMk hmz hbW hPS hby2 eB hBy hBp hbV HB HU hu hS hi hq hn e2 HUW hnz
      go_wp2_with fail
      refine cx.mono ?_
      rintro ev w3 ⟨T1, g1, rfl, hT1, hg1, hS1, hU1⟩
      have HS : Hid (Sh w3 T1 g1 n (lxA (fam kf) (cL (Bl ++ [32])) n)) := hS1
      have HU3 : Hid (Up w.heap.size w w3) := ⟨HUV.out.1.trans (hU1.1.mono HUV.out.2), Nat.le_trans HUV.out.2 hU1.2⟩
      clear cx hT1 hg1 hS1 hU1 hcv hW y1
      go_wp2
      go_loopg [7, 65] nn (fun q sv iv wx => ∃ (k : Nat) (S3 : ByteArray), k ≤ nn ∧ q = nn - k ∧ iv = .int .i64 k ∧ sv = .string S3 ∧ S3.size ≤ bz + (1 + mz) + min k 50 ∧ Hid (∃ N, S3 = strOfNums (Bl ++ [32] ++ lineM r ++ N) ∧ Byt N ∧ ∀ x ∈ N, x ≠ 10) ∧ Hid (Up w.heap.size w3 wx ∧ Up w.heap.size w wx ∧ Sh wx T1 g1 n (lxA (fam kf) (cL (Bl ++ [32])) n)))
      case atStart => exact ⟨0, _, Nat.zero_le _, rfl, by go_num, rfl, by rw [ByteArray.size_append, ByteArray.size_append, hbz, hMs]; exact Nat.le_add_right _ _, ⟨[], by rw [List.append_nil, List.append_assoc, nums_app, nums_app, ← HBl.out.1, HR.out.2.2.1]; rfl, fun x hx => (by cases hx), fun x hx => (by cases hx)⟩, ⟨⟨Below.refl _ _, HU3.out.2⟩, HU3.out, HS.out⟩⟩
      case round =>
        obtain ⟨k, S3, hk, hq, rfl, rfl, hS3, HN, HU⟩ := hrel
        by_cases hkn : k < nn
        · have z4 : (k : Int) < (nn : Int) := by omega
          have z7 : (0 : Int) ≤ (k : Int) := by omega
          obtain ⟨b, off, rfl, hc⟩ := HH.out.2.2.2 k hkn
          have hcw := cell_stay hc HU.out.2.1.1
          have hci := HH.out.2.2.1.1 k hkn
          obtain ⟨X, hX⟩ : ∃ X : Nat, nc k = (X : Int) := ⟨(nc k).toNat, by omega⟩
          rw [hX] at hcw
          clear hc hX hci
          by_cases h9 : k < 50
          · have z3 : (k : Int) < 50 := by omega
            obtain ⟨r7, hr⟩ : ∃ r, X % 7 = r := ⟨_, rfl⟩
            have hr7 : r7 < 7 := by rw [← hr]; exact Nat.mod_lt _ (by decide)
            have hmd2 : Int.tmod (X : Int) 7 = (r7 : Int) := by rw [← hr]; exact nat_mod X 7
            have hok := ntK_ok r7 hr7
            have hat := ntK_at r7 hr7 (show r7 < 7 from hr7)
            obtain ⟨y, hy⟩ : ∃ y, cL ntK r7 = y := ⟨_, rfl⟩
            rw [hy] at hok hat
            obtain ⟨Nm, hNm⟩ : ∃ Nm, strOfNums [y] = Nm := ⟨_, rfl⟩
            have hNs : Nm.size = 1 := by rw [← hNm]; rfl
            have hcv := one_str wr y
            rw [hNm] at hcv
            obtain ⟨W, hW⟩ : ∃ W, wr.alloc (.cells #[.int .u8 y] 5) = W := ⟨_, rfl⟩
            have hbW : Below wr.heap.size wr W := by rw [← hW]; exact below_alloc wr _
            rw [hW] at hcv
            have HUW : Hid (Up w.heap.size w3 W ∧ Up w.heap.size w W ∧ Sh W T1 g1 n (lxA (fam kf) (cL (Bl ++ [32])) n)) := ⟨HU.out.1.stay hbW, HU.out.2.1.stay hbW, HU.out.2.2.stay hbW⟩
            have HBN : Hid (∃ N, S3 ++ Nm = strOfNums (Bl ++ [32] ++ lineM r ++ N) ∧ Byt N ∧ ∀ x ∈ N, x ≠ 10) := by
              obtain ⟨N, e, hN1, hN2⟩ := HN.out
              refine ⟨N ++ [y], by rw [← List.append_assoc, nums_app, ← e, hNm], byt_app hN1 (byt1 y hok.2), fun x hx => ?_⟩
              rcases List.mem_append.1 hx with h2 | h2
              · exact hN2 x h2
              · rw [List.mem_singleton] at h2; subst h2; exact hok.1
            have hsz : (S3 ++ Nm).size ≤ bz + (1 + mz) + min (k + 1) 50 := by rw [ByteArray.size_append]; omega
            have q5 : ¬ 9223372036854775807 < S3.size + 1 := by omega
            have z8 : (0 : Int) ≤ (r7 : Int) := by omega
            have z9 : (r7 : Int) < 7 := by omega
            clear hNm hbW hr HN hok hy
            go_wp2
            go_roundg (nn - (k + 1))
            case measure => omega
            case rel => exact ⟨k + 1, S3 ++ Nm, by omega, rfl, by go_num, rfl, hsz, HBN, HUW⟩
          · have z3 : ¬ (k : Int) < 50 := by omega
            go_wp2
            go_roundg (nn - (k + 1))
            case measure => omega
            case rel => exact ⟨k + 1, S3, by omega, rfl, by go_num, rfl, by omega, HN, HU⟩
        · have z4 : ¬ (k : Int) < (nn : Int) := by omega
          obtain ⟨N, eN, hN1, hN2⟩ := HN.out
          obtain ⟨Cl, hCl⟩ : ∃ Cl, Bl ++ [32] ++ lineM r ++ N = Cl := ⟨_, rfl⟩
          rw [hCl] at eN
          obtain ⟨m, hm⟩ : ∃ m, Cl.length = m := ⟨_, rfl⟩
          have hSm : S3.size = m := by rw [eN, strOfNums_size, hm]
          have hmb : m ≤ 600 := by omega
          have hbyC : Byt Cl := by
            rw [← hCl]
            exact byt_app (byt_app (byt_app HBl.out.2.1 (byt_lit _ rfl)) (line_is HR.out.1).2.1) hN1
          have hmn : n + mz ≤ m := by
            rw [← hm, ← hCl]
            have h0 := HNZ.out
            have h1 := HBl.out.2.2.2
            have h2 := HR.out.2.2.2.1
            simp
            omega
          have HLab : Hid (∀ j, j < m → lxA (fam kf) (cL Cl) m j = if j < n then 4 else if j < n + mz then 3 else 1) := fun j hj => by
            have := rem_lab HR.out.1 HBl.out.2.1 HBl.out.2.2.1 hN1 hN2 j
            rw [hCl, hm, HR.out.2.1, HBl.out.2.2.2, HR.out.2.2.2.1, ← HNZ.out] at this
            exact this hj
          obtain ⟨V2, gc2, hcv2, hbV2, cx2⟩ := str_lex (wr := wr) hbyC (by omega) eN.symm hm HR.out.2.2.2.2
          have HUV2 : Hid (Up w.heap.size w V2 ∧ Sh V2 T1 g1 n (lxA (fam kf) (cL (Bl ++ [32])) n)) := ⟨HU.out.2.1.stay hbV2, HU.out.2.2.stay hbV2⟩
          clear hCl hbyC hN1 hN2 eN hm hbV2 HN HU hS3
          go_wp2_with fail
          refine cx2.mono ?_
          rintro ev w5 ⟨T2, g2, rfl, hT2, hg2, hS2', hU2⟩
          have HS2 : Hid (Sh w5 T2 g2 m (lxA (fam kf) (cL Cl) m)) := hS2'
          have HS1 : Hid (Sh w5 T1 g1 n (lxA (fam kf) (cL (Bl ++ [32])) n)) := HUV2.out.2.stay hU2.1
          have HU5 : Hid (Below w.heap.size w w5) := HUV2.out.1.1.trans (hU2.1.mono HUV2.out.1.2)
          clear cx2 hT2 hg2 hS2' hU2 hcv2
          obtain ⟨nm, hnm⟩ : ∃ nm : Nat, n + mz = nm := ⟨_, rfl⟩
          have hsum : IntKind.i64.wrap ((n : Int) + (mz : Int)) = (nm : Int) := by rw [Go.IntWalk.i64_in _ (by omega)]; omega
          rw [hnm] at HLab
          have HNM : Hid (n + mz = nm) := hnm
          clear hnm hmn
          go_wp2
          go_loopg [89] m (fun q iv wx => ∃ i : Nat, i ≤ m ∧ q = m - i ∧ iv = .int .i64 i ∧ wx = w5)
          case atStart => exact ⟨0, Nat.zero_le _, rfl, by go_num, rfl⟩
          case round =>
            obtain ⟨j, hj, hq, rfl, rfl⟩ := hrel
            by_cases hjn : j < m
            · have z3 : (j : Int) < (m : Int) := by omega
              have cA := at_any HS2.out j hjn
              rw [HLab.out j hjn] at cA
              by_cases h3 : j < n
              · have x1 : ¬ (n : Int) ≤ (j : Int) := by omega
                have x2 : ¬ (nm : Int) ≤ (j : Int) := by have := HNM.out; omega
                have x3 : (j : Int) < (n : Int) := by omega
                rw [if_pos h3] at cA
                have cB := at_any HS1.out j h3
                rw [HLs.out j h3] at cB
                clear h3
                go_wp2_with fail
                refine cA.mono ?_
                rintro ev w6 ⟨rfl, hw⟩
                subst w6
                go_wp2_with fail
                refine cB.mono ?_
                rintro ev w6 ⟨rfl, hw⟩
                subst w6
                go_wp2
                go_roundg (m - (j + 1))
                case measure => omega
                case rel => exact ⟨j + 1, by omega, rfl, by go_num, rfl⟩
              · rw [if_neg h3] at cA
                have x1 : (n : Int) ≤ (j : Int) := by omega
                have x3 : ¬ (j : Int) < (n : Int) := by omega
                by_cases h4 : j < nm
                · have x2 : ¬ (nm : Int) ≤ (j : Int) := by have := HNM.out; omega
                  rw [if_pos h4] at cA
                  clear h3 h4
                  go_wp2_with fail
                  refine cA.mono ?_
                  rintro ev w6 ⟨rfl, hw⟩
                  subst w6
                  go_wp2
                  go_roundg (m - (j + 1))
                  case measure => omega
                  case rel => exact ⟨j + 1, by omega, rfl, by go_num, rfl⟩
                · have x2 : (nm : Int) ≤ (j : Int) := by have := HNM.out; omega
                  rw [if_neg h4] at cA
                  clear h3 h4
                  go_wp2_with fail
                  refine cA.mono ?_
                  rintro ev w6 ⟨rfl, hw⟩
                  subst w6
                  go_wp2
                  go_roundg (m - (j + 1))
                  case measure => omega
                  case rel => exact ⟨j + 1, by omega, rfl, by go_num, rfl⟩
            · have z3 : ¬ (j : Int) < (m : Int) := by omega
              go_wp2
              go_ret
              exact ⟨rfl, HU5.out⟩
end Go.Proofs.Ytgebmmbnpdhooaa
