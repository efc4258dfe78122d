/- MarkFront. -/
import Derived.Test.YtodjfeheagnnpaaDoormStb
import Derived.Test.YtodjfeheagnnpaaDoormFrtP
namespace Go.Proofs.YtodjfeheagnnpaaDoor
set_option linter.unusedVariables false
open Go.RowKit Go.ChangeShapes
theorem frT_ok : ∀ r, r < 5 → ∃ t, frT[r]? = some t ∧ t ∈ frT ∧ t.length ≤ 4 := by decide

set_option maxRecDepth 100000 in
set_option maxHeartbeats 1000000 in
theorem front_n {w : World} (hG : GlM w) {la : Option Addr} {ln lcap : Nat} {lc : Nat → Int} (hlC : Ch lc ln) (hl : BC w la ln lc) (hln : ln ≤ maxLen) (en : Bool) :
    Calls Tryd.prog 6 #[.slice la ln lcap, .bool en, .bool false] w fun ev w' => ev = .returned (.bool true) ∧ Below w.heap.size w w' := by
  have hed : EdOk [] := Or.inl rfl
  have ca := mawake_any w hG
  have HH : Hid (GlM w ∧ Ch lc ln ∧ BC w la ln lc) := ⟨hG, hlC, hl⟩
  have hml : maxLen ≤ 9223372036854775807 := by unfold maxLen; omega
  clear hG hlC hl
  go_enter Tryd.func6, Tryd.ntmps6
  go_wp2_with fail
  refine ca.mono ?_
  rintro e w1 ⟨rfl, hb1⟩
  have HU1 : Hid (Up w.heap.size w w1) := ⟨hb1, hb1.size⟩
  clear ca hb1
  go_wp2
  go_loopg [8, 22] ln (fun q sv iv wr => ∃ (i : Nat) (S : ByteArray), i ≤ ln ∧ q = ln - i ∧ iv = .int .i64 i ∧ sv = .string S ∧ S.size ≤ 6 + 7 * min i 20 ∧ Hid (∃ q, S = strOfNums (frA [] q) ∧ Qok [] q ∧ q.length ≤ min i 20) ∧ Hid (Up w.heap.size w wr))
  case atStart => exact ⟨0, _, Nat.zero_le _, rfl, rfl, rfl, by decide, ⟨[], rfl, fun l hl => (by cases hl), Nat.zero_le _⟩, HU1⟩
  case round =>
    obtain ⟨i, S, hi, hq, rfl, rfl, hS, HB, HU⟩ := hrel
    have hu := HU.out.2
    by_cases hlt : i < ln
    · have z1 : (i : Int) < (ln : Int) := by omega
      have z2 : (0 : Int) ≤ (i : Int) := by omega
      obtain ⟨b, off, rfl, hc⟩ := HH.out.2.2 i hlt
      have hcw := cell_stay hc HU.out.1
      have hci := HH.out.2.1.1 i hlt
      obtain ⟨X, hX⟩ : ∃ X : Nat, lc i = (X : Int) := ⟨(lc i).toNat, by omega⟩
      rw [hX] at hcw
      clear hc hX hci
      by_cases h9 : i < 20
      · have z3 : (i : Int) < 20 := by omega
        obtain ⟨r, hr⟩ : ∃ r, X % 5 = r := ⟨_, rfl⟩
        have hr15 : r < 5 := by rw [← hr]; exact Nat.mod_lt _ (by decide)
        have hmd : Int.tmod (X : Int) 5 = (r : Int) := by rw [← hr]; exact nat_mod X 5
        obtain ⟨t, ht, htT, ht4⟩ := frT_ok r hr15
        obtain ⟨Nm, hNm⟩ : ∃ Nm, strOfNums t = Nm := ⟨_, rfl⟩
        have hNs : Nm.size ≤ 4 := by rw [← hNm, strOfNums_size]; exact ht4
        obtain ⟨W, hW⟩ : ∃ W, wr.alloc (.cells #[.string ⟨#[97, 58, 32, 98]⟩, .string ⟨#[120]⟩, .string ⟨#[32, 32, 121]⟩, .string ⟨#[45, 45, 32, 45]⟩, .string ⟨#[]⟩] 9) = W := ⟨_, rfl⟩
        have hbW : Below wr.heap.size wr W := by rw [← hW]; exact below_alloc wr _
        have hPS : PS W wr.heap.size frT := by rw [← hW]; exact lit_ps wr frT
        have y1 : W.cell? ⟨wr.heap.size, r, none⟩ = some (.string Nm) := by rw [← hNm]; exact hPS r t ht
        have HUW : Hid (Up w.heap.size w W) := HU.out.stay hbW
        have HBN : Hid (∃ q, S ++ (Nm ++ ⟨#[10]⟩) = strOfNums (frA [] q) ∧ Qok [] q ∧ q.length ≤ min (i + 1) 20) := by
          obtain ⟨q, e, hP, hl⟩ := HB.out
          exact ⟨q ++ [t ++ []], by rw [frA_snoc, nums_app, nums_app, ← e, hNm]; rfl, hP.snoc htT, by rw [List.length_append, List.length_singleton]; omega⟩
        have hsz : (S ++ (Nm ++ ⟨#[10]⟩)).size ≤ 6 + 7 * min (i + 1) 20 := by rw [ByteArray.size_append, ByteArray.size_append, show (⟨#[10]⟩ : ByteArray).size = 1 from rfl]; omega
        have q1 : ¬ 9223372036854775807 < Nm.size + 1 := by omega
        have q2 : ¬ 9223372036854775807 < S.size + (Nm.size + 1) := by omega
        have z5 : (0 : Int) ≤ (r : Int) := by omega
        have z6 : (r : Int) < 5 := by omega
        clear ht htT hNm hbW hPS hr HB
        go_wp2
        go_roundg (ln - (i + 1))
        case measure => omega
        case rel => exact ⟨i + 1, S ++ (Nm ++ ⟨#[10]⟩), by omega, rfl, by go_num, rfl, hsz, HBN, HUW⟩
      · have z3 : ¬ (i : Int) < 20 := by omega
        have HBN : Hid (∃ q, S = strOfNums (frA [] q) ∧ Qok [] q ∧ q.length ≤ min (i + 1) 20) := by
          obtain ⟨q, e, hP, hl⟩ := HB.out
          exact ⟨q, e, hP, by omega⟩
        go_wp2
        go_roundg (ln - (i + 1))
        case measure => omega
        case rel => exact ⟨i + 1, S, by omega, rfl, by go_num, rfl, by omega, HBN, HU⟩
    · obtain rfl : i = ln := by omega
      have z1 : ¬ (i : Int) < (i : Int) := by omega
      obtain ⟨q, hq1, hq2, hq3⟩ := HB.out
      clear HB hq3
      cases en with
      | true =>
      have hb0 : Byt (frY [] q) := (frY_pj hed hq2).1
      have hs1 : ((S ++ (⟨#[45, 45, 45]⟩ ++ ⟨#[10]⟩)) ++ ⟨#[119, 111, 114, 100, 10]⟩ : ByteArray) = strOfNums (frY [] q) := by
        unfold frY
        rw [nums_app, nums_app, nums_app, ← hq1]
        rfl
      have hl1 : (frY [] q).length = S.size + (4 + 5) := by
        rw [hq1, strOfNums_size]
        unfold frY
        simp
      have hlab := frY_lab hed hq2
      rw [show (frA [] q).length = S.size by rw [hq1, strOfNums_size]] at hlab
      have q1 : ¬ 9223372036854775807 < 3 + 1 := by decide
      have q2 : ¬ 9223372036854775807 < S.size + (3 + 1) := by omega
      have q3 : ¬ 9223372036854775807 < S.size + (3 + 1) + 5 := by omega
      have hcv := Lib.run_convert_string_bytes (P := Tryd.prog) wr 9 22 5 ((S ++ (⟨#[45, 45, 45]⟩ ++ ⟨#[10]⟩)) ++ ⟨#[119, 111, 114, 100, 10]⟩) Tryd.underlying9 Tryd.underlying22 Tryd.underlying5
      obtain ⟨m, hm⟩ : ∃ m, S.size + (4 + 5) = m := ⟨_, rfl⟩
      have hgc := grownCap_ge wr m 0 5
      have hgm := grownCap_le_maxLen wr m 0 5 (by unfold maxLen; omega)
      have hbc := conv_cl (w := wr) hb0
      have hbw := conv_below wr (strOfNums (frY [] q))
      rw [show ((S ++ (⟨#[45, 45, 45]⟩ ++ ⟨#[10]⟩)) ++ ⟨#[119, 111, 114, 100, 10]⟩ : ByteArray).size = m by rw [hs1, strOfNums_size, hl1, hm], hs1] at hcv
      rw [hl1, hm] at hbc
      rw [hl1, hm] at hlab
      generalize Lib.bytesWorld wr 5 (strOfNums (frY [] q)) = V at hcv hbc hbw
      generalize grownCap wr m 0 5 = gc at hcv hgc hgm
      have hUV : Up w.heap.size w V := HU.out.stay hbw
      have cx := mlex_any (cap := gc) (by rw [← hm, ← hl1]; exact cL_ch hb0) hbc (by omega) (by omega) hgc (by omega) (HH.out.1.stay hUV.1) (fun e _ => an_list (fun x hx => (plB_ne ((frY_pj hed hq2).2.1 x hx)).2.1) e)
      unfold MlP at cx
      rw [hlab] at cx
      have HUV : Hid (Up w.heap.size w V) := hUV
      rw [← hs1] at hcv
      have hm2 : (m : Int) - 2 = ((m - 2 : Nat) : Int) := by omega
      have hmS : S.size + (4 + 5) ≤ m := by omega
      have hSm : m ≤ S.size + (4 + 5) := by omega
      obtain ⟨kk, hkk⟩ : ∃ kk, m - 2 = kk := ⟨_, rfl⟩
      rw [hkk] at hm2
      have hk1 : kk < m := by omega
      have hk2 : S.size + 4 ≤ kk := by omega
      have HK : Hid (kk = S.size + 4 + 3) := by show _ = _; omega
      obtain ⟨Lb, hLb⟩ : ∃ Lb, setL (fun _ => (1 : Int)) 4 0 ((S.size + (4 + ([] : List Int).length) : Nat) : Int) = Lb := ⟨_, rfl⟩
      rw [hLb] at cx
      have L1 : ∀ i, i < S.size + 4 → Lb i = 4 := fun i hi => by rw [← hLb]; unfold setL; rw [if_pos ⟨by omega, by simp; omega⟩]
      have L2 : Lb kk = 1 := by rw [← hLb]; unfold setL; rw [if_neg (by simp; omega)]
      have HL : Hid (∀ i, i < S.size + 4 → Lb i = 4) := L1
      clear hLb L1
      clear hb0 hs1 hl1 hlab hgc hgm hbc hbw hUV hm hkk hq1 hq2
      go_wp2_with fail
      refine cx.mono ?_
      rintro e w2 ⟨T, g, rfl, hT, hg, hSh, hU2⟩
      have HU2 : Hid (Below w.heap.size w w2) := HUV.out.1.trans (hU2.1.mono HUV.out.2)
      have HS : Hid (Sh w2 T g m Lb) := hSh
      clear cx hSh hU2 hT hg hcv
      obtain ⟨la, hla⟩ : ∃ la, (S.size + (3 + 1)) = la := ⟨_, rfl⟩
      have HLA : Hid (kk = la + 3) := by show kk = la + 3; rw [HK.out, ← hla]
      go_upto_region 20 with fail
      go_loopg [57] la (fun q iv wr => ∃ i : Nat, i ≤ la ∧ q = la - i ∧ iv = .int .i64 i ∧ Hid (Sh wr T g m Lb ∧ Below w.heap.size w wr))
      case atStart => exact ⟨0, Nat.zero_le _, rfl, rfl, HS.out, HU2.out⟩
      case round =>
        obtain ⟨i2, hi2, hq2, rfl, HR⟩ := hrel
        by_cases hlt2 : i2 < la
        · have y1 : (i2 : Int) < (la : Int) := by omega
          have c4 := at_any HR.out.1 i2 (by omega)
          rw [HL.out i2 (by omega)] at c4
          go_wp2_with fail
          refine c4.mono ?_
          rintro e w4 ⟨rfl, hw⟩
          subst w4
          clear c4
          go_wp2
          go_roundg (la - (i2 + 1))
          case measure => omega
          case rel => exact ⟨i2 + 1, by omega, rfl, by go_num, HR⟩
        · obtain rfl : i2 = la := by omega
          have y1 : ¬ (i2 : Int) < (i2 : Int) := by omega
          have c4 := at_any HR.out.1 kk hk1
          rw [L2, show ((kk : Nat) : Int) = (i2 : Int) + 5 - 2 by have := HLA.out; omega] at c4
          go_wp2_with fail
          refine c4.mono ?_
          rintro e w4 ⟨rfl, hw⟩
          subst w4
          clear c4
          go_wp2
          go_ret
          exact ⟨rfl, HR.out.2⟩
      | false =>
      have hb0 : Byt (frN [] q) := (frN_pj hed hq2).1
      have hs1 : (S ++ ⟨#[119, 111, 114, 100, 10]⟩ : ByteArray) = strOfNums (frN [] q) := by
        unfold frN
        rw [nums_app, ← hq1]
        rfl
      have hl1 : (frN [] q).length = S.size + (0 + 5) := by
        rw [hq1, strOfNums_size]
        unfold frN
        simp
      have hlab := frN_lab hed hq2
      have q3 : ¬ 9223372036854775807 < S.size + 5 := by omega
      have hcv := Lib.run_convert_string_bytes (P := Tryd.prog) wr 9 22 5 (S ++ ⟨#[119, 111, 114, 100, 10]⟩) Tryd.underlying9 Tryd.underlying22 Tryd.underlying5
      obtain ⟨m, hm⟩ : ∃ m, S.size + (0 + 5) = m := ⟨_, rfl⟩
      have hgc := grownCap_ge wr m 0 5
      have hgm := grownCap_le_maxLen wr m 0 5 (by unfold maxLen; omega)
      have hbc := conv_cl (w := wr) hb0
      have hbw := conv_below wr (strOfNums (frN [] q))
      rw [show (S ++ ⟨#[119, 111, 114, 100, 10]⟩ : ByteArray).size = m by rw [hs1, strOfNums_size, hl1, hm], hs1] at hcv
      rw [hl1, hm] at hbc
      rw [hl1, hm] at hlab
      generalize Lib.bytesWorld wr 5 (strOfNums (frN [] q)) = V at hcv hbc hbw
      generalize grownCap wr m 0 5 = gc at hcv hgc hgm
      have hUV : Up w.heap.size w V := HU.out.stay hbw
      have cx := mlex_any (cap := gc) (by rw [← hm, ← hl1]; exact cL_ch hb0) hbc (by omega) (by omega) hgc (by omega) (HH.out.1.stay hUV.1) (fun e _ => an_list (fun x hx => (plB_ne ((frN_pj hed hq2).2.1 x hx)).2.1) e)
      unfold MlP at cx
      rw [hlab] at cx
      have HUV : Hid (Up w.heap.size w V) := hUV
      rw [← hs1] at hcv
      have hm2 : (m : Int) - 2 = ((m - 2 : Nat) : Int) := by omega
      have hmS : S.size + (0 + 5) ≤ m := by omega
      have hSm : m ≤ S.size + (0 + 5) := by omega
      obtain ⟨kk, hkk⟩ : ∃ kk, m - 2 = kk := ⟨_, rfl⟩
      rw [hkk] at hm2
      have hk1 : kk < m := by omega
      have hk2 : S.size + 0 ≤ kk := by omega
      have HK : Hid (kk = S.size + 0 + 3) := by show _ = _; omega
      obtain ⟨Lb, hLb⟩ : ∃ Lb : Nat → Int, (fun _ => (1 : Int)) = Lb := ⟨_, rfl⟩
      rw [hLb] at cx
      have L2 : Lb kk = 1 := by rw [← hLb]
      have L3 : Lb 0 = 1 := by rw [← hLb]
      clear hLb
      clear hb0 hs1 hl1 hlab hgc hgm hbc hbw hUV hm hkk hq1 hq2
      go_wp2_with fail
      refine cx.mono ?_
      rintro e w2 ⟨T, g, rfl, hT, hg, hSh, hU2⟩
      have HU2 : Hid (Below w.heap.size w w2) := HUV.out.1.trans (hU2.1.mono HUV.out.2)
      have HS : Hid (Sh w2 T g m Lb) := hSh
      clear cx hSh hU2 hT hg hcv
      obtain ⟨la, hla⟩ : ∃ la, S.size = la := ⟨_, rfl⟩
      have HLA : Hid (kk = la + 3) := by show kk = la + 3; rw [HK.out, ← hla]
      go_upto_region 20 with fail
      go_loopg [57] la (fun q iv wr => ∃ i : Nat, i ≤ la ∧ q = la - i ∧ iv = .int .i64 i ∧ Hid (Sh wr T g m Lb ∧ Below w.heap.size w wr))
      case atStart => exact ⟨0, Nat.zero_le _, rfl, rfl, HS.out, HU2.out⟩
      case round =>
        obtain ⟨i2, hi2, hq2, rfl, HR⟩ := hrel
        by_cases hlt2 : i2 < la
        · have y1 : (i2 : Int) < (la : Int) := by omega
          go_wp2
          go_roundg (la - (i2 + 1))
          case measure => omega
          case rel => exact ⟨i2 + 1, by omega, rfl, by go_num, HR⟩
        · obtain rfl : i2 = la := by omega
          have y1 : ¬ (i2 : Int) < (i2 : Int) := by omega
          have c4 := at_any HR.out.1 kk hk1
          rw [L2, show ((kk : Nat) : Int) = (i2 : Int) + 5 - 2 by have := HLA.out; omega] at c4
          have c5 := at_any HR.out.1 0 (by omega)
          rw [L3] at c5
          go_wp2_with fail
          refine c4.mono ?_
          rintro e w4 ⟨rfl, hw⟩
          subst w4
          clear c4
          go_wp2_with fail
          refine c5.mono ?_
          rintro e w4 ⟨rfl, hw⟩
          subst w4
          clear c5
          go_wp2
          go_ret
          exact ⟨rfl, HR.out.2⟩

set_option maxRecDepth 100000 in
set_option maxHeartbeats 1000000 in
theorem front_c {w : World} (hG : GlM w) {la : Option Addr} {ln lcap : Nat} {lc : Nat → Int} (hlC : Ch lc ln) (hl : BC w la ln lc) (hln : ln ≤ maxLen) (en : Bool) :
    Calls Tryd.prog 6 #[.slice la ln lcap, .bool en, .bool true] w fun ev w' => ev = .returned (.bool true) ∧ Below w.heap.size w w' := by
  have hed : EdOk [32, 13] := Or.inr rfl
  have ca := mawake_any w hG
  have HH : Hid (GlM w ∧ Ch lc ln ∧ BC w la ln lc) := ⟨hG, hlC, hl⟩
  have hml : maxLen ≤ 9223372036854775807 := by unfold maxLen; omega
  clear hG hlC hl
  go_enter Tryd.func6, Tryd.ntmps6
  go_wp2_with fail
  refine ca.mono ?_
  rintro e w1 ⟨rfl, hb1⟩
  have HU1 : Hid (Up w.heap.size w w1) := ⟨hb1, hb1.size⟩
  clear ca hb1
  go_wp2
  go_loopg [8, 22] ln (fun q sv iv wr => ∃ (i : Nat) (S : ByteArray), i ≤ ln ∧ q = ln - i ∧ iv = .int .i64 i ∧ sv = .string S ∧ S.size ≤ 6 + 7 * min i 20 ∧ Hid (∃ q, S = strOfNums (frA [32, 13] q) ∧ Qok [32, 13] q ∧ q.length ≤ min i 20) ∧ Hid (Up w.heap.size w wr))
  case atStart => exact ⟨0, _, Nat.zero_le _, rfl, rfl, rfl, by decide, ⟨[], rfl, fun l hl => (by cases hl), Nat.zero_le _⟩, HU1⟩
  case round =>
    obtain ⟨i, S, hi, hq, rfl, rfl, hS, HB, HU⟩ := hrel
    have hu := HU.out.2
    by_cases hlt : i < ln
    · have z1 : (i : Int) < (ln : Int) := by omega
      have z2 : (0 : Int) ≤ (i : Int) := by omega
      obtain ⟨b, off, rfl, hc⟩ := HH.out.2.2 i hlt
      have hcw := cell_stay hc HU.out.1
      have hci := HH.out.2.1.1 i hlt
      obtain ⟨X, hX⟩ : ∃ X : Nat, lc i = (X : Int) := ⟨(lc i).toNat, by omega⟩
      rw [hX] at hcw
      clear hc hX hci
      by_cases h9 : i < 20
      · have z3 : (i : Int) < 20 := by omega
        obtain ⟨r, hr⟩ : ∃ r, X % 5 = r := ⟨_, rfl⟩
        have hr15 : r < 5 := by rw [← hr]; exact Nat.mod_lt _ (by decide)
        have hmd : Int.tmod (X : Int) 5 = (r : Int) := by rw [← hr]; exact nat_mod X 5
        obtain ⟨t, ht, htT, ht4⟩ := frT_ok r hr15
        obtain ⟨Nm, hNm⟩ : ∃ Nm, strOfNums t = Nm := ⟨_, rfl⟩
        have hNs : Nm.size ≤ 4 := by rw [← hNm, strOfNums_size]; exact ht4
        obtain ⟨W, hW⟩ : ∃ W, wr.alloc (.cells #[.string ⟨#[97, 58, 32, 98]⟩, .string ⟨#[120]⟩, .string ⟨#[32, 32, 121]⟩, .string ⟨#[45, 45, 32, 45]⟩, .string ⟨#[]⟩] 9) = W := ⟨_, rfl⟩
        have hbW : Below wr.heap.size wr W := by rw [← hW]; exact below_alloc wr _
        have hPS : PS W wr.heap.size frT := by rw [← hW]; exact lit_ps wr frT
        have y1 : W.cell? ⟨wr.heap.size, r, none⟩ = some (.string Nm) := by rw [← hNm]; exact hPS r t ht
        have HUW : Hid (Up w.heap.size w W) := HU.out.stay hbW
        have HBN : Hid (∃ q, S ++ (Nm ++ ⟨#[32, 13, 10]⟩) = strOfNums (frA [32, 13] q) ∧ Qok [32, 13] q ∧ q.length ≤ min (i + 1) 20) := by
          obtain ⟨q, e, hP, hl⟩ := HB.out
          exact ⟨q ++ [t ++ [32, 13]], by rw [frA_snoc, nums_app, nums_app, ← e, hNm]; rfl, hP.snoc htT, by rw [List.length_append, List.length_singleton]; omega⟩
        have hsz : (S ++ (Nm ++ ⟨#[32, 13, 10]⟩)).size ≤ 6 + 7 * min (i + 1) 20 := by rw [ByteArray.size_append, ByteArray.size_append, show (⟨#[32, 13, 10]⟩ : ByteArray).size = 3 from rfl]; omega
        have q1 : ¬ 9223372036854775807 < Nm.size + 3 := by omega
        have q2 : ¬ 9223372036854775807 < S.size + (Nm.size + 3) := by omega
        have z5 : (0 : Int) ≤ (r : Int) := by omega
        have z6 : (r : Int) < 5 := by omega
        clear ht htT hNm hbW hPS hr HB
        go_wp2
        go_roundg (ln - (i + 1))
        case measure => omega
        case rel => exact ⟨i + 1, S ++ (Nm ++ ⟨#[32, 13, 10]⟩), by omega, rfl, by go_num, rfl, hsz, HBN, HUW⟩
      · have z3 : ¬ (i : Int) < 20 := by omega
        have HBN : Hid (∃ q, S = strOfNums (frA [32, 13] q) ∧ Qok [32, 13] q ∧ q.length ≤ min (i + 1) 20) := by
          obtain ⟨q, e, hP, hl⟩ := HB.out
          exact ⟨q, e, hP, by omega⟩
        go_wp2
        go_roundg (ln - (i + 1))
        case measure => omega
        case rel => exact ⟨i + 1, S, by omega, rfl, by go_num, rfl, by omega, HBN, HU⟩
    · obtain rfl : i = ln := by omega
      have z1 : ¬ (i : Int) < (i : Int) := by omega
      obtain ⟨q, hq1, hq2, hq3⟩ := HB.out
      clear HB hq3
      cases en with
      | true =>
      have hb0 : Byt (frY [32, 13] q) := (frY_pj hed hq2).1
      have hs1 : ((S ++ (⟨#[45, 45, 45]⟩ ++ ⟨#[32, 13, 10]⟩)) ++ ⟨#[119, 111, 114, 100, 10]⟩ : ByteArray) = strOfNums (frY [32, 13] q) := by
        unfold frY
        rw [nums_app, nums_app, nums_app, ← hq1]
        rfl
      have hl1 : (frY [32, 13] q).length = S.size + (6 + 5) := by
        rw [hq1, strOfNums_size]
        unfold frY
        simp
      have hlab := frY_lab hed hq2
      rw [show (frA [32, 13] q).length = S.size by rw [hq1, strOfNums_size]] at hlab
      have q1 : ¬ 9223372036854775807 < 3 + 3 := by decide
      have q2 : ¬ 9223372036854775807 < S.size + (3 + 3) := by omega
      have q3 : ¬ 9223372036854775807 < S.size + (3 + 3) + 5 := by omega
      have hcv := Lib.run_convert_string_bytes (P := Tryd.prog) wr 9 22 5 ((S ++ (⟨#[45, 45, 45]⟩ ++ ⟨#[32, 13, 10]⟩)) ++ ⟨#[119, 111, 114, 100, 10]⟩) Tryd.underlying9 Tryd.underlying22 Tryd.underlying5
      obtain ⟨m, hm⟩ : ∃ m, S.size + (6 + 5) = m := ⟨_, rfl⟩
      have hgc := grownCap_ge wr m 0 5
      have hgm := grownCap_le_maxLen wr m 0 5 (by unfold maxLen; omega)
      have hbc := conv_cl (w := wr) hb0
      have hbw := conv_below wr (strOfNums (frY [32, 13] q))
      rw [show ((S ++ (⟨#[45, 45, 45]⟩ ++ ⟨#[32, 13, 10]⟩)) ++ ⟨#[119, 111, 114, 100, 10]⟩ : ByteArray).size = m by rw [hs1, strOfNums_size, hl1, hm], hs1] at hcv
      rw [hl1, hm] at hbc
      rw [hl1, hm] at hlab
      generalize Lib.bytesWorld wr 5 (strOfNums (frY [32, 13] q)) = V at hcv hbc hbw
      generalize grownCap wr m 0 5 = gc at hcv hgc hgm
      have hUV : Up w.heap.size w V := HU.out.stay hbw
      have cx := mlex_any (cap := gc) (by rw [← hm, ← hl1]; exact cL_ch hb0) hbc (by omega) (by omega) hgc (by omega) (HH.out.1.stay hUV.1) (fun e _ => an_list (fun x hx => (plB_ne ((frY_pj hed hq2).2.1 x hx)).2.1) e)
      unfold MlP at cx
      rw [hlab] at cx
      have HUV : Hid (Up w.heap.size w V) := hUV
      rw [← hs1] at hcv
      have hm2 : (m : Int) - 2 = ((m - 2 : Nat) : Int) := by omega
      have hmS : S.size + (6 + 5) ≤ m := by omega
      have hSm : m ≤ S.size + (6 + 5) := by omega
      obtain ⟨kk, hkk⟩ : ∃ kk, m - 2 = kk := ⟨_, rfl⟩
      rw [hkk] at hm2
      have hk1 : kk < m := by omega
      have hk2 : S.size + 6 ≤ kk := by omega
      have HK : Hid (kk = S.size + 6 + 3) := by show _ = _; omega
      obtain ⟨Lb, hLb⟩ : ∃ Lb, setL (fun _ => (1 : Int)) 4 0 ((S.size + (4 + ([32, 13] : List Int).length) : Nat) : Int) = Lb := ⟨_, rfl⟩
      rw [hLb] at cx
      have L1 : ∀ i, i < S.size + 6 → Lb i = 4 := fun i hi => by rw [← hLb]; unfold setL; rw [if_pos ⟨by omega, by simp; omega⟩]
      have L2 : Lb kk = 1 := by rw [← hLb]; unfold setL; rw [if_neg (by simp; omega)]
      have HL : Hid (∀ i, i < S.size + 6 → Lb i = 4) := L1
      clear hLb L1
      clear hb0 hs1 hl1 hlab hgc hgm hbc hbw hUV hm hkk hq1 hq2
      go_wp2_with fail
      refine cx.mono ?_
      rintro e w2 ⟨T, g, rfl, hT, hg, hSh, hU2⟩
      have HU2 : Hid (Below w.heap.size w w2) := HUV.out.1.trans (hU2.1.mono HUV.out.2)
      have HS : Hid (Sh w2 T g m Lb) := hSh
      clear cx hSh hU2 hT hg hcv
      obtain ⟨la, hla⟩ : ∃ la, (S.size + (3 + 3)) = la := ⟨_, rfl⟩
      have HLA : Hid (kk = la + 3) := by show kk = la + 3; rw [HK.out, ← hla]
      go_upto_region 20 with fail
      go_loopg [57] la (fun q iv wr => ∃ i : Nat, i ≤ la ∧ q = la - i ∧ iv = .int .i64 i ∧ Hid (Sh wr T g m Lb ∧ Below w.heap.size w wr))
      case atStart => exact ⟨0, Nat.zero_le _, rfl, rfl, HS.out, HU2.out⟩
      case round =>
        obtain ⟨i2, hi2, hq2, rfl, HR⟩ := hrel
        by_cases hlt2 : i2 < la
        · have y1 : (i2 : Int) < (la : Int) := by omega
          have c4 := at_any HR.out.1 i2 (by omega)
          rw [HL.out i2 (by omega)] at c4
          go_wp2_with fail
          refine c4.mono ?_
          rintro e w4 ⟨rfl, hw⟩
          subst w4
          clear c4
          go_wp2
          go_roundg (la - (i2 + 1))
          case measure => omega
          case rel => exact ⟨i2 + 1, by omega, rfl, by go_num, HR⟩
        · obtain rfl : i2 = la := by omega
          have y1 : ¬ (i2 : Int) < (i2 : Int) := by omega
          have c4 := at_any HR.out.1 kk hk1
          rw [L2, show ((kk : Nat) : Int) = (i2 : Int) + 5 - 2 by have := HLA.out; omega] at c4
          go_wp2_with fail
          refine c4.mono ?_
          rintro e w4 ⟨rfl, hw⟩
          subst w4
          clear c4
          go_wp2
          go_ret
          exact ⟨rfl, HR.out.2⟩
      | false =>
      have hb0 : Byt (frN [32, 13] q) := (frN_pj hed hq2).1
      have hs1 : (S ++ ⟨#[119, 111, 114, 100, 10]⟩ : ByteArray) = strOfNums (frN [32, 13] q) := by
        unfold frN
        rw [nums_app, ← hq1]
        rfl
      have hl1 : (frN [32, 13] q).length = S.size + (0 + 5) := by
        rw [hq1, strOfNums_size]
        unfold frN
        simp
      have hlab := frN_lab hed hq2
      have q3 : ¬ 9223372036854775807 < S.size + 5 := by omega
      have hcv := Lib.run_convert_string_bytes (P := Tryd.prog) wr 9 22 5 (S ++ ⟨#[119, 111, 114, 100, 10]⟩) Tryd.underlying9 Tryd.underlying22 Tryd.underlying5
      obtain ⟨m, hm⟩ : ∃ m, S.size + (0 + 5) = m := ⟨_, rfl⟩
      have hgc := grownCap_ge wr m 0 5
      have hgm := grownCap_le_maxLen wr m 0 5 (by unfold maxLen; omega)
      have hbc := conv_cl (w := wr) hb0
      have hbw := conv_below wr (strOfNums (frN [32, 13] q))
      rw [show (S ++ ⟨#[119, 111, 114, 100, 10]⟩ : ByteArray).size = m by rw [hs1, strOfNums_size, hl1, hm], hs1] at hcv
      rw [hl1, hm] at hbc
      rw [hl1, hm] at hlab
      generalize Lib.bytesWorld wr 5 (strOfNums (frN [32, 13] q)) = V at hcv hbc hbw
      generalize grownCap wr m 0 5 = gc at hcv hgc hgm
      have hUV : Up w.heap.size w V := HU.out.stay hbw
      have cx := mlex_any (cap := gc) (by rw [← hm, ← hl1]; exact cL_ch hb0) hbc (by omega) (by omega) hgc (by omega) (HH.out.1.stay hUV.1) (fun e _ => an_list (fun x hx => (plB_ne ((frN_pj hed hq2).2.1 x hx)).2.1) e)
      unfold MlP at cx
      rw [hlab] at cx
      have HUV : Hid (Up w.heap.size w V) := hUV
      rw [← hs1] at hcv
      have hm2 : (m : Int) - 2 = ((m - 2 : Nat) : Int) := by omega
      have hmS : S.size + (0 + 5) ≤ m := by omega
      have hSm : m ≤ S.size + (0 + 5) := by omega
      obtain ⟨kk, hkk⟩ : ∃ kk, m - 2 = kk := ⟨_, rfl⟩
      rw [hkk] at hm2
      have hk1 : kk < m := by omega
      have hk2 : S.size + 0 ≤ kk := by omega
      have HK : Hid (kk = S.size + 0 + 3) := by show _ = _; omega
      obtain ⟨Lb, hLb⟩ : ∃ Lb : Nat → Int, (fun _ => (1 : Int)) = Lb := ⟨_, rfl⟩
      rw [hLb] at cx
      have L2 : Lb kk = 1 := by rw [← hLb]
      have L3 : Lb 0 = 1 := by rw [← hLb]
      clear hLb
      clear hb0 hs1 hl1 hlab hgc hgm hbc hbw hUV hm hkk hq1 hq2
      go_wp2_with fail
      refine cx.mono ?_
      rintro e w2 ⟨T, g, rfl, hT, hg, hSh, hU2⟩
      have HU2 : Hid (Below w.heap.size w w2) := HUV.out.1.trans (hU2.1.mono HUV.out.2)
      have HS : Hid (Sh w2 T g m Lb) := hSh
      clear cx hSh hU2 hT hg hcv
      obtain ⟨la, hla⟩ : ∃ la, S.size = la := ⟨_, rfl⟩
      have HLA : Hid (kk = la + 3) := by show kk = la + 3; rw [HK.out, ← hla]
      go_upto_region 20 with fail
      go_loopg [57] la (fun q iv wr => ∃ i : Nat, i ≤ la ∧ q = la - i ∧ iv = .int .i64 i ∧ Hid (Sh wr T g m Lb ∧ Below w.heap.size w wr))
      case atStart => exact ⟨0, Nat.zero_le _, rfl, rfl, HS.out, HU2.out⟩
      case round =>
        obtain ⟨i2, hi2, hq2, rfl, HR⟩ := hrel
        by_cases hlt2 : i2 < la
        · have y1 : (i2 : Int) < (la : Int) := by omega
          go_wp2
          go_roundg (la - (i2 + 1))
          case measure => omega
          case rel => exact ⟨i2 + 1, by omega, rfl, by go_num, HR⟩
        · obtain rfl : i2 = la := by omega
          have y1 : ¬ (i2 : Int) < (i2 : Int) := by omega
          have c4 := at_any HR.out.1 kk hk1
          rw [L2, show ((kk : Nat) : Int) = (i2 : Int) + 5 - 2 by have := HLA.out; omega] at c4
          have c5 := at_any HR.out.1 0 (by omega)
          rw [L3] at c5
          go_wp2_with fail
          refine c4.mono ?_
          rintro e w4 ⟨rfl, hw⟩
          subst w4
          clear c4
          go_wp2_with fail
          refine c5.mono ?_
          rintro e w4 ⟨rfl, hw⟩
          subst w4
          clear c5
          go_wp2
          go_ret
          exact ⟨rfl, HR.out.2⟩

theorem mfront_law {w : World} (hG : GlM w) {la : Option Addr} {ln lcap : Nat} {lc : Nat → Int} (hlC : Ch lc ln) (hl : BC w la ln lc) (hln : ln ≤ maxLen) (en cr : Bool) :
    Calls Tryd.prog 6 #[.slice la ln lcap, .bool en, .bool cr] w fun ev w' => ev = .returned (.bool true) ∧ Below w.heap.size w w' := by
  cases cr with
  | false => exact front_n hG hlC hl hln en
  | true => exact front_c hG hlC hl hln en
end Go.Proofs.YtodjfeheagnnpaaDoor
