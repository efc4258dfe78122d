/- SrcStrings. -/
import Derived.Test.YtgebmmbnpdhooaasApp
import Derived.Test.YtgebmmbnpdhooaasLawQ
namespace Go.Proofs.Ytgebmmbnpdhooaa
set_option linter.unusedVariables false
open Go.RowKit Go.ChangeShapes
theorem strK_at : ∀ r : Nat, r < 4 → (#[(Value.int .u8 4), .int .u8 5, .int .u8 6, .int .u8 7] : Array Value)[r]? = some (.int .u8 (4 + (r : Int))) := fun r hr => by
  have h4 : r = 0 ∨ r = 1 ∨ r = 2 ∨ r = 3 := by omega
  rcases h4 with rfl | rfl | rfl | rfl <;> rfl
set_option maxRecDepth 100000 in
set_option maxHeartbeats 16000000 in
theorem strings_law {w : World} {a0 : Int} (ha0 : 0 ≤ a0 ∧ a0 < 256) {la : Option Addr} {ln lcap : Nat} {lc : Nat → Int} (hlC : Ch lc ln) (hl : BC w la ln lc) (hln : ln ≤ maxLen) (a2 : Bool) :
    Calls Try.prog 5 #[.int .u8 a0, .slice la ln lcap, .bool a2] w fun ev w' => ev = .returned (.bool true) ∧ Below w.heap.size w w' := by
  have ca := awake_any w
  have hml : maxLen ≤ 9223372036854775807 := by unfold maxLen; omega
  have HH : Hid (Ch lc ln ∧ BC w la ln lc) := ⟨hlC, hl⟩
  obtain ⟨X0, hX0⟩ : ∃ X : Nat, a0 = (X : Int) := ⟨a0.toNat, by omega⟩
  subst hX0
  clear hlC hl ha0
  go_enter Try.func5, Try.ntmps5
  go_wp2_with fail
  refine ca.mono ?_
  rintro e w1 ⟨rfl, hb1⟩
  have HU1 : Hid (Up w.heap.size w w1) := ⟨hb1, hb1.size⟩
  clear ca hb1
  obtain ⟨r, hr⟩ : ∃ r, X0 % 4 = r := ⟨_, rfl⟩
  have hr3 : r < 4 := by rw [← hr]; exact Nat.mod_lt _ (by decide)
  have hmd : Int.tmod (X0 : Int) 4 = (r : Int) := by rw [← hr]; exact nat_mod X0 4
  have z5 : (0 : Int) ≤ (r : Int) := by omega
  have z6 : (r : Int) < 4 := by omega
  obtain ⟨W1, hW1⟩ : ∃ W, w1.alloc (.cells #[.int .u8 4, .int .u8 5, .int .u8 6, .int .u8 7] 28) = W := ⟨_, rfl⟩
  have y1 : W1.cell? ⟨w1.heap.size, r, none⟩ = some (.int .u8 (4 + (r : Int))) := by
    rw [← hW1]
    have := heap_alloc_new w1 (.cells #[.int .u8 4, .int .u8 5, .int .u8 6, .int .u8 7] 28)
    simp only [World.cell?, this]
    exact strK_at r hr3
  have HU2 : Hid (Up w.heap.size w W1) := by
    rw [← hW1]
    exact HU1.out.alloc _
  obtain ⟨kf, hkf⟩ : ∃ x, 4 + (r : Int) = x := ⟨_, rfl⟩
  have HK : Hid (∃ rr : Nat, rr < 4 ∧ 4 + (rr : Int) = kf ∧ (4 ≤ kf ∧ kf ≤ 8)) := ⟨r, hr3, hkf, by omega⟩
  rw [hkf] at y1
  by_cases hr7 : kf = 7
  · have HK7 : Hid (∃ rr : Nat, rr < 4 ∧ 4 + (rr : Int) = kf ∧ (4 ≤ kf ∧ kf ≤ 8)) := HK.out
    have k7 : (kf != 7) = false := by simpa using hr7
    clear hr hr3 hkf hr7
    cases a2 with
    | true =>
      go_wp2
      clear hW1 y1 hmd z5 z6
      go_loopg [9, 34] ln (fun q sv iv wr => ∃ (i : Nat) (S : ByteArray), i ≤ ln ∧ q = ln - i ∧ iv = .int .i64 i ∧ sv = .string S ∧ S.size ≤ 4 + 2 * min i 20 ∧ Hid (∃ P, S = strOfNums ([120, 32, 34, 113] ++ P) ∧ Byt P ∧ St 34 P) ∧ Hid (Up w.heap.size w wr))
      case atStart => exact ⟨0, _, Nat.zero_le _, rfl, rfl, rfl, by show 4 ≤ _; omega, ⟨[], rfl, fun x hx => (by cases hx), St.nil _⟩, HU2⟩
      case round =>
        obtain ⟨i, S, hi, hq, rfl, rfl, hS, HB, HU⟩ := hrel
        have hu := HU.out.2
        by_cases hlt : i < ln
        · have z1 : (i : Int) < (ln : Int) := by omega
          have z2 : (0 : Int) ≤ (i : Int) := by omega
          obtain ⟨b, off, rfl, hc⟩ := HH.out.2 i hlt
          have hcw := cell_stay hc HU.out.1
          have hci := HH.out.1.1 i hlt
          obtain ⟨X, hX⟩ : ∃ X : Nat, lc i = (X : Int) := ⟨(lc i).toNat, by omega⟩
          rw [hX] at hcw
          clear hc hX hci
          by_cases h9 : i < 20
          · have z3 : (i : Int) < 20 := by omega
            obtain ⟨r, hr⟩ : ∃ r, X % 8 = r := ⟨_, rfl⟩
            have hr8 : r < 8 := by rw [← hr]; exact Nat.mod_lt _ (by decide)
            have hmd : Int.tmod (X : Int) 8 = (r : Int) := by rw [← hr]; exact nat_mod X 8
            obtain ⟨t, ht, hst, htb, ht2⟩ := spP_ok (x := 34) (Or.inl rfl) r hr8
            obtain ⟨Nm, hNm⟩ : ∃ Nm, strOfNums t = Nm := ⟨_, rfl⟩
            have hNs : Nm.size ≤ 2 := by rw [← hNm, strOfNums_size]; exact ht2
            obtain ⟨W, hW⟩ : ∃ W, wr.alloc (.cells #[.string ⟨#[97]⟩, .string (⟨#[92]⟩ ++ ⟨#[34]⟩), .string ⟨#[47, 47]⟩, .string ⟨#[47, 42]⟩, .string ⟨#[35]⟩, .string ⟨#[92, 92]⟩, .string ⟨#[32]⟩, .string ⟨#[92, 110]⟩] 9) = W := ⟨_, rfl⟩
            have hbW : Below wr.heap.size wr W := by rw [← hW]; exact below_alloc wr _
            have hPS : PS W wr.heap.size (spP 34) := by rw [← hW]; exact lit_ps wr (spP 34)
            have y1 : W.cell? ⟨wr.heap.size, r, none⟩ = some (.string Nm) := by rw [← hNm]; exact hPS r t ht
            have HUW : Hid (Up w.heap.size w W) := HU.out.stay hbW
            have HBN : Hid (∃ P, S ++ Nm = strOfNums ([120, 32, 34, 113] ++ P) ∧ Byt P ∧ St 34 P) := by
              obtain ⟨P, e, hP, hPs⟩ := HB.out
              exact ⟨P ++ t, by rw [← List.append_assoc, nums_app, ← e, hNm], byt_app hP htb, hPs.app hst⟩
            have hsz : (S ++ Nm).size ≤ 4 + 2 * min (i + 1) 20 := by rw [ByteArray.size_append]; omega
            have q1 : ¬ 9223372036854775807 < S.size + Nm.size := by omega
            have z5 : (0 : Int) ≤ (r : Int) := by omega
            have z6 : (r : Int) < 8 := by omega
            clear hNm hbW hr HB hPS ht hst htb ht2
            go_wp2
            go_roundg (ln - (i + 1))
            case measure => omega
            case rel => exact ⟨i + 1, S ++ Nm, by omega, rfl, by go_num, rfl, hsz, HBN, HUW⟩
          · have z3 : ¬ (i : Int) < 20 := by omega
            go_wp2
            go_roundg (ln - (i + 1))
            case measure => omega
            case rel => exact ⟨i + 1, S, by omega, rfl, by go_num, rfl, by omega, HB, HU⟩
        · have z1 : ¬ (i : Int) < (ln : Int) := by omega
          obtain ⟨P, e, hP, hPs⟩ := HB.out
          have hSz : S.size = 4 + P.length := by rw [e, strOfNums_size]; simp; omega
          obtain ⟨S2, hS2⟩ : ∃ S2, S ++ (⟨#[34]⟩ ++ ⟨#[32, 121]⟩) = S2 := ⟨_, rfl⟩
          obtain ⟨Bl, hBl⟩ : ∃ Bl, [120, 32, 34, 113] ++ P ++ [34, 32, 121] = Bl := ⟨_, rfl⟩
          have e2 : strOfNums Bl = S2 := by rw [← hBl, nums_app, ← e, ← hS2]; rfl
          obtain ⟨n, hn⟩ : ∃ n, Bl.length = n := ⟨_, rfl⟩
          have hSn : S2.size = n := by rw [← e2, strOfNums_size, hn]
          have hnb : n ≤ 60 := by
            rw [← hn, ← hBl]
            simp
            omega
          have hby : Byt Bl := by
            rw [← hBl]
            exact byt_app (byt_app (byt_lit _ rfl) hP) (byt_lit _ rfl)
          obtain ⟨bn, hbn⟩ : ∃ bn, S.size = bn := ⟨_, rfl⟩
          have hTn : 4 + P.length = bn := by omega
          have HLab : Hid (∀ j, j < n → lxA (fam kf) (cL Bl) n j = if 3 ≤ j ∧ j < bn then 5 else 4) := fun j hj => by
            obtain ⟨rr, h1, h2, h5⟩ := HK.out
            have := str_lab (r := rr) h1 (x := 34) (Or.inl rfl) hP hPs j
            rw [h2, hBl, hn, hTn] at this
            exact this hj
          have hkk : 4 ≤ kf ∧ kf ≤ 8 := by
            obtain ⟨rr, h1, h2, h5⟩ := HK.out
            exact h5
          obtain ⟨V, gc, hcv, hbV, cx⟩ := str_lex (wr := wr) hby (by omega) e2 hn hkk
          have q2 : ¬ 9223372036854775807 < bn + 3 := by omega
          have q3 : ¬ 9223372036854775807 < bn + (1 + 2) := by omega
          have HUV : Hid (Up w.heap.size w V) := HU.out.stay hbV
          clear hBl hby hP hPs e hSz hTn hkk hbV HB HU hu hS hi hq e2 hn
          go_wp2_with fail
          refine cx.mono ?_
          rintro ev w3 ⟨T1, g1, rfl, hT1, hg1, hS1, hU1⟩
          have HS : Hid (Sh w3 T1 g1 n (lxA (fam kf) (cL Bl) n)) := hS1
          have HU3 : Hid (Below w.heap.size w w3) := HUV.out.1.trans (hU1.1.mono HUV.out.2)
          clear cx hT1 hg1 hS1 hU1
          go_wp2
          go_loopg [66] n (fun q iv wx => ∃ i : Nat, i ≤ n ∧ q = n - i ∧ iv = .int .i64 i ∧ wx = w3)
          case atStart => exact ⟨0, Nat.zero_le _, rfl, by go_num, rfl⟩
          case round =>
            obtain ⟨j, hj, hq, rfl, rfl⟩ := hrel
            by_cases hjn : j < n
            · have z3 : (j : Int) < (n : Int) := by omega
              have cA := at_any HS.out j hjn
              rw [HLab.out j hjn] at cA
              by_cases h3 : 3 ≤ j
              · have z4 : (3 : Int) ≤ (j : Int) := by omega
                by_cases h4 : j < bn
                · have z7 : (j : Int) < (bn : Int) := by omega
                  rw [if_pos ⟨h3, h4⟩] at cA
                  clear h3 h4
                  go_wp2_with fail
                  refine cA.mono ?_
                  rintro ev w4 ⟨rfl, hw⟩
                  subst w4
                  go_wp2
                  go_roundg (n - (j + 1))
                  case measure => omega
                  case rel => exact ⟨j + 1, by omega, rfl, by go_num, rfl⟩
                · have z7 : ¬ (j : Int) < (bn : Int) := by omega
                  rw [if_neg (fun h => h4 h.2)] at cA
                  clear h3 h4
                  go_wp2_with fail
                  refine cA.mono ?_
                  rintro ev w4 ⟨rfl, hw⟩
                  subst w4
                  go_wp2
                  go_roundg (n - (j + 1))
                  case measure => omega
                  case rel => exact ⟨j + 1, by omega, rfl, by go_num, rfl⟩
              · have z4 : ¬ (3 : Int) ≤ (j : Int) := by omega
                rw [if_neg (fun h => h3 h.1)] at cA
                clear h3
                go_wp2_with fail
                refine cA.mono ?_
                rintro ev w4 ⟨rfl, hw⟩
                subst w4
                go_wp2
                go_roundg (n - (j + 1))
                case measure => omega
                case rel => exact ⟨j + 1, by omega, rfl, by go_num, rfl⟩
            · have z3 : ¬ (j : Int) < (n : Int) := by omega
              go_wp2
              go_ret
              exact ⟨rfl, HU3.out⟩
    | false =>
      go_wp2
      clear hW1 y1 hmd z5 z6
      go_loopg [9, 34] ln (fun q sv iv wr => ∃ (i : Nat) (S : ByteArray), i ≤ ln ∧ q = ln - i ∧ iv = .int .i64 i ∧ sv = .string S ∧ S.size ≤ 4 + 2 * min i 20 ∧ Hid (∃ P, S = strOfNums ([120, 32, 34, 113] ++ P) ∧ Byt P ∧ St 34 P) ∧ Hid (Up w.heap.size w wr))
      case atStart => exact ⟨0, _, Nat.zero_le _, rfl, rfl, rfl, by show 4 ≤ _; omega, ⟨[], rfl, fun x hx => (by cases hx), St.nil _⟩, HU2⟩
      case round =>
        obtain ⟨i, S, hi, hq, rfl, rfl, hS, HB, HU⟩ := hrel
        have hu := HU.out.2
        by_cases hlt : i < ln
        · have z1 : (i : Int) < (ln : Int) := by omega
          have z2 : (0 : Int) ≤ (i : Int) := by omega
          obtain ⟨b, off, rfl, hc⟩ := HH.out.2 i hlt
          have hcw := cell_stay hc HU.out.1
          have hci := HH.out.1.1 i hlt
          obtain ⟨X, hX⟩ : ∃ X : Nat, lc i = (X : Int) := ⟨(lc i).toNat, by omega⟩
          rw [hX] at hcw
          clear hc hX hci
          by_cases h9 : i < 20
          · have z3 : (i : Int) < 20 := by omega
            obtain ⟨r, hr⟩ : ∃ r, X % 8 = r := ⟨_, rfl⟩
            have hr8 : r < 8 := by rw [← hr]; exact Nat.mod_lt _ (by decide)
            have hmd : Int.tmod (X : Int) 8 = (r : Int) := by rw [← hr]; exact nat_mod X 8
            obtain ⟨t, ht, hst, htb, ht2⟩ := spP_ok (x := 34) (Or.inl rfl) r hr8
            obtain ⟨Nm, hNm⟩ : ∃ Nm, strOfNums t = Nm := ⟨_, rfl⟩
            have hNs : Nm.size ≤ 2 := by rw [← hNm, strOfNums_size]; exact ht2
            obtain ⟨W, hW⟩ : ∃ W, wr.alloc (.cells #[.string ⟨#[97]⟩, .string (⟨#[92]⟩ ++ ⟨#[34]⟩), .string ⟨#[47, 47]⟩, .string ⟨#[47, 42]⟩, .string ⟨#[35]⟩, .string ⟨#[92, 92]⟩, .string ⟨#[32]⟩, .string ⟨#[92, 110]⟩] 9) = W := ⟨_, rfl⟩
            have hbW : Below wr.heap.size wr W := by rw [← hW]; exact below_alloc wr _
            have hPS : PS W wr.heap.size (spP 34) := by rw [← hW]; exact lit_ps wr (spP 34)
            have y1 : W.cell? ⟨wr.heap.size, r, none⟩ = some (.string Nm) := by rw [← hNm]; exact hPS r t ht
            have HUW : Hid (Up w.heap.size w W) := HU.out.stay hbW
            have HBN : Hid (∃ P, S ++ Nm = strOfNums ([120, 32, 34, 113] ++ P) ∧ Byt P ∧ St 34 P) := by
              obtain ⟨P, e, hP, hPs⟩ := HB.out
              exact ⟨P ++ t, by rw [← List.append_assoc, nums_app, ← e, hNm], byt_app hP htb, hPs.app hst⟩
            have hsz : (S ++ Nm).size ≤ 4 + 2 * min (i + 1) 20 := by rw [ByteArray.size_append]; omega
            have q1 : ¬ 9223372036854775807 < S.size + Nm.size := by omega
            have z5 : (0 : Int) ≤ (r : Int) := by omega
            have z6 : (r : Int) < 8 := by omega
            clear hNm hbW hr HB hPS ht hst htb ht2
            go_wp2
            go_roundg (ln - (i + 1))
            case measure => omega
            case rel => exact ⟨i + 1, S ++ Nm, by omega, rfl, by go_num, rfl, hsz, HBN, HUW⟩
          · have z3 : ¬ (i : Int) < 20 := by omega
            go_wp2
            go_roundg (ln - (i + 1))
            case measure => omega
            case rel => exact ⟨i + 1, S, by omega, rfl, by go_num, rfl, by omega, HB, HU⟩
        · have z1 : ¬ (i : Int) < (ln : Int) := by omega
          obtain ⟨P, e, hP, hPs⟩ := HB.out
          have hSz : S.size = 4 + P.length := by rw [e, strOfNums_size]; simp; omega
          obtain ⟨S2, hS2⟩ : ∃ S2, S ++ (⟨#[34]⟩ ++ ⟨#[32, 121]⟩) = S2 := ⟨_, rfl⟩
          obtain ⟨Bl, hBl⟩ : ∃ Bl, [120, 32, 34, 113] ++ P ++ [34, 32, 121] = Bl := ⟨_, rfl⟩
          have e2 : strOfNums Bl = S2 := by rw [← hBl, nums_app, ← e, ← hS2]; rfl
          obtain ⟨n, hn⟩ : ∃ n, Bl.length = n := ⟨_, rfl⟩
          have hSn : S2.size = n := by rw [← e2, strOfNums_size, hn]
          have hnb : n ≤ 60 := by
            rw [← hn, ← hBl]
            simp
            omega
          have hby : Byt Bl := by
            rw [← hBl]
            exact byt_app (byt_app (byt_lit _ rfl) hP) (byt_lit _ rfl)
          obtain ⟨bn, hbn⟩ : ∃ bn, S.size = bn := ⟨_, rfl⟩
          have hTn : 4 + P.length = bn := by omega
          have HLab : Hid (∀ j, j < n → lxA (fam kf) (cL Bl) n j = if 3 ≤ j ∧ j < bn then 5 else 4) := fun j hj => by
            obtain ⟨rr, h1, h2, h5⟩ := HK.out
            have := str_lab (r := rr) h1 (x := 34) (Or.inl rfl) hP hPs j
            rw [h2, hBl, hn, hTn] at this
            exact this hj
          have hkk : 4 ≤ kf ∧ kf ≤ 8 := by
            obtain ⟨rr, h1, h2, h5⟩ := HK.out
            exact h5
          obtain ⟨V, gc, hcv, hbV, cx⟩ := str_lex (wr := wr) hby (by omega) e2 hn hkk
          have q2 : ¬ 9223372036854775807 < bn + 3 := by omega
          have q3 : ¬ 9223372036854775807 < bn + (1 + 2) := by omega
          have HUV : Hid (Up w.heap.size w V) := HU.out.stay hbV
          clear hBl hby hP hPs e hSz hTn hkk hbV HB HU hu hS hi hq e2 hn
          go_wp2_with fail
          refine cx.mono ?_
          rintro ev w3 ⟨T1, g1, rfl, hT1, hg1, hS1, hU1⟩
          have HS : Hid (Sh w3 T1 g1 n (lxA (fam kf) (cL Bl) n)) := hS1
          have HU3 : Hid (Below w.heap.size w w3) := HUV.out.1.trans (hU1.1.mono HUV.out.2)
          clear cx hT1 hg1 hS1 hU1
          go_wp2
          go_loopg [66] n (fun q iv wx => ∃ i : Nat, i ≤ n ∧ q = n - i ∧ iv = .int .i64 i ∧ wx = w3)
          case atStart => exact ⟨0, Nat.zero_le _, rfl, by go_num, rfl⟩
          case round =>
            obtain ⟨j, hj, hq, rfl, rfl⟩ := hrel
            by_cases hjn : j < n
            · have z3 : (j : Int) < (n : Int) := by omega
              have cA := at_any HS.out j hjn
              rw [HLab.out j hjn] at cA
              by_cases h3 : 3 ≤ j
              · have z4 : (3 : Int) ≤ (j : Int) := by omega
                by_cases h4 : j < bn
                · have z7 : (j : Int) < (bn : Int) := by omega
                  rw [if_pos ⟨h3, h4⟩] at cA
                  clear h3 h4
                  go_wp2_with fail
                  refine cA.mono ?_
                  rintro ev w4 ⟨rfl, hw⟩
                  subst w4
                  go_wp2
                  go_roundg (n - (j + 1))
                  case measure => omega
                  case rel => exact ⟨j + 1, by omega, rfl, by go_num, rfl⟩
                · have z7 : ¬ (j : Int) < (bn : Int) := by omega
                  rw [if_neg (fun h => h4 h.2)] at cA
                  clear h3 h4
                  go_wp2_with fail
                  refine cA.mono ?_
                  rintro ev w4 ⟨rfl, hw⟩
                  subst w4
                  go_wp2
                  go_roundg (n - (j + 1))
                  case measure => omega
                  case rel => exact ⟨j + 1, by omega, rfl, by go_num, rfl⟩
              · have z4 : ¬ (3 : Int) ≤ (j : Int) := by omega
                rw [if_neg (fun h => h3 h.1)] at cA
                clear h3
                go_wp2_with fail
                refine cA.mono ?_
                rintro ev w4 ⟨rfl, hw⟩
                subst w4
                go_wp2
                go_roundg (n - (j + 1))
                case measure => omega
                case rel => exact ⟨j + 1, by omega, rfl, by go_num, rfl⟩
            · have z3 : ¬ (j : Int) < (n : Int) := by omega
              go_wp2
              go_ret
              exact ⟨rfl, HU3.out⟩
  · have k7 : (kf != 7) = true := by simpa using hr7
    have HK7 : Hid (∃ rr : Nat, rr < 4 ∧ 4 + (rr : Int) = kf ∧ (4 ≤ kf ∧ kf ≤ 8) ∧ rr ≠ 3) := ⟨r, hr3, hkf, by omega, by omega⟩
    clear hr hr3 hkf hr7
    cases a2 with
    | true =>
      go_wp2
      clear hW1 y1 hmd z5 z6
      go_loopg [9, 34] ln (fun q sv iv wr => ∃ (i : Nat) (S : ByteArray), i ≤ ln ∧ q = ln - i ∧ iv = .int .i64 i ∧ sv = .string S ∧ S.size ≤ 4 + 2 * min i 20 ∧ Hid (∃ P, S = strOfNums ([120, 32, 39, 113] ++ P) ∧ Byt P ∧ St 39 P) ∧ Hid (Up w.heap.size w wr))
      case atStart => exact ⟨0, _, Nat.zero_le _, rfl, rfl, rfl, by show 4 ≤ _; omega, ⟨[], rfl, fun x hx => (by cases hx), St.nil _⟩, HU2⟩
      case round =>
        obtain ⟨i, S, hi, hq, rfl, rfl, hS, HB, HU⟩ := hrel
        have hu := HU.out.2
        by_cases hlt : i < ln
        · have z1 : (i : Int) < (ln : Int) := by omega
          have z2 : (0 : Int) ≤ (i : Int) := by omega
          obtain ⟨b, off, rfl, hc⟩ := HH.out.2 i hlt
          have hcw := cell_stay hc HU.out.1
          have hci := HH.out.1.1 i hlt
          obtain ⟨X, hX⟩ : ∃ X : Nat, lc i = (X : Int) := ⟨(lc i).toNat, by omega⟩
          rw [hX] at hcw
          clear hc hX hci
          by_cases h9 : i < 20
          · have z3 : (i : Int) < 20 := by omega
            obtain ⟨r, hr⟩ : ∃ r, X % 8 = r := ⟨_, rfl⟩
            have hr8 : r < 8 := by rw [← hr]; exact Nat.mod_lt _ (by decide)
            have hmd : Int.tmod (X : Int) 8 = (r : Int) := by rw [← hr]; exact nat_mod X 8
            obtain ⟨t, ht, hst, htb, ht2⟩ := spP_ok (x := 39) (Or.inr rfl) r hr8
            obtain ⟨Nm, hNm⟩ : ∃ Nm, strOfNums t = Nm := ⟨_, rfl⟩
            have hNs : Nm.size ≤ 2 := by rw [← hNm, strOfNums_size]; exact ht2
            obtain ⟨W, hW⟩ : ∃ W, wr.alloc (.cells #[.string ⟨#[97]⟩, .string (⟨#[92]⟩ ++ ⟨#[39]⟩), .string ⟨#[47, 47]⟩, .string ⟨#[47, 42]⟩, .string ⟨#[35]⟩, .string ⟨#[92, 92]⟩, .string ⟨#[32]⟩, .string ⟨#[92, 110]⟩] 9) = W := ⟨_, rfl⟩
            have hbW : Below wr.heap.size wr W := by rw [← hW]; exact below_alloc wr _
            have hPS : PS W wr.heap.size (spP 39) := by rw [← hW]; exact lit_ps wr (spP 39)
            have y1 : W.cell? ⟨wr.heap.size, r, none⟩ = some (.string Nm) := by rw [← hNm]; exact hPS r t ht
            have HUW : Hid (Up w.heap.size w W) := HU.out.stay hbW
            have HBN : Hid (∃ P, S ++ Nm = strOfNums ([120, 32, 39, 113] ++ P) ∧ Byt P ∧ St 39 P) := by
              obtain ⟨P, e, hP, hPs⟩ := HB.out
              exact ⟨P ++ t, by rw [← List.append_assoc, nums_app, ← e, hNm], byt_app hP htb, hPs.app hst⟩
            have hsz : (S ++ Nm).size ≤ 4 + 2 * min (i + 1) 20 := by rw [ByteArray.size_append]; omega
            have q1 : ¬ 9223372036854775807 < S.size + Nm.size := by omega
            have z5 : (0 : Int) ≤ (r : Int) := by omega
            have z6 : (r : Int) < 8 := by omega
            clear hNm hbW hr HB hPS ht hst htb ht2
            go_wp2
            go_roundg (ln - (i + 1))
            case measure => omega
            case rel => exact ⟨i + 1, S ++ Nm, by omega, rfl, by go_num, rfl, hsz, HBN, HUW⟩
          · have z3 : ¬ (i : Int) < 20 := by omega
            go_wp2
            go_roundg (ln - (i + 1))
            case measure => omega
            case rel => exact ⟨i + 1, S, by omega, rfl, by go_num, rfl, by omega, HB, HU⟩
        · have z1 : ¬ (i : Int) < (ln : Int) := by omega
          obtain ⟨P, e, hP, hPs⟩ := HB.out
          have hSz : S.size = 4 + P.length := by rw [e, strOfNums_size]; simp; omega
          obtain ⟨S2, hS2⟩ : ∃ S2, S ++ (⟨#[39]⟩ ++ ⟨#[32, 121]⟩) = S2 := ⟨_, rfl⟩
          obtain ⟨Bl, hBl⟩ : ∃ Bl, [120, 32, 39, 113] ++ P ++ [39, 32, 121] = Bl := ⟨_, rfl⟩
          have e2 : strOfNums Bl = S2 := by rw [← hBl, nums_app, ← e, ← hS2]; rfl
          obtain ⟨n, hn⟩ : ∃ n, Bl.length = n := ⟨_, rfl⟩
          have hSn : S2.size = n := by rw [← e2, strOfNums_size, hn]
          have hnb : n ≤ 60 := by
            rw [← hn, ← hBl]
            simp
            omega
          have hby : Byt Bl := by
            rw [← hBl]
            exact byt_app (byt_app (byt_lit _ rfl) hP) (byt_lit _ rfl)
          obtain ⟨bn, hbn⟩ : ∃ bn, S.size = bn := ⟨_, rfl⟩
          have hTn : 4 + P.length = bn := by omega
          have HLab : Hid (∀ j, j < n → lxA (fam kf) (cL Bl) n j = if 3 ≤ j ∧ j < bn then 5 else 4) := fun j hj => by
            obtain ⟨rr, h1, h2, h5, hrr3⟩ := HK7.out
            have := str_lab (r := rr) h1 (x := 39) (Or.inr ⟨rfl, hrr3⟩) hP hPs j
            rw [h2, hBl, hn, hTn] at this
            exact this hj
          have hkk : 4 ≤ kf ∧ kf ≤ 8 := by
            obtain ⟨rr, h1, h2, h5, hrr3⟩ := HK7.out
            exact h5
          obtain ⟨V, gc, hcv, hbV, cx⟩ := str_lex (wr := wr) hby (by omega) e2 hn hkk
          have q2 : ¬ 9223372036854775807 < bn + 3 := by omega
          have q3 : ¬ 9223372036854775807 < bn + (1 + 2) := by omega
          have HUV : Hid (Up w.heap.size w V) := HU.out.stay hbV
          clear hBl hby hP hPs e hSz hTn hkk hbV HB HU hu hS hi hq e2 hn
          go_wp2_with fail
          refine cx.mono ?_
          rintro ev w3 ⟨T1, g1, rfl, hT1, hg1, hS1, hU1⟩
          have HS : Hid (Sh w3 T1 g1 n (lxA (fam kf) (cL Bl) n)) := hS1
          have HU3 : Hid (Below w.heap.size w w3) := HUV.out.1.trans (hU1.1.mono HUV.out.2)
          clear cx hT1 hg1 hS1 hU1
          go_wp2
          go_loopg [66] n (fun q iv wx => ∃ i : Nat, i ≤ n ∧ q = n - i ∧ iv = .int .i64 i ∧ wx = w3)
          case atStart => exact ⟨0, Nat.zero_le _, rfl, by go_num, rfl⟩
          case round =>
            obtain ⟨j, hj, hq, rfl, rfl⟩ := hrel
            by_cases hjn : j < n
            · have z3 : (j : Int) < (n : Int) := by omega
              have cA := at_any HS.out j hjn
              rw [HLab.out j hjn] at cA
              by_cases h3 : 3 ≤ j
              · have z4 : (3 : Int) ≤ (j : Int) := by omega
                by_cases h4 : j < bn
                · have z7 : (j : Int) < (bn : Int) := by omega
                  rw [if_pos ⟨h3, h4⟩] at cA
                  clear h3 h4
                  go_wp2_with fail
                  refine cA.mono ?_
                  rintro ev w4 ⟨rfl, hw⟩
                  subst w4
                  go_wp2
                  go_roundg (n - (j + 1))
                  case measure => omega
                  case rel => exact ⟨j + 1, by omega, rfl, by go_num, rfl⟩
                · have z7 : ¬ (j : Int) < (bn : Int) := by omega
                  rw [if_neg (fun h => h4 h.2)] at cA
                  clear h3 h4
                  go_wp2_with fail
                  refine cA.mono ?_
                  rintro ev w4 ⟨rfl, hw⟩
                  subst w4
                  go_wp2
                  go_roundg (n - (j + 1))
                  case measure => omega
                  case rel => exact ⟨j + 1, by omega, rfl, by go_num, rfl⟩
              · have z4 : ¬ (3 : Int) ≤ (j : Int) := by omega
                rw [if_neg (fun h => h3 h.1)] at cA
                clear h3
                go_wp2_with fail
                refine cA.mono ?_
                rintro ev w4 ⟨rfl, hw⟩
                subst w4
                go_wp2
                go_roundg (n - (j + 1))
                case measure => omega
                case rel => exact ⟨j + 1, by omega, rfl, by go_num, rfl⟩
            · have z3 : ¬ (j : Int) < (n : Int) := by omega
              go_wp2
              go_ret
              exact ⟨rfl, HU3.out⟩
    | false =>
      go_wp2
      clear hW1 y1 hmd z5 z6
      go_loopg [9, 34] ln (fun q sv iv wr => ∃ (i : Nat) (S : ByteArray), i ≤ ln ∧ q = ln - i ∧ iv = .int .i64 i ∧ sv = .string S ∧ S.size ≤ 4 + 2 * min i 20 ∧ Hid (∃ P, S = strOfNums ([120, 32, 34, 113] ++ P) ∧ Byt P ∧ St 34 P) ∧ Hid (Up w.heap.size w wr))
      case atStart => exact ⟨0, _, Nat.zero_le _, rfl, rfl, rfl, by show 4 ≤ _; omega, ⟨[], rfl, fun x hx => (by cases hx), St.nil _⟩, HU2⟩
      case round =>
        obtain ⟨i, S, hi, hq, rfl, rfl, hS, HB, HU⟩ := hrel
        have hu := HU.out.2
        by_cases hlt : i < ln
        · have z1 : (i : Int) < (ln : Int) := by omega
          have z2 : (0 : Int) ≤ (i : Int) := by omega
          obtain ⟨b, off, rfl, hc⟩ := HH.out.2 i hlt
          have hcw := cell_stay hc HU.out.1
          have hci := HH.out.1.1 i hlt
          obtain ⟨X, hX⟩ : ∃ X : Nat, lc i = (X : Int) := ⟨(lc i).toNat, by omega⟩
          rw [hX] at hcw
          clear hc hX hci
          by_cases h9 : i < 20
          · have z3 : (i : Int) < 20 := by omega
            obtain ⟨r, hr⟩ : ∃ r, X % 8 = r := ⟨_, rfl⟩
            have hr8 : r < 8 := by rw [← hr]; exact Nat.mod_lt _ (by decide)
            have hmd : Int.tmod (X : Int) 8 = (r : Int) := by rw [← hr]; exact nat_mod X 8
            obtain ⟨t, ht, hst, htb, ht2⟩ := spP_ok (x := 34) (Or.inl rfl) r hr8
            obtain ⟨Nm, hNm⟩ : ∃ Nm, strOfNums t = Nm := ⟨_, rfl⟩
            have hNs : Nm.size ≤ 2 := by rw [← hNm, strOfNums_size]; exact ht2
            obtain ⟨W, hW⟩ : ∃ W, wr.alloc (.cells #[.string ⟨#[97]⟩, .string (⟨#[92]⟩ ++ ⟨#[34]⟩), .string ⟨#[47, 47]⟩, .string ⟨#[47, 42]⟩, .string ⟨#[35]⟩, .string ⟨#[92, 92]⟩, .string ⟨#[32]⟩, .string ⟨#[92, 110]⟩] 9) = W := ⟨_, rfl⟩
            have hbW : Below wr.heap.size wr W := by rw [← hW]; exact below_alloc wr _
            have hPS : PS W wr.heap.size (spP 34) := by rw [← hW]; exact lit_ps wr (spP 34)
            have y1 : W.cell? ⟨wr.heap.size, r, none⟩ = some (.string Nm) := by rw [← hNm]; exact hPS r t ht
            have HUW : Hid (Up w.heap.size w W) := HU.out.stay hbW
            have HBN : Hid (∃ P, S ++ Nm = strOfNums ([120, 32, 34, 113] ++ P) ∧ Byt P ∧ St 34 P) := by
              obtain ⟨P, e, hP, hPs⟩ := HB.out
              exact ⟨P ++ t, by rw [← List.append_assoc, nums_app, ← e, hNm], byt_app hP htb, hPs.app hst⟩
            have hsz : (S ++ Nm).size ≤ 4 + 2 * min (i + 1) 20 := by rw [ByteArray.size_append]; omega
            have q1 : ¬ 9223372036854775807 < S.size + Nm.size := by omega
            have z5 : (0 : Int) ≤ (r : Int) := by omega
            have z6 : (r : Int) < 8 := by omega
            clear hNm hbW hr HB hPS ht hst htb ht2
            go_wp2
            go_roundg (ln - (i + 1))
            case measure => omega
            case rel => exact ⟨i + 1, S ++ Nm, by omega, rfl, by go_num, rfl, hsz, HBN, HUW⟩
          · have z3 : ¬ (i : Int) < 20 := by omega
            go_wp2
            go_roundg (ln - (i + 1))
            case measure => omega
            case rel => exact ⟨i + 1, S, by omega, rfl, by go_num, rfl, by omega, HB, HU⟩
        · have z1 : ¬ (i : Int) < (ln : Int) := by omega
          obtain ⟨P, e, hP, hPs⟩ := HB.out
          have hSz : S.size = 4 + P.length := by rw [e, strOfNums_size]; simp; omega
          obtain ⟨S2, hS2⟩ : ∃ S2, S ++ (⟨#[34]⟩ ++ ⟨#[32, 121]⟩) = S2 := ⟨_, rfl⟩
          obtain ⟨Bl, hBl⟩ : ∃ Bl, [120, 32, 34, 113] ++ P ++ [34, 32, 121] = Bl := ⟨_, rfl⟩
          have e2 : strOfNums Bl = S2 := by rw [← hBl, nums_app, ← e, ← hS2]; rfl
          obtain ⟨n, hn⟩ : ∃ n, Bl.length = n := ⟨_, rfl⟩
          have hSn : S2.size = n := by rw [← e2, strOfNums_size, hn]
          have hnb : n ≤ 60 := by
            rw [← hn, ← hBl]
            simp
            omega
          have hby : Byt Bl := by
            rw [← hBl]
            exact byt_app (byt_app (byt_lit _ rfl) hP) (byt_lit _ rfl)
          obtain ⟨bn, hbn⟩ : ∃ bn, S.size = bn := ⟨_, rfl⟩
          have hTn : 4 + P.length = bn := by omega
          have HLab : Hid (∀ j, j < n → lxA (fam kf) (cL Bl) n j = if 3 ≤ j ∧ j < bn then 5 else 4) := fun j hj => by
            obtain ⟨rr, h1, h2, h5⟩ := HK.out
            have := str_lab (r := rr) h1 (x := 34) (Or.inl rfl) hP hPs j
            rw [h2, hBl, hn, hTn] at this
            exact this hj
          have hkk : 4 ≤ kf ∧ kf ≤ 8 := by
            obtain ⟨rr, h1, h2, h5⟩ := HK.out
            exact h5
          obtain ⟨V, gc, hcv, hbV, cx⟩ := str_lex (wr := wr) hby (by omega) e2 hn hkk
          have q2 : ¬ 9223372036854775807 < bn + 3 := by omega
          have q3 : ¬ 9223372036854775807 < bn + (1 + 2) := by omega
          have HUV : Hid (Up w.heap.size w V) := HU.out.stay hbV
          clear hBl hby hP hPs e hSz hTn hkk hbV HB HU hu hS hi hq e2 hn
          go_wp2_with fail
          refine cx.mono ?_
          rintro ev w3 ⟨T1, g1, rfl, hT1, hg1, hS1, hU1⟩
          have HS : Hid (Sh w3 T1 g1 n (lxA (fam kf) (cL Bl) n)) := hS1
          have HU3 : Hid (Below w.heap.size w w3) := HUV.out.1.trans (hU1.1.mono HUV.out.2)
          clear cx hT1 hg1 hS1 hU1
          go_wp2
          go_loopg [66] n (fun q iv wx => ∃ i : Nat, i ≤ n ∧ q = n - i ∧ iv = .int .i64 i ∧ wx = w3)
          case atStart => exact ⟨0, Nat.zero_le _, rfl, by go_num, rfl⟩
          case round =>
            obtain ⟨j, hj, hq, rfl, rfl⟩ := hrel
            by_cases hjn : j < n
            · have z3 : (j : Int) < (n : Int) := by omega
              have cA := at_any HS.out j hjn
              rw [HLab.out j hjn] at cA
              by_cases h3 : 3 ≤ j
              · have z4 : (3 : Int) ≤ (j : Int) := by omega
                by_cases h4 : j < bn
                · have z7 : (j : Int) < (bn : Int) := by omega
                  rw [if_pos ⟨h3, h4⟩] at cA
                  clear h3 h4
                  go_wp2_with fail
                  refine cA.mono ?_
                  rintro ev w4 ⟨rfl, hw⟩
                  subst w4
                  go_wp2
                  go_roundg (n - (j + 1))
                  case measure => omega
                  case rel => exact ⟨j + 1, by omega, rfl, by go_num, rfl⟩
                · have z7 : ¬ (j : Int) < (bn : Int) := by omega
                  rw [if_neg (fun h => h4 h.2)] at cA
                  clear h3 h4
                  go_wp2_with fail
                  refine cA.mono ?_
                  rintro ev w4 ⟨rfl, hw⟩
                  subst w4
                  go_wp2
                  go_roundg (n - (j + 1))
                  case measure => omega
                  case rel => exact ⟨j + 1, by omega, rfl, by go_num, rfl⟩
              · have z4 : ¬ (3 : Int) ≤ (j : Int) := by omega
                rw [if_neg (fun h => h3 h.1)] at cA
                clear h3
                go_wp2_with fail
                refine cA.mono ?_
                rintro ev w4 ⟨rfl, hw⟩
                subst w4
                go_wp2
                go_roundg (n - (j + 1))
                case measure => omega
                case rel => exact ⟨j + 1, by omega, rfl, by go_num, rfl⟩
            · have z3 : ¬ (j : Int) < (n : Int) := by omega
              go_wp2
              go_ret
              exact ⟨rfl, HU3.out⟩
end Go.Proofs.Ytgebmmbnpdhooaa
