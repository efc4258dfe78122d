/- TexMath. -/
import Derived.Test.YtlgfmhhhecaddaaDoorxLwK
import Derived.Test.YtlgfmhhhecaddaaDoorxMatP
namespace Go.Proofs.YtlgfmhhhecaddaaDoor
set_option linter.unusedVariables false
open Go.RowKit Go.ChangeShapes
def mpT : List (List Int) := [[120], [43], [32], [123], [125], [37], [92, 97, 108, 112, 104, 97], [10]]
theorem mpT_bd : ∀ t ∈ mpT, Bd t := by
  intro t ht
  have hx : ∀ x : Int, x ≠ 36 ∧ x ≠ 41 ∧ x ≠ 93 ∧ x ≠ 92 → Bd [x] := fun x h => Bd.one h
  simp only [mpT, List.mem_cons, List.not_mem_nil, or_false] at ht
  rcases ht with rfl | rfl | rfl | rfl | rfl | rfl | rfl | rfl
  · exact hx _ (by decide)
  · exact hx _ (by decide)
  · exact hx _ (by decide)
  · exact hx _ (by decide)
  · exact hx _ (by decide)
  · exact hx _ (by decide)
  · exact Bd.app (A := [92, 97]) (Bd.esc (by decide)) (Bd.app (A := [108]) (hx _ (by decide)) (Bd.app (A := [112]) (hx _ (by decide)) (Bd.app (A := [104]) (hx _ (by decide)) (hx _ (by decide)))))
  · exact hx _ (by decide)
theorem mpT_ok : ∀ r, r < 8 → ∃ t, mpT[r]? = some t ∧ t.length ≤ 6 ∧ t ≠ [] ∧ t.all (fun x => decide (0 ≤ x) && decide (x < 256)) = true := by decide
theorem opT_ok : ∀ r, r < 4 → ∃ a s, opT[r]? = some a ∧ shT[r]? = some s ∧ a.length ≤ 2 ∧ s.length ≤ 2 ∧ 1 ≤ a.length ∧ Byt a ∧ Byt s := by
  intro r hr
  rcases (show r = 0 ∨ r = 1 ∨ r = 2 ∨ r = 3 by omega) with rfl | rfl | rfl | rfl
  · exact ⟨_, _, rfl, rfl, by decide, by decide, by decide, byt_lit _ rfl, byt_lit _ rfl⟩
  · exact ⟨_, _, rfl, rfl, by decide, by decide, by decide, byt_lit _ rfl, byt_lit _ rfl⟩
  · exact ⟨_, _, rfl, rfl, by decide, by decide, by decide, byt_lit _ rfl, byt_lit _ rfl⟩
  · exact ⟨_, _, rfl, rfl, by decide, by decide, by decide, byt_lit _ rfl, byt_lit _ rfl⟩
/-- A text's last byte. -/
theorem nums_last {A : List Int} {x : Int} (hA : Byt (A ++ [x])) {S : ByteArray} (hS : S = strOfNums (A ++ [x])) (h : S.size - 1 < S.size) : ((S[S.size - 1]'h).toNat : Int) = x := by
  subst hS
  have hb := hA x (by simp)
  have hz : (strOfNums (A ++ [x])).size = A.length + 1 := by rw [strOfNums_size]; simp
  have e : (strOfNums (A ++ [x])).size - 1 = A.length := by omega
  have key : ∀ (i : Nat) (hi : i < (strOfNums (A ++ [x])).size), i = A.length → (((strOfNums (A ++ [x]))[i]'hi).toNat : Int) = x := fun i hi he => by
    subst he
    show (((strOfNums (A ++ [x])).data[A.length]'hi).toNat : Int) = x
    simp only [strOfNums, List.getElem_toArray, List.getElem_map, UInt8.toNat_ofNat']
    rw [List.getElem_append_right (Nat.le_refl _)]
    simp
    omega
  exact key _ h e
set_option maxRecDepth 100000 in
set_option maxHeartbeats 16000000 in
theorem math_law {w : World} (hG : GlX w) {a0 : Int} (ha0 : 0 ≤ a0 ∧ a0 < 256) {la : Option Addr} {ln lcap : Nat} {lc : Nat → Int} (hlC : Ch lc ln) (hl : BC w la ln lc) (hln : ln ≤ maxLen) (a2 : Bool) :
    Calls Tryd.prog 5 #[.int .u8 a0, .slice la ln lcap, .bool a2] w fun ev w' => ev = .returned (.bool true) ∧ Below w.heap.size w w' := by
  have ca := awake_any w hG
  have HH : Hid (GlX w ∧ Ch lc ln ∧ BC w la ln lc) := ⟨hG, hlC, hl⟩
  have hml : maxLen ≤ 9223372036854775807 := by unfold maxLen; omega
  obtain ⟨X0, hX0⟩ : ∃ X : Nat, a0 = (X : Int) := ⟨a0.toNat, by omega⟩
  subst hX0
  obtain ⟨r, hr⟩ : ∃ r, X0 % 4 = r := ⟨_, rfl⟩
  have hr4 : r < 4 := by rw [← hr]; exact Nat.mod_lt _ (by decide)
  have hmd : Int.tmod (X0 : Int) 4 = (r : Int) := by rw [← hr]; exact nat_mod X0 4
  obtain ⟨ta, ts, hta, hts, hta2, hts2, hta1, htaB, htsB⟩ := opT_ok r hr4
  obtain ⟨Op, hOp⟩ : ∃ Op, strOfNums ta = Op := ⟨_, rfl⟩
  obtain ⟨Sx, hSx⟩ : ∃ Sx, strOfNums ts = Sx := ⟨_, rfl⟩
  have hOz : Op.size = ta.length := by rw [← hOp]; exact strOfNums_size ta
  have hSz : Sx.size = ts.length := by rw [← hSx]; exact strOfNums_size ts
  have HT : Hid (opT[r]? = some ta ∧ shT[r]? = some ts ∧ strOfNums ta = Op ∧ strOfNums ts = Sx ∧ Byt ta ∧ Byt ts) := ⟨hta, hts, hOp, hSx, htaB, htsB⟩
  obtain ⟨pa, hpa⟩ : ∃ pa, ta.length = pa := ⟨_, rfl⟩
  obtain ⟨psz, hps⟩ : ∃ psz, ts.length = psz := ⟨_, rfl⟩
  have HPP : Hid (ta.length = pa ∧ ts.length = psz) := ⟨hpa, hps⟩
  rw [hpa] at hOz hta2 hta1
  rw [hps] at hSz hts2
  have z5 : (0 : Int) ≤ (r : Int) := by omega
  have z6 : (r : Int) < 4 := by omega
  clear hG hlC hl ha0 hr hpa hps htaB htsB
  go_enter Tryd.func5, Tryd.ntmps5
  go_wp2_with fail
  refine ca.mono ?_
  rintro e w1 ⟨rfl, hb1⟩
  have HU1 : Hid (Up w.heap.size w w1) := ⟨hb1, hb1.size⟩
  clear ca hb1
  obtain ⟨W1, hW1⟩ : ∃ W, w1.alloc (.cells #[.string ⟨#[36]⟩, .string ⟨#[36, 36]⟩, .string ⟨#[92, 40]⟩, .string ⟨#[92, 91]⟩] 9) = W := ⟨_, rfl⟩
  have hbW1 : Below w1.heap.size w1 W1 := by rw [← hW1]; exact below_alloc w1 _
  have y1 : W1.cell? ⟨w1.heap.size, r, none⟩ = some (.string Op) := by rw [← hW1, ← hOp]; exact lit_ps w1 opT r ta hta
  obtain ⟨W2, hW2⟩ : ∃ W, W1.alloc (.cells #[.string ⟨#[36]⟩, .string ⟨#[36, 36]⟩, .string ⟨#[92, 41]⟩, .string ⟨#[92, 93]⟩] 9) = W := ⟨_, rfl⟩
  have hbW2 : Below W1.heap.size W1 W2 := by rw [← hW2]; exact below_alloc W1 _
  have y2 : W2.cell? ⟨W1.heap.size, r, none⟩ = some (.string Sx) := by rw [← hW2, ← hSx]; exact lit_ps W1 shT r ts hts
  have HU2 : Hid (Up w.heap.size w W2) := (HU1.out.stay hbW1).stay hbW2
  have q1 : ¬ 9223372036854775807 < 2 + pa := by omega
  clear hbW1 hbW2 HU1 hta hts hOp hSx
  go_wp2
  clear y1 y2 hW1 hW2
  go_loopg [9, 33] ln (fun q sv iv wr => ∃ (i : Nat) (S : ByteArray), i ≤ ln ∧ q = ln - i ∧ iv = .int .i64 i ∧ sv = .string S ∧ S.size ≤ 6 * min i 20 + 4 ∧ Hid (∃ B, S = strOfNums ([97, 32] ++ ta ++ B) ∧ Bd B ∧ Byt B) ∧ Hid (Up w.heap.size w wr))
  case atStart => exact ⟨0, ⟨#[97, 32]⟩ ++ Op, Nat.zero_le _, rfl, rfl, rfl, by rw [ByteArray.size_append, hOz]; show 2 + pa ≤ _; omega, ⟨[], by rw [List.append_nil, nums_app, HT.out.2.2.1]; rfl, Bd.nil, fun x hx => (by cases hx)⟩, HU2⟩
  case round =>
    clear HU2
    obtain ⟨i, S, hi, hq, rfl, rfl, hS, HB, HU⟩ := hrel
    have hu := HU.out.2
    by_cases hlt : i < ln
    · have z1 : (i : Int) < (ln : Int) := by omega
      have z2 : (0 : Int) ≤ (i : Int) := by omega
      obtain ⟨b, off, rfl, hc⟩ := HH.out.2.2 i hlt
      have hcw := cell_stay hc HU.out.1
      have hci := HH.out.2.1.1 i hlt
      obtain ⟨X, hX⟩ : ∃ X : Nat, lc i = (X : Int) := ⟨(lc i).toNat, by omega⟩
      rw [hX] at hcw
      clear hc hX hci
      by_cases h9 : i < 20
      · have z3 : (i : Int) < 20 := by omega
        obtain ⟨d, hd⟩ : ∃ d, X % 8 = d := ⟨_, rfl⟩
        have hd8 : d < 8 := by rw [← hd]; exact Nat.mod_lt _ (by decide)
        have hmd2 : Int.tmod (X : Int) 8 = (d : Int) := by rw [← hd]; exact nat_mod X 8
        obtain ⟨t, ht, ht6, ht0, htB⟩ := mpT_ok d hd8
        obtain ⟨Nm, hNm⟩ : ∃ Nm, strOfNums t = Nm := ⟨_, rfl⟩
        have hNs : Nm.size ≤ 6 := by rw [← hNm, strOfNums_size]; exact ht6
        obtain ⟨W, hW⟩ : ∃ W, wr.alloc (.cells #[.string ⟨#[120]⟩, .string ⟨#[43]⟩, .string ⟨#[32]⟩, .string ⟨#[123]⟩, .string ⟨#[125]⟩, .string ⟨#[37]⟩, .string ⟨#[92, 97, 108, 112, 104, 97]⟩, .string ⟨#[10]⟩] 9) = W := ⟨_, rfl⟩
        have hbW : Below wr.heap.size wr W := by rw [← hW]; exact below_alloc wr _
        have y1 : W.cell? ⟨wr.heap.size, d, none⟩ = some (.string Nm) := by rw [← hW, ← hNm]; exact lit_ps wr mpT d t ht
        have HUW : Hid (Up w.heap.size w W) := HU.out.stay hbW
        have HBN : Hid (∃ B, S ++ Nm = strOfNums ([97, 32] ++ ta ++ B) ∧ Bd B ∧ Byt B) := by
          obtain ⟨B, e, hP, hy⟩ := HB.out
          exact ⟨B ++ t, by rw [← List.append_assoc, nums_app, ← e, hNm], hP.app (mpT_bd t (List.mem_of_getElem? ht)), byt_app hy (byt_lit t htB)⟩
        have hsz : (S ++ Nm).size ≤ 6 * min (i + 1) 20 + 4 := by rw [ByteArray.size_append]; omega
        have q2 : ¬ 9223372036854775807 < S.size + Nm.size := by omega
        have z7 : (0 : Int) ≤ (d : Int) := by omega
        have z8 : (d : Int) < 8 := by omega
        clear ht ht6 ht0 htB hNm hbW hd HB
        go_wp2
        go_roundg (ln - (i + 1))
        case measure => omega
        case rel => exact ⟨i + 1, S ++ Nm, by omega, rfl, by go_num, rfl, hsz, HBN, HUW⟩
      · have z3 : ¬ (i : Int) < 20 := by omega
        go_wp2
        go_roundg (ln - (i + 1))
        case measure => omega
        case rel => exact ⟨i + 1, S, by omega, rfl, by go_num, rfl, by omega, HB, HU⟩
    · have z1 : ¬ (i : Int) < (ln : Int) := by omega
      have hS124 : S.size ≤ 124 := by omega
      obtain ⟨B, hB, hP, hBy⟩ := HB.out
      have HBB : Hid (S = strOfNums ([97, 32] ++ ta ++ B) ∧ Bd B ∧ Byt B) := ⟨hB, hP, hBy⟩
      have hS3 : 3 ≤ S.size := by rw [hB, strOfNums_size]; simp [HPP.out.1]; omega
      clear hB hP hBy HB hS hq hu hi
      by_cases hr0 : r = 0
      · subst hr0
        have hta36 : ta = [36] := by have := HT.out.1; injection this with this; exact this.symm
        have u1 : (0 : Int) ≤ (S.size : Int) - 1 := by omega
        have u2 : (S.size : Int) - 1 < (S.size : Int) := by omega
        have u3 : ((S.size : Int) - 1).toNat = S.size - 1 := by omega
        have u4 : S.size - 1 < S.size := by omega
        cases hBe : B with
        | nil =>
          have hlast := nums_last (A := [97, 32]) (x := 36) (byt_lit _ rfl) (S := S) (by rw [HBB.out.1, hBe, hta36]; rfl) u4
          obtain ⟨S2, hS2⟩ : ∃ S2, (S ++ ⟨#[121]⟩ : ByteArray) = S2 := ⟨_, rfl⟩
          have HB2 : Hid (S2 = strOfNums ([97, 32] ++ ta ++ [121]) ∧ Bd [121] ∧ Byt [121] ∧ (0 = 0 → [121] ≠ ([] : List Int))) := ⟨by rw [← hS2, HBB.out.1, hBe, List.append_nil, nums_app _ [121]]; rfl, Bd.one (by decide), byt_lit _ rfl, fun _ => by simp⟩
          have hS2z : S2.size ≤ 125 ∧ 3 ≤ S2.size := by rw [← hS2, ByteArray.size_append]; show S.size + 1 ≤ 125 ∧ 3 ≤ S.size + 1; omega
          have q3 : ¬ 9223372036854775807 < S.size + 1 := by omega
          clear hta36 hBe HBB
          obtain ⟨B2, hB2⟩ : ∃ B2 : List Int, [121] = B2 := ⟨_, rfl⟩
          rw [hB2] at HB2
          clear hB2
          cases a2 with
          | true =>
            obtain ⟨S5, hS5⟩ : ∃ S5, (S2 ++ Sx : ByteArray) = S5 := ⟨_, rfl⟩
            obtain ⟨S6, hS6⟩ : ∃ S6, (S5 ++ ⟨#[122]⟩ : ByteArray) = S6 := ⟨_, rfl⟩
            obtain ⟨tq, htq⟩ : ∃ tq, S5.size = tq := ⟨_, rfl⟩
            have htq2 : tq = S2.size + psz := by rw [← htq, ← hS5, ByteArray.size_append, hSz]
            obtain ⟨M, hM⟩ : ∃ M, tq + 1 = M := ⟨_, rfl⟩
            have hS6z : S6.size = M := by rw [← hS6, ByteArray.size_append, htq, ← hM]; rfl
            have HLab : ∃ Bl, strOfNums Bl = S6 ∧ Byt Bl ∧ Bl.length = M ∧ ∀ j, j < M → lxA (cL Bl) M j = if 2 ≤ j ∧ j < tq then 4 else 1 := by
              obtain ⟨h1, h2, h3, h4⟩ := HB2.out
              have hz : S2.size = 2 + ta.length + B2.length := by rw [h1, strOfNums_size]; simp; omega
              have hM' : M = 2 + ta.length + B2.length + ts.length + 1 := by rw [← hM, htq2, hz, HPP.out.2]
              have ht' : tq = 2 + ta.length + B2.length + ts.length := by rw [htq2, hz, HPP.out.2]
              refine ⟨[97, 32] ++ ta ++ B2 ++ ts ++ [122], ?_, byt_app (byt_app (byt_app (byt_app (byt_lit _ rfl) HT.out.2.2.2.2.1) h3) HT.out.2.2.2.2.2) (byt_lit _ rfl), by rw [hM']; simp; omega, fun j hj => ?_⟩
              · rw [← hS6, ← hS5, nums_app _ [122], nums_app _ ts, ← h1, HT.out.2.2.2.1]; rfl
              · rw [hM'] at hj ⊢
                rw [ht']
                exact math_yes HT.out.1 HT.out.2.1 h2 h3 h4 j hj
            have q7 : ¬ 9223372036854775807 < S2.size + psz := by omega
            have q8 : ¬ 9223372036854775807 < tq + 1 := by omega
            have hM9 : M ≤ 1000 ∧ 2 ≤ tq ∧ tq ≤ M := by omega
            clear hM htq2
            obtain ⟨Bl, hBl, hBy, hBn, hlab⟩ := HLab
            obtain ⟨V, gc, hcv, hbw, cx⟩ := str_lex (HH.out.1.stay HU.out.1) hBy (by omega) hBl hBn
            have HUV : Hid (Up w.heap.size w V) := HU.out.stay hbw
            obtain ⟨F, hF⟩ : ∃ F, lxA (cL Bl) M = F := ⟨_, rfl⟩
            unfold LxP at cx
            rw [hF] at cx hlab
            have HLb : Hid (∀ j, j < M → F j = if 2 ≤ j ∧ j < tq then 4 else 1) := hlab
            clear hF hlab hBl hBy hBn hbw
            go_wp2_with fail
            refine cx.mono ?_
            rintro e w3 ⟨T, g, rfl, hT, hg, hSh, hU3⟩
            have HU3 : Hid (Below w.heap.size w w3) := HUV.out.1.trans (hU3.1.mono HUV.out.2)
            have HSh : Hid (Sh w3 T g M F) := hSh
            clear cx hcv hT hg hSh hU3
            go_wp2
            go_loopg [78] M (fun q iv wx => ∃ j : Nat, j ≤ M ∧ q = M - j ∧ iv = .int .i64 j ∧ wx = w3)
            case atStart => exact ⟨0, Nat.zero_le _, rfl, rfl, rfl⟩
            case round =>
              obtain ⟨j, hj, hq3, rfl, hwx⟩ := hrel
              subst hwx
              by_cases hjl : j < M
              · have y1 : (j : Int) < (M : Int) := by omega
                have cA := at_any HSh.out j hjl
                have hl := HLb.out j hjl
                rcases (show j < 2 ∨ (2 ≤ j ∧ j < tq) ∨ (2 ≤ j ∧ tq ≤ j) by omega) with h1 | h1 | h1
                · rw [if_neg (by omega)] at hl
                  rw [hl] at cA
                  have y2 : ¬ (2 : Int) ≤ (j : Int) := by omega
                  clear hl
                  go_wp2_with fail
                  refine cA.mono ?_
                  rintro e w4 ⟨rfl, hw⟩
                  subst hw
                  go_wp2
                  go_roundg (M - (j + 1))
                  case measure => omega
                  case rel => exact ⟨j + 1, by omega, rfl, by go_num, rfl⟩
                · rw [if_pos h1] at hl
                  rw [hl] at cA
                  have y2 : (2 : Int) ≤ (j : Int) := by omega
                  have y3 : (j : Int) < (tq : Int) := by omega
                  clear hl
                  go_wp2_with fail
                  refine cA.mono ?_
                  rintro e w4 ⟨rfl, hw⟩
                  subst hw
                  go_wp2
                  go_roundg (M - (j + 1))
                  case measure => omega
                  case rel => exact ⟨j + 1, by omega, rfl, by go_num, rfl⟩
                · rw [if_neg (by omega)] at hl
                  rw [hl] at cA
                  have y2 : (2 : Int) ≤ (j : Int) := by omega
                  have y3 : ¬ (j : Int) < (tq : Int) := by omega
                  clear hl
                  go_wp2_with fail
                  refine cA.mono ?_
                  rintro e w4 ⟨rfl, hw⟩
                  subst hw
                  go_wp2
                  go_roundg (M - (j + 1))
                  case measure => omega
                  case rel => exact ⟨j + 1, by omega, rfl, by go_num, rfl⟩
              · have y1 : ¬ (j : Int) < (M : Int) := by omega
                go_wp2
                go_ret
                exact ⟨rfl, HU3.out⟩
          | false =>
            have HLab : ∃ Bl, strOfNums Bl = S2 ∧ Byt Bl ∧ Bl.length = S2.size ∧ ∀ j, j < S2.size → lxA (cL Bl) S2.size j = if 2 ≤ j ∧ j < S2.size then 4 else 1 := by
              obtain ⟨h1, h2, h3, h4⟩ := HB2.out
              have ht' : S2.size = 2 + ta.length + B2.length := by rw [h1, strOfNums_size]; simp; omega
              refine ⟨[97, 32] ++ ta ++ B2, h1.symm, byt_app (byt_app (byt_lit _ rfl) HT.out.2.2.2.2.1) h3, by rw [ht']; simp; omega, fun j hj => ?_⟩
              rw [ht'] at hj ⊢
              exact math_no HT.out.1 h2 h3 h4 j hj
            obtain ⟨Bl, hBl, hBy, hBn, hlab⟩ := HLab
            obtain ⟨V, gc, hcv, hbw, cx⟩ := str_lex (HH.out.1.stay HU.out.1) hBy (by omega) hBl hBn
            have HUV : Hid (Up w.heap.size w V) := HU.out.stay hbw
            obtain ⟨F, hF⟩ : ∃ F, lxA (cL Bl) S2.size = F := ⟨_, rfl⟩
            unfold LxP at cx
            rw [hF] at cx hlab
            have HLb : Hid (∀ j, j < S2.size → F j = if 2 ≤ j ∧ j < S2.size then 4 else 1) := hlab
            clear hF hlab hBl hBy hBn hbw
            go_wp2_with fail
            refine cx.mono ?_
            rintro e w3 ⟨T, g, rfl, hT, hg, hSh, hU3⟩
            have HU3 : Hid (Below w.heap.size w w3) := HUV.out.1.trans (hU3.1.mono HUV.out.2)
            have HSh : Hid (Sh w3 T g S2.size F) := hSh
            clear cx hcv hT hg hSh hU3
            go_wp2
            go_loopg [78] S2.size (fun q iv wx => ∃ j : Nat, j ≤ S2.size ∧ q = S2.size - j ∧ iv = .int .i64 j ∧ wx = w3)
            case atStart => exact ⟨0, Nat.zero_le _, rfl, rfl, rfl⟩
            case round =>
              obtain ⟨j, hj, hq3, rfl, hwx⟩ := hrel
              subst hwx
              by_cases hjl : j < S2.size
              · have y1 : (j : Int) < (S2.size : Int) := by omega
                have cA := at_any HSh.out j hjl
                have hl := HLb.out j hjl
                rcases (show j < 2 ∨ (2 ≤ j ∧ j < S2.size) by omega) with h1 | h1
                · rw [if_neg (by omega)] at hl
                  rw [hl] at cA
                  have y2 : ¬ (2 : Int) ≤ (j : Int) := by omega
                  clear hl
                  go_wp2_with fail
                  refine cA.mono ?_
                  rintro e w4 ⟨rfl, hw⟩
                  subst hw
                  go_wp2
                  go_roundg (S2.size - (j + 1))
                  case measure => omega
                  case rel => exact ⟨j + 1, by omega, rfl, by go_num, rfl⟩
                · rw [if_pos h1] at hl
                  rw [hl] at cA
                  have y2 : (2 : Int) ≤ (j : Int) := by omega
                  have y3 : (j : Int) < (S2.size : Int) := by omega
                  clear hl
                  go_wp2_with fail
                  refine cA.mono ?_
                  rintro e w4 ⟨rfl, hw⟩
                  subst hw
                  go_wp2
                  go_roundg (S2.size - (j + 1))
                  case measure => omega
                  case rel => exact ⟨j + 1, by omega, rfl, by go_num, rfl⟩
              · have y1 : ¬ (j : Int) < (S2.size : Int) := by omega
                go_wp2
                go_ret
                exact ⟨rfl, HU3.out⟩
        | cons x B' =>
          have hlx : ∃ A y, [97, 32] ++ ta ++ B = A ++ [y] ∧ y ≠ 36 := by
            rcases List.eq_nil_or_concat B with h | ⟨A, y, h⟩
            · rw [hBe] at h; cases h
            · refine ⟨[97, 32] ++ ta ++ A, y, by rw [h]; simp, ?_⟩
              exact (HBB.out.2.1.1 y (by rw [h]; simp)).1
          obtain ⟨A, y, hAy, hy36⟩ := hlx
          have hAB : Byt (A ++ [y]) := by rw [← hAy]; exact byt_app (byt_app (byt_lit _ rfl) HT.out.2.2.2.2.1) HBB.out.2.2
          have hlast := nums_last hAB (S := S) (by rw [HBB.out.1, hAy]) u4
          have k36 : (y == 36) = false := by simpa using hy36
          have HB2 : Hid (S = strOfNums ([97, 32] ++ ta ++ B) ∧ Bd B ∧ Byt B ∧ (0 = 0 → B ≠ ([] : List Int))) := ⟨HBB.out.1, HBB.out.2.1, HBB.out.2.2, fun _ => by rw [hBe]; simp⟩
          have hS2z : S.size ≤ 125 ∧ 3 ≤ S.size := by omega
          clear hta36 hBe HBB hAy hAB hy36
          cases a2 with
          | true =>
            obtain ⟨S5, hS5⟩ : ∃ S5, (S ++ Sx : ByteArray) = S5 := ⟨_, rfl⟩
            obtain ⟨S6, hS6⟩ : ∃ S6, (S5 ++ ⟨#[122]⟩ : ByteArray) = S6 := ⟨_, rfl⟩
            obtain ⟨tq, htq⟩ : ∃ tq, S5.size = tq := ⟨_, rfl⟩
            have htq2 : tq = S.size + psz := by rw [← htq, ← hS5, ByteArray.size_append, hSz]
            obtain ⟨M, hM⟩ : ∃ M, tq + 1 = M := ⟨_, rfl⟩
            have hS6z : S6.size = M := by rw [← hS6, ByteArray.size_append, htq, ← hM]; rfl
            have HLab : ∃ Bl, strOfNums Bl = S6 ∧ Byt Bl ∧ Bl.length = M ∧ ∀ j, j < M → lxA (cL Bl) M j = if 2 ≤ j ∧ j < tq then 4 else 1 := by
              obtain ⟨h1, h2, h3, h4⟩ := HB2.out
              have hz : S.size = 2 + ta.length + B.length := by rw [h1, strOfNums_size]; simp; omega
              have hM' : M = 2 + ta.length + B.length + ts.length + 1 := by rw [← hM, htq2, hz, HPP.out.2]
              have ht' : tq = 2 + ta.length + B.length + ts.length := by rw [htq2, hz, HPP.out.2]
              refine ⟨[97, 32] ++ ta ++ B ++ ts ++ [122], ?_, byt_app (byt_app (byt_app (byt_app (byt_lit _ rfl) HT.out.2.2.2.2.1) h3) HT.out.2.2.2.2.2) (byt_lit _ rfl), by rw [hM']; simp; omega, fun j hj => ?_⟩
              · rw [← hS6, ← hS5, nums_app _ [122], nums_app _ ts, ← h1, HT.out.2.2.2.1]; rfl
              · rw [hM'] at hj ⊢
                rw [ht']
                exact math_yes HT.out.1 HT.out.2.1 h2 h3 h4 j hj
            have q7 : ¬ 9223372036854775807 < S.size + psz := by omega
            have q8 : ¬ 9223372036854775807 < tq + 1 := by omega
            have hM9 : M ≤ 1000 ∧ 2 ≤ tq ∧ tq ≤ M := by omega
            clear hM htq2
            obtain ⟨Bl, hBl, hBy, hBn, hlab⟩ := HLab
            obtain ⟨V, gc, hcv, hbw, cx⟩ := str_lex (HH.out.1.stay HU.out.1) hBy (by omega) hBl hBn
            have HUV : Hid (Up w.heap.size w V) := HU.out.stay hbw
            obtain ⟨F, hF⟩ : ∃ F, lxA (cL Bl) M = F := ⟨_, rfl⟩
            unfold LxP at cx
            rw [hF] at cx hlab
            have HLb : Hid (∀ j, j < M → F j = if 2 ≤ j ∧ j < tq then 4 else 1) := hlab
            clear hF hlab hBl hBy hBn hbw
            go_wp2_with fail
            refine cx.mono ?_
            rintro e w3 ⟨T, g, rfl, hT, hg, hSh, hU3⟩
            have HU3 : Hid (Below w.heap.size w w3) := HUV.out.1.trans (hU3.1.mono HUV.out.2)
            have HSh : Hid (Sh w3 T g M F) := hSh
            clear cx hcv hT hg hSh hU3
            go_wp2
            go_loopg [78] M (fun q iv wx => ∃ j : Nat, j ≤ M ∧ q = M - j ∧ iv = .int .i64 j ∧ wx = w3)
            case atStart => exact ⟨0, Nat.zero_le _, rfl, rfl, rfl⟩
            case round =>
              obtain ⟨j, hj, hq3, rfl, hwx⟩ := hrel
              subst hwx
              by_cases hjl : j < M
              · have y1 : (j : Int) < (M : Int) := by omega
                have cA := at_any HSh.out j hjl
                have hl := HLb.out j hjl
                rcases (show j < 2 ∨ (2 ≤ j ∧ j < tq) ∨ (2 ≤ j ∧ tq ≤ j) by omega) with h1 | h1 | h1
                · rw [if_neg (by omega)] at hl
                  rw [hl] at cA
                  have y2 : ¬ (2 : Int) ≤ (j : Int) := by omega
                  clear hl
                  go_wp2_with fail
                  refine cA.mono ?_
                  rintro e w4 ⟨rfl, hw⟩
                  subst hw
                  go_wp2
                  go_roundg (M - (j + 1))
                  case measure => omega
                  case rel => exact ⟨j + 1, by omega, rfl, by go_num, rfl⟩
                · rw [if_pos h1] at hl
                  rw [hl] at cA
                  have y2 : (2 : Int) ≤ (j : Int) := by omega
                  have y3 : (j : Int) < (tq : Int) := by omega
                  clear hl
                  go_wp2_with fail
                  refine cA.mono ?_
                  rintro e w4 ⟨rfl, hw⟩
                  subst hw
                  go_wp2
                  go_roundg (M - (j + 1))
                  case measure => omega
                  case rel => exact ⟨j + 1, by omega, rfl, by go_num, rfl⟩
                · rw [if_neg (by omega)] at hl
                  rw [hl] at cA
                  have y2 : (2 : Int) ≤ (j : Int) := by omega
                  have y3 : ¬ (j : Int) < (tq : Int) := by omega
                  clear hl
                  go_wp2_with fail
                  refine cA.mono ?_
                  rintro e w4 ⟨rfl, hw⟩
                  subst hw
                  go_wp2
                  go_roundg (M - (j + 1))
                  case measure => omega
                  case rel => exact ⟨j + 1, by omega, rfl, by go_num, rfl⟩
              · have y1 : ¬ (j : Int) < (M : Int) := by omega
                go_wp2
                go_ret
                exact ⟨rfl, HU3.out⟩
          | false =>
            have HLab : ∃ Bl, strOfNums Bl = S ∧ Byt Bl ∧ Bl.length = S.size ∧ ∀ j, j < S.size → lxA (cL Bl) S.size j = if 2 ≤ j ∧ j < S.size then 4 else 1 := by
              obtain ⟨h1, h2, h3, h4⟩ := HB2.out
              have ht' : S.size = 2 + ta.length + B.length := by rw [h1, strOfNums_size]; simp; omega
              refine ⟨[97, 32] ++ ta ++ B, h1.symm, byt_app (byt_app (byt_lit _ rfl) HT.out.2.2.2.2.1) h3, by rw [ht']; simp; omega, fun j hj => ?_⟩
              rw [ht'] at hj ⊢
              exact math_no HT.out.1 h2 h3 h4 j hj
            obtain ⟨Bl, hBl, hBy, hBn, hlab⟩ := HLab
            obtain ⟨V, gc, hcv, hbw, cx⟩ := str_lex (HH.out.1.stay HU.out.1) hBy (by omega) hBl hBn
            have HUV : Hid (Up w.heap.size w V) := HU.out.stay hbw
            obtain ⟨F, hF⟩ : ∃ F, lxA (cL Bl) S.size = F := ⟨_, rfl⟩
            unfold LxP at cx
            rw [hF] at cx hlab
            have HLb : Hid (∀ j, j < S.size → F j = if 2 ≤ j ∧ j < S.size then 4 else 1) := hlab
            clear hF hlab hBl hBy hBn hbw
            go_wp2_with fail
            refine cx.mono ?_
            rintro e w3 ⟨T, g, rfl, hT, hg, hSh, hU3⟩
            have HU3 : Hid (Below w.heap.size w w3) := HUV.out.1.trans (hU3.1.mono HUV.out.2)
            have HSh : Hid (Sh w3 T g S.size F) := hSh
            clear cx hcv hT hg hSh hU3
            go_wp2
            go_loopg [78] S.size (fun q iv wx => ∃ j : Nat, j ≤ S.size ∧ q = S.size - j ∧ iv = .int .i64 j ∧ wx = w3)
            case atStart => exact ⟨0, Nat.zero_le _, rfl, rfl, rfl⟩
            case round =>
              obtain ⟨j, hj, hq3, rfl, hwx⟩ := hrel
              subst hwx
              by_cases hjl : j < S.size
              · have y1 : (j : Int) < (S.size : Int) := by omega
                have cA := at_any HSh.out j hjl
                have hl := HLb.out j hjl
                rcases (show j < 2 ∨ (2 ≤ j ∧ j < S.size) by omega) with h1 | h1
                · rw [if_neg (by omega)] at hl
                  rw [hl] at cA
                  have y2 : ¬ (2 : Int) ≤ (j : Int) := by omega
                  clear hl
                  go_wp2_with fail
                  refine cA.mono ?_
                  rintro e w4 ⟨rfl, hw⟩
                  subst hw
                  go_wp2
                  go_roundg (S.size - (j + 1))
                  case measure => omega
                  case rel => exact ⟨j + 1, by omega, rfl, by go_num, rfl⟩
                · rw [if_pos h1] at hl
                  rw [hl] at cA
                  have y2 : (2 : Int) ≤ (j : Int) := by omega
                  have y3 : (j : Int) < (S.size : Int) := by omega
                  clear hl
                  go_wp2_with fail
                  refine cA.mono ?_
                  rintro e w4 ⟨rfl, hw⟩
                  subst hw
                  go_wp2
                  go_roundg (S.size - (j + 1))
                  case measure => omega
                  case rel => exact ⟨j + 1, by omega, rfl, by go_num, rfl⟩
              · have y1 : ¬ (j : Int) < (S.size : Int) := by omega
                go_wp2
                go_ret
                exact ⟨rfl, HU3.out⟩
      · have hrn : ((r : Int) == 0) = false := by simp; omega
        have HB2 : Hid (S = strOfNums ([97, 32] ++ ta ++ B) ∧ Bd B ∧ Byt B ∧ (r = 0 → B ≠ ([] : List Int))) := ⟨HBB.out.1, HBB.out.2.1, HBB.out.2.2, fun h => absurd h hr0⟩
        have hS2z : S.size ≤ 125 ∧ 3 ≤ S.size := by omega
        clear HBB hr0
        cases a2 with
        | true =>
          obtain ⟨S5, hS5⟩ : ∃ S5, (S ++ Sx : ByteArray) = S5 := ⟨_, rfl⟩
          obtain ⟨S6, hS6⟩ : ∃ S6, (S5 ++ ⟨#[122]⟩ : ByteArray) = S6 := ⟨_, rfl⟩
          obtain ⟨tq, htq⟩ : ∃ tq, S5.size = tq := ⟨_, rfl⟩
          have htq2 : tq = S.size + psz := by rw [← htq, ← hS5, ByteArray.size_append, hSz]
          obtain ⟨M, hM⟩ : ∃ M, tq + 1 = M := ⟨_, rfl⟩
          have hS6z : S6.size = M := by rw [← hS6, ByteArray.size_append, htq, ← hM]; rfl
          have HLab : ∃ Bl, strOfNums Bl = S6 ∧ Byt Bl ∧ Bl.length = M ∧ ∀ j, j < M → lxA (cL Bl) M j = if 2 ≤ j ∧ j < tq then 4 else 1 := by
            obtain ⟨h1, h2, h3, h4⟩ := HB2.out
            have hz : S.size = 2 + ta.length + B.length := by rw [h1, strOfNums_size]; simp; omega
            have hM' : M = 2 + ta.length + B.length + ts.length + 1 := by rw [← hM, htq2, hz, HPP.out.2]
            have ht' : tq = 2 + ta.length + B.length + ts.length := by rw [htq2, hz, HPP.out.2]
            refine ⟨[97, 32] ++ ta ++ B ++ ts ++ [122], ?_, byt_app (byt_app (byt_app (byt_app (byt_lit _ rfl) HT.out.2.2.2.2.1) h3) HT.out.2.2.2.2.2) (byt_lit _ rfl), by rw [hM']; simp; omega, fun j hj => ?_⟩
            · rw [← hS6, ← hS5, nums_app _ [122], nums_app _ ts, ← h1, HT.out.2.2.2.1]; rfl
            · rw [hM'] at hj ⊢
              rw [ht']
              exact math_yes HT.out.1 HT.out.2.1 h2 h3 h4 j hj
          have q7 : ¬ 9223372036854775807 < S.size + psz := by omega
          have q8 : ¬ 9223372036854775807 < tq + 1 := by omega
          have hM9 : M ≤ 1000 ∧ 2 ≤ tq ∧ tq ≤ M := by omega
          clear hM htq2
          obtain ⟨Bl, hBl, hBy, hBn, hlab⟩ := HLab
          obtain ⟨V, gc, hcv, hbw, cx⟩ := str_lex (HH.out.1.stay HU.out.1) hBy (by omega) hBl hBn
          have HUV : Hid (Up w.heap.size w V) := HU.out.stay hbw
          obtain ⟨F, hF⟩ : ∃ F, lxA (cL Bl) M = F := ⟨_, rfl⟩
          unfold LxP at cx
          rw [hF] at cx hlab
          have HLb : Hid (∀ j, j < M → F j = if 2 ≤ j ∧ j < tq then 4 else 1) := hlab
          clear hF hlab hBl hBy hBn hbw
          go_wp2_with fail
          refine cx.mono ?_
          rintro e w3 ⟨T, g, rfl, hT, hg, hSh, hU3⟩
          have HU3 : Hid (Below w.heap.size w w3) := HUV.out.1.trans (hU3.1.mono HUV.out.2)
          have HSh : Hid (Sh w3 T g M F) := hSh
          clear cx hcv hT hg hSh hU3
          go_wp2
          go_loopg [78] M (fun q iv wx => ∃ j : Nat, j ≤ M ∧ q = M - j ∧ iv = .int .i64 j ∧ wx = w3)
          case atStart => exact ⟨0, Nat.zero_le _, rfl, rfl, rfl⟩
          case round =>
            obtain ⟨j, hj, hq3, rfl, hwx⟩ := hrel
            subst hwx
            by_cases hjl : j < M
            · have y1 : (j : Int) < (M : Int) := by omega
              have cA := at_any HSh.out j hjl
              have hl := HLb.out j hjl
              rcases (show j < 2 ∨ (2 ≤ j ∧ j < tq) ∨ (2 ≤ j ∧ tq ≤ j) by omega) with h1 | h1 | h1
              · rw [if_neg (by omega)] at hl
                rw [hl] at cA
                have y2 : ¬ (2 : Int) ≤ (j : Int) := by omega
                clear hl
                go_wp2_with fail
                refine cA.mono ?_
                rintro e w4 ⟨rfl, hw⟩
                subst hw
                go_wp2
                go_roundg (M - (j + 1))
                case measure => omega
                case rel => exact ⟨j + 1, by omega, rfl, by go_num, rfl⟩
              · rw [if_pos h1] at hl
                rw [hl] at cA
                have y2 : (2 : Int) ≤ (j : Int) := by omega
                have y3 : (j : Int) < (tq : Int) := by omega
                clear hl
                go_wp2_with fail
                refine cA.mono ?_
                rintro e w4 ⟨rfl, hw⟩
                subst hw
                go_wp2
                go_roundg (M - (j + 1))
                case measure => omega
                case rel => exact ⟨j + 1, by omega, rfl, by go_num, rfl⟩
              · rw [if_neg (by omega)] at hl
                rw [hl] at cA
                have y2 : (2 : Int) ≤ (j : Int) := by omega
                have y3 : ¬ (j : Int) < (tq : Int) := by omega
                clear hl
                go_wp2_with fail
                refine cA.mono ?_
                rintro e w4 ⟨rfl, hw⟩
                subst hw
                go_wp2
                go_roundg (M - (j + 1))
                case measure => omega
                case rel => exact ⟨j + 1, by omega, rfl, by go_num, rfl⟩
            · have y1 : ¬ (j : Int) < (M : Int) := by omega
              go_wp2
              go_ret
              exact ⟨rfl, HU3.out⟩
        | false =>
          have HLab : ∃ Bl, strOfNums Bl = S ∧ Byt Bl ∧ Bl.length = S.size ∧ ∀ j, j < S.size → lxA (cL Bl) S.size j = if 2 ≤ j ∧ j < S.size then 4 else 1 := by
            obtain ⟨h1, h2, h3, h4⟩ := HB2.out
            have ht' : S.size = 2 + ta.length + B.length := by rw [h1, strOfNums_size]; simp; omega
            refine ⟨[97, 32] ++ ta ++ B, h1.symm, byt_app (byt_app (byt_lit _ rfl) HT.out.2.2.2.2.1) h3, by rw [ht']; simp; omega, fun j hj => ?_⟩
            rw [ht'] at hj ⊢
            exact math_no HT.out.1 h2 h3 h4 j hj
          obtain ⟨Bl, hBl, hBy, hBn, hlab⟩ := HLab
          obtain ⟨V, gc, hcv, hbw, cx⟩ := str_lex (HH.out.1.stay HU.out.1) hBy (by omega) hBl hBn
          have HUV : Hid (Up w.heap.size w V) := HU.out.stay hbw
          obtain ⟨F, hF⟩ : ∃ F, lxA (cL Bl) S.size = F := ⟨_, rfl⟩
          unfold LxP at cx
          rw [hF] at cx hlab
          have HLb : Hid (∀ j, j < S.size → F j = if 2 ≤ j ∧ j < S.size then 4 else 1) := hlab
          clear hF hlab hBl hBy hBn hbw
          go_wp2_with fail
          refine cx.mono ?_
          rintro e w3 ⟨T, g, rfl, hT, hg, hSh, hU3⟩
          have HU3 : Hid (Below w.heap.size w w3) := HUV.out.1.trans (hU3.1.mono HUV.out.2)
          have HSh : Hid (Sh w3 T g S.size F) := hSh
          clear cx hcv hT hg hSh hU3
          go_wp2
          go_loopg [78] S.size (fun q iv wx => ∃ j : Nat, j ≤ S.size ∧ q = S.size - j ∧ iv = .int .i64 j ∧ wx = w3)
          case atStart => exact ⟨0, Nat.zero_le _, rfl, rfl, rfl⟩
          case round =>
            obtain ⟨j, hj, hq3, rfl, hwx⟩ := hrel
            subst hwx
            by_cases hjl : j < S.size
            · have y1 : (j : Int) < (S.size : Int) := by omega
              have cA := at_any HSh.out j hjl
              have hl := HLb.out j hjl
              rcases (show j < 2 ∨ (2 ≤ j ∧ j < S.size) by omega) with h1 | h1
              · rw [if_neg (by omega)] at hl
                rw [hl] at cA
                have y2 : ¬ (2 : Int) ≤ (j : Int) := by omega
                clear hl
                go_wp2_with fail
                refine cA.mono ?_
                rintro e w4 ⟨rfl, hw⟩
                subst hw
                go_wp2
                go_roundg (S.size - (j + 1))
                case measure => omega
                case rel => exact ⟨j + 1, by omega, rfl, by go_num, rfl⟩
              · rw [if_pos h1] at hl
                rw [hl] at cA
                have y2 : (2 : Int) ≤ (j : Int) := by omega
                have y3 : (j : Int) < (S.size : Int) := by omega
                clear hl
                go_wp2_with fail
                refine cA.mono ?_
                rintro e w4 ⟨rfl, hw⟩
                subst hw
                go_wp2
                go_roundg (S.size - (j + 1))
                case measure => omega
                case rel => exact ⟨j + 1, by omega, rfl, by go_num, rfl⟩
            · have y1 : ¬ (j : Int) < (S.size : Int) := by omega
              go_wp2
              go_ret
              exact ⟨rfl, HU3.out⟩
end Go.Proofs.YtlgfmhhhecaddaaDoor
