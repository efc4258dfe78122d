/- TexVerbatim. -/
import Derived.Test.YtlgfmhhhecaddaaDoorxApp
import Derived.Test.YtlgfmhhhecaddaaDoorxVerP
namespace Go.Proofs.YtlgfmhhhecaddaaDoor
set_option linter.unusedVariables false
open Go.RowKit Go.ChangeShapes
def veT : List (List Int) := [[97, 108, 105, 103, 110], [97, 108, 105, 103, 110, 42], [101, 113, 117, 97, 116, 105, 111, 110], [101, 113, 117, 97, 116, 105, 111, 110, 42], [108, 115, 116, 108, 105, 115, 116, 105, 110, 103], [118, 101, 114, 98, 97, 116, 105, 109]]
theorem veT_ok : ∀ r, r < 6 → ∃ t, veT[r]? = some t ∧ whB t = true ∧ t.length ≤ 10 := by decide
/-- Bytes that end nothing. -/
def Cz (B : List Int) : Prop := Byt B ∧ ∀ x ∈ B, x ≠ 92 ∧ x ≠ 91 ∧ x ≠ 123
theorem Cz.snoc {B : List Int} (h : Cz B) {x : Int} (hx : 0 ≤ x ∧ x < 256) (h1 : x ≠ 92 ∧ x ≠ 91 ∧ x ≠ 123) : Cz (B ++ [x]) := by
  refine ⟨byt_app h.1 (byt1 x hx), fun y hy => ?_⟩
  rcases List.mem_append.1 hy with h2 | h2
  · exact h.2 y h2
  · rw [List.mem_singleton] at h2; subst h2; exact h1
set_option maxRecDepth 100000 in
set_option maxHeartbeats 16000000 in
theorem verbatim_law {w : World} (hG : GlX w) {la : Option Addr} {ln lcap : Nat} {lc : Nat → Int} (hlC : Ch lc ln) (hl : BC w la ln lc) {a1 : Int} (ha1 : 0 ≤ a1 ∧ a1 < 256) (a2 : Bool) :
    Calls Tryd.prog 4 #[.slice la ln lcap, .int .u8 a1, .bool a2] w fun ev w' => ev = .returned (.bool true) ∧ Below w.heap.size w w' := by
  have ca := awake_any w hG
  have HH : Hid (GlX w ∧ Ch lc ln ∧ BC w la ln lc) := ⟨hG, hlC, hl⟩
  obtain ⟨X1, hX1⟩ : ∃ X : Nat, a1 = (X : Int) := ⟨a1.toNat, by omega⟩
  subst hX1
  clear hG hlC hl ha1
  go_enter Tryd.func4, Tryd.ntmps4
  go_wp2_with fail
  refine ca.mono ?_
  rintro e w1 ⟨rfl, hb1⟩
  have HU1 : Hid (Up w.heap.size w w1) := ⟨hb1, hb1.size⟩
  clear ca hb1
  by_cases h5 : 500 < ln
  · have z0 : (500 : Int) < (ln : Int) := by omega
    go_wp2
    go_ret
    exact ⟨rfl, HU1.out.1⟩
  have z0 : ¬ (500 : Int) < (ln : Int) := by omega
  go_wp2
  go_loopg [7, 25] ln (fun q bv iv wr => ∃ (i : Nat) (bd : Option Addr) (bn bc : Nat), i ≤ ln ∧ q = ln - i ∧ iv = .int .i64 i ∧ bv = .slice bd bn bc ∧ bn ≤ i ∧ Hid (∃ l, l.length = bn ∧ OB wr w.heap.size (.slice bd bn bc) l ∧ Cz l) ∧ Hid (Up w.heap.size w wr))
  case atStart => exact ⟨0, none, 0, 0, Nat.zero_le _, rfl, rfl, rfl, Nat.zero_le _, ⟨[], rfl, OB.nil _ _, fun x hx => (by cases hx), fun x hx => (by cases hx)⟩, HU1⟩
  case round =>
    obtain ⟨i, bd, bn, bc, hi, hq, rfl, rfl, hbn, HL, HU⟩ := hrel
    obtain ⟨l, hl1, hl2, hl3⟩ := HL.out
    have HO : Hid (OB wr w.heap.size (.slice bd bn bc) l ∧ l.length = bn ∧ Cz l) := ⟨hl2, hl1, hl3⟩
    have hu := HU.out.2
    clear hl1 hl2 hl3 HL
    by_cases hlt : i < ln
    · have z1 : (i : Int) < (ln : Int) := by omega
      have z2 : (0 : Int) ≤ (i : Int) := by omega
      obtain ⟨b, off, rfl, hc⟩ := HH.out.2.2 i hlt
      have hcw := cell_stay hc HU.out.1
      have hci := HH.out.2.1.1 i hlt
      obtain ⟨x, hx⟩ : ∃ x, lc i = x := ⟨_, rfl⟩
      rw [hx] at hcw hci
      clear hc hx
      by_cases h1 : x = 92
      · subst h1
        go_wp2
        go_roundg (ln - (i + 1))
        case measure => omega
        case rel => exact ⟨i + 1, bd, bn, bc, by omega, rfl, by go_num, rfl, by omega, ⟨l, HO.out.2.1, HO.out.1, HO.out.2.2⟩, HU⟩
      by_cases h2 : x = 91
      · subst h2
        clear h1
        go_wp2
        go_roundg (ln - (i + 1))
        case measure => omega
        case rel => exact ⟨i + 1, bd, bn, bc, by omega, rfl, by go_num, rfl, by omega, ⟨l, HO.out.2.1, HO.out.1, HO.out.2.2⟩, HU⟩
      by_cases h3 : x = 123
      · subst h3
        clear h1 h2
        go_wp2
        go_roundg (ln - (i + 1))
        case measure => omega
        case rel => exact ⟨i + 1, bd, bn, bc, by omega, rfl, by go_num, rfl, by omega, ⟨l, HO.out.2.1, HO.out.1, HO.out.2.2⟩, HU⟩
      · have k1 : (x != 92) = true := by simpa using h1
        have k2 : (x != 91) = true := by simpa using h2
        have k3 : (x != 123) = true := by simpa using h3
        have HE : Hid (Cz (l ++ [x])) := HO.out.2.2.snoc hci ⟨h1, h2, h3⟩
        clear h1 h2 h3
        go_wp2_with (at_builtin; refine app_ob rfl _ _ rfl w.heap.size _ l rfl (HO.out.1.stay (below_alloc wr _)) (some ⟨wr.heap.size, 0, none⟩) 1 1 (cL [x]) rfl (one_bc wr x) (by rw [HO.out.2.1]; omega) (by simp; omega) ?_)
        intro v1 w2 ho1 hg1
        rw [cl_one] at ho1
        obtain ⟨bd1, bc1, rfl, -⟩ := ho1.form
        have HO1 : Hid (OB w2 w.heap.size (.slice bd1 (l ++ [x]).length bc1) (l ++ [x])) := ho1
        have HU2 : Hid (Up w.heap.size w w2) := (HU.out.alloc _).grown hg1 (own_base HO.out.1)
        obtain ⟨n1, hn1⟩ : ∃ n1, (l ++ [x]).length = n1 := ⟨_, rfl⟩
        have HN1 : Hid ((l ++ [x]).length = n1) := hn1
        have hn1b : n1 ≤ i + 1 := by rw [← hn1, List.length_append, HO.out.2.1]; simp; omega
        rw [hn1] at HO1 ⊢
        clear ho1 hg1 hn1
        go_wp2
        go_roundg (ln - (i + 1))
        case measure => omega
        case rel => exact ⟨i + 1, bd1, n1, bc1, by omega, rfl, by go_num, rfl, hn1b, ⟨l ++ [x], HN1.out, HO1.out, HE.out⟩, HU2⟩
    · have z1 : ¬ (i : Int) < (ln : Int) := by omega
      have hl500 : l.length ≤ 500 := by rw [HO.out.2.1]; omega
      obtain ⟨r, hr⟩ : ∃ r, X1 % 6 = r := ⟨_, rfl⟩
      have hr6 : r < 6 := by rw [← hr]; exact Nat.mod_lt _ (by decide)
      have hmd : Int.tmod (X1 : Int) 6 = (r : Int) := by rw [← hr]; exact nat_mod X1 6
      obtain ⟨t, ht, hwh, ht10⟩ := veT_ok r hr6
      obtain ⟨Nm, hNm⟩ : ∃ Nm, strOfNums t = Nm := ⟨_, rfl⟩
      have hNs : Nm.size = t.length := by rw [← hNm]; exact strOfNums_size t
      obtain ⟨W, hW⟩ : ∃ W, wr.alloc (.cells #[.string ⟨#[97, 108, 105, 103, 110]⟩, .string ⟨#[97, 108, 105, 103, 110, 42]⟩, .string ⟨#[101, 113, 117, 97, 116, 105, 111, 110]⟩, .string ⟨#[101, 113, 117, 97, 116, 105, 111, 110, 42]⟩, .string ⟨#[108, 115, 116, 108, 105, 115, 116, 105, 110, 103]⟩, .string ⟨#[118, 101, 114, 98, 97, 116, 105, 109]⟩] 9) = W := ⟨_, rfl⟩
      have hbW : Below wr.heap.size wr W := by rw [← hW]; exact below_alloc wr _
      have hPS : PS W wr.heap.size veT := by rw [← hW]; exact lit_ps wr veT
      have y1 : W.cell? ⟨wr.heap.size, r, none⟩ = some (.string Nm) := by rw [← hNm]; exact hPS r t ht
      have HUW : Hid (Up w.heap.size w W) := HU.out.stay hbW
      have hcs := own_text (HO.out.1.stay hbW)
      obtain ⟨Cs, hCs⟩ : ∃ Cs, strOfNums l = Cs := ⟨_, rfl⟩
      have hCz : Cs.size = l.length := by rw [← hCs]; exact strOfNums_size l
      rw [hCs] at hcs
      obtain ⟨p, hp⟩ : ∃ p, t.length = p := ⟨_, rfl⟩
      obtain ⟨z, hz⟩ : ∃ z, l.length = z := ⟨_, rfl⟩
      rw [hp] at hNs ht10
      rw [hz] at hCz hl500
      obtain ⟨S1, hS1⟩ : ∃ S1, (⟨#[92, 98, 101, 103, 105, 110, 123]⟩ ++ Nm ++ ⟨#[125]⟩ : ByteArray) = S1 := ⟨_, rfl⟩
      have hS1n : S1 = strOfNums ([92, 98, 101, 103, 105, 110, 123] ++ t ++ [125]) := by rw [← hS1, nums_app, nums_app, hNm]; rfl
      obtain ⟨fr, hfr⟩ : ∃ fr, 8 + p = fr := ⟨_, rfl⟩
      have hS1z : S1.size = fr := by rw [hS1n, strOfNums_size, ← hfr]; simp [hp]; omega
      obtain ⟨S2, hS2⟩ : ∃ S2, (S1 ++ Cs : ByteArray) = S2 := ⟨_, rfl⟩
      have hS2n : S2 = strOfNums ([92, 98, 101, 103, 105, 110, 123] ++ t ++ [125] ++ l) := by rw [← hS2, hS1n, nums_app _ l, hCs]
      obtain ⟨tq, htq⟩ : ∃ tq, fr + z = tq := ⟨_, rfl⟩
      have hS2z : S2.size = tq := by rw [← hS2, ByteArray.size_append, hS1z, hCz, htq]
      have q1 : ¬ 9223372036854775807 < 7 + Nm.size := by omega
      have q2 : ¬ 9223372036854775807 < 7 + Nm.size + 1 := by omega
      have q3 : ¬ 9223372036854775807 < S1.size + Cs.size := by omega
      have q4 : ¬ 9223372036854775807 < fr + z := by omega
      have q5 : ¬ 9223372036854775807 < 7 + p := by omega
      have q6 : ¬ 9223372036854775807 < 7 + p + 1 := by omega
      have z5 : (0 : Int) ≤ (r : Int) := by omega
      have z6 : (r : Int) < 6 := by omega
      have HP : Hid (8 + p = fr ∧ fr + z = tq ∧ t.length = p ∧ l.length = z) := ⟨hfr, htq, hp, hz⟩
      have HW : Hid (whB t = true ∧ Cz l) := ⟨hwh, HO.out.2.2⟩
      have HN : Hid (strOfNums t = Nm ∧ S2 = strOfNums ([92, 98, 101, 103, 105, 110, 123] ++ t ++ [125] ++ l)) := ⟨hNm, hS2n⟩
      have HFq : Hid (fr ≤ tq ∧ tq ≤ 600 ∧ p ≤ 10) := by show _ ∧ _ ∧ _; omega
      clear hNm hbW hPS hr HO hwh hfr htq hp hz hS1n hS2n hCs ht HU hbn hi hq ht10 hl500
      cases a2 with
      | true =>
        obtain ⟨E3, hE3⟩ : ∃ E3, (⟨#[92, 101, 110, 100, 123]⟩ ++ Nm ++ ⟨#[125, 120]⟩ : ByteArray) = E3 := ⟨_, rfl⟩
        obtain ⟨S3, hS3⟩ : ∃ S3, (S2 ++ E3 : ByteArray) = S3 := ⟨_, rfl⟩
        have hE3z : E3.size = p + 7 := by rw [← hE3, ByteArray.size_append, ByteArray.size_append, hNs]; show 5 + p + 2 = p + 7; omega
        have HLab : ∃ Bl, strOfNums Bl = S3 ∧ Byt Bl ∧ Bl.length = tq + (p + 7) ∧ ∀ j, j < tq + (p + 7) → lxA (cL Bl) (tq + (p + 7)) j = if j = tq + (p + 6) then 1 else if fr ≤ j ∧ j < tq then 4 else 2 := by
          obtain ⟨h1, h2, h3, h4⟩ := HP.out
          subst h1
          subst h2
          refine ⟨[92, 98, 101, 103, 105, 110, 123] ++ t ++ [125] ++ l ++ ([92, 101, 110, 100, 123] ++ t ++ [125, 120]), ?_, byt_app (byt_app (byt_app (byt_app (byt_lit _ rfl) (wh_byt HW.out.1)) (byt_lit _ rfl)) HW.out.2.1) (byt_app (byt_app (byt_lit _ rfl) (wh_byt HW.out.1)) (byt_lit _ rfl)), by simp [h3, h4]; omega, fun j hj => ver_yes HW.out.1 HW.out.2.1 HW.out.2.2 h3 h4 j hj⟩
          rw [nums_app, ← HN.out.2, nums_app, nums_app, HN.out.1, ← hS3, ← hE3]
          rfl
        obtain ⟨M, hM⟩ : ∃ M, tq + (p + 7) = M := ⟨_, rfl⟩
        have hS3z : S3.size = M := by rw [← hS3, ByteArray.size_append, hS2z, hE3z, hM]
        rw [hM] at HLab
        have HM : Hid (tq + (p + 7) = M) := hM
        have q7 : ¬ 9223372036854775807 < 5 + p := by have := HFq.out; omega
        have q8 : ¬ 9223372036854775807 < 5 + p + 2 := by have := HFq.out; omega
        have q9 : ¬ 9223372036854775807 < tq + (p + 7) := by have := HFq.out; omega
        have q10 : ¬ 9223372036854775807 < M := by have := HFq.out; omega
        have hM9 : M ≤ 1000 ∧ tq < M := by have := HFq.out; omega
        clear hM
        obtain ⟨Bl, hBl, hBy, hBn, hlab⟩ := HLab
        obtain ⟨V, gc, hcv, hbw, cx⟩ := str_lex (HH.out.1.stay HUW.out.1) hBy (by omega) hBl hBn
        have HUV : Hid (Up w.heap.size w V) := HUW.out.stay hbw
        obtain ⟨F, hF⟩ : ∃ F, lxA (cL Bl) M = F := ⟨_, rfl⟩
        unfold LxP at cx
        rw [hF] at cx hlab
        have HLb : Hid (∀ j, j < M → F j = if j = tq + (p + 6) then 1 else if fr ≤ j ∧ j < tq then 4 else 2) := hlab
        clear hF hlab hBl hBy hBn hbw HN
        go_wp2_with fail
        refine cx.mono ?_
        rintro e w3 ⟨T, g, rfl, hT, hg, hSh, hU3⟩
        have HU3 : Hid (Below w.heap.size w w3) := HUV.out.1.trans (hU3.1.mono HUV.out.2)
        have HSh : Hid (Sh w3 T g M F) := hSh
        clear cx hcv hT hg hSh hU3
        go_wp2
        go_loopg [74] M (fun q iv wx => ∃ j : Nat, j ≤ M ∧ q = M - j ∧ iv = .int .i64 j ∧ wx = w3)
        case atStart => exact ⟨0, Nat.zero_le _, rfl, rfl, rfl⟩
        case round =>
          obtain ⟨j, hj, hq3, rfl, hwx⟩ := hrel
          subst hwx
          by_cases hjl : j < M
          · have y1 : (j : Int) < (M : Int) := by omega
            have cA := at_any HSh.out j hjl
            have hl := HLb.out j hjl
            have hfq := HFq.out
            have hmm := HM.out
            rcases (show j < fr ∨ (fr ≤ j ∧ j < tq) ∨ (tq ≤ j ∧ j + 1 < M) ∨ (tq ≤ j ∧ j + 1 = M) by omega) with h1 | h1 | h1 | h1
            · rw [if_neg (by omega), if_neg (by omega)] at hl
              rw [hl] at cA
              have y2 : ¬ (fr : Int) ≤ (j : Int) := by omega
              have y4 : ((j : Int) == (M : Int) - 1) = false := by simp; omega
              clear hmm
              clear hl hfq
              go_wp2_with fail
              refine cA.mono ?_
              rintro e w4 ⟨rfl, hw⟩
              subst hw
              go_wp2
              go_roundg (M - (j + 1))
              case measure => omega
              case rel => exact ⟨j + 1, by omega, rfl, by go_num, rfl⟩
            · rw [if_neg (by omega), if_pos h1] at hl
              rw [hl] at cA
              have y2 : (fr : Int) ≤ (j : Int) := by omega
              have y3 : (j : Int) < (tq : Int) := by omega
              have y4 : ((j : Int) == (M : Int) - 1) = false := by simp; omega
              clear hmm
              clear hl hfq
              go_wp2_with fail
              refine cA.mono ?_
              rintro e w4 ⟨rfl, hw⟩
              subst hw
              go_wp2
              go_roundg (M - (j + 1))
              case measure => omega
              case rel => exact ⟨j + 1, by omega, rfl, by go_num, rfl⟩
            · rw [if_neg (by omega), if_neg (by omega)] at hl
              rw [hl] at cA
              have y2 : (fr : Int) ≤ (j : Int) := by omega
              have y3 : ¬ (j : Int) < (tq : Int) := by omega
              have y4 : ((j : Int) == (M : Int) - 1) = false := by simp; omega
              clear hmm
              clear hl hfq
              go_wp2_with fail
              refine cA.mono ?_
              rintro e w4 ⟨rfl, hw⟩
              subst hw
              go_wp2
              go_roundg (M - (j + 1))
              case measure => omega
              case rel => exact ⟨j + 1, by omega, rfl, by go_num, rfl⟩
            · rw [if_pos (by omega)] at hl
              rw [hl] at cA
              have y2 : (fr : Int) ≤ (j : Int) := by omega
              have y3 : ¬ (j : Int) < (tq : Int) := by omega
              have y4 : ((j : Int) == (M : Int) - 1) = true := by simp; omega
              clear hmm
              clear hl hfq
              go_wp2_with fail
              refine cA.mono ?_
              rintro e w4 ⟨rfl, hw⟩
              subst hw
              go_wp2
              go_roundg (M - (j + 1))
              case measure => omega
              case rel => exact ⟨j + 1, by omega, rfl, by go_num, rfl⟩
          · have y1 : ¬ (j : Int) < (M : Int) := by omega
            go_wp2
            go_ret
            exact ⟨rfl, HU3.out⟩
      | false =>
        have HLab : ∃ Bl, strOfNums Bl = S2 ∧ Byt Bl ∧ Bl.length = tq ∧ ∀ j, j < tq → lxA (cL Bl) tq j = if fr ≤ j then 4 else 2 := by
          obtain ⟨h1, h2, h3, h4⟩ := HP.out
          subst h1
          subst h2
          exact ⟨[92, 98, 101, 103, 105, 110, 123] ++ t ++ [125] ++ l, HN.out.2.symm, byt_app (byt_app (byt_app (byt_lit _ rfl) (wh_byt HW.out.1)) (byt_lit _ rfl)) HW.out.2.1, by simp [h3, h4]; omega, fun j hj => ver_no HW.out.1 HW.out.2.1 HW.out.2.2 h3 h4 j hj⟩
        have hM9 : tq ≤ 1000 := by have := HFq.out; omega
        obtain ⟨Bl, hBl, hBy, hBn, hlab⟩ := HLab
        obtain ⟨V, gc, hcv, hbw, cx⟩ := str_lex (HH.out.1.stay HUW.out.1) hBy (by omega) hBl hBn
        have HUV : Hid (Up w.heap.size w V) := HUW.out.stay hbw
        obtain ⟨F, hF⟩ : ∃ F, lxA (cL Bl) tq = F := ⟨_, rfl⟩
        unfold LxP at cx
        rw [hF] at cx hlab
        have HLb : Hid (∀ j, j < tq → F j = if fr ≤ j then 4 else 2) := hlab
        clear hF hlab hBl hBy hBn hbw HN
        go_wp2_with fail
        refine cx.mono ?_
        rintro e w3 ⟨T, g, rfl, hT, hg, hSh, hU3⟩
        have HU3 : Hid (Below w.heap.size w w3) := HUV.out.1.trans (hU3.1.mono HUV.out.2)
        have HSh : Hid (Sh w3 T g tq F) := hSh
        clear cx hcv hT hg hSh hU3
        go_wp2
        go_loopg [74] tq (fun q iv wx => ∃ j : Nat, j ≤ tq ∧ q = tq - j ∧ iv = .int .i64 j ∧ wx = w3)
        case atStart => exact ⟨0, Nat.zero_le _, rfl, rfl, rfl⟩
        case round =>
          obtain ⟨j, hj, hq3, rfl, hwx⟩ := hrel
          subst hwx
          by_cases hjl : j < tq
          · have y1 : (j : Int) < (tq : Int) := by omega
            have cA := at_any HSh.out j hjl
            have hl := HLb.out j hjl
            have hfq := HFq.out
            obtain ⟨be, hbe⟩ : ∃ be, ((j : Int) == (tq : Int) - 1) = be := ⟨_, rfl⟩
            by_cases h1 : fr ≤ j
            · rw [if_pos h1] at hl
              rw [hl] at cA
              have y2 : (fr : Int) ≤ (j : Int) := by omega
              clear hl hfq
              cases be with
              | true =>
                go_wp2_with fail
                refine cA.mono ?_
                rintro e w4 ⟨rfl, hw⟩
                subst hw
                go_wp2
                go_roundg (tq - (j + 1))
                case measure => omega
                case rel => exact ⟨j + 1, by omega, rfl, by go_num, rfl⟩
              | false =>
                go_wp2_with fail
                refine cA.mono ?_
                rintro e w4 ⟨rfl, hw⟩
                subst hw
                go_wp2
                go_roundg (tq - (j + 1))
                case measure => omega
                case rel => exact ⟨j + 1, by omega, rfl, by go_num, rfl⟩
            · rw [if_neg h1] at hl
              rw [hl] at cA
              have y2 : ¬ (fr : Int) ≤ (j : Int) := by omega
              clear hl hfq
              cases be with
              | true =>
                go_wp2_with fail
                refine cA.mono ?_
                rintro e w4 ⟨rfl, hw⟩
                subst hw
                go_wp2
                go_roundg (tq - (j + 1))
                case measure => omega
                case rel => exact ⟨j + 1, by omega, rfl, by go_num, rfl⟩
              | false =>
                go_wp2_with fail
                refine cA.mono ?_
                rintro e w4 ⟨rfl, hw⟩
                subst hw
                go_wp2
                go_roundg (tq - (j + 1))
                case measure => omega
                case rel => exact ⟨j + 1, by omega, rfl, by go_num, rfl⟩
          · have y1 : ¬ (j : Int) < (tq : Int) := by omega
            go_wp2
            go_ret
            exact ⟨rfl, HU3.out⟩
end Go.Proofs.YtlgfmhhhecaddaaDoor
