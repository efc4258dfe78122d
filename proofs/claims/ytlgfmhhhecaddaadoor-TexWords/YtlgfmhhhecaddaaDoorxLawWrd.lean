/- TexWords. -/
import Derived.Test.YtlgfmhhhecaddaaDoorxLwK
import Derived.Test.YtlgfmhhhecaddaaDoorxLawP
namespace Go.Proofs.YtlgfmhhhecaddaaDoor
set_option linter.unusedVariables false
open Go.RowKit Go.ChangeShapes
def wdK : List Int := [97, 98, 99, 88, 89, 90, 101, 109, 112, 104]
theorem wdK_ok : ∀ r, r < 10 → ltB (cL wdK r) = true ∧ 0 ≤ cL wdK r ∧ cL wdK r < 256 := by decide
theorem wdK_at (r : Nat) (hr : r < 10) (h : r < (⟨#[97, 98, 99, 88, 89, 90, 101, 109, 112, 104]⟩ : ByteArray).size) : (((⟨#[97, 98, 99, 88, 89, 90, 101, 109, 112, 104]⟩ : ByteArray)[r]'h).toNat : Int) = cL wdK r := by
  revert h
  revert r
  decide
def wtK : List Int := [97, 98, 32, 99, 44, 46, 49]
theorem wtK_ok : ∀ r, r < 7 → nuB (cL wtK r) = true ∧ mkB (cL wtK r) = false ∧ 0 ≤ cL wtK r ∧ cL wtK r < 256 := by decide
theorem wtK_at (r : Nat) (hr : r < 7) (h : r < (⟨#[97, 98, 32, 99, 44, 46, 49]⟩ : ByteArray).size) : (((⟨#[97, 98, 32, 99, 44, 46, 49]⟩ : ByteArray)[r]'h).toNat : Int) = cL wtK r := by
  revert h
  revert r
  decide
/-- Prose; letters. -/
def Pw (B : List Int) : Prop := Byt B ∧ ∀ x ∈ B, nuB x = true ∧ mkB x = false
theorem Pw.snoc {B : List Int} (h : Pw B) {x : Int} (h1 : nuB x = true ∧ mkB x = false ∧ 0 ≤ x ∧ x < 256) : Pw (B ++ [x]) := by
  refine ⟨byt_app h.1 (byt1 x h1.2.2), fun y hy => ?_⟩
  rcases List.mem_append.1 hy with h2 | h2
  · exact h.2 y h2
  · rw [List.mem_singleton] at h2; subst h2; exact ⟨h1.1, h1.2.1⟩
def Lw (B : List Int) : Prop := Byt B ∧ ∀ x ∈ B, ltB x = true
theorem Lw.snoc {B : List Int} (h : Lw B) {x : Int} (h1 : ltB x = true ∧ 0 ≤ x ∧ x < 256) : Lw (B ++ [x]) := by
  refine ⟨byt_app h.1 (byt1 x h1.2), fun y hy => ?_⟩
  rcases List.mem_append.1 hy with h2 | h2
  · exact h.2 y h2
  · rw [List.mem_singleton] at h2; subst h2; exact h1.1
set_option maxRecDepth 100000 in
set_option maxHeartbeats 16000000 in
theorem words_law {w : World} (hG : GlX w) {la na : Option Addr} {ln lcap nn ncap : Nat} {lc nc : Nat → Int} (hlC : Ch lc ln) (hl : BC w la ln lc) (hln : ln ≤ maxLen) (hnC : Ch nc nn) (hno : BC w na nn nc) (hnn : nn ≤ maxLen) :
    Calls Tryd.prog 8 #[.slice la ln lcap, .slice na nn ncap] w fun ev w' => ev = .returned (.bool true) ∧ Below w.heap.size w w' := by
  have ca := awake_any w hG
  have HH : Hid (GlX w ∧ Ch lc ln ∧ BC w la ln lc ∧ Ch nc nn ∧ BC w na nn nc) := ⟨hG, hlC, hl, hnC, hno⟩
  have hml : maxLen ≤ 9223372036854775807 := by unfold maxLen; omega
  clear hG hlC hl hnC hno
  go_enter Tryd.func8, Tryd.ntmps8
  go_wp2_with fail
  refine ca.mono ?_
  rintro e w1 ⟨rfl, hb1⟩
  have HU1 : Hid (Up w.heap.size w w1) := ⟨hb1, hb1.size⟩
  clear ca hb1
  go_wp2
  go_loopg [5, 20] ln (fun q sv iv wr => ∃ (i : Nat) (S : ByteArray), i ≤ ln ∧ q = ln - i ∧ iv = .int .i64 i ∧ sv = .string S ∧ S.size ≤ min i 12 + 1 ∧ Hid (∃ B, S = strOfNums ([120] ++ B) ∧ Lw B) ∧ Hid (Up w.heap.size w wr))
  case atStart => exact ⟨0, _, Nat.zero_le _, rfl, rfl, rfl, by decide, ⟨[], rfl, fun x hx => (by cases hx), fun x hx => (by cases hx)⟩, HU1⟩
  case round =>
    obtain ⟨ia, S, hi, hq, rfl, rfl, hSa, HBa, HU⟩ := hrel
    have hu := HU.out.2
    by_cases hlt : ia < ln
    · have z1 : (ia : Int) < (ln : Int) := by omega
      have z2 : (0 : Int) ≤ (ia : Int) := by omega
      obtain ⟨b, off, rfl, hc⟩ := HH.out.2.2.1 ia hlt
      have hcw := cell_stay hc HU.out.1
      have hci := HH.out.2.1.1 ia hlt
      obtain ⟨X, hX⟩ : ∃ X : Nat, lc ia = (X : Int) := ⟨(lc ia).toNat, by omega⟩
      rw [hX] at hcw
      clear hc hX hci
      by_cases h9 : ia < 12
      · have z3 : (ia : Int) < 12 := by omega
        obtain ⟨r, hr⟩ : ∃ r, X % 10 = r := ⟨_, rfl⟩
        have hr15 : r < 10 := by rw [← hr]; exact Nat.mod_lt _ (by decide)
        have hmd : Int.tmod (X : Int) 10 = (r : Int) := by rw [← hr]; exact nat_mod X 10
        have hok := wdK_ok r hr15
        have hat := wdK_at r hr15 (show r < 10 from hr15)
        obtain ⟨y, hy⟩ : ∃ y, cL wdK r = y := ⟨_, rfl⟩
        rw [hy] at hok hat
        obtain ⟨Nm, hNm⟩ : ∃ Nm, strOfNums [y] = Nm := ⟨_, rfl⟩
        have hNs : Nm.size = 1 := by rw [← hNm]; rfl
        have hcv := one_str wr y
        rw [hNm] at hcv
        obtain ⟨W, hW⟩ : ∃ W, wr.alloc (.cells #[.int .u8 y] 5) = W := ⟨_, rfl⟩
        have hbW : Below wr.heap.size wr W := by rw [← hW]; exact below_alloc wr _
        rw [hW] at hcv
        have HUW : Hid (Up w.heap.size w W) := HU.out.stay hbW
        have HBN : Hid (∃ B, S ++ Nm = strOfNums ([120] ++ B) ∧ Lw B) := by
          obtain ⟨B, e, hP⟩ := HBa.out
          exact ⟨B ++ [y], by rw [← List.append_assoc, nums_app, ← e, hNm], hP.snoc hok⟩
        have hsz : (S ++ Nm).size ≤ min (ia + 1) 12 + 1 := by rw [ByteArray.size_append]; omega
        have q1 : ¬ 9223372036854775807 < S.size + 1 := by omega
        have z5 : (0 : Int) ≤ (r : Int) := by omega
        have z6 : (r : Int) < 10 := by omega
        clear hNm hbW hr HBa hok hy
        go_wp2
        go_roundg (ln - (ia + 1))
        case measure => omega
        case rel => exact ⟨ia + 1, S ++ Nm, by omega, rfl, by go_num, rfl, hsz, HBN, HUW⟩
      · have z3 : ¬ (ia : Int) < 12 := by omega
        go_wp2
        go_roundg (ln - (ia + 1))
        case measure => omega
        case rel => exact ⟨ia + 1, S, by omega, rfl, by go_num, rfl, by omega, HBa, HU⟩
    · have z1 : ¬ (ia : Int) < (ln : Int) := by omega
      have hBa9 : S.size ≤ 12 + 1 := by omega
      clear hSa hq hu hi
      go_wp2
      go_loopg [8, 37] nn (fun q sv iv wr => ∃ (i : Nat) (S : ByteArray), i ≤ nn ∧ q = nn - i ∧ iv = .int .i64 i ∧ sv = .string S ∧ S.size ≤ min i 20 + 0 ∧ Hid (∃ B, S = strOfNums (B) ∧ Pw B) ∧ Hid (Up w.heap.size w wr))
      case atStart => exact ⟨0, _, Nat.zero_le _, rfl, rfl, rfl, by decide, ⟨[], rfl, fun x hx => (by cases hx), fun x hx => (by cases hx)⟩, HU⟩
      case round =>
        obtain ⟨ib, U, hi, hq, rfl, rfl, hSb, HBb, HU⟩ := hrel
        have hu := HU.out.2
        by_cases hlt : ib < nn
        · have z1 : (ib : Int) < (nn : Int) := by omega
          have z2 : (0 : Int) ≤ (ib : Int) := by omega
          obtain ⟨b, off, rfl, hc⟩ := HH.out.2.2.2.2 ib hlt
          have hcw := cell_stay hc HU.out.1
          have hci := HH.out.2.2.2.1.1 ib hlt
          obtain ⟨X, hX⟩ : ∃ X : Nat, nc ib = (X : Int) := ⟨(nc ib).toNat, by omega⟩
          rw [hX] at hcw
          clear hc hX hci
          by_cases h9 : ib < 20
          · have z3 : (ib : Int) < 20 := by omega
            obtain ⟨r, hr⟩ : ∃ r, X % 7 = r := ⟨_, rfl⟩
            have hr15 : r < 7 := by rw [← hr]; exact Nat.mod_lt _ (by decide)
            have hmd : Int.tmod (X : Int) 7 = (r : Int) := by rw [← hr]; exact nat_mod X 7
            have hok := wtK_ok r hr15
            have hat := wtK_at r hr15 (show r < 7 from hr15)
            obtain ⟨y, hy⟩ : ∃ y, cL wtK r = y := ⟨_, rfl⟩
            rw [hy] at hok hat
            obtain ⟨Nm, hNm⟩ : ∃ Nm, strOfNums [y] = Nm := ⟨_, rfl⟩
            have hNs : Nm.size = 1 := by rw [← hNm]; rfl
            have hcv := one_str wr y
            rw [hNm] at hcv
            obtain ⟨W, hW⟩ : ∃ W, wr.alloc (.cells #[.int .u8 y] 5) = W := ⟨_, rfl⟩
            have hbW : Below wr.heap.size wr W := by rw [← hW]; exact below_alloc wr _
            rw [hW] at hcv
            have HUW : Hid (Up w.heap.size w W) := HU.out.stay hbW
            have HBN : Hid (∃ B, U ++ Nm = strOfNums (B) ∧ Pw B) := by
              obtain ⟨B, e, hP⟩ := HBb.out
              exact ⟨B ++ [y], by rw [nums_app, ← e, hNm], hP.snoc hok⟩
            have hsz : (U ++ Nm).size ≤ min (ib + 1) 20 + 0 := by rw [ByteArray.size_append]; omega
            have q1 : ¬ 9223372036854775807 < U.size + 1 := by omega
            have z5 : (0 : Int) ≤ (r : Int) := by omega
            have z6 : (r : Int) < 7 := by omega
            clear hNm hbW hr HBb hok hy
            go_wp2
            go_roundg (nn - (ib + 1))
            case measure => omega
            case rel => exact ⟨ib + 1, U ++ Nm, by omega, rfl, by go_num, rfl, hsz, HBN, HUW⟩
          · have z3 : ¬ (ib : Int) < 20 := by omega
            go_wp2
            go_roundg (nn - (ib + 1))
            case measure => omega
            case rel => exact ⟨ib + 1, U, by omega, rfl, by go_num, rfl, by omega, HBb, HU⟩
        · have z1 : ¬ (ib : Int) < (nn : Int) := by omega
          have hBb9 : U.size ≤ 20 + 0 := by omega
          clear hSb hq hu hi
          obtain ⟨Z, hZ⟩ : ∃ Z, (⟨#[92]⟩ ++ S ++ ⟨#[123]⟩ ++ U ++ ⟨#[125]⟩ : ByteArray) = Z := ⟨_, rfl⟩
          have HLab : ∃ Bl, strOfNums Bl = Z ∧ Byt Bl ∧ Bl.length = 1 + S.size + 1 + U.size + 1 ∧ ∀ j, j < 1 + S.size + 1 + U.size + 1 → lxA (cL Bl) (1 + S.size + 1 + U.size + 1) j = if S.size + 2 ≤ j ∧ j < 1 + S.size + 1 + U.size then 1 else 2 := by
            obtain ⟨B, hB, hP⟩ := HBa.out
            obtain ⟨C, hC, hR⟩ := HBb.out
            have hsB : S.size = B.length + 1 := by rw [hB, strOfNums_size]; simp
            have hsC : U.size = C.length := by rw [hC, strOfNums_size]
            refine ⟨[92] ++ ([120] ++ B) ++ [123] ++ C ++ [125], ?_, byt_app (byt_app (byt_app (byt_app (byt_lit _ rfl) (byt_app (byt_lit _ rfl) hP.1)) (byt_lit _ rfl)) hR.1) (byt_lit _ rfl), ?_, fun j hj => ?_⟩
            · rw [← hZ, nums_app, nums_app, nums_app, nums_app, ← hB, ← hC]; rfl
            · rw [hsB, hsC]; simp; omega
            · rw [hsB, hsC] at hj ⊢
              exact words_lab hP.2 hP.1 hR.2 hR.1 j hj
          obtain ⟨Bl, hBl, hBy, hBn, hlab⟩ := HLab
          have hZs : Z.size = 1 + S.size + 1 + U.size + 1 := by rw [← hBl, strOfNums_size, hBn]
          obtain ⟨M, hM⟩ : ∃ M, 1 + S.size + 1 + U.size + 1 = M := ⟨_, rfl⟩
          rw [hM] at hBn hlab hZs
          have HM : Hid (1 + S.size + 1 + U.size + 1 = M) := hM
          have hM2 : S.size + 3 ≤ M ∧ M ≤ 100 := by omega
          obtain ⟨V, gc, hcv, hbw, cx⟩ := str_lex (HH.out.1.stay HU.out.1) hBy (by omega) hBl hBn
          have HUV : Hid (Up w.heap.size w V) := HU.out.stay hbw
          obtain ⟨F, hF⟩ : ∃ F, lxA (cL Bl) M = F := ⟨_, rfl⟩
          unfold LxP at cx
          rw [hF] at cx hlab
          have HLb : Hid (∀ j, j < M → F j = if S.size + 2 ≤ j ∧ j < 1 + S.size + 1 + U.size then 1 else 2) := hlab
          have q1 : ¬ 9223372036854775807 < 1 + S.size := by omega
          have q2 : ¬ 9223372036854775807 < 1 + S.size + 1 := by omega
          have q3 : ¬ 9223372036854775807 < 1 + S.size + 1 + U.size := by omega
          have q4 : ¬ 9223372036854775807 < 1 + S.size + 1 + U.size + 1 := by omega
          clear hF hlab hBl hBy hBn hbw HBa HBb HU hM
          go_wp2_with fail
          refine cx.mono ?_
          rintro e w3 ⟨T, g, rfl, hT, hg, hSh, hU3⟩
          have HU3 : Hid (Below w.heap.size w w3) := HUV.out.1.trans (hU3.1.mono HUV.out.2)
          have HSh : Hid (Sh w3 T g M F) := hSh
          clear cx hcv hT hg hSh hU3
          go_wp2
          go_loopg [66] M (fun q iv wx => ∃ j : Nat, j ≤ M ∧ q = M - j ∧ iv = .int .i64 j ∧ wx = w3)
          case atStart => exact ⟨0, Nat.zero_le _, rfl, rfl, rfl⟩
          case round =>
            obtain ⟨j, hj, hq3, rfl, hwx⟩ := hrel
            subst hwx
            by_cases hjl : j < M
            · have y1 : (j : Int) < (M : Int) := by omega
              have cA := at_any HSh.out j hjl
              have hl := HLb.out j hjl
              by_cases hjs : S.size + 2 ≤ j ∧ j < 1 + S.size + 1 + U.size
              · rw [if_pos hjs] at hl
                rw [hl] at cA
                have y2 : (S.size : Int) + 2 ≤ (j : Int) := by omega
                have y3 : (j : Int) < (M : Int) - 1 := by have := HM.out; omega
                clear hl
                go_wp2_with fail
                refine cA.mono ?_
                rintro e w4 ⟨rfl, hw⟩
                subst hw
                go_wp2
                go_roundg (M - (j + 1))
                case measure => omega
                case rel => exact ⟨j + 1, by omega, rfl, by go_num, rfl⟩
              · rw [if_neg hjs] at hl
                rw [hl] at cA
                clear hl
                by_cases hja : S.size + 2 ≤ j
                · have y2 : (S.size : Int) + 2 ≤ (j : Int) := by omega
                  have y3 : ¬ (j : Int) < (M : Int) - 1 := by have := HM.out; omega
                  go_wp2_with fail
                  refine cA.mono ?_
                  rintro e w4 ⟨rfl, hw⟩
                  subst hw
                  go_wp2
                  go_roundg (M - (j + 1))
                  case measure => omega
                  case rel => exact ⟨j + 1, by omega, rfl, by go_num, rfl⟩
                · have y2 : ¬ (S.size : Int) + 2 ≤ (j : Int) := by omega
                  go_wp2_with fail
                  refine cA.mono ?_
                  rintro e w4 ⟨rfl, hw⟩
                  subst hw
                  go_wp2
                  go_roundg (M - (j + 1))
                  case measure => omega
                  case rel => exact ⟨j + 1, by omega, rfl, by go_num, rfl⟩
            · have y1 : ¬ (j : Int) < (M : Int) := by omega
              go_wp2
              go_ret
              exact ⟨rfl, HU3.out⟩
end Go.Proofs.YtlgfmhhhecaddaaDoor
