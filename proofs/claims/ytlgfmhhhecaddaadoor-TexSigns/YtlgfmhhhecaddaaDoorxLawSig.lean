/- TexSigns. -/
import Derived.Test.YtlgfmhhhecaddaaDoorxLwK
import Derived.Test.YtlgfmhhhecaddaaDoorxLawP
namespace Go.Proofs.YtlgfmhhhecaddaaDoor
set_option linter.unusedVariables false
open Go.RowKit Go.ChangeShapes
def sgK : List Int := [97, 98, 99, 32, 88, 89, 90, 48, 49, 57, 46, 44, 59, 58, 33, 63, 10]
theorem sgK_ok : ∀ r, r < 17 → nuB (cL sgK r) = true ∧ mkB (cL sgK r) = false ∧ 0 ≤ cL sgK r ∧ cL sgK r < 256 := by decide
theorem sgK_at (r : Nat) (hr : r < 17) (h : r < (⟨#[97, 98, 99, 32, 88, 89, 90, 48, 49, 57, 46, 44, 59, 58, 33, 63, 10]⟩ : ByteArray).size) : (((⟨#[97, 98, 99, 32, 88, 89, 90, 48, 49, 57, 46, 44, 59, 58, 33, 63, 10]⟩ : ByteArray)[r]'h).toNat : Int) = cL sgK r := by
  revert h
  revert r
  decide
/-- Prose. -/
def Pz (B : List Int) : Prop := Byt B ∧ ∀ x ∈ B, nuB x = true ∧ mkB x = false
theorem Pz.snoc {B : List Int} (h : Pz B) {x : Int} (h1 : nuB x = true ∧ mkB x = false ∧ 0 ≤ x ∧ x < 256) : Pz (B ++ [x]) := by
  refine ⟨byt_app h.1 (byt1 x h1.2.2), fun y hy => ?_⟩
  rcases List.mem_append.1 hy with h2 | h2
  · exact h.2 y h2
  · rw [List.mem_singleton] at h2; subst h2; exact ⟨h1.1, h1.2.1⟩
set_option maxRecDepth 100000 in
set_option maxHeartbeats 16000000 in
theorem signs_law {w : World} (hG : GlX w) {la na : Option Addr} {ln lcap nn ncap : Nat} {lc nc : Nat → Int} (hlC : Ch lc ln) (hl : BC w la ln lc) (hln : ln ≤ maxLen) (hnC : Ch nc nn) (hno : BC w na nn nc) :
    Calls Tryd.prog 7 #[.slice la ln lcap, .slice na nn ncap] w fun ev w' => ev = .returned (.bool true) ∧ Below w.heap.size w w' := by
  have ca := awake_any w hG
  have HH : Hid (GlX w ∧ Ch lc ln ∧ BC w la ln lc ∧ Ch nc nn ∧ BC w na nn nc) := ⟨hG, hlC, hl, hnC, hno⟩
  have hml : maxLen ≤ 9223372036854775807 := by unfold maxLen; omega
  clear hG hlC hl hnC hno
  go_enter Tryd.func7, Tryd.ntmps7
  go_wp2_with fail
  refine ca.mono ?_
  rintro e w1 ⟨rfl, hb1⟩
  have HU1 : Hid (Up w.heap.size w w1) := ⟨hb1, hb1.size⟩
  clear ca hb1
  by_cases hnn : 300 < nn
  · have z0 : (300 : Int) < (nn : Int) := by omega
    go_wp2
    go_ret
    exact ⟨rfl, HU1.out.1⟩
  have z0 : ¬ (300 : Int) < (nn : Int) := by omega
  go_wp2
  go_loopg [5, 22] ln (fun q sv iv wr => ∃ (i : Nat) (S : ByteArray), i ≤ ln ∧ q = ln - i ∧ iv = .int .i64 i ∧ sv = .string S ∧ S.size ≤ min i 100 ∧ Hid (∃ B, S = strOfNums B ∧ Pz B) ∧ Hid (Up w.heap.size w wr))
  case atStart => exact ⟨0, _, Nat.zero_le _, rfl, rfl, rfl, Nat.zero_le _, ⟨[], rfl, fun x hx => (by cases hx), fun x hx => (by cases hx)⟩, HU1⟩
  case round =>
    obtain ⟨i, S, hi, hq, rfl, rfl, hS, HB, HU⟩ := hrel
    have hu := HU.out.2
    by_cases hlt : i < ln
    · have z1 : (i : Int) < (ln : Int) := by omega
      have z2 : (0 : Int) ≤ (i : Int) := by omega
      obtain ⟨b, off, rfl, hc⟩ := HH.out.2.2.1 i hlt
      have hcw := cell_stay hc HU.out.1
      have hci := HH.out.2.1.1 i hlt
      obtain ⟨X, hX⟩ : ∃ X : Nat, lc i = (X : Int) := ⟨(lc i).toNat, by omega⟩
      rw [hX] at hcw
      clear hc hX hci
      by_cases h9 : i < 100
      · have z3 : (i : Int) < 100 := by omega
        obtain ⟨r, hr⟩ : ∃ r, X % 17 = r := ⟨_, rfl⟩
        have hr15 : r < 17 := by rw [← hr]; exact Nat.mod_lt _ (by decide)
        have hmd : Int.tmod (X : Int) 17 = (r : Int) := by rw [← hr]; exact nat_mod X 17
        have hok := sgK_ok r hr15
        have hat := sgK_at r hr15 (show r < 17 from hr15)
        obtain ⟨y, hy⟩ : ∃ y, cL sgK r = y := ⟨_, rfl⟩
        rw [hy] at hok hat
        obtain ⟨Nm, hNm⟩ : ∃ Nm, strOfNums [y] = Nm := ⟨_, rfl⟩
        have hNs : Nm.size = 1 := by rw [← hNm]; rfl
        have hcv := one_str wr y
        rw [hNm] at hcv
        obtain ⟨W, hW⟩ : ∃ W, wr.alloc (.cells #[.int .u8 y] 5) = W := ⟨_, rfl⟩
        have hbW : Below wr.heap.size wr W := by rw [← hW]; exact below_alloc wr _
        rw [hW] at hcv
        have HUW : Hid (Up w.heap.size w W) := HU.out.stay hbW
        have HBN : Hid (∃ B, S ++ Nm = strOfNums B ∧ Pz B) := by
          obtain ⟨B, e, hP⟩ := HB.out
          exact ⟨B ++ [y], by rw [nums_app, ← e, hNm], hP.snoc hok⟩
        have hsz : (S ++ Nm).size ≤ min (i + 1) 100 := by rw [ByteArray.size_append]; omega
        have q1 : ¬ 9223372036854775807 < S.size + 1 := by omega
        have z5 : (0 : Int) ≤ (r : Int) := by omega
        have z6 : (r : Int) < 17 := by omega
        clear hNm hbW hr HB hok hy
        go_wp2
        go_roundg (ln - (i + 1))
        case measure => omega
        case rel => exact ⟨i + 1, S ++ Nm, by omega, rfl, by go_num, rfl, hsz, HBN, HUW⟩
      · have z3 : ¬ (i : Int) < 100 := by omega
        go_wp2
        go_roundg (ln - (i + 1))
        case measure => omega
        case rel => exact ⟨i + 1, S, by omega, rfl, by go_num, rfl, by omega, HB, HU⟩
    · have z1 : ¬ (i : Int) < (ln : Int) := by omega
      have hS100 : S.size ≤ 100 := by omega
      clear hS hq hu hi
      go_wp2
      go_loopg [5, 41] nn (fun q sv iv wx => ∃ (k : Nat) (S2 : ByteArray), k ≤ nn ∧ q = nn - k ∧ iv = .int .i64 k ∧ sv = .string S2 ∧ ((k = 0 ∧ S2 = S) ∨ (0 < k ∧ S.size < S2.size ∧ S2.size ≤ S.size + k + 1)) ∧ Hid (∃ N, N.length = k ∧ Byt N ∧ (∀ x ∈ N, x ≠ 10) ∧ ∀ B, S = strOfNums B → 0 < k → S2 = strOfNums (B ++ ([37] ++ N))) ∧ Hid (Up w.heap.size w wx))
      case atStart => exact ⟨0, S, Nat.zero_le _, rfl, rfl, rfl, Or.inl ⟨rfl, rfl⟩, ⟨[], rfl, fun x hx => (by cases hx), fun x hx => (by cases hx), fun B _ h0 => absurd h0 (by omega)⟩, HU⟩
      case round =>
        clear HU
        obtain ⟨k, S2, hk, hq, rfl, rfl, hor, HN, HU⟩ := hrel
        by_cases hkn : k < nn
        · have z4 : (k : Int) < (nn : Int) := by omega
          have z5 : (0 : Int) ≤ (k : Int) := by omega
          obtain ⟨b, off, rfl, hc⟩ := HH.out.2.2.2.2 k hkn
          have hcw := cell_stay hc HU.out.1
          have hci := HH.out.2.2.2.1.1 k hkn
          obtain ⟨x, hx⟩ : ∃ x, nc k = x := ⟨_, rfl⟩
          rw [hx] at hcw hci
          clear hc hx
          obtain ⟨y, hy⟩ : ∃ y, (if x = 10 then 32 else x) = y := ⟨_, rfl⟩
          have hyb : (0 ≤ y ∧ y < 256) ∧ y ≠ 10 := by rw [← hy]; split <;> omega
          obtain ⟨Nm, hNm⟩ : ∃ Nm, strOfNums [y] = Nm := ⟨_, rfl⟩
          have hNs : Nm.size = 1 := by rw [← hNm]; rfl
          have hcv := one_str wr y
          rw [hNm] at hcv
          obtain ⟨W, hW⟩ : ∃ W, wr.alloc (.cells #[.int .u8 y] 5) = W := ⟨_, rfl⟩
          have hbW : Below wr.heap.size wr W := by rw [← hW]; exact below_alloc wr _
          rw [hW] at hcv
          have HUW : Hid (Up w.heap.size w W) := HU.out.stay hbW
          have HY : Hid ((if x = 10 then 32 else x) = y) := hy
          have HM : Hid (strOfNums [y] = Nm) := hNm
          clear hNm hbW hy HU
          rcases hor with ⟨rfl, rfl⟩ | ⟨hk0, hs1, hs2⟩
          · rw [Nat.add_zero] at hcw
            have q1 : ¬ 9223372036854775807 < S2.size + 1 := by omega
            have q2 : ¬ 9223372036854775807 < S2.size + 1 + 1 := by omega
            have HN2 : Hid (∃ N, N.length = 0 + 1 ∧ Byt N ∧ (∀ x ∈ N, x ≠ 10) ∧ ∀ B, S2 = strOfNums B → 0 < 0 + 1 → S2 ++ ⟨#[37]⟩ ++ Nm = strOfNums (B ++ ([37] ++ N))) := ⟨[y], rfl, byt1 y hyb.1, fun z hz => by rw [List.mem_singleton] at hz; subst hz; exact hyb.2, fun B hB _ => by rw [nums_app, nums_app, HM.out, ← hB, ByteArray.append_assoc]; rfl⟩
            have hz1 : S2.size < (S2 ++ ⟨#[37]⟩ ++ Nm).size ∧ (S2 ++ ⟨#[37]⟩ ++ Nm).size ≤ S2.size + (0 + 1) + 1 := by
              rw [ByteArray.size_append, ByteArray.size_append, hNs]
              show S2.size < S2.size + 1 + 1 ∧ S2.size + 1 + 1 ≤ _
              omega
            clear HN HB
            by_cases h10 : x = 10
            · obtain rfl : y = 32 := by rw [← HY.out, if_pos h10]
              subst h10
              clear HY
              go_wp2
              go_roundg (nn - (0 + 1))
              case measure => omega
              case rel => exact ⟨0 + 1, S2 ++ ⟨#[37]⟩ ++ Nm, by omega, rfl, by go_num, rfl, Or.inr ⟨by omega, hz1⟩, HN2, HUW⟩
            · obtain rfl : y = x := by rw [← HY.out, if_neg h10]
              have k10 : (y == 10) = false := by simpa using h10
              clear HY h10
              go_wp2
              go_roundg (nn - (0 + 1))
              case measure => omega
              case rel => exact ⟨0 + 1, S2 ++ ⟨#[37]⟩ ++ Nm, by omega, rfl, by go_num, rfl, Or.inr ⟨by omega, hz1⟩, HN2, HUW⟩
          · have q1 : ¬ 9223372036854775807 < S2.size + 1 := by omega
            have q3 : ((S2.size : Int) == (S.size : Int)) = false := by simp; omega
            have HN2 : Hid (∃ N, N.length = k + 1 ∧ Byt N ∧ (∀ x ∈ N, x ≠ 10) ∧ ∀ B, S = strOfNums B → 0 < k + 1 → S2 ++ Nm = strOfNums (B ++ ([37] ++ N))) := by
              obtain ⟨N, hN1, hN2, hN3, hN4⟩ := HN.out
              refine ⟨N ++ [y], by simp [hN1], byt_app hN2 (byt1 y hyb.1), fun z hz => ?_, fun B hB _ => ?_⟩
              · rcases List.mem_append.1 hz with h2 | h2
                · exact hN3 z h2
                · rw [List.mem_singleton] at h2; subst h2; exact hyb.2
              · rw [hN4 B hB hk0, ← HM.out, ← nums_app]
                simp
            have hz1 : S.size < (S2 ++ Nm).size ∧ (S2 ++ Nm).size ≤ S.size + (k + 1) + 1 := by
              rw [ByteArray.size_append, hNs]
              omega
            clear HN
            by_cases h10 : x = 10
            · obtain rfl : y = 32 := by rw [← HY.out, if_pos h10]
              subst h10
              clear HY
              go_wp2
              go_roundg (nn - (k + 1))
              case measure => omega
              case rel => exact ⟨k + 1, S2 ++ Nm, by omega, rfl, by go_num, rfl, Or.inr ⟨by omega, hz1⟩, HN2, HUW⟩
            · obtain rfl : y = x := by rw [← HY.out, if_neg h10]
              have k10 : (y == 10) = false := by simpa using h10
              clear HY h10
              go_wp2
              go_roundg (nn - (k + 1))
              case measure => omega
              case rel => exact ⟨k + 1, S2 ++ Nm, by omega, rfl, by go_num, rfl, Or.inr ⟨by omega, hz1⟩, HN2, HUW⟩
        · have z4 : ¬ (k : Int) < (nn : Int) := by omega
          have hs2 : S.size ≤ S2.size ∧ S2.size ≤ 402 := by
            rcases hor with ⟨_, e⟩ | h
            · rw [e]; omega
            · omega
          have HLab : ∃ Bl, strOfNums Bl = S2 ++ ⟨#[10, 120]⟩ ∧ Byt Bl ∧ Bl.length = S2.size + 2 ∧ (∀ j, j < S2.size → lxA (cL Bl) (S2.size + 2) j = if j < S.size then 1 else 3) ∧ lxA (cL Bl) (S2.size + 2) (S2.size + 1) = 1 := by
            obtain ⟨B, hB, hP⟩ := HB.out
            obtain ⟨N, hN1, hN2, hN3, hN4⟩ := HN.out
            have hsB : S.size = B.length := by rw [hB, strOfNums_size]
            rcases hor with ⟨_, e⟩ | ⟨hk0, -, -⟩
            · have hl : (B ++ [10, 120]).length = S2.size + 2 := by rw [e, hsB]; simp
              have hPz : Byt (B ++ [10, 120]) ∧ ∀ x ∈ B ++ [10, 120], nuB x = true ∧ mkB x = false := by
                refine ⟨byt_app hP.1 (byt_lit _ rfl), fun x hx => ?_⟩
                rcases List.mem_append.1 hx with h2 | h2
                · exact hP.2 x h2
                · simp at h2; rcases h2 with rfl | rfl <;> decide
              refine ⟨B ++ [10, 120], by rw [nums_app, ← hB, e]; rfl, hPz.1, hl, fun j hj => ?_, ?_⟩
              · rw [← hl, prose_lab hPz.1 hPz.2 j (by omega), if_pos (by rw [← e]; exact hj)]
              · rw [← hl]; exact prose_lab hPz.1 hPz.2 _ (by omega)
            · have hl0 : (B ++ ([37] ++ N)).length = S2.size := by rw [hN4 B hB hk0, strOfNums_size]
              refine ⟨B ++ ([37] ++ N) ++ [10, 120], by rw [nums_app, ← hN4 B hB hk0]; rfl, byt_app (byt_app hP.1 (byt_app (byt_lit _ rfl) hN2)) (byt_lit _ rfl), by rw [List.length_append, hl0]; rfl, fun j hj => ?_, ?_⟩
              · have := signs_lab hP.1 hP.2 hN2 hN3 j (by omega) (by omega)
                rw [hl0] at this
                rw [this, hsB]
                by_cases h1 : j < B.length
                · rw [if_pos h1, if_pos h1]
                · rw [if_neg h1, if_neg h1, if_pos hj]
              · have := signs_lab hP.1 hP.2 hN2 hN3 (S2.size + 1) (by omega) (by omega)
                rw [hl0] at this
                rw [this, if_neg (by omega), if_neg (by omega)]
          obtain ⟨Bl, hBl, hBy, hBn, hlab, hlast⟩ := HLab
          obtain ⟨V, gc, hcv, hbw, cx⟩ := str_lex (HH.out.1.stay HU.out.1) hBy (by omega) hBl hBn
          have HUV : Hid (Up w.heap.size w V) := HU.out.stay hbw
          obtain ⟨F, hF⟩ : ∃ F, lxA (cL Bl) (S2.size + 2) = F := ⟨_, rfl⟩
          unfold LxP at cx
          rw [hF] at cx hlab hlast
          have HLb : Hid ((∀ j, j < S2.size → F j = if j < S.size then 1 else 3) ∧ F (S2.size + 1) = 1) := ⟨hlab, hlast⟩
          have q1 : ¬ 9223372036854775807 < S2.size + 2 := by omega
          clear hF hlab hlast hBl hBy hBn hbw HB HN hor HU
          go_wp2_with fail
          refine cx.mono ?_
          rintro e w3 ⟨T, g, rfl, hT, hg, hSh, hU3⟩
          have HU3 : Hid (Below w.heap.size w w3) := HUV.out.1.trans (hU3.1.mono HUV.out.2)
          have HSh : Hid (Sh w3 T g (S2.size + 2) F) := hSh
          clear cx hcv hT hg hSh hU3
          go_wp2
          go_loopg [68] (S2.size) (fun q iv wx => ∃ j : Nat, j ≤ S2.size ∧ q = S2.size - j ∧ iv = .int .i64 j ∧ wx = w3)
          case atStart => exact ⟨0, Nat.zero_le _, rfl, rfl, rfl⟩
          case round =>
            obtain ⟨j, hj, hq3, rfl, hwx⟩ := hrel
            subst hwx
            by_cases hjl : j < S2.size
            · have y1 : (j : Int) < (S2.size : Int) := by omega
              have cA := at_any HSh.out j (by omega)
              have hl := HLb.out.1 j hjl
              by_cases hjs : j < S.size
              · rw [if_pos hjs] at hl
                rw [hl] at cA
                have y2 : ¬ (S.size : Int) ≤ (j : Int) := by omega
                clear hl
                go_wp2_with fail
                refine cA.mono ?_
                rintro e w4 ⟨rfl, hw⟩
                subst hw
                go_wp2
                go_roundg (S2.size - (j + 1))
                case measure => omega
                case rel => exact ⟨j + 1, by omega, rfl, by go_num, rfl⟩
              · rw [if_neg hjs] at hl
                rw [hl] at cA
                have y2 : (S.size : Int) ≤ (j : Int) := by omega
                clear hl
                go_wp2_with fail
                refine cA.mono ?_
                rintro e w4 ⟨rfl, hw⟩
                subst hw
                go_wp2
                go_roundg (S2.size - (j + 1))
                case measure => omega
                case rel => exact ⟨j + 1, by omega, rfl, by go_num, rfl⟩
            · have y1 : ¬ (j : Int) < (S2.size : Int) := by omega
              have cA := at_any HSh.out (S2.size + 1) (by omega)
              rw [HLb.out.2] at cA
              go_wp2_with fail
              refine cA.mono ?_
              rintro e w4 ⟨rfl, hw⟩
              subst hw
              go_wp2
              go_ret
              exact ⟨rfl, HU3.out⟩
end Go.Proofs.YtlgfmhhhecaddaaDoor
