/- MarkSpans. -/
import Derived.Test.YtodjfeheagnnpaaDoormStb
import Derived.Test.YtodjfeheagnnpaaDoormSpnP
import Derived.Test.YtodjfeheagnnpaaDoormApp
namespace Go.Proofs.YtodjfeheagnnpaaDoor
set_option linter.unusedVariables false
open Go.RowKit Go.ChangeShapes
theorem one_str (w : World) (x : Int) (hx : 0 ≤ x ∧ x < 256) : (convert 22 9 (.slice (some ⟨w.heap.size, 0, none⟩) 1 1)).run Tryd.prog (w.alloc (.cells #[.int .u8 x] 5)) = .ok (.string (strOfNums [x])) (w.alloc (.cells #[.int .u8 x] 5)) := by
  have := str_bc (cap := 1) (one_bc w x)
  rw [cl_one] at this
  exact this
theorem tickf_any (n : Nat) (hn : n ≤ 10) (w : World) :
    Calls Tryd.prog 18 #[.int .i64 n] w fun ev w' => ev = .returned (.string (strOfNums (tkR n))) ∧ Below w.heap.size w w' := by
  obtain ⟨Z, hZ⟩ : ∃ Z, strOfNums (tkR n) = Z := ⟨_, rfl⟩
  have HZ : Hid (strOfNums (tkR n) = Z) := hZ
  rw [hZ]
  clear hZ
  go_enter Tryd.func18, Tryd.ntmps18
  go_wp2
  go_loopg [3, 5] n (fun q bv iv wr => ∃ (i : Nat) (bd : Option Addr) (bc : Nat), i ≤ n ∧ q = n - i ∧ iv = .int .i64 i ∧ bv = .slice bd i bc ∧ Hid (OB wr w.heap.size (.slice bd i bc) (tkR i)) ∧ Hid (Up w.heap.size w wr))
  case atStart => exact ⟨0, none, 0, Nat.zero_le _, rfl, rfl, rfl, OB.nil _ _, Up.refl w⟩
  case round =>
    obtain ⟨i, bd, bc, hi, hq, rfl, rfl, HO, HU⟩ := hrel
    have hu := HU.out.2
    by_cases hlt : i < n
    · have z1 : (i : Int) < (n : Int) := by omega
      go_wp2_with (at_builtin; refine app_ob rfl _ _ rfl w.heap.size _ (tkR i) rfl (HO.out.stay (below_alloc wr _)) (some ⟨wr.heap.size, 0, none⟩) 1 1 (cL [96]) rfl (one_bc wr 96) (by rw [tkR_len]; omega) (by simp; omega) ?_)
      intro v1 w1 ho1 hg1
      rw [cl_one, show tkR i ++ [(96 : Int)] = tkR (i + 1) from (List.replicate_succ' ..).symm] at ho1
      obtain ⟨bd1, bc1, rfl, -⟩ := ho1.form
      rw [tkR_len] at ho1 ⊢
      have HO1 : Hid (OB w1 w.heap.size (.slice bd1 (i + 1) bc1) (tkR (i + 1))) := ho1
      have HU1 : Hid (Up w.heap.size w w1) := (HU.out.alloc _).grown hg1 (own_base HO.out)
      clear ho1 hg1
      go_wp2
      go_roundg (n - (i + 1))
      case measure => omega
      case rel => exact ⟨i + 1, bd1, bc1, by omega, rfl, by go_num, rfl, HO1, HU1⟩
    · obtain rfl : i = n := by omega
      have z1 : ¬ (i : Int) < (i : Int) := by omega
      have hbc : BC wr bd i (cL (tkR i)) := by
        have h2 : OB wr w.heap.size (.slice bd (tkR i).length bc) (tkR i) := by rw [tkR_len]; exact HO.out
        have := h2.bc
        rw [tkR_len] at this
        exact this
      have hst := str_bc (cap := bc) hbc
      rw [show cl (cL (tkR i)) i = tkR i by have := cl_cL (tkR i); rwa [tkR_len] at this, HZ.out] at hst
      clear hbc
      go_wp2
      go_ret
      exact ⟨rfl, HU.out.1⟩
set_option maxRecDepth 100000 in
set_option maxHeartbeats 2000000 in
theorem mspans_law {w : World} (hG : GlM w) {nv mv : Int} (hnv : 0 ≤ nv ∧ nv < 256) (hmv : 0 ≤ mv ∧ mv < 256) {la : Option Addr} {ln lcap : Nat} {lc : Nat → Int} (hlC : Ch lc ln) (hl : BC w la ln lc) (hln : ln ≤ maxLen) (op : Bool) :
    Calls Tryd.prog 5 #[.int .u8 nv, .int .u8 mv, .slice la ln lcap, .bool op] w fun ev w' => ev = .returned (.bool true) ∧ Below w.heap.size w w' := by
  have ca := mawake_any w hG
  have HH : Hid (GlM w ∧ Ch lc ln ∧ BC w la ln lc) := ⟨hG, hlC, hl⟩
  have hml : maxLen ≤ 9223372036854775807 := by unfold maxLen; omega
  obtain ⟨N, rfl⟩ : ∃ N : Nat, nv = (N : Int) := ⟨nv.toNat, by omega⟩
  obtain ⟨M, rfl⟩ : ∃ M : Nat, mv = (M : Int) := ⟨mv.toNat, by omega⟩
  obtain ⟨rx, hrx⟩ : ∃ r, N % 4 = r := ⟨_, rfl⟩
  obtain ⟨ry, hry⟩ : ∃ r, M % 4 = r := ⟨_, rfl⟩
  have hx4 : rx < 4 := by rw [← hrx]; exact Nat.mod_lt _ (by decide)
  have hy4 : ry < 4 := by rw [← hry]; exact Nat.mod_lt _ (by decide)
  have hmx : Int.tmod (N : Int) 4 = (rx : Int) := by rw [← hrx]; exact nat_mod N 4
  have hmy : Int.tmod (M : Int) 4 = (ry : Int) := by rw [← hry]; exact nat_mod M 4
  obtain ⟨x, hx⟩ : ∃ x : Nat, 1 + rx = x := ⟨_, rfl⟩
  obtain ⟨y, hy⟩ : ∃ y : Nat, 1 + ry = y := ⟨_, rfl⟩
  have hxi : (1 : Int) + (rx : Int) = (x : Int) := by omega
  have hyi : (1 : Int) + (ry : Int) = (y : Int) := by omega
  have hx5 : x ≤ 4 ∧ 0 < x := by omega
  have hy5 : y ≤ 4 ∧ 0 < y := by omega
  clear hG hlC hl hrx hry hx hy hnv hmv
  go_enter Tryd.func5, Tryd.ntmps5
  go_wp2_with fail
  refine ca.mono ?_
  rintro e w1 ⟨rfl, hb1⟩
  have HU1 : Hid (Up w.heap.size w w1) := ⟨hb1, hb1.size⟩
  clear ca hb1
  go_wp2
  go_loopg [12, 32] ln (fun q sv iv wr => ∃ (i : Nat) (S : ByteArray), i ≤ ln ∧ q = ln - i ∧ iv = .int .i64 i ∧ sv = .string S ∧ S.size ≤ 1 + min i 12 ∧ Hid (∃ I, S = strOfNums I ∧ (∀ a ∈ I, inB a = true) ∧ 0 < I.length) ∧ Hid (Up w.heap.size w wr))
  case atStart => exact ⟨0, _, Nat.zero_le _, rfl, rfl, rfl, by decide, ⟨[97], rfl, by decide, by decide⟩, HU1⟩
  case round =>
    obtain ⟨i, S, hi, hq, rfl, rfl, hS, HB, HU⟩ := hrel
    have hu := HU.out.2
    by_cases hlt : i < ln
    · have z1 : (i : Int) < (ln : Int) := by omega
      have z2 : (0 : Int) ≤ (i : Int) := by omega
      obtain ⟨b, off, rfl, hc⟩ := HH.out.2.2 i hlt
      have hcw := cell_stay hc HU.out.1
      have hci := HH.out.2.1.1 i hlt
      obtain ⟨X, hX⟩ : ∃ X : Nat, lc i = (X : Int) := ⟨(lc i).toNat, by omega⟩
      rw [hX] at hcw
      clear hc hX hci
      by_cases h9 : i < 12
      · have z3 : (i : Int) < 12 := by omega
        obtain ⟨r, hr⟩ : ∃ r, X % 4 = r := ⟨_, rfl⟩
        have hr15 : r < 4 := by rw [← hr]; exact Nat.mod_lt _ (by decide)
        have hmd : Int.tmod (X : Int) 4 = (r : Int) := by rw [← hr]; exact nat_mod X 4
        clear hr
        rcases (show r = 0 ∨ r = 1 ∨ r = 2 ∨ r = 3 by omega) with rfl | rfl | rfl | rfl
        · have HI : Hid (∃ I, S ++ ⟨#[98]⟩ = strOfNums I ∧ (∀ a ∈ I, inB a = true) ∧ 0 < I.length) := by
            obtain ⟨I, e, h1, h2⟩ := HB.out
            exact ⟨I ++ [98], by rw [nums_app, ← e]; rfl, fun a ha => by
              rcases List.mem_append.1 ha with h | h
              · exact h1 a h
              · rw [List.mem_singleton] at h; subst h; rfl, by rw [List.length_append]; omega⟩
          have hsz : (S ++ ⟨#[98]⟩).size ≤ 1 + min (i + 1) 12 := by rw [ByteArray.size_append, show (⟨#[98]⟩ : ByteArray).size = 1 from rfl]; omega
          have q1 : ¬ 9223372036854775807 < S.size + 1 := by omega
          have hst := one_str wr 98 (by decide)
          change _ = Result.ok (Value.string ⟨#[98]⟩) _ at hst
          have HU2 : Hid (Up w.heap.size w (wr.alloc (.cells #[.int .u8 98] 5))) := HU.out.alloc _
          have hk : ((⟨#[98, 99, 32, 100]⟩ : ByteArray)[0]'(by decide)).toNat = 98 := rfl
          go_wp2
          go_roundg (ln - (i + 1))
          case measure => omega
          case rel => exact ⟨i + 1, S ++ ⟨#[98]⟩, by omega, rfl, by go_num, rfl, hsz, HI, HU2⟩
        · have HI : Hid (∃ I, S ++ ⟨#[99]⟩ = strOfNums I ∧ (∀ a ∈ I, inB a = true) ∧ 0 < I.length) := by
            obtain ⟨I, e, h1, h2⟩ := HB.out
            exact ⟨I ++ [99], by rw [nums_app, ← e]; rfl, fun a ha => by
              rcases List.mem_append.1 ha with h | h
              · exact h1 a h
              · rw [List.mem_singleton] at h; subst h; rfl, by rw [List.length_append]; omega⟩
          have hsz : (S ++ ⟨#[99]⟩).size ≤ 1 + min (i + 1) 12 := by rw [ByteArray.size_append, show (⟨#[99]⟩ : ByteArray).size = 1 from rfl]; omega
          have q1 : ¬ 9223372036854775807 < S.size + 1 := by omega
          have hst := one_str wr 99 (by decide)
          change _ = Result.ok (Value.string ⟨#[99]⟩) _ at hst
          have HU2 : Hid (Up w.heap.size w (wr.alloc (.cells #[.int .u8 99] 5))) := HU.out.alloc _
          have hk : ((⟨#[98, 99, 32, 100]⟩ : ByteArray)[1]'(by decide)).toNat = 99 := rfl
          go_wp2
          go_roundg (ln - (i + 1))
          case measure => omega
          case rel => exact ⟨i + 1, S ++ ⟨#[99]⟩, by omega, rfl, by go_num, rfl, hsz, HI, HU2⟩
        · have HI : Hid (∃ I, S ++ ⟨#[32]⟩ = strOfNums I ∧ (∀ a ∈ I, inB a = true) ∧ 0 < I.length) := by
            obtain ⟨I, e, h1, h2⟩ := HB.out
            exact ⟨I ++ [32], by rw [nums_app, ← e]; rfl, fun a ha => by
              rcases List.mem_append.1 ha with h | h
              · exact h1 a h
              · rw [List.mem_singleton] at h; subst h; rfl, by rw [List.length_append]; omega⟩
          have hsz : (S ++ ⟨#[32]⟩).size ≤ 1 + min (i + 1) 12 := by rw [ByteArray.size_append, show (⟨#[32]⟩ : ByteArray).size = 1 from rfl]; omega
          have q1 : ¬ 9223372036854775807 < S.size + 1 := by omega
          have hst := one_str wr 32 (by decide)
          change _ = Result.ok (Value.string ⟨#[32]⟩) _ at hst
          have HU2 : Hid (Up w.heap.size w (wr.alloc (.cells #[.int .u8 32] 5))) := HU.out.alloc _
          have hk : ((⟨#[98, 99, 32, 100]⟩ : ByteArray)[2]'(by decide)).toNat = 32 := rfl
          go_wp2
          go_roundg (ln - (i + 1))
          case measure => omega
          case rel => exact ⟨i + 1, S ++ ⟨#[32]⟩, by omega, rfl, by go_num, rfl, hsz, HI, HU2⟩
        · have HI : Hid (∃ I, S ++ ⟨#[100]⟩ = strOfNums I ∧ (∀ a ∈ I, inB a = true) ∧ 0 < I.length) := by
            obtain ⟨I, e, h1, h2⟩ := HB.out
            exact ⟨I ++ [100], by rw [nums_app, ← e]; rfl, fun a ha => by
              rcases List.mem_append.1 ha with h | h
              · exact h1 a h
              · rw [List.mem_singleton] at h; subst h; rfl, by rw [List.length_append]; omega⟩
          have hsz : (S ++ ⟨#[100]⟩).size ≤ 1 + min (i + 1) 12 := by rw [ByteArray.size_append, show (⟨#[100]⟩ : ByteArray).size = 1 from rfl]; omega
          have q1 : ¬ 9223372036854775807 < S.size + 1 := by omega
          have hst := one_str wr 100 (by decide)
          change _ = Result.ok (Value.string ⟨#[100]⟩) _ at hst
          have HU2 : Hid (Up w.heap.size w (wr.alloc (.cells #[.int .u8 100] 5))) := HU.out.alloc _
          have hk : ((⟨#[98, 99, 32, 100]⟩ : ByteArray)[3]'(by decide)).toNat = 100 := rfl
          go_wp2
          go_roundg (ln - (i + 1))
          case measure => omega
          case rel => exact ⟨i + 1, S ++ ⟨#[100]⟩, by omega, rfl, by go_num, rfl, hsz, HI, HU2⟩
      · have z3 : ¬ (i : Int) < 12 := by omega
        go_wp2
        go_roundg (ln - (i + 1))
        case measure => omega
        case rel => exact ⟨i + 1, S, by omega, rfl, by go_num, rfl, by omega, HB, HU⟩
    · obtain rfl : i = ln := by omega
      have z1 : ¬ (i : Int) < (i : Int) := by omega
      obtain ⟨I, hSI, hI2, hI0⟩ := HB.out
      have hIs : S.size = I.length := by rw [hSI, strOfNums_size]
      have hI13 : I.length ≤ 13 := by omega
      obtain ⟨Xs, hXs⟩ : ∃ Xs, strOfNums (tkR x) = Xs := ⟨_, rfl⟩
      obtain ⟨Ys, hYs⟩ : ∃ Ys, strOfNums (tkR y) = Ys := ⟨_, rfl⟩
      have hXn : Xs.size ≤ 4 := by rw [← hXs, strOfNums_size, tkR_len]; omega
      have hYn : Ys.size ≤ 4 := by rw [← hYs, strOfNums_size, tkR_len]; omega
      have hS13 : S.size ≤ 13 := by omega
      have HX : Hid (strOfNums (tkR x) = Xs) := hXs
      have HY : Hid (strOfNums (tkR y) = Ys) := hYs
      have HSI : Hid (S = strOfNums I) := hSI
      clear HB hIs hXs hYs hSI
      by_cases hxy : y = x
      · have k1 : ((y : Int) != (x : Int)) = false := by rw [hxy]; simp
        cases op with
        | true =>
          have q3 : ¬ 9223372036854775807 < 2 + Xs.size := by omega
          have q4 : ¬ 9223372036854775807 < 2 + Xs.size + S.size := by omega
          have c0 := tickf_any x (by omega) wr
          have HU2 : Hid (Up w.heap.size w wr) := HU
          rw [HX.out] at c0
          go_wp2_with fail
          refine c0.mono ?_
          rintro e wx ⟨rfl, hbx⟩
          have HU3 : Hid (Up w.heap.size w wx) := HU2.out.stay hbx
          clear c0 hbx HU2
          have HU4 : Hid (Up w.heap.size w wx) := HU3
          obtain ⟨F, hF⟩ : ∃ F : ByteArray, ⟨#[122, 32]⟩ ++ Xs ++ S = F := ⟨_, rfl⟩
          have hFs : F = strOfNums ([122, 32] ++ (tkR x ++ (I ++ (tkR 0 ++ ([] ++ []))))) := by
            have hTe : ([122, 32] ++ (tkR x ++ (I ++ (tkR 0 ++ ([] ++ []))))) = [122, 32] ++ (tkR x ++ I) := by simp [tkR]
            rw [hTe, ← hF, ← HX.out, HSI.out]
            simp only [nums_app, ByteArray.append_assoc]
            rfl
          have hlen : ([122, 32] ++ (tkR x ++ (I ++ (tkR 0 ++ ([] ++ []))))).length = 2 + x + I.length + 0 + 0 := by
            simp only [List.length_append, tkR_len, List.length_cons, List.length_nil]
            omega
          have hsp := spn_of (x := x) (y := 0) (I := I) (E := []) (Z := []) (by omega) hI2 (by omega) (by omega) (fun h => by first | exact Nat.one_pos | omega) (fun a ha => by first | (rw [List.mem_singleton] at ha; exact ha) | cases ha) (fun a ha => by
            cases ha)
          have hby : Byt ([122, 32] ++ (tkR x ++ (I ++ (tkR 0 ++ ([] ++ []))))) := fun a ha => by
            obtain ⟨k, hk, rfl⟩ := List.getElem_of_mem ha
            have := hsp.ch.1 k hk
            rwa [cL_in (List.getElem?_eq_getElem hk)] at this
          have h60 : ∀ a ∈ ([122, 32] ++ (tkR x ++ (I ++ (tkR 0 ++ ([] ++ []))))), a ≠ 60 := fun a ha => by
            simp only [List.mem_append] at ha
            rcases ha with h | h | h | h | h
            · simp at h; rcases h with rfl | rfl <;> decide
            · rw [tkR_all x a h]; decide
            · exact (pxB_ne (inB_ok (hI2 a h)).1).1
            · rw [tkR_all 0 a h]; decide
            · simp at h
          have hmk : mkA (cL ([122, 32] ++ (tkR x ++ (I ++ (tkR 0 ++ ([] ++ [])))))) ([122, 32] ++ (tkR x ++ (I ++ (tkR 0 ++ ([] ++ []))))).length = fun _ => 1 := by
            have hp : 2 + x + I.length + 0 + ([] : List Int).length = ([122, 32] ++ (tkR x ++ (I ++ (tkR 0 ++ ([] ++ []))))).length := by rw [hlen]; simp; try omega
            rw [hp] at hsp
            exact hsp.opn
          obtain ⟨m, hm⟩ : ∃ m, 2 + x + I.length + 0 + 0 = m := ⟨_, rfl⟩
          rw [hm] at hlen
          rw [hlen] at hmk
          have hFm : F.size = m := by rw [hFs, strOfNums_size, hlen]
          have hcv := Lib.run_convert_string_bytes (P := Tryd.prog) wx 9 22 5 F Tryd.underlying9 Tryd.underlying22 Tryd.underlying5
          have hgc := grownCap_ge wx m 0 5
          have hgm := grownCap_le_maxLen wx m 0 5 (by unfold maxLen; omega)
          have hbc := conv_cl (w := wx) hby
          have hbw := conv_below wx F
          rw [hFm] at hcv
          rw [← hFs, hlen] at hbc
          generalize Lib.bytesWorld wx 5 F = V at hcv hbc hbw
          generalize grownCap wx m 0 5 = gc at hcv hgc hgm
          have hUV : Up w.heap.size w V := HU4.out.stay hbw
          have cx := mlex_any (cap := gc) (by rw [← hlen]; exact hsp.ch) hbc (by omega) (by omega) hgc (by omega) (HH.out.1.stay hUV.1) (fun e _ => an_list h60 e)
          unfold MlP at cx
          rw [hmk] at cx
          have HUV : Hid (Up w.heap.size w V) := hUV
          have hm5 : 2 ≤ m := by omega
          have hmb : m ≤ 65536 := by omega
          obtain ⟨Lb, hLb⟩ : ∃ Lb : Nat → Int, (fun _ => (1 : Int)) = Lb := ⟨_, rfl⟩
          rw [hLb] at cx
          have HL : Hid (∀ i, Lb i = 1) := fun i => by rw [← hLb]
          clear hFs hlen hsp hby h60 hmk hm hgc hgm hbc hbw hUV hLb
          go_upto_region 17 with fail
          try rw [hF]
          clear hF
          go_wp2_with fail
          refine cx.mono ?_
          rintro e w2 ⟨T, g, rfl, hT, hg, hSh, hU2⟩
          have HU5 : Hid (Below w.heap.size w w2) := HUV.out.1.trans (hU2.1.mono HUV.out.2)
          have HS : Hid (Sh w2 T g m Lb) := hSh
          clear cx hSh hU2 hT hg hcv
          go_upto_region 19 with fail
          go_loopg [78] m (fun q iv wr => ∃ i : Nat, i ≤ m ∧ q = m - i ∧ iv = .int .i64 i ∧ Hid (Sh wr T g m Lb ∧ Below w.heap.size w wr))
          case atStart => exact ⟨0, Nat.zero_le _, rfl, rfl, HS.out, HU5.out⟩
          case round =>
            obtain ⟨i2, hi2, hq2, rfl, HR⟩ := hrel
            by_cases hlt2 : i2 < m
            · have y1 : (i2 : Int) < (m : Int) := by omega
              have c4 := at_any HR.out.1 i2 (by omega)
              rw [HL.out i2] at c4
              go_wp2_with fail
              refine c4.mono ?_
              rintro e w4 ⟨rfl, hw⟩
              subst w4
              clear c4
              go_wp2
              go_roundg (m - (i2 + 1))
              case measure => omega
              case rel => exact ⟨i2 + 1, by omega, rfl, by go_num, HR⟩
            · obtain rfl : i2 = m := by omega
              have y1 : ¬ (i2 : Int) < (i2 : Int) := by omega
              go_wp2
              go_ret
              exact ⟨rfl, HR.out.2⟩
        | false =>
          have q3 : ¬ 9223372036854775807 < 2 + Xs.size := by omega
          have q4 : ¬ 9223372036854775807 < 2 + Xs.size + S.size := by omega
          have q5 : ¬ 9223372036854775807 < Xs.size + 2 := by omega
          have q6 : ¬ 9223372036854775807 < 2 + Xs.size + S.size + (Xs.size + 2) := by omega
          have c0 := tickf_any x (by omega) wr
          have HU2 : Hid (Up w.heap.size w wr) := HU
          rw [HX.out] at c0
          go_wp2_with fail
          refine c0.mono ?_
          rintro e wx ⟨rfl, hbx⟩
          have HU3 : Hid (Up w.heap.size w wx) := HU2.out.stay hbx
          clear c0 hbx HU2
          have c1 := tickf_any x (by omega) wx
          rw [HX.out] at c1
          go_wp2_with fail
          refine c1.mono ?_
          rintro e wz ⟨rfl, hbz⟩
          have HU4 : Hid (Up w.heap.size w wz) := HU3.out.stay hbz
          clear c1 hbz HU3
          obtain ⟨F, hF⟩ : ∃ F : ByteArray, ⟨#[122, 32]⟩ ++ Xs ++ S ++ (Xs ++ ⟨#[32, 119]⟩) = F := ⟨_, rfl⟩
          have hFs : F = strOfNums ([122, 32] ++ (tkR x ++ (I ++ (tkR 0 ++ ([] ++ (tkR x ++ [32, 119])))))) := by
            have hTe : ([122, 32] ++ (tkR x ++ (I ++ (tkR 0 ++ ([] ++ (tkR x ++ [32, 119])))))) = [122, 32] ++ (tkR x ++ (I ++ (tkR x ++ [32, 119]))) := by simp [tkR]
            rw [hTe, ← hF, ← HX.out, HSI.out]
            simp only [nums_app, ByteArray.append_assoc]
            rfl
          have hlen : ([122, 32] ++ (tkR x ++ (I ++ (tkR 0 ++ ([] ++ (tkR x ++ [32, 119])))))).length = 2 + x + I.length + 0 + (x + 2) := by
            simp only [List.length_append, tkR_len, List.length_cons, List.length_nil]
            omega
          have hsp := spn_of (x := x) (y := 0) (I := I) (E := []) (Z := (tkR x ++ [32, 119])) (by omega) hI2 (by omega) (by omega) (fun h => by first | exact Nat.one_pos | omega) (fun a ha => by first | (rw [List.mem_singleton] at ha; exact ha) | cases ha) (fun a ha => by
            rcases List.mem_append.1 ha with h | h
            · exact Or.inl (tkR_all x a h)
            · simp at h; rcases h with rfl | rfl
              · exact Or.inr (Or.inl rfl)
              · exact Or.inr (Or.inr rfl))
          have hby : Byt ([122, 32] ++ (tkR x ++ (I ++ (tkR 0 ++ ([] ++ (tkR x ++ [32, 119])))))) := fun a ha => by
            obtain ⟨k, hk, rfl⟩ := List.getElem_of_mem ha
            have := hsp.ch.1 k hk
            rwa [cL_in (List.getElem?_eq_getElem hk)] at this
          have h60 : ∀ a ∈ ([122, 32] ++ (tkR x ++ (I ++ (tkR 0 ++ ([] ++ (tkR x ++ [32, 119])))))), a ≠ 60 := fun a ha => by
            simp only [List.mem_append] at ha
            rcases ha with h | h | h | h | h
            · simp at h; rcases h with rfl | rfl <;> decide
            · rw [tkR_all x a h]; decide
            · exact (pxB_ne (inB_ok (hI2 a h)).1).1
            · rw [tkR_all 0 a h]; decide
            · simp at h; rcases h with h | rfl | rfl
              · rw [tkR_all x a h]; decide
              · decide
              · decide
          have hmk : mkA (cL ([122, 32] ++ (tkR x ++ (I ++ (tkR 0 ++ ([] ++ (tkR x ++ [32, 119]))))))) ([122, 32] ++ (tkR x ++ (I ++ (tkR 0 ++ ([] ++ (tkR x ++ [32, 119])))))).length = setL (fun _ => 1) 4 2 ((([122, 32] ++ (tkR x ++ (I ++ (tkR 0 ++ ([] ++ (tkR x ++ [32, 119])))))).length - 2 : Nat) : Int) := by
            have e3 : ([122, 32] ++ (tkR x ++ (I ++ (tkR 0 ++ ([] ++ (tkR x ++ [32, 119])))))) = ([122, 32] ++ tkR x ++ I ++ tkR 0 ++ []) ++ (tkR x ++ [32, 119]) := by simp
            have f3 : ([122, 32] ++ tkR x ++ I ++ tkR 0 ++ [] : List Int).length = 2 + x + I.length + 0 + ([] : List Int).length := by simp only [List.length_append, tkR_len, List.length_cons, List.length_nil]
            have s1 := seg_at (P := fun a => a = 96) ([122, 32] ++ tkR x ++ I ++ tkR 0 ++ []) (tkR x) [32, 119] (tkR_all x)
            have s2 := seg_at (P := fun a => pxB a = true) ([122, 32] ++ tkR x ++ I ++ tkR 0 ++ [] ++ tkR x) [32, 119] [] (by decide)
            rw [← e3, f3, tkR_len] at s1
            have e4 : ([122, 32] ++ (tkR x ++ (I ++ (tkR 0 ++ ([] ++ (tkR x ++ [32, 119])))))) = ([122, 32] ++ tkR x ++ I ++ tkR 0 ++ [] ++ tkR x) ++ ([32, 119] ++ []) := by simp
            have f4 : ([122, 32] ++ tkR x ++ I ++ tkR 0 ++ [] ++ tkR x : List Int).length = 2 + x + I.length + 0 + ([] : List Int).length + x := by rw [List.length_append, f3, tkR_len]
            rw [← e4, f4] at s2
            refine hsp.shut (by rw [hlen]; simp; try omega) s1 (fun j h1 h2 => s2 j h1 ?_)
            rw [hlen] at h2
            simp at h2 ⊢
            omega
          obtain ⟨m, hm⟩ : ∃ m, 2 + x + I.length + 0 + (x + 2) = m := ⟨_, rfl⟩
          rw [hm] at hlen
          rw [hlen] at hmk
          have hFm : F.size = m := by rw [hFs, strOfNums_size, hlen]
          have hcv := Lib.run_convert_string_bytes (P := Tryd.prog) wz 9 22 5 F Tryd.underlying9 Tryd.underlying22 Tryd.underlying5
          have hgc := grownCap_ge wz m 0 5
          have hgm := grownCap_le_maxLen wz m 0 5 (by unfold maxLen; omega)
          have hbc := conv_cl (w := wz) hby
          have hbw := conv_below wz F
          rw [hFm] at hcv
          rw [← hFs, hlen] at hbc
          generalize Lib.bytesWorld wz 5 F = V at hcv hbc hbw
          generalize grownCap wz m 0 5 = gc at hcv hgc hgm
          have hUV : Up w.heap.size w V := HU4.out.stay hbw
          have cx := mlex_any (cap := gc) (by rw [← hlen]; exact hsp.ch) hbc (by omega) (by omega) hgc (by omega) (HH.out.1.stay hUV.1) (fun e _ => an_list h60 e)
          unfold MlP at cx
          rw [hmk] at cx
          have HUV : Hid (Up w.heap.size w V) := hUV
          have hm5 : 2 ≤ m := by omega
          have hmb : m ≤ 65536 := by omega
          obtain ⟨Lb, hLb⟩ : ∃ Lb : Nat → Int, setL (fun _ => (1 : Int)) 4 2 ((m - 2 : Nat) : Int) = Lb := ⟨_, rfl⟩
          rw [hLb] at cx
          have HL : Hid ((∀ i, 2 ≤ i → i < m - 2 → Lb i = 4) ∧ (∀ i, i < 2 ∨ m - 2 ≤ i → Lb i = 1)) := ⟨fun i h1 h2 => by rw [← hLb]; unfold setL; rw [if_pos ⟨by omega, by omega⟩], fun i h1 => by rw [← hLb]; unfold setL; rw [if_neg (by omega)]⟩
          clear hFs hlen hsp hby h60 hmk hm hgc hgm hbc hbw hUV hLb
          go_upto_region 17 with fail
          try rw [hF]
          clear hF
          go_wp2_with fail
          refine cx.mono ?_
          rintro e w2 ⟨T, g, rfl, hT, hg, hSh, hU2⟩
          have HU5 : Hid (Below w.heap.size w w2) := HUV.out.1.trans (hU2.1.mono HUV.out.2)
          have HS : Hid (Sh w2 T g m Lb) := hSh
          clear cx hSh hU2 hT hg hcv
          go_upto_region 19 with fail
          go_loopg [78] m (fun q iv wr => ∃ i : Nat, i ≤ m ∧ q = m - i ∧ iv = .int .i64 i ∧ Hid (Sh wr T g m Lb ∧ Below w.heap.size w wr))
          case atStart => exact ⟨0, Nat.zero_le _, rfl, rfl, HS.out, HU5.out⟩
          case round =>
            obtain ⟨i2, hi2, hq2, rfl, HR⟩ := hrel
            by_cases hlt2 : i2 < m
            · have y1 : (i2 : Int) < (m : Int) := by omega
              have c4 := at_any HR.out.1 i2 (by omega)
              by_cases h2 : 2 ≤ i2
              · have y2 : (2 : Int) ≤ (i2 : Int) := by omega
                by_cases h3 : i2 < m - 2
                · have y3 : (i2 : Int) < (m : Int) - 2 := by omega
                  rw [HL.out.1 i2 h2 h3] at c4
                  go_wp2_with fail
                  refine c4.mono ?_
                  rintro e w4 ⟨rfl, hw⟩
                  subst w4
                  clear c4
                  go_wp2
                  go_roundg (m - (i2 + 1))
                  case measure => omega
                  case rel => exact ⟨i2 + 1, by omega, rfl, by go_num, HR⟩
                · have y3 : ¬ (i2 : Int) < (m : Int) - 2 := by omega
                  rw [HL.out.2 i2 (by omega)] at c4
                  go_wp2_with fail
                  refine c4.mono ?_
                  rintro e w4 ⟨rfl, hw⟩
                  subst w4
                  clear c4
                  go_wp2
                  go_roundg (m - (i2 + 1))
                  case measure => omega
                  case rel => exact ⟨i2 + 1, by omega, rfl, by go_num, HR⟩
              · have y2 : ¬ (2 : Int) ≤ (i2 : Int) := by omega
                rw [HL.out.2 i2 (by omega)] at c4
                go_wp2_with fail
                refine c4.mono ?_
                rintro e w4 ⟨rfl, hw⟩
                subst w4
                clear c4
                go_wp2
                go_roundg (m - (i2 + 1))
                case measure => omega
                case rel => exact ⟨i2 + 1, by omega, rfl, by go_num, HR⟩
            · obtain rfl : i2 = m := by omega
              have y1 : ¬ (i2 : Int) < (i2 : Int) := by omega
              go_wp2
              go_ret
              exact ⟨rfl, HR.out.2⟩
      · have k1 : ((y : Int) != (x : Int)) = true := by simp; omega
        cases op with
        | true =>
          have q1 : ¬ 9223372036854775807 < Ys.size + 1 := by omega
          have q2 : ¬ 9223372036854775807 < S.size + (Ys.size + 1) := by omega
          have q3 : ¬ 9223372036854775807 < 2 + Xs.size := by omega
          have q4 : ¬ 9223372036854775807 < 2 + Xs.size + (S.size + (Ys.size + 1)) := by omega
          have c0 := tickf_any x (by omega) wr
          have cy := tickf_any y (by omega) wr
          rw [HY.out] at cy
          go_wp2_with fail
          refine cy.mono ?_
          rintro e wy ⟨rfl, hby⟩
          have HU2 : Hid (Up w.heap.size w wy) := HU.out.stay hby
          clear cy hby c0
          have c0 := tickf_any x (by omega) wy
          rw [HX.out] at c0
          go_wp2_with fail
          refine c0.mono ?_
          rintro e wx ⟨rfl, hbx⟩
          have HU3 : Hid (Up w.heap.size w wx) := HU2.out.stay hbx
          clear c0 hbx HU2
          have HU4 : Hid (Up w.heap.size w wx) := HU3
          obtain ⟨F, hF⟩ : ∃ F : ByteArray, ⟨#[122, 32]⟩ ++ Xs ++ (S ++ (Ys ++ ⟨#[101]⟩)) = F := ⟨_, rfl⟩
          have hFs : F = strOfNums ([122, 32] ++ (tkR x ++ (I ++ (tkR y ++ ([101] ++ []))))) := by
            have hTe : ([122, 32] ++ (tkR x ++ (I ++ (tkR y ++ ([101] ++ []))))) = [122, 32] ++ (tkR x ++ (I ++ (tkR y ++ [101]))) := by simp [tkR]
            rw [hTe, ← hF, ← HX.out, HSI.out, ← HY.out]
            simp only [nums_app, ByteArray.append_assoc]
            rfl
          have hlen : ([122, 32] ++ (tkR x ++ (I ++ (tkR y ++ ([101] ++ []))))).length = 2 + x + I.length + (y + 1) + 0 := by
            simp only [List.length_append, tkR_len, List.length_cons, List.length_nil]
            omega
          have hsp := spn_of (x := x) (y := y) (I := I) (E := [101]) (Z := []) (by omega) hI2 (by omega) (by omega) (fun h => by first | exact Nat.one_pos | omega) (fun a ha => by first | (rw [List.mem_singleton] at ha; exact ha) | cases ha) (fun a ha => by
            cases ha)
          have hby : Byt ([122, 32] ++ (tkR x ++ (I ++ (tkR y ++ ([101] ++ []))))) := fun a ha => by
            obtain ⟨k, hk, rfl⟩ := List.getElem_of_mem ha
            have := hsp.ch.1 k hk
            rwa [cL_in (List.getElem?_eq_getElem hk)] at this
          have h60 : ∀ a ∈ ([122, 32] ++ (tkR x ++ (I ++ (tkR y ++ ([101] ++ []))))), a ≠ 60 := fun a ha => by
            simp only [List.mem_append] at ha
            rcases ha with h | h | h | h | h
            · simp at h; rcases h with rfl | rfl <;> decide
            · rw [tkR_all x a h]; decide
            · exact (pxB_ne (inB_ok (hI2 a h)).1).1
            · rw [tkR_all y a h]; decide
            · simp at h; subst h; decide
          have hmk : mkA (cL ([122, 32] ++ (tkR x ++ (I ++ (tkR y ++ ([101] ++ [])))))) ([122, 32] ++ (tkR x ++ (I ++ (tkR y ++ ([101] ++ []))))).length = fun _ => 1 := by
            have hp : 2 + x + I.length + y + ([101] : List Int).length = ([122, 32] ++ (tkR x ++ (I ++ (tkR y ++ ([101] ++ []))))).length := by rw [hlen]; simp; try omega
            rw [hp] at hsp
            exact hsp.opn
          obtain ⟨m, hm⟩ : ∃ m, 2 + x + I.length + (y + 1) + 0 = m := ⟨_, rfl⟩
          rw [hm] at hlen
          rw [hlen] at hmk
          have hFm : F.size = m := by rw [hFs, strOfNums_size, hlen]
          have hcv := Lib.run_convert_string_bytes (P := Tryd.prog) wx 9 22 5 F Tryd.underlying9 Tryd.underlying22 Tryd.underlying5
          have hgc := grownCap_ge wx m 0 5
          have hgm := grownCap_le_maxLen wx m 0 5 (by unfold maxLen; omega)
          have hbc := conv_cl (w := wx) hby
          have hbw := conv_below wx F
          rw [hFm] at hcv
          rw [← hFs, hlen] at hbc
          generalize Lib.bytesWorld wx 5 F = V at hcv hbc hbw
          generalize grownCap wx m 0 5 = gc at hcv hgc hgm
          have hUV : Up w.heap.size w V := HU4.out.stay hbw
          have cx := mlex_any (cap := gc) (by rw [← hlen]; exact hsp.ch) hbc (by omega) (by omega) hgc (by omega) (HH.out.1.stay hUV.1) (fun e _ => an_list h60 e)
          unfold MlP at cx
          rw [hmk] at cx
          have HUV : Hid (Up w.heap.size w V) := hUV
          have hm5 : 2 ≤ m := by omega
          have hmb : m ≤ 65536 := by omega
          obtain ⟨Lb, hLb⟩ : ∃ Lb : Nat → Int, (fun _ => (1 : Int)) = Lb := ⟨_, rfl⟩
          rw [hLb] at cx
          have HL : Hid (∀ i, Lb i = 1) := fun i => by rw [← hLb]
          clear hFs hlen hsp hby h60 hmk hm hgc hgm hbc hbw hUV hLb
          go_upto_region 17 with fail
          try rw [hF]
          clear hF
          go_wp2_with fail
          refine cx.mono ?_
          rintro e w2 ⟨T, g, rfl, hT, hg, hSh, hU2⟩
          have HU5 : Hid (Below w.heap.size w w2) := HUV.out.1.trans (hU2.1.mono HUV.out.2)
          have HS : Hid (Sh w2 T g m Lb) := hSh
          clear cx hSh hU2 hT hg hcv
          go_upto_region 19 with fail
          go_loopg [78] m (fun q iv wr => ∃ i : Nat, i ≤ m ∧ q = m - i ∧ iv = .int .i64 i ∧ Hid (Sh wr T g m Lb ∧ Below w.heap.size w wr))
          case atStart => exact ⟨0, Nat.zero_le _, rfl, rfl, HS.out, HU5.out⟩
          case round =>
            obtain ⟨i2, hi2, hq2, rfl, HR⟩ := hrel
            by_cases hlt2 : i2 < m
            · have y1 : (i2 : Int) < (m : Int) := by omega
              have c4 := at_any HR.out.1 i2 (by omega)
              rw [HL.out i2] at c4
              go_wp2_with fail
              refine c4.mono ?_
              rintro e w4 ⟨rfl, hw⟩
              subst w4
              clear c4
              go_wp2
              go_roundg (m - (i2 + 1))
              case measure => omega
              case rel => exact ⟨i2 + 1, by omega, rfl, by go_num, HR⟩
            · obtain rfl : i2 = m := by omega
              have y1 : ¬ (i2 : Int) < (i2 : Int) := by omega
              go_wp2
              go_ret
              exact ⟨rfl, HR.out.2⟩
        | false =>
          have q1 : ¬ 9223372036854775807 < Ys.size + 1 := by omega
          have q2 : ¬ 9223372036854775807 < S.size + (Ys.size + 1) := by omega
          have q3 : ¬ 9223372036854775807 < 2 + Xs.size := by omega
          have q4 : ¬ 9223372036854775807 < 2 + Xs.size + (S.size + (Ys.size + 1)) := by omega
          have q5 : ¬ 9223372036854775807 < Xs.size + 2 := by omega
          have q6 : ¬ 9223372036854775807 < 2 + Xs.size + (S.size + (Ys.size + 1)) + (Xs.size + 2) := by omega
          have c0 := tickf_any x (by omega) wr
          have cy := tickf_any y (by omega) wr
          rw [HY.out] at cy
          go_wp2_with fail
          refine cy.mono ?_
          rintro e wy ⟨rfl, hby⟩
          have HU2 : Hid (Up w.heap.size w wy) := HU.out.stay hby
          clear cy hby c0
          have c0 := tickf_any x (by omega) wy
          rw [HX.out] at c0
          go_wp2_with fail
          refine c0.mono ?_
          rintro e wx ⟨rfl, hbx⟩
          have HU3 : Hid (Up w.heap.size w wx) := HU2.out.stay hbx
          clear c0 hbx HU2
          have c1 := tickf_any x (by omega) wx
          rw [HX.out] at c1
          go_wp2_with fail
          refine c1.mono ?_
          rintro e wz ⟨rfl, hbz⟩
          have HU4 : Hid (Up w.heap.size w wz) := HU3.out.stay hbz
          clear c1 hbz HU3
          obtain ⟨F, hF⟩ : ∃ F : ByteArray, ⟨#[122, 32]⟩ ++ Xs ++ (S ++ (Ys ++ ⟨#[101]⟩)) ++ (Xs ++ ⟨#[32, 119]⟩) = F := ⟨_, rfl⟩
          have hFs : F = strOfNums ([122, 32] ++ (tkR x ++ (I ++ (tkR y ++ ([101] ++ (tkR x ++ [32, 119])))))) := by
            have hTe : ([122, 32] ++ (tkR x ++ (I ++ (tkR y ++ ([101] ++ (tkR x ++ [32, 119])))))) = [122, 32] ++ (tkR x ++ (I ++ (tkR y ++ ([101] ++ (tkR x ++ [32, 119]))))) := by simp [tkR]
            rw [hTe, ← hF, ← HX.out, HSI.out, ← HY.out]
            simp only [nums_app, ByteArray.append_assoc]
            rfl
          have hlen : ([122, 32] ++ (tkR x ++ (I ++ (tkR y ++ ([101] ++ (tkR x ++ [32, 119])))))).length = 2 + x + I.length + (y + 1) + (x + 2) := by
            simp only [List.length_append, tkR_len, List.length_cons, List.length_nil]
            omega
          have hsp := spn_of (x := x) (y := y) (I := I) (E := [101]) (Z := (tkR x ++ [32, 119])) (by omega) hI2 (by omega) (by omega) (fun h => by first | exact Nat.one_pos | omega) (fun a ha => by first | (rw [List.mem_singleton] at ha; exact ha) | cases ha) (fun a ha => by
            rcases List.mem_append.1 ha with h | h
            · exact Or.inl (tkR_all x a h)
            · simp at h; rcases h with rfl | rfl
              · exact Or.inr (Or.inl rfl)
              · exact Or.inr (Or.inr rfl))
          have hby : Byt ([122, 32] ++ (tkR x ++ (I ++ (tkR y ++ ([101] ++ (tkR x ++ [32, 119])))))) := fun a ha => by
            obtain ⟨k, hk, rfl⟩ := List.getElem_of_mem ha
            have := hsp.ch.1 k hk
            rwa [cL_in (List.getElem?_eq_getElem hk)] at this
          have h60 : ∀ a ∈ ([122, 32] ++ (tkR x ++ (I ++ (tkR y ++ ([101] ++ (tkR x ++ [32, 119])))))), a ≠ 60 := fun a ha => by
            simp only [List.mem_append] at ha
            rcases ha with h | h | h | h | h
            · simp at h; rcases h with rfl | rfl <;> decide
            · rw [tkR_all x a h]; decide
            · exact (pxB_ne (inB_ok (hI2 a h)).1).1
            · rw [tkR_all y a h]; decide
            · simp at h; rcases h with rfl | h | rfl | rfl
              · decide
              · rw [tkR_all x a h]; decide
              · decide
              · decide
          have hmk : mkA (cL ([122, 32] ++ (tkR x ++ (I ++ (tkR y ++ ([101] ++ (tkR x ++ [32, 119]))))))) ([122, 32] ++ (tkR x ++ (I ++ (tkR y ++ ([101] ++ (tkR x ++ [32, 119])))))).length = setL (fun _ => 1) 4 2 ((([122, 32] ++ (tkR x ++ (I ++ (tkR y ++ ([101] ++ (tkR x ++ [32, 119])))))).length - 2 : Nat) : Int) := by
            have e3 : ([122, 32] ++ (tkR x ++ (I ++ (tkR y ++ ([101] ++ (tkR x ++ [32, 119])))))) = ([122, 32] ++ tkR x ++ I ++ tkR y ++ [101]) ++ (tkR x ++ [32, 119]) := by simp
            have f3 : ([122, 32] ++ tkR x ++ I ++ tkR y ++ [101] : List Int).length = 2 + x + I.length + y + ([101] : List Int).length := by simp only [List.length_append, tkR_len, List.length_cons, List.length_nil]
            have s1 := seg_at (P := fun a => a = 96) ([122, 32] ++ tkR x ++ I ++ tkR y ++ [101]) (tkR x) [32, 119] (tkR_all x)
            have s2 := seg_at (P := fun a => pxB a = true) ([122, 32] ++ tkR x ++ I ++ tkR y ++ [101] ++ tkR x) [32, 119] [] (by decide)
            rw [← e3, f3, tkR_len] at s1
            have e4 : ([122, 32] ++ (tkR x ++ (I ++ (tkR y ++ ([101] ++ (tkR x ++ [32, 119])))))) = ([122, 32] ++ tkR x ++ I ++ tkR y ++ [101] ++ tkR x) ++ ([32, 119] ++ []) := by simp
            have f4 : ([122, 32] ++ tkR x ++ I ++ tkR y ++ [101] ++ tkR x : List Int).length = 2 + x + I.length + y + ([101] : List Int).length + x := by rw [List.length_append, f3, tkR_len]
            rw [← e4, f4] at s2
            refine hsp.shut (by rw [hlen]; simp; try omega) s1 (fun j h1 h2 => s2 j h1 ?_)
            rw [hlen] at h2
            simp at h2 ⊢
            omega
          obtain ⟨m, hm⟩ : ∃ m, 2 + x + I.length + (y + 1) + (x + 2) = m := ⟨_, rfl⟩
          rw [hm] at hlen
          rw [hlen] at hmk
          have hFm : F.size = m := by rw [hFs, strOfNums_size, hlen]
          have hcv := Lib.run_convert_string_bytes (P := Tryd.prog) wz 9 22 5 F Tryd.underlying9 Tryd.underlying22 Tryd.underlying5
          have hgc := grownCap_ge wz m 0 5
          have hgm := grownCap_le_maxLen wz m 0 5 (by unfold maxLen; omega)
          have hbc := conv_cl (w := wz) hby
          have hbw := conv_below wz F
          rw [hFm] at hcv
          rw [← hFs, hlen] at hbc
          generalize Lib.bytesWorld wz 5 F = V at hcv hbc hbw
          generalize grownCap wz m 0 5 = gc at hcv hgc hgm
          have hUV : Up w.heap.size w V := HU4.out.stay hbw
          have cx := mlex_any (cap := gc) (by rw [← hlen]; exact hsp.ch) hbc (by omega) (by omega) hgc (by omega) (HH.out.1.stay hUV.1) (fun e _ => an_list h60 e)
          unfold MlP at cx
          rw [hmk] at cx
          have HUV : Hid (Up w.heap.size w V) := hUV
          have hm5 : 2 ≤ m := by omega
          have hmb : m ≤ 65536 := by omega
          obtain ⟨Lb, hLb⟩ : ∃ Lb : Nat → Int, setL (fun _ => (1 : Int)) 4 2 ((m - 2 : Nat) : Int) = Lb := ⟨_, rfl⟩
          rw [hLb] at cx
          have HL : Hid ((∀ i, 2 ≤ i → i < m - 2 → Lb i = 4) ∧ (∀ i, i < 2 ∨ m - 2 ≤ i → Lb i = 1)) := ⟨fun i h1 h2 => by rw [← hLb]; unfold setL; rw [if_pos ⟨by omega, by omega⟩], fun i h1 => by rw [← hLb]; unfold setL; rw [if_neg (by omega)]⟩
          clear hFs hlen hsp hby h60 hmk hm hgc hgm hbc hbw hUV hLb
          go_upto_region 17 with fail
          try rw [hF]
          clear hF
          go_wp2_with fail
          refine cx.mono ?_
          rintro e w2 ⟨T, g, rfl, hT, hg, hSh, hU2⟩
          have HU5 : Hid (Below w.heap.size w w2) := HUV.out.1.trans (hU2.1.mono HUV.out.2)
          have HS : Hid (Sh w2 T g m Lb) := hSh
          clear cx hSh hU2 hT hg hcv
          go_upto_region 19 with fail
          go_loopg [78] m (fun q iv wr => ∃ i : Nat, i ≤ m ∧ q = m - i ∧ iv = .int .i64 i ∧ Hid (Sh wr T g m Lb ∧ Below w.heap.size w wr))
          case atStart => exact ⟨0, Nat.zero_le _, rfl, rfl, HS.out, HU5.out⟩
          case round =>
            obtain ⟨i2, hi2, hq2, rfl, HR⟩ := hrel
            by_cases hlt2 : i2 < m
            · have y1 : (i2 : Int) < (m : Int) := by omega
              have c4 := at_any HR.out.1 i2 (by omega)
              by_cases h2 : 2 ≤ i2
              · have y2 : (2 : Int) ≤ (i2 : Int) := by omega
                by_cases h3 : i2 < m - 2
                · have y3 : (i2 : Int) < (m : Int) - 2 := by omega
                  rw [HL.out.1 i2 h2 h3] at c4
                  go_wp2_with fail
                  refine c4.mono ?_
                  rintro e w4 ⟨rfl, hw⟩
                  subst w4
                  clear c4
                  go_wp2
                  go_roundg (m - (i2 + 1))
                  case measure => omega
                  case rel => exact ⟨i2 + 1, by omega, rfl, by go_num, HR⟩
                · have y3 : ¬ (i2 : Int) < (m : Int) - 2 := by omega
                  rw [HL.out.2 i2 (by omega)] at c4
                  go_wp2_with fail
                  refine c4.mono ?_
                  rintro e w4 ⟨rfl, hw⟩
                  subst w4
                  clear c4
                  go_wp2
                  go_roundg (m - (i2 + 1))
                  case measure => omega
                  case rel => exact ⟨i2 + 1, by omega, rfl, by go_num, HR⟩
              · have y2 : ¬ (2 : Int) ≤ (i2 : Int) := by omega
                rw [HL.out.2 i2 (by omega)] at c4
                go_wp2_with fail
                refine c4.mono ?_
                rintro e w4 ⟨rfl, hw⟩
                subst w4
                clear c4
                go_wp2
                go_roundg (m - (i2 + 1))
                case measure => omega
                case rel => exact ⟨i2 + 1, by omega, rfl, by go_num, HR⟩
            · obtain rfl : i2 = m := by omega
              have y1 : ¬ (i2 : Int) < (i2 : Int) := by omega
              go_wp2
              go_ret
              exact ⟨rfl, HR.out.2⟩

end Go.Proofs.YtodjfeheagnnpaaDoor
