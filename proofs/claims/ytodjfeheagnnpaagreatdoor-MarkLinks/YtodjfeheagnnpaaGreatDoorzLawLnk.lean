/- MarkLinks. -/
import Derived.Test.YtodjfeheagnnpaaGreatDoorzRmk
import Derived.Test.YtodjfeheagnnpaaGreatDoorzLs
namespace Go.Proofs.YtodjfeheagnnpaaGreatDoor
set_option linter.unusedVariables false
open Go.RowKit Go.ChangeShapes
theorem one_bcz (w : World) (x : Int) : BC (w.alloc (.cells #[.int .u8 x] 5)) (some ⟨w.heap.size, 0, none⟩) 1 (cL [x]) :=
  (lit_bc w [x] (0, 0)).congr fun i hi => by
    obtain rfl : i = 0 := by simp at hi; omega
    rfl
theorem one_str (w : World) (x : Int) (hx : 0 ≤ x ∧ x < 256) : (convert 22 9 (.slice (some ⟨w.heap.size, 0, none⟩) 1 1)).run Tryz.prog (w.alloc (.cells #[.int .u8 x] 5)) = .ok (.string (strOfNums [x])) (w.alloc (.cells #[.int .u8 x] 5)) := str_bc (cap := 1) (one_bcz w x)
set_option maxRecDepth 100000 in
set_option maxHeartbeats 2000000 in
theorem mlinks_law {w : World} (hG : GlM w) {nv : Int} (hnv : 0 ≤ nv ∧ nv < 256) (sh : Bool) {la : Option Addr} {ln lcap : Nat} {lc : Nat → Int} (hlC : Ch lc ln) (hl : BC w la ln lc) (hln : ln ≤ maxLen) :
    Calls Tryz.prog 4 #[.int .u8 nv, .bool sh, .slice la ln lcap] w fun ev w' => ev = .returned (.bool true) ∧ Below w.heap.size w w' := by
  have ca := mawake_any w hG
  have HH : Hid (GlM w ∧ Ch lc ln ∧ BC w la ln lc) := ⟨hG, hlC, hl⟩
  have hml : maxLen ≤ 9223372036854775807 := by unfold maxLen; omega
  obtain ⟨M, rfl⟩ : ∃ M : Nat, nv = (M : Int) := ⟨nv.toNat, by omega⟩
  obtain ⟨N, hN⟩ : ∃ r, M % 40 = r := ⟨_, rfl⟩
  have hN40 : N < 40 := by rw [← hN]; exact Nat.mod_lt _ (by decide)
  have hmx : Int.tmod (M : Int) 40 = (N : Int) := by rw [← hN]; exact nat_mod M 40
  clear hG hlC hl hN hnv
  go_enter Tryz.func4, Tryz.ntmps4
  go_wp2_with fail
  refine ca.mono ?_
  rintro e w1 ⟨rfl, hb1⟩
  have HU1 : Hid (Up w.heap.size w w1) := ⟨hb1, hb1.size⟩
  clear ca hb1
  go_wp2
  go_loopg [8, 19] N (fun q sv iv wr => ∃ (i : Nat) (S : ByteArray), i ≤ N ∧ q = N - i ∧ iv = .int .i64 i ∧ sv = .string S ∧ S.size ≤ 4 + i ∧ Hid (S = strOfNums ([91, 120, 93, 40] ++ lkO i)) ∧ wr = w1)
  case atStart => exact ⟨0, _, Nat.zero_le _, rfl, rfl, rfl, by decide, rfl, rfl⟩
  case round =>
    obtain ⟨i, S, hi, hq, rfl, rfl, hS, HB, hw⟩ := hrel
    subst wr
    by_cases hlt : i < N
    · have z1 : (i : Int) < (N : Int) := by omega
      have q1 : ¬ 9223372036854775807 < S.size + 1 := by omega
      have HI : Hid (S ++ ⟨#[40]⟩ = strOfNums ([91, 120, 93, 40] ++ lkO (i + 1))) := by
        show _ = _
        rw [show lkO (i + 1) = lkO i ++ [40] from List.replicate_succ' .., ← List.append_assoc, nums_app _ [40], ← HB.out]
        rfl
      have hsz : (S ++ ⟨#[40]⟩).size ≤ 4 + (i + 1) := by rw [ByteArray.size_append, show (⟨#[40]⟩ : ByteArray).size = 1 from rfl]; omega
      go_wp2
      go_roundg (N - (i + 1))
      case measure => omega
      case rel => exact ⟨i + 1, S ++ ⟨#[40]⟩, by omega, rfl, by go_num, rfl, hsz, HI, rfl⟩
    obtain rfl : i = N := by omega
    have z1 : ¬ (i : Int) < (i : Int) := by omega
    obtain ⟨N, hNN⟩ : ∃ N, i = N := ⟨_, rfl⟩
    subst hNN
    have HS0 : Hid (∃ I, S = strOfNums ([91, 120, 93, 40] ++ (lkO i ++ I)) ∧ (∀ a ∈ I, lkB a = true) ∧ I.length ≤ min 0 9) := ⟨[], by rw [List.append_nil]; exact HB.out, fun a ha => (by cases ha), Nat.le_refl _⟩
    have hS4 : S.size ≤ 44 + min 0 9 := by omega
    obtain ⟨S0, hS0⟩ : ∃ S0, S = S0 := ⟨_, rfl⟩
    subst hS0
    obtain ⟨N, hNN⟩ : ∃ N, i = N := ⟨_, rfl⟩
    subst hNN
    clear HB hS
    go_wp2
    obtain ⟨N, hNN⟩ : ∃ N, N = i := ⟨_, rfl⟩
    subst hNN
    go_loopg [8, 26] ln (fun q sv iv wr => ∃ (i : Nat) (S : ByteArray), i ≤ ln ∧ q = ln - i ∧ iv = .int .i64 i ∧ sv = .string S ∧ S.size ≤ 44 + min i 9 ∧ Hid (∃ I, S = strOfNums ([91, 120, 93, 40] ++ (lkO N ++ I)) ∧ (∀ a ∈ I, lkB a = true) ∧ I.length ≤ min i 9) ∧ Hid (Up w.heap.size w wr))
    case atStart => exact ⟨0, _, Nat.zero_le _, rfl, rfl, rfl, hS4, HS0, HU1⟩
    case round =>
      clear hS4 HS0
      obtain ⟨i, S, hi, hq, rfl, rfl, hS, HB, HU⟩ := hrel
      have hu := HU.out.2
      by_cases hlt : i < ln
      · have z1 : (i : Int) < (ln : Int) := by omega
        have z2 : (0 : Int) ≤ (i : Int) := by omega
        obtain ⟨b, off, rfl, hc⟩ := HH.out.2.2 i hlt
        have hcw := cell_stay hc HU.out.1
        have hci := HH.out.2.1.1 i hlt
        obtain ⟨X, hX⟩ : ∃ X : Nat, lc i = (X : Int) := ⟨(lc i).toNat, by omega⟩
        rw [hX] at hcw
        clear hc hX hci
        by_cases h9 : i < 9
        · have z3 : (i : Int) < 9 := by omega
          obtain ⟨r, hr⟩ : ∃ r, X % 4 = r := ⟨_, rfl⟩
          have hr15 : r < 4 := by rw [← hr]; exact Nat.mod_lt _ (by decide)
          have hmd : Int.tmod (X : Int) 4 = (r : Int) := by rw [← hr]; exact nat_mod X 4
          clear hr
          rcases (show r = 0 ∨ r = 1 ∨ r = 2 ∨ r = 3 by omega) with rfl | rfl | rfl | rfl
          · have HI : Hid (∃ I, S ++ ⟨#[97]⟩ = strOfNums ([91, 120, 93, 40] ++ (lkO N ++ I)) ∧ (∀ a ∈ I, lkB a = true) ∧ I.length ≤ min (i + 1) 9) := by
              obtain ⟨I, e, h1, h2⟩ := HB.out
              exact ⟨I ++ [97], by rw [show ([91, 120, 93, 40] ++ (lkO N ++ (I ++ [97])) : List Int) = ([91, 120, 93, 40] ++ (lkO N ++ I)) ++ [97] by simp, nums_app, ← e]; rfl, fun a ha => by
                rcases List.mem_append.1 ha with h | h
                · exact h1 a h
                · rw [List.mem_singleton] at h; subst h; rfl, by rw [List.length_append, List.length_singleton]; omega⟩
            have hsz : (S ++ ⟨#[97]⟩).size ≤ 44 + min (i + 1) 9 := by rw [ByteArray.size_append, show (⟨#[97]⟩ : ByteArray).size = 1 from rfl]; omega
            have q1 : ¬ 9223372036854775807 < S.size + 1 := by omega
            have hst := one_str wr 97 (by decide)
            change _ = Result.ok (Value.string ⟨#[97]⟩) _ at hst
            have HU2 : Hid (Up w.heap.size w (wr.alloc (.cells #[.int .u8 97] 5))) := HU.out.alloc _
            have hk : ((⟨#[97, 98, 46, 47]⟩ : ByteArray)[0]'(by decide)).toNat = 97 := rfl
            go_wp2
            go_roundg (ln - (i + 1))
            case measure => omega
            case rel => exact ⟨i + 1, S ++ ⟨#[97]⟩, by omega, rfl, by go_num, rfl, hsz, HI, HU2⟩
          · have HI : Hid (∃ I, S ++ ⟨#[98]⟩ = strOfNums ([91, 120, 93, 40] ++ (lkO N ++ I)) ∧ (∀ a ∈ I, lkB a = true) ∧ I.length ≤ min (i + 1) 9) := by
              obtain ⟨I, e, h1, h2⟩ := HB.out
              exact ⟨I ++ [98], by rw [show ([91, 120, 93, 40] ++ (lkO N ++ (I ++ [98])) : List Int) = ([91, 120, 93, 40] ++ (lkO N ++ I)) ++ [98] by simp, nums_app, ← e]; rfl, fun a ha => by
                rcases List.mem_append.1 ha with h | h
                · exact h1 a h
                · rw [List.mem_singleton] at h; subst h; rfl, by rw [List.length_append, List.length_singleton]; omega⟩
            have hsz : (S ++ ⟨#[98]⟩).size ≤ 44 + min (i + 1) 9 := by rw [ByteArray.size_append, show (⟨#[98]⟩ : ByteArray).size = 1 from rfl]; omega
            have q1 : ¬ 9223372036854775807 < S.size + 1 := by omega
            have hst := one_str wr 98 (by decide)
            change _ = Result.ok (Value.string ⟨#[98]⟩) _ at hst
            have HU2 : Hid (Up w.heap.size w (wr.alloc (.cells #[.int .u8 98] 5))) := HU.out.alloc _
            have hk : ((⟨#[97, 98, 46, 47]⟩ : ByteArray)[1]'(by decide)).toNat = 98 := rfl
            go_wp2
            go_roundg (ln - (i + 1))
            case measure => omega
            case rel => exact ⟨i + 1, S ++ ⟨#[98]⟩, by omega, rfl, by go_num, rfl, hsz, HI, HU2⟩
          · have HI : Hid (∃ I, S ++ ⟨#[46]⟩ = strOfNums ([91, 120, 93, 40] ++ (lkO N ++ I)) ∧ (∀ a ∈ I, lkB a = true) ∧ I.length ≤ min (i + 1) 9) := by
              obtain ⟨I, e, h1, h2⟩ := HB.out
              exact ⟨I ++ [46], by rw [show ([91, 120, 93, 40] ++ (lkO N ++ (I ++ [46])) : List Int) = ([91, 120, 93, 40] ++ (lkO N ++ I)) ++ [46] by simp, nums_app, ← e]; rfl, fun a ha => by
                rcases List.mem_append.1 ha with h | h
                · exact h1 a h
                · rw [List.mem_singleton] at h; subst h; rfl, by rw [List.length_append, List.length_singleton]; omega⟩
            have hsz : (S ++ ⟨#[46]⟩).size ≤ 44 + min (i + 1) 9 := by rw [ByteArray.size_append, show (⟨#[46]⟩ : ByteArray).size = 1 from rfl]; omega
            have q1 : ¬ 9223372036854775807 < S.size + 1 := by omega
            have hst := one_str wr 46 (by decide)
            change _ = Result.ok (Value.string ⟨#[46]⟩) _ at hst
            have HU2 : Hid (Up w.heap.size w (wr.alloc (.cells #[.int .u8 46] 5))) := HU.out.alloc _
            have hk : ((⟨#[97, 98, 46, 47]⟩ : ByteArray)[2]'(by decide)).toNat = 46 := rfl
            go_wp2
            go_roundg (ln - (i + 1))
            case measure => omega
            case rel => exact ⟨i + 1, S ++ ⟨#[46]⟩, by omega, rfl, by go_num, rfl, hsz, HI, HU2⟩
          · have HI : Hid (∃ I, S ++ ⟨#[47]⟩ = strOfNums ([91, 120, 93, 40] ++ (lkO N ++ I)) ∧ (∀ a ∈ I, lkB a = true) ∧ I.length ≤ min (i + 1) 9) := by
              obtain ⟨I, e, h1, h2⟩ := HB.out
              exact ⟨I ++ [47], by rw [show ([91, 120, 93, 40] ++ (lkO N ++ (I ++ [47])) : List Int) = ([91, 120, 93, 40] ++ (lkO N ++ I)) ++ [47] by simp, nums_app, ← e]; rfl, fun a ha => by
                rcases List.mem_append.1 ha with h | h
                · exact h1 a h
                · rw [List.mem_singleton] at h; subst h; rfl, by rw [List.length_append, List.length_singleton]; omega⟩
            have hsz : (S ++ ⟨#[47]⟩).size ≤ 44 + min (i + 1) 9 := by rw [ByteArray.size_append, show (⟨#[47]⟩ : ByteArray).size = 1 from rfl]; omega
            have q1 : ¬ 9223372036854775807 < S.size + 1 := by omega
            have hst := one_str wr 47 (by decide)
            change _ = Result.ok (Value.string ⟨#[47]⟩) _ at hst
            have HU2 : Hid (Up w.heap.size w (wr.alloc (.cells #[.int .u8 47] 5))) := HU.out.alloc _
            have hk : ((⟨#[97, 98, 46, 47]⟩ : ByteArray)[3]'(by decide)).toNat = 47 := rfl
            go_wp2
            go_roundg (ln - (i + 1))
            case measure => omega
            case rel => exact ⟨i + 1, S ++ ⟨#[47]⟩, by omega, rfl, by go_num, rfl, hsz, HI, HU2⟩
        · have z3 : ¬ (i : Int) < 9 := by omega
          have HI : Hid (∃ I, S = strOfNums ([91, 120, 93, 40] ++ (lkO N ++ I)) ∧ (∀ a ∈ I, lkB a = true) ∧ I.length ≤ min (i + 1) 9) := by
            obtain ⟨I, e, h1, h2⟩ := HB.out
            exact ⟨I, e, h1, by omega⟩
          go_wp2
          go_roundg (ln - (i + 1))
          case measure => omega
          case rel => exact ⟨i + 1, S, by omega, rfl, by go_num, rfl, by omega, HI, HU⟩
      obtain rfl : i = ln := by omega
      have z1 : ¬ (i : Int) < (i : Int) := by omega
      obtain ⟨I, hSI, hI2, hI9'⟩ := HB.out
      have hI9 : I.length ≤ 9 := by omega
      have HS0 : Hid (S = strOfNums ([91, 120, 93, 40] ++ (lkO N ++ (I ++ lkC 0)))) := by show _ = _; rw [hSI]; simp [lkC]
      have hS5 : S.size ≤ 53 + 0 := by omega
      clear HB hSI hI9' hS
      go_wp2
      obtain ⟨wT, rfl⟩ : ∃ wT, wT = wr := ⟨_, rfl⟩
      go_loopg [8, 42] N (fun q sv iv wq => ∃ (i : Nat) (S : ByteArray), i ≤ N ∧ q = N - i ∧ iv = .int .i64 i ∧ sv = .string S ∧ S.size ≤ 53 + i ∧ Hid (S = strOfNums ([91, 120, 93, 40] ++ (lkO N ++ (I ++ lkC i)))) ∧ wq = wT)
      case atStart => exact ⟨0, _, Nat.zero_le _, rfl, rfl, rfl, hS5, HS0, rfl⟩
      case round =>
        clear hS5 HS0
        obtain ⟨j, S, hj, hq3, rfl, rfl, hS, HB, hw⟩ := hrel
        subst hw
        have HB3 : Hid (S = strOfNums ([91, 120, 93, 40] ++ (lkO N ++ (I ++ lkC j)))) := HB
        by_cases hlt : j < N
        · have z1 : (j : Int) < (N : Int) := by omega
          have q1 : ¬ 9223372036854775807 < S.size + 1 := by omega
          have HI : Hid (S ++ ⟨#[41]⟩ = strOfNums ([91, 120, 93, 40] ++ (lkO N ++ (I ++ lkC (j + 1))))) := by
            show _ = _
            rw [show ([91, 120, 93, 40] ++ (lkO N ++ (I ++ lkC (j + 1))) : List Int) = ([91, 120, 93, 40] ++ (lkO N ++ (I ++ lkC j))) ++ [41] by simp [lkC, List.replicate_succ'], nums_app _ [41], ← HB.out]
            rfl
          have hsz : (S ++ ⟨#[41]⟩).size ≤ 53 + (j + 1) := by rw [ByteArray.size_append, show (⟨#[41]⟩ : ByteArray).size = 1 from rfl]; omega
          go_wp2
          go_roundg (N - (j + 1))
          case measure => omega
          case rel => exact ⟨j + 1, S ++ ⟨#[41]⟩, by omega, rfl, by go_num, rfl, hsz, HI, rfl⟩
        have hjN : j = N := by omega
        have z1 : ¬ (j : Int) < (N : Int) := by omega
        have HSI : Hid (S = strOfNums ([91, 120, 93, 40] ++ (lkO N ++ (I ++ lkC N)))) := by
          have := HB.out
          rw [hjN] at this
          exact this
        have hS92 : S.size ≤ 92 := by omega
        clear HB HB3 hS hjN
        cases sh with
        | true =>
          have q1 : ¬ 9223372036854775807 < S.size + 1 := by omega
          have q2 : ¬ 9223372036854775807 < S.size + 1 + 2 := by omega
          obtain ⟨F, hF⟩ : ∃ F : ByteArray, (S ++ ⟨#[41]⟩) ++ ⟨#[32, 121]⟩ = F := ⟨_, rfl⟩
          have hFs : F = strOfNums (lkT N I [41]) := by
            rw [← hF, HSI.out, show lkT N I [41] = ([91, 120, 93, 40] ++ (lkO N ++ (I ++ lkC N))) ++ ([41] ++ [32, 121]) by simp [lkT], nums_app ([91, 120, 93, 40] ++ (lkO N ++ (I ++ lkC N)))]
            rw [nums_app [41], ← ByteArray.append_assoc]
            rfl
          have hlen := lkT_len N I [41]
          have hLk := lkT_lk (Z := [41]) hN40 hI2 hI9 (Or.inr rfl)
          have hsh := lkT_yes hN40 hI2
          have hFl : S.size + 1 + 2 = (lkT N I [41]).length := by have h9 := congrArg ByteArray.size hF; rw [hFs, strOfNums_size] at h9; rw [← h9]; simp [ByteArray.size_append]; rfl
          have hby : Byt (lkT N I [41]) := fun a ha => by
            obtain ⟨k, hk, rfl⟩ := List.getElem_of_mem ha
            have := hLk.ch.1 k hk
            rwa [cL_in (List.getElem?_eq_getElem hk)] at this
          have h60 : ∀ a ∈ lkT N I [41], a ≠ 60 := fun a ha => by
            obtain ⟨k, hk, rfl⟩ := List.getElem_of_mem ha
            rcases Nat.lt_trichotomy k 2 with h2 | h2 | h2
            · have := (pxB_ne (hLk.px k hk (by omega))).1
              rwa [cL_in (List.getElem?_eq_getElem hk)] at this
            · subst h2
              have := hLk.c2
              rw [cL_in (List.getElem?_eq_getElem hk)] at this
              rw [this]; decide
            · have := (pxB_ne (hLk.px k hk (by omega))).1
              rwa [cL_in (List.getElem?_eq_getElem hk)] at this
          have hSC : SC F (cL (lkT N I [41])) (lkT N I [41]).length := by
            have := sc_nums hLk.ch
            rwa [cl_cL, ← hFs] at this
          have hlab := hLk.lab
          obtain ⟨m, hm⟩ : ∃ m, (lkT N I [41]).length = m := ⟨_, rfl⟩
          obtain ⟨c, hc⟩ : ∃ c, cL (lkT N I [41]) = c := ⟨_, rfl⟩
          have hFm : F.size = m := by rw [hFs, strOfNums_size, hm]
          have hcv := Lib.run_convert_string_bytes (P := Tryz.prog) wr 9 22 5 F Tryz.underlying9 Tryz.underlying22 Tryz.underlying5
          have hgc := grownCap_ge wr m 0 5
          have hgm := grownCap_le_maxLen wr m 0 5 (by have := hLk.nb; unfold maxLen; omega)
          have hbc := conv_cl (w := wr) hby
          have hbw := conv_below wr F
          rw [hFm] at hcv
          rw [← hFs, hm, hc] at hbc
          rw [hm, hc] at hLk hSC hlab hsh
          rw [hm] at hFl hlen
          generalize Lib.bytesWorld wr 5 F = V at hcv hbc hbw
          generalize grownCap wr m 0 5 = gc at hcv hgc hgm
          have hUV : Up w.heap.size w V := HU.out.stay hbw
          have hm5 := hLk.n5
          have hmb := hLk.nb
          have cx := mlex_any (cap := gc) hLk.ch hbc (by omega) (by omega) hgc (by omega) (HH.out.1.stay hUV.1) (fun e _ => by rw [← hc]; exact an_list h60 e)
          unfold MlP at cx
          rw [hlab, hsh] at cx
          have HUV : Hid (Up w.heap.size w V) := hUV
          have HLk : Hid (SC F c m ∧ Lk c m) := ⟨hSC, hLk⟩
          have HSh : Hid (shP c m 4 1 = if N < 32 then some (m - 2) else none) := hsh
          obtain ⟨O, hO⟩ : ∃ O : Option Nat, (if N < 32 then some (m - 2) else none) = O := ⟨_, rfl⟩
          rw [hO] at cx
          have HO : Hid (shP c m 4 1 = O) := by show _ = _; rw [← hO]; exact HSh.out
          have L1 : lkL O 1 = 1 := by
            rw [← hO]
            split
            · show setL (fun _ => 1) 2 3 _ 1 = 1; unfold setL; rw [if_neg (by omega)]
            · rfl
          have Lz : lkL O (m - 1) = 1 := by
            rw [← hO]
            split
            · show setL (fun _ => 1) 2 3 _ (m - 1) = 1; unfold setL; rw [if_neg (by omega)]
            · rfl
          obtain ⟨b3, hb3, L3⟩ : ∃ b3 : Bool, decide ((N : Int) < 32) = b3 ∧ (lkL O 3 == 2) = b3 := by
            refine ⟨_, rfl, ?_⟩
            rw [← hO]
            by_cases h : N < 32
            · rw [if_pos h]
              show (setL (fun _ => 1) 2 3 _ 3 == 2) = _
              unfold setL
              rw [if_pos (by omega), decide_eq_true (by omega)]; rfl
            · rw [if_neg h, decide_eq_false (by omega)]; rfl
          obtain ⟨Lb, hLb⟩ : ∃ Lb, lkL O = Lb := ⟨_, rfl⟩
          rw [hLb] at cx L1 Lz L3
          have HLb : Hid (lkL (shP c m 4 1) = Lb) := by show _ = _; rw [HO.out]; exact hLb
          obtain ⟨y3, hy3⟩ : ∃ y3, Lb 3 = y3 := ⟨_, rfl⟩
          rw [hy3] at L3
          have hS1 : ((m - 1 : Nat) : Int) = (S.size : Int) + 1 + 1 := by omega
          have hm9 : m ≤ 65536 := by omega
          clear hFs hlen hsh hFl hby h60 hSC hlab hc hgc hgm hbc hbw hUV hLk hO hLb HO HSh hm
          go_upto_region 21 with fail
          go_wp2_with fail
          refine cx.mono ?_
          rintro e w2 ⟨T, g, rfl, hT, hg, hSh, hU2⟩
          have HU2 : Hid (Below w.heap.size w w2) := HUV.out.1.trans (hU2.1.mono HUV.out.2)
          have HS : Hid (Sh w2 T g m Lb) := hSh
          have a3 := at_any hSh 3 (by omega)
          have a1 := at_any hSh 1 (by omega)
          have az := at_any hSh (m - 1) (by omega)
          rw [hy3] at a3
          rw [L1] at a1
          rw [Lz, hS1] at az
          rw [show ((3 : Nat) : Int) = 3 from rfl] at a3
          rw [show ((1 : Nat) : Int) = 1 from rfl] at a1
          have cs := segs_any hSh hm9
          clear cx hSh hU2 hT hg hcv hS1 L1 Lz hy3
          by_cases h32 : (N : Int) < 32
          · rw [decide_eq_true h32] at hb3
            subst hb3
            go_wp2_with fail
            refine a3.mono ?_
            rintro e w3 ⟨rfl, hw⟩
            subst w3
            clear a3
            go_wp2_with fail
            refine az.mono ?_
            rintro e w3 ⟨rfl, hw⟩
            subst w3
            clear az
            go_wp2_with fail
            refine a1.mono ?_
            rintro e w3 ⟨rfl, hw⟩
            subst w3
            clear a1
            go_wp2_with fail
            refine cs.mono ?_
            rintro e w3 ⟨v1, rfl, hR1, hU3⟩
            have HR1 : Hid (SR w3 w2.heap.size v1 (sg Lb m)) := hR1
            have HU3 : Hid (Below w.heap.size w w3) := HU2.out.trans (hU3.1.mono HU2.out.size)
            have c4 := rmark_lk HLk.out.1 HLk.out.2 w3
            rw [HLb.out] at c4
            clear cs hR1 hU3
            go_wp2_with fail
            refine c4.mono ?_
            rintro e w4 ⟨g4, rfl, hg4, hL4, hU4⟩
            have HR2 : Hid (SR w4 w2.heap.size v1 (sg Lb m)) := HR1.out.stay hU4.1
            have HU4 : Hid (Below w.heap.size w w4) := HU3.out.trans (hU4.1.mono HU3.out.size)
            have c5 := rsegs_any hL4 hm9
            clear c4 hg4 hL4 hU4
            go_wp2_with fail
            refine c5.mono ?_
            rintro e w5 ⟨v2, rfl, hR5, hU5⟩
            have c6 := same_any (HR2.out.stay hU5.1) hR5 (by have := sg_len Lb m; omega)
            have HU5 : Hid (Below w.heap.size w w5) := HU4.out.trans (hU5.1.mono HU4.out.size)
            clear c5 hR5 hU5
            go_wp2_with fail
            refine c6.mono ?_
            rintro e w6 ⟨rfl, hU6⟩
            have HU6 : Hid (Below w.heap.size w w6) := HU5.out.trans (hU6.1.mono HU5.out.size)
            clear c6 hU6
            go_wp2
            go_ret
            exact ⟨rfl, HU6.out⟩
          · rw [decide_eq_false h32] at hb3
            subst hb3
            have hdd : decide ((N : Int) < 32) = false := decide_eq_false h32
            go_wp2_with fail
            refine a3.mono ?_
            rintro e w3 ⟨rfl, hw⟩
            subst w3
            clear a3
            go_wp2_with fail
            refine az.mono ?_
            rintro e w3 ⟨rfl, hw⟩
            subst w3
            clear az
            go_wp2_with fail
            refine a1.mono ?_
            rintro e w3 ⟨rfl, hw⟩
            subst w3
            clear a1
            go_wp2_with fail
            refine cs.mono ?_
            rintro e w3 ⟨v1, rfl, hR1, hU3⟩
            have HR1 : Hid (SR w3 w2.heap.size v1 (sg Lb m)) := hR1
            have HU3 : Hid (Below w.heap.size w w3) := HU2.out.trans (hU3.1.mono HU2.out.size)
            have c4 := rmark_lk HLk.out.1 HLk.out.2 w3
            rw [HLb.out] at c4
            clear cs hR1 hU3
            go_wp2_with fail
            refine c4.mono ?_
            rintro e w4 ⟨g4, rfl, hg4, hL4, hU4⟩
            have HR2 : Hid (SR w4 w2.heap.size v1 (sg Lb m)) := HR1.out.stay hU4.1
            have HU4 : Hid (Below w.heap.size w w4) := HU3.out.trans (hU4.1.mono HU3.out.size)
            have c5 := rsegs_any hL4 hm9
            clear c4 hg4 hL4 hU4
            go_wp2_with fail
            refine c5.mono ?_
            rintro e w5 ⟨v2, rfl, hR5, hU5⟩
            have c6 := same_any (HR2.out.stay hU5.1) hR5 (by have := sg_len Lb m; omega)
            have HU5 : Hid (Below w.heap.size w w5) := HU4.out.trans (hU5.1.mono HU4.out.size)
            clear c5 hR5 hU5
            go_wp2_with fail
            refine c6.mono ?_
            rintro e w6 ⟨rfl, hU6⟩
            have HU6 : Hid (Below w.heap.size w w6) := HU5.out.trans (hU6.1.mono HU5.out.size)
            clear c6 hU6
            go_wp2
            go_ret
            exact ⟨rfl, HU6.out⟩
        | false =>
          have q2 : ¬ 9223372036854775807 < S.size + 2 := by omega
          obtain ⟨F, hF⟩ : ∃ F : ByteArray, S ++ ⟨#[32, 121]⟩ = F := ⟨_, rfl⟩
          have hFs : F = strOfNums (lkT N I []) := by
            rw [← hF, HSI.out, show lkT N I [] = ([91, 120, 93, 40] ++ (lkO N ++ (I ++ lkC N))) ++ ([] ++ [32, 121]) by simp [lkT], nums_app ([91, 120, 93, 40] ++ (lkO N ++ (I ++ lkC N)))]
            rfl
          have hlen := lkT_len N I []
          have hLk := lkT_lk (Z := []) hN40 hI2 hI9 (Or.inl rfl)
          have hsh := lkT_no hN40 hI2
          have hFl : S.size + 2 = (lkT N I []).length := by have h9 := congrArg ByteArray.size hF; rw [hFs, strOfNums_size] at h9; rw [← h9]; simp [ByteArray.size_append]; rfl
          have hby : Byt (lkT N I []) := fun a ha => by
            obtain ⟨k, hk, rfl⟩ := List.getElem_of_mem ha
            have := hLk.ch.1 k hk
            rwa [cL_in (List.getElem?_eq_getElem hk)] at this
          have h60 : ∀ a ∈ lkT N I [], a ≠ 60 := fun a ha => by
            obtain ⟨k, hk, rfl⟩ := List.getElem_of_mem ha
            rcases Nat.lt_trichotomy k 2 with h2 | h2 | h2
            · have := (pxB_ne (hLk.px k hk (by omega))).1
              rwa [cL_in (List.getElem?_eq_getElem hk)] at this
            · subst h2
              have := hLk.c2
              rw [cL_in (List.getElem?_eq_getElem hk)] at this
              rw [this]; decide
            · have := (pxB_ne (hLk.px k hk (by omega))).1
              rwa [cL_in (List.getElem?_eq_getElem hk)] at this
          have hSC : SC F (cL (lkT N I [])) (lkT N I []).length := by
            have := sc_nums hLk.ch
            rwa [cl_cL, ← hFs] at this
          have hlab := hLk.lab
          obtain ⟨m, hm⟩ : ∃ m, (lkT N I []).length = m := ⟨_, rfl⟩
          obtain ⟨c, hc⟩ : ∃ c, cL (lkT N I []) = c := ⟨_, rfl⟩
          have hFm : F.size = m := by rw [hFs, strOfNums_size, hm]
          have hcv := Lib.run_convert_string_bytes (P := Tryz.prog) wr 9 22 5 F Tryz.underlying9 Tryz.underlying22 Tryz.underlying5
          have hgc := grownCap_ge wr m 0 5
          have hgm := grownCap_le_maxLen wr m 0 5 (by have := hLk.nb; unfold maxLen; omega)
          have hbc := conv_cl (w := wr) hby
          have hbw := conv_below wr F
          rw [hFm] at hcv
          rw [← hFs, hm, hc] at hbc
          rw [hm, hc] at hLk hSC hlab hsh
          rw [hm] at hFl hlen
          generalize Lib.bytesWorld wr 5 F = V at hcv hbc hbw
          generalize grownCap wr m 0 5 = gc at hcv hgc hgm
          have hUV : Up w.heap.size w V := HU.out.stay hbw
          have hm5 := hLk.n5
          have hmb := hLk.nb
          have cx := mlex_any (cap := gc) hLk.ch hbc (by omega) (by omega) hgc (by omega) (HH.out.1.stay hUV.1) (fun e _ => by rw [← hc]; exact an_list h60 e)
          unfold MlP at cx
          rw [hlab, hsh] at cx
          have HUV : Hid (Up w.heap.size w V) := hUV
          have HLk : Hid (SC F c m ∧ Lk c m) := ⟨hSC, hLk⟩
          have HSh : Hid (shP c m 4 1 = none) := hsh
          obtain ⟨O, hO⟩ : ∃ O : Option Nat, none = O := ⟨_, rfl⟩
          rw [show lkL none = lkL O from congrArg lkL hO] at cx
          have HO : Hid (shP c m 4 1 = O) := by show _ = _; rw [← hO]; exact HSh.out
          have L1 : lkL O 1 = 1 := by
            rw [← hO]
            rfl
          have Lz : lkL O (m - 1) = 1 := by
            rw [← hO]
            rfl
          have L3 : (lkL O 3 == 2) = false := by rw [← hO]; rfl
          obtain ⟨Lb, hLb⟩ : ∃ Lb, lkL O = Lb := ⟨_, rfl⟩
          rw [hLb] at cx L1 Lz L3
          have HLb : Hid (lkL (shP c m 4 1) = Lb) := by show _ = _; rw [HO.out]; exact hLb
          obtain ⟨y3, hy3⟩ : ∃ y3, Lb 3 = y3 := ⟨_, rfl⟩
          rw [hy3] at L3
          have hS1 : ((m - 1 : Nat) : Int) = (S.size : Int) + 1 := by omega
          have hm9 : m ≤ 65536 := by omega
          clear hFs hlen hsh hFl hby h60 hSC hlab hc hgc hgm hbc hbw hUV hLk hO hLb HO HSh hm
          go_upto_region 21 with fail
          go_wp2_with fail
          refine cx.mono ?_
          rintro e w2 ⟨T, g, rfl, hT, hg, hSh, hU2⟩
          have HU2 : Hid (Below w.heap.size w w2) := HUV.out.1.trans (hU2.1.mono HUV.out.2)
          have HS : Hid (Sh w2 T g m Lb) := hSh
          have a3 := at_any hSh 3 (by omega)
          have a1 := at_any hSh 1 (by omega)
          have az := at_any hSh (m - 1) (by omega)
          rw [hy3] at a3
          rw [L1] at a1
          rw [Lz, hS1] at az
          rw [show ((3 : Nat) : Int) = 3 from rfl] at a3
          rw [show ((1 : Nat) : Int) = 1 from rfl] at a1
          have cs := segs_any hSh hm9
          clear cx hSh hU2 hT hg hcv hS1 L1 Lz hy3
          go_wp2_with fail
          refine a3.mono ?_
          rintro e w3 ⟨rfl, hw⟩
          subst w3
          clear a3
          go_wp2_with fail
          refine az.mono ?_
          rintro e w3 ⟨rfl, hw⟩
          subst w3
          clear az
          go_wp2_with fail
          refine a1.mono ?_
          rintro e w3 ⟨rfl, hw⟩
          subst w3
          clear a1
          go_wp2_with fail
          refine cs.mono ?_
          rintro e w3 ⟨v1, rfl, hR1, hU3⟩
          have HR1 : Hid (SR w3 w2.heap.size v1 (sg Lb m)) := hR1
          have HU3 : Hid (Below w.heap.size w w3) := HU2.out.trans (hU3.1.mono HU2.out.size)
          have c4 := rmark_lk HLk.out.1 HLk.out.2 w3
          rw [HLb.out] at c4
          clear cs hR1 hU3
          go_wp2_with fail
          refine c4.mono ?_
          rintro e w4 ⟨g4, rfl, hg4, hL4, hU4⟩
          have HR2 : Hid (SR w4 w2.heap.size v1 (sg Lb m)) := HR1.out.stay hU4.1
          have HU4 : Hid (Below w.heap.size w w4) := HU3.out.trans (hU4.1.mono HU3.out.size)
          have c5 := rsegs_any hL4 hm9
          clear c4 hg4 hL4 hU4
          go_wp2_with fail
          refine c5.mono ?_
          rintro e w5 ⟨v2, rfl, hR5, hU5⟩
          have c6 := same_any (HR2.out.stay hU5.1) hR5 (by have := sg_len Lb m; omega)
          have HU5 : Hid (Below w.heap.size w w5) := HU4.out.trans (hU5.1.mono HU4.out.size)
          clear c5 hR5 hU5
          go_wp2_with fail
          refine c6.mono ?_
          rintro e w6 ⟨rfl, hU6⟩
          have HU6 : Hid (Below w.heap.size w w6) := HU5.out.trans (hU6.1.mono HU5.out.size)
          clear c6 hU6
          go_wp2
          go_ret
          exact ⟨rfl, HU6.out⟩
end Go.Proofs.YtodjfeheagnnpaaGreatDoor
