/- SrcNests. -/
import Derived.Test.YtgebmmbnpdhooaasLawN
import Derived.Test.YtgebmmbnpdhooaasLwK
namespace Go.Proofs.Ytgebmmbnpdhooaa
set_option linter.unusedVariables false
open Go.RowKit Go.ChangeShapes
theorem nstK_at : ∀ r : Nat, r < 3 → ∃ kf : Int, (#[(Value.int .u8 8), .int .u8 4, .int .u8 5] : Array Value)[r]? = some (.int .u8 kf) ∧ (kf = 4 ∨ kf = 5 ∨ kf = 8) := fun r hr => by
  have h3 : r = 0 ∨ r = 1 ∨ r = 2 := by omega
  rcases h3 with rfl | rfl | rfl
  · exact ⟨8, rfl, by omega⟩
  · exact ⟨4, rfl, by omega⟩
  · exact ⟨5, rfl, by omega⟩
set_option maxRecDepth 100000 in
set_option maxHeartbeats 8000000 in
theorem nests_law {w : World} {a0 a1 : Int} (ha0 : 0 ≤ a0 ∧ a0 < 256) (ha1 : 0 ≤ a1 ∧ a1 < 256) (a2 : Bool) :
    Calls Try.prog 4 #[.int .u8 a0, .int .u8 a1, .bool a2] w fun ev w' => ev = .returned (.bool true) ∧ Below w.heap.size w w' := by
  have ca := awake_any w
  obtain ⟨X0, hX0⟩ : ∃ X : Nat, a0 = (X : Int) := ⟨a0.toNat, by omega⟩
  obtain ⟨X1, hX1⟩ : ∃ X : Nat, a1 = (X : Int) := ⟨a1.toNat, by omega⟩
  subst hX0 hX1
  obtain ⟨r, hr⟩ : ∃ r, X0 % 3 = r := ⟨_, rfl⟩
  have hr3 : r < 3 := by rw [← hr]; exact Nat.mod_lt _ (by decide)
  have hmd : Int.tmod (X0 : Int) 3 = (r : Int) := by rw [← hr]; exact nat_mod X0 3
  obtain ⟨d, hd⟩ : ∃ d, X1 % 40 = d := ⟨_, rfl⟩
  have hd40 : d < 40 := by rw [← hd]; exact Nat.mod_lt _ (by decide)
  have hmd1 : Int.tmod (X1 : Int) 40 = (d : Int) := by rw [← hd]; exact nat_mod X1 40
  obtain ⟨kf, hkf, hkv⟩ := nstK_at r hr3
  have HK : Hid (kf = 4 ∨ kf = 5 ∨ kf = 8) := hkv
  have z5 : (0 : Int) ≤ (r : Int) := by omega
  have z6 : (r : Int) < 3 := by omega
  have z7 : (0 : Int) ≤ (d : Int) := by omega
  have z8 : (d : Int) < 40 := by omega
  clear ha0 ha1 hr hd hkv
  obtain ⟨m, hm⟩ : ∃ m : Nat, (1 : Int) + (d : Int) = (m : Int) := ⟨d + 1, by omega⟩
  have hm0 : 0 < m ∧ m ≤ 40 := by omega
  go_enter Try.func4, Try.ntmps4
  go_wp2_with fail
  refine ca.mono ?_
  rintro e w1 ⟨rfl, hb1⟩
  have HU1 : Hid (Up w.heap.size w w1) := ⟨hb1, hb1.size⟩
  clear ca hb1
  obtain ⟨W, hW⟩ : ∃ W, w1.alloc (.cells #[.int .u8 8, .int .u8 4, .int .u8 5] 28) = W := ⟨_, rfl⟩
  have y1 : W.cell? ⟨w1.heap.size, r, none⟩ = some (.int .u8 kf) := by
    rw [← hW]
    have := heap_alloc_new w1 (.cells #[.int .u8 8, .int .u8 4, .int .u8 5] 28)
    simp only [World.cell?, this]
    exact hkf
  have HUW : Hid (Up w.heap.size w W) := by
    rw [← hW]
    exact HU1.out.alloc _
  clear hkf
  cases a2 with
  | true =>
    go_wp2
    clear y1 hW hm hmd1 z7 z8
    go_loopg [9, 27] m (fun g sv iv wr => ∃ (i : Nat) (S : ByteArray), i ≤ m ∧ g = m - i ∧ iv = .int .i64 i ∧ sv = .string S ∧ S.size ≤ 5 * i ∧ Hid (S = strOfNums (rep i tO)) ∧ wr = W)
    case atStart => exact ⟨0, _, Nat.zero_le _, rfl, rfl, rfl, Nat.le_refl _, rfl, rfl⟩
    case round =>
      obtain ⟨i, S, hi, hg, rfl, rfl, hS, HS, hwr⟩ := hrel
      subst wr
      by_cases hlt : i < m
      · have z1 : (i : Int) < (m : Int) := by omega
        have q1 : ¬ 9223372036854775807 < S.size + 5 := by omega
        have HS2 : Hid (S ++ ⟨#[47, 42, 32, 97, 32]⟩ = strOfNums (rep (i + 1) tO)) := by show _ = _; rw [rep_snoc, nums_app, ← HS.out]; rfl
        have hsz : (S ++ ⟨#[47, 42, 32, 97, 32]⟩ : ByteArray).size ≤ 5 * (i + 1) := by rw [ByteArray.size_append]; show S.size + 5 ≤ _; omega
        clear HS
        go_wp2
        go_roundg (m - (i + 1))
        case measure => omega
        case rel => exact ⟨i + 1, S ++ ⟨#[47, 42, 32, 97, 32]⟩, by omega, rfl, by go_num, rfl, hsz, HS2, rfl⟩
      · have z1 : ¬ (i : Int) < (m : Int) := by omega
        obtain rfl : i = m := by omega
        clear hg hi
        go_wp2
        go_loopg [9, 33] i (fun g sv iv wr => ∃ (k : Nat) (S2 : ByteArray), k ≤ i ∧ g = i - k ∧ iv = .int .i64 k ∧ sv = .string S2 ∧ S2.size ≤ 5 * i + 3 * k ∧ Hid (S2 = strOfNums (rep i tO ++ rep k tS)) ∧ wr = W)
        case atStart => exact ⟨0, S, Nat.zero_le _, rfl, rfl, rfl, by omega, by show _ = _; rw [HS.out]; simp [rep], rfl⟩
        case round =>
          obtain ⟨k, S2, hk, hg, rfl, rfl, hS2, HS2, hwr⟩ := hrel
          subst wr
          by_cases hkl : k < i
          · have z2 : (k : Int) < (i : Int) := by omega
            have q2 : ¬ 9223372036854775807 < S2.size + 3 := by omega
            have HS3 : Hid (S2 ++ ⟨#[42, 47, 32]⟩ = strOfNums (rep i tO ++ rep (k + 1) tS)) := by show _ = _; rw [rep_snoc, ← List.append_assoc, nums_app _ tS, ← HS2.out]; rfl
            have hsz : (S2 ++ ⟨#[42, 47, 32]⟩ : ByteArray).size ≤ 5 * i + 3 * (k + 1) := by rw [ByteArray.size_append]; show S2.size + 3 ≤ _; omega
            clear HS2
            go_wp2
            go_roundg (i - (k + 1))
            case measure => omega
            case rel => exact ⟨k + 1, S2 ++ ⟨#[42, 47, 32]⟩, by omega, rfl, by go_num, rfl, hsz, HS3, rfl⟩
          · have z2 : ¬ (k : Int) < (i : Int) := by omega
            obtain rfl : k = i := by omega
            have hshI : (if true = true then k else 0) = k := rfl
            obtain ⟨bn, hbn⟩ : ∃ bn, S2.size = bn := ⟨_, rfl⟩
            have hbe : bn = 5 * k + 3 * k := by rw [← hbn, HS2.out, strOfNums_size, List.length_append, rep_len, rep_len]; show k * 5 + k * 3 = _; omega
            obtain ⟨S3, hS3⟩ : ∃ S3, (S2 ++ ⟨#[32, 120]⟩ : ByteArray) = S3 := ⟨_, rfl⟩
            have e2 : strOfNums (neB k k) = S3 := by rw [← hS3, HS2.out, show neB k k = (rep k tO ++ rep k tS) ++ [32, 120] by simp [neB], nums_app]; rfl
            obtain ⟨N, hN⟩ : ∃ N, bn + 2 = N := ⟨_, rfl⟩
            obtain ⟨P, hP⟩ : ∃ P, bn + 1 = P := ⟨_, rfl⟩
            have hBn : (neB k k).length = N := by rw [neB_len]; omega
            have hkk : 4 ≤ kf ∧ kf ≤ 8 := by have := HK.out; omega
            obtain ⟨V, gc, hcv, hbw, cx⟩ := str_lex (wr := W) (neB_byt k k) (by omega) e2 hBn hkk
            have hlab := nest_lab HK.out k (by omega) true
            rw [hshI] at hlab
            rw [show 5 * k + 3 * k + 2 = N by omega, show 5 * k + 3 * k + 1 = P by omega] at hlab
            obtain ⟨F, hF⟩ : ∃ F, lxA (fam kf) (cL (neB k k)) N = F := ⟨_, rfl⟩
            unfold LxP at cx
            rw [hF] at cx hlab
            have HUV : Hid (Up w.heap.size w V) := HUW.out.stay hbw
            have y2 : (bn : Int) + 1 = (P : Int) := by omega
            have q3 : ¬ 9223372036854775807 < bn + 2 := by omega
            have HLb : Hid (F P = _ ∧ F 0 = 3 ∧ F 3 = 1) := hlab
            have HN : Hid (P < N ∧ 0 < N ∧ 3 < N) := ⟨by omega, by omega, by omega⟩
            clear hlab hF hBn e2 hbe hshI hbw HS2 hN hP hkk hg hk hS2
            rcases (show (kf = 8 ∧ 32 < k) ∨ (kf = 8 ∧ ¬ 32 < k) ∨ (¬ kf = 8) by omega) with ⟨c8, h32⟩ | ⟨c8, h32⟩ | c8
            · have hlb : F P = 6 := HLb.out.1.trans (if_pos ⟨c8, h32⟩)
              have k8 : (kf == 8) = true := by simpa using c8
              have k32 : (32 : Int) < (k : Int) := by omega
              clear c8 h32
              go_wp2_with fail
              refine cx.mono ?_
              rintro e w3 ⟨T1, g1, rfl, hT1, hg1, hS1, hU1⟩
              have HU3 : Hid (Below w.heap.size w w3) := HUV.out.1.trans (hU1.1.mono HUV.out.2)
              have cA := at_any hS1 P HN.out.1
              have cB := at_any hS1 0 HN.out.2.1
              have cC : Calls Try.prog 17 #[.pointer (some ⟨T1, 0, none⟩), .int .i64 3] w3 _ := at_any hS1 3 HN.out.2.2
              rw [hlb] at cA
              rw [HLb.out.2.1] at cB
              rw [HLb.out.2.2] at cC
              clear cx hcv hT1 hg1 hS1 hU1 hlb
              go_wp2_with fail
              refine cA.mono ?_
              rintro ev w4 ⟨rfl, hw⟩
              subst w4
              go_wp2_with fail
              refine cB.mono ?_
              rintro ev w4 ⟨rfl, hw⟩
              subst w4
              go_wp2_with fail
              refine cC.mono ?_
              rintro ev w4 ⟨rfl, hw⟩
              subst w4
              go_wp2
              go_ret
              exact ⟨rfl, HU3.out⟩
            · have hlb : F P = 4 := HLb.out.1.trans ((if_neg (fun h => h32 h.2)).trans rfl)
              have k8 : (kf == 8) = true := by simpa using c8
              have k32 : ¬ (32 : Int) < (k : Int) := by omega
              clear c8 h32
              go_wp2_with fail
              refine cx.mono ?_
              rintro e w3 ⟨T1, g1, rfl, hT1, hg1, hS1, hU1⟩
              have HU3 : Hid (Below w.heap.size w w3) := HUV.out.1.trans (hU1.1.mono HUV.out.2)
              have cA := at_any hS1 P HN.out.1
              have cB := at_any hS1 0 HN.out.2.1
              have cC : Calls Try.prog 17 #[.pointer (some ⟨T1, 0, none⟩), .int .i64 3] w3 _ := at_any hS1 3 HN.out.2.2
              rw [hlb] at cA
              rw [HLb.out.2.1] at cB
              rw [HLb.out.2.2] at cC
              clear cx hcv hT1 hg1 hS1 hU1 hlb
              go_wp2_with fail
              refine cA.mono ?_
              rintro ev w4 ⟨rfl, hw⟩
              subst w4
              go_wp2_with fail
              refine cB.mono ?_
              rintro ev w4 ⟨rfl, hw⟩
              subst w4
              go_wp2_with fail
              refine cC.mono ?_
              rintro ev w4 ⟨rfl, hw⟩
              subst w4
              go_wp2
              go_ret
              exact ⟨rfl, HU3.out⟩
            · have hlb : F P = 4 := HLb.out.1.trans ((if_neg (fun h => c8 h.1)).trans rfl)
              have k8 : (kf == 8) = false := by simpa using c8
              clear c8
              go_wp2_with fail
              refine cx.mono ?_
              rintro e w3 ⟨T1, g1, rfl, hT1, hg1, hS1, hU1⟩
              have HU3 : Hid (Below w.heap.size w w3) := HUV.out.1.trans (hU1.1.mono HUV.out.2)
              have cA := at_any hS1 P HN.out.1
              have cB := at_any hS1 0 HN.out.2.1
              have cC : Calls Try.prog 17 #[.pointer (some ⟨T1, 0, none⟩), .int .i64 3] w3 _ := at_any hS1 3 HN.out.2.2
              rw [hlb] at cA
              rw [HLb.out.2.1] at cB
              rw [HLb.out.2.2] at cC
              clear cx hcv hT1 hg1 hS1 hU1 hlb
              go_wp2_with fail
              refine cA.mono ?_
              rintro ev w4 ⟨rfl, hw⟩
              subst w4
              go_wp2_with fail
              refine cB.mono ?_
              rintro ev w4 ⟨rfl, hw⟩
              subst w4
              go_wp2_with fail
              refine cC.mono ?_
              rintro ev w4 ⟨rfl, hw⟩
              subst w4
              go_wp2
              go_ret
              exact ⟨rfl, HU3.out⟩
  | false =>
    go_wp2
    clear y1 hW hm hmd1 z7 z8
    go_loopg [9, 27] m (fun g sv iv wr => ∃ (i : Nat) (S : ByteArray), i ≤ m ∧ g = m - i ∧ iv = .int .i64 i ∧ sv = .string S ∧ S.size ≤ 5 * i ∧ Hid (S = strOfNums (rep i tO)) ∧ wr = W)
    case atStart => exact ⟨0, _, Nat.zero_le _, rfl, rfl, rfl, Nat.le_refl _, rfl, rfl⟩
    case round =>
      obtain ⟨i, S, hi, hg, rfl, rfl, hS, HS, hwr⟩ := hrel
      subst wr
      by_cases hlt : i < m
      · have z1 : (i : Int) < (m : Int) := by omega
        have q1 : ¬ 9223372036854775807 < S.size + 5 := by omega
        have HS2 : Hid (S ++ ⟨#[47, 42, 32, 97, 32]⟩ = strOfNums (rep (i + 1) tO)) := by show _ = _; rw [rep_snoc, nums_app, ← HS.out]; rfl
        have hsz : (S ++ ⟨#[47, 42, 32, 97, 32]⟩ : ByteArray).size ≤ 5 * (i + 1) := by rw [ByteArray.size_append]; show S.size + 5 ≤ _; omega
        clear HS
        go_wp2
        go_roundg (m - (i + 1))
        case measure => omega
        case rel => exact ⟨i + 1, S ++ ⟨#[47, 42, 32, 97, 32]⟩, by omega, rfl, by go_num, rfl, hsz, HS2, rfl⟩
      · have z1 : ¬ (i : Int) < (m : Int) := by omega
        obtain rfl : i = m := by omega
        clear hg hi
        go_wp2
        go_loopg [9, 33] i (fun g sv iv wr => ∃ (k : Nat) (S2 : ByteArray), k ≤ i ∧ g = i - k ∧ iv = .int .i64 k ∧ sv = .string S2 ∧ S2.size ≤ 5 * i + 3 * k ∧ Hid (S2 = strOfNums (rep i tO ++ rep 0 tS)) ∧ wr = W)
        case atStart => exact ⟨0, S, Nat.zero_le _, rfl, rfl, rfl, by omega, by show _ = _; rw [HS.out]; simp [rep], rfl⟩
        case round =>
          obtain ⟨k, S2, hk, hg, rfl, rfl, hS2, HS2, hwr⟩ := hrel
          subst wr
          by_cases hkl : k < i
          · have z2 : (k : Int) < (i : Int) := by omega
            go_wp2
            go_roundg (i - (k + 1))
            case measure => omega
            case rel => exact ⟨k + 1, S2, by omega, rfl, by go_num, rfl, by omega, HS2, rfl⟩
          · have z2 : ¬ (k : Int) < (i : Int) := by omega
            obtain rfl : k = i := by omega
            have hshI : (if false = true then k else 0) = 0 := rfl
            obtain ⟨bn, hbn⟩ : ∃ bn, S2.size = bn := ⟨_, rfl⟩
            have hbe : bn = 5 * k + 3 * 0 := by rw [← hbn, HS2.out, strOfNums_size, List.length_append, rep_len, rep_len]; show k * 5 + 0 * 3 = _; omega
            obtain ⟨S3, hS3⟩ : ∃ S3, (S2 ++ ⟨#[32, 120]⟩ : ByteArray) = S3 := ⟨_, rfl⟩
            have e2 : strOfNums (neB k 0) = S3 := by rw [← hS3, HS2.out, show neB k 0 = (rep k tO ++ rep 0 tS) ++ [32, 120] by simp [neB], nums_app]; rfl
            obtain ⟨N, hN⟩ : ∃ N, bn + 2 = N := ⟨_, rfl⟩
            obtain ⟨P, hP⟩ : ∃ P, bn + 1 = P := ⟨_, rfl⟩
            have hBn : (neB k 0).length = N := by rw [neB_len]; omega
            have hkk : 4 ≤ kf ∧ kf ≤ 8 := by have := HK.out; omega
            obtain ⟨V, gc, hcv, hbw, cx⟩ := str_lex (wr := W) (neB_byt k 0) (by omega) e2 hBn hkk
            have hlab := nest_lab HK.out k (by omega) false
            rw [hshI] at hlab
            rw [show 5 * k + 3 * 0 + 2 = N by omega, show 5 * k + 3 * 0 + 1 = P by omega] at hlab
            obtain ⟨F, hF⟩ : ∃ F, lxA (fam kf) (cL (neB k 0)) N = F := ⟨_, rfl⟩
            unfold LxP at cx
            rw [hF] at cx hlab
            have HUV : Hid (Up w.heap.size w V) := HUW.out.stay hbw
            have y2 : (bn : Int) + 1 = (P : Int) := by omega
            have q3 : ¬ 9223372036854775807 < bn + 2 := by omega
            have HLb : Hid (F P = _ ∧ F 0 = 3 ∧ F 3 = 1) := hlab
            have HN : Hid (P < N ∧ 0 < N ∧ 3 < N) := ⟨by omega, by omega, by omega⟩
            clear hlab hF hBn e2 hbe hshI hbw HS2 hN hP hkk hg hk hS2
            rcases (show (kf = 8 ∧ 32 < k) ∨ (kf = 8 ∧ ¬ 32 < k) ∨ (¬ kf = 8) by omega) with ⟨c8, h32⟩ | ⟨c8, h32⟩ | c8
            · have hlb : F P = 6 := HLb.out.1.trans (if_pos ⟨c8, h32⟩)
              have k8 : (kf == 8) = true := by simpa using c8
              have k32 : (32 : Int) < (k : Int) := by omega
              clear c8 h32
              go_wp2_with fail
              refine cx.mono ?_
              rintro e w3 ⟨T1, g1, rfl, hT1, hg1, hS1, hU1⟩
              have HU3 : Hid (Below w.heap.size w w3) := HUV.out.1.trans (hU1.1.mono HUV.out.2)
              have cA := at_any hS1 P HN.out.1
              have cB := at_any hS1 0 HN.out.2.1
              have cC : Calls Try.prog 17 #[.pointer (some ⟨T1, 0, none⟩), .int .i64 3] w3 _ := at_any hS1 3 HN.out.2.2
              rw [hlb] at cA
              rw [HLb.out.2.1] at cB
              rw [HLb.out.2.2] at cC
              clear cx hcv hT1 hg1 hS1 hU1 hlb
              go_wp2_with fail
              refine cA.mono ?_
              rintro ev w4 ⟨rfl, hw⟩
              subst w4
              go_wp2_with fail
              refine cB.mono ?_
              rintro ev w4 ⟨rfl, hw⟩
              subst w4
              go_wp2_with fail
              refine cC.mono ?_
              rintro ev w4 ⟨rfl, hw⟩
              subst w4
              go_wp2
              go_ret
              exact ⟨rfl, HU3.out⟩
            · have hlb : F P = 1 := HLb.out.1.trans ((if_neg (fun h => h32 h.2)).trans rfl)
              have k8 : (kf == 8) = true := by simpa using c8
              have k32 : ¬ (32 : Int) < (k : Int) := by omega
              clear c8 h32
              go_wp2_with fail
              refine cx.mono ?_
              rintro e w3 ⟨T1, g1, rfl, hT1, hg1, hS1, hU1⟩
              have HU3 : Hid (Below w.heap.size w w3) := HUV.out.1.trans (hU1.1.mono HUV.out.2)
              have cA := at_any hS1 P HN.out.1
              have cB := at_any hS1 0 HN.out.2.1
              have cC : Calls Try.prog 17 #[.pointer (some ⟨T1, 0, none⟩), .int .i64 3] w3 _ := at_any hS1 3 HN.out.2.2
              rw [hlb] at cA
              rw [HLb.out.2.1] at cB
              rw [HLb.out.2.2] at cC
              clear cx hcv hT1 hg1 hS1 hU1 hlb
              go_wp2_with fail
              refine cA.mono ?_
              rintro ev w4 ⟨rfl, hw⟩
              subst w4
              go_wp2_with fail
              refine cB.mono ?_
              rintro ev w4 ⟨rfl, hw⟩
              subst w4
              go_wp2_with fail
              refine cC.mono ?_
              rintro ev w4 ⟨rfl, hw⟩
              subst w4
              go_wp2
              go_ret
              exact ⟨rfl, HU3.out⟩
            · have hlb : F P = 1 := HLb.out.1.trans ((if_neg (fun h => c8 h.1)).trans rfl)
              have k8 : (kf == 8) = false := by simpa using c8
              clear c8
              go_wp2_with fail
              refine cx.mono ?_
              rintro e w3 ⟨T1, g1, rfl, hT1, hg1, hS1, hU1⟩
              have HU3 : Hid (Below w.heap.size w w3) := HUV.out.1.trans (hU1.1.mono HUV.out.2)
              have cA := at_any hS1 P HN.out.1
              have cB := at_any hS1 0 HN.out.2.1
              have cC : Calls Try.prog 17 #[.pointer (some ⟨T1, 0, none⟩), .int .i64 3] w3 _ := at_any hS1 3 HN.out.2.2
              rw [hlb] at cA
              rw [HLb.out.2.1] at cB
              rw [HLb.out.2.2] at cC
              clear cx hcv hT1 hg1 hS1 hU1 hlb
              go_wp2_with fail
              refine cA.mono ?_
              rintro ev w4 ⟨rfl, hw⟩
              subst w4
              go_wp2_with fail
              refine cB.mono ?_
              rintro ev w4 ⟨rfl, hw⟩
              subst w4
              go_wp2_with fail
              refine cC.mono ?_
              rintro ev w4 ⟨rfl, hw⟩
              subst w4
              go_wp2
              go_ret
              exact ⟨rfl, HU3.out⟩
end Go.Proofs.Ytgebmmbnpdhooaa
