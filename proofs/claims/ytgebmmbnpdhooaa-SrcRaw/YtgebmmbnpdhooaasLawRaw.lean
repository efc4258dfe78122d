/- SrcRaw. -/
import Derived.Test.YtgebmmbnpdhooaasApp
namespace Go.Proofs.Ytgebmmbnpdhooaa
set_option linter.unusedVariables false
open Go.RowKit Go.ChangeShapes
theorem rawK_at : ∀ r, r < 3 → (#[(Value.int .u8 5), .int .u8 7, .int .u8 8] : Array Value)[r]? = some (.int .u8 (rawK r)) := fun r hr => by
  have h3 : r = 0 ∨ r = 1 ∨ r = 2 := by omega
  rcases h3 with rfl | rfl | rfl <;> rfl
theorem rawM_at : ∀ r, r < 3 → (#[(Value.int .u8 96), .int .u8 39, .int .u8 34] : Array Value)[r]? = some (.int .u8 (rawM r)) := fun r hr => by
  have h3 : r = 0 ∨ r = 1 ∨ r = 2 := by omega
  rcases h3 with rfl | rfl | rfl <;> rfl
theorem two_bc (w : World) (x y : Int) : BC (w.alloc (.cells #[.int .u8 x, .int .u8 y] 5)) (some ⟨w.heap.size, 0, none⟩) 2 (cL [x, y]) := fun i hi => by
  have := heap_alloc_new w (.cells #[.int .u8 x, .int .u8 y] 5)
  have h2 : i = 0 ∨ i = 1 := by omega
  rcases h2 with rfl | rfl
  · exact ⟨_, _, rfl, by simp only [World.cell?, this]; rfl⟩
  · exact ⟨_, _, rfl, by simp only [World.cell?, this]; rfl⟩
theorem cl_two (x y : Int) : cl (cL [x, y]) 2 = [x, y] := rfl
set_option maxRecDepth 100000 in
set_option maxHeartbeats 16000000 in
theorem raw_law {w : World} {a0 : Int} (ha0 : 0 ≤ a0 ∧ a0 < 256) {la : Option Addr} {ln lcap : Nat} {lc : Nat → Int} (hlC : Ch lc ln) (hl : BC w la ln lc) (a2 : Bool) :
    Calls Try.prog 6 #[.int .u8 a0, .slice la ln lcap, .bool a2] w fun ev w' => ev = .returned (.bool true) ∧ Below w.heap.size w w' := by
  have ca := awake_any w
  have HH : Hid (Ch lc ln ∧ BC w la ln lc) := ⟨hlC, hl⟩
  obtain ⟨X0, hX0⟩ : ∃ X : Nat, a0 = (X : Int) := ⟨a0.toNat, by omega⟩
  subst hX0
  clear hlC hl ha0
  go_enter Try.func6, Try.ntmps6
  go_wp2_with fail
  refine ca.mono ?_
  rintro e w1 ⟨rfl, hb1⟩
  have HU1 : Hid (Up w.heap.size w w1) := ⟨hb1, hb1.size⟩
  clear ca hb1
  by_cases h5 : 500 < ln
  · have z0 : (500 : Int) < (ln : Int) := by omega
    go_wp2
    go_ret
    exact ⟨rfl, HU1.out.1⟩
  have z0 : ¬ (500 : Int) < (ln : Int) := by omega
  obtain ⟨r, hr⟩ : ∃ r, X0 % 3 = r := ⟨_, rfl⟩
  have hr3 : r < 3 := by rw [← hr]; exact Nat.mod_lt _ (by decide)
  have hmd : Int.tmod (X0 : Int) 3 = (r : Int) := by rw [← hr]; exact nat_mod X0 3
  have z5 : (0 : Int) ≤ (r : Int) := by omega
  have z6 : (r : Int) < 3 := by omega
  obtain ⟨hm, hm32, hk⟩ := rawM_ok hr3
  obtain ⟨W1, hW1⟩ : ∃ W, w1.alloc (.cells #[.int .u8 5, .int .u8 7, .int .u8 8] 28) = W := ⟨_, rfl⟩
  have y1 : W1.cell? ⟨w1.heap.size, r, none⟩ = some (.int .u8 (rawK r)) := by
    rw [← hW1]
    have := heap_alloc_new w1 (.cells #[.int .u8 5, .int .u8 7, .int .u8 8] 28)
    simp only [World.cell?, this]
    exact rawK_at r hr3
  have hcA := fun (w' : World) => Go.Lib.run_convert_bytes_const (P := Try.prog) w' 22 5 #[.int .u8 96, .int .u8 39, .int .u8 34] 3 3 Try.underlying22 Try.underlying5
  obtain ⟨W2, hW2⟩ : ∃ W, W1.alloc (.cells #[.int .u8 96, .int .u8 39, .int .u8 34] 5 (3, 4)) = W := ⟨_, rfl⟩
  have y2 : W2.cell? ⟨W1.heap.size, r, none⟩ = some (.int .u8 (rawM r)) := by
    rw [← hW2]
    have := heap_alloc_new W1 (.cells #[.int .u8 96, .int .u8 39, .int .u8 34] 5 (3, 4))
    simp only [World.cell?, this]
    exact rawM_at r hr3
  have HR : Hid (∃ rr, rr < 3 ∧ rawK rr = rawK r ∧ rawM rr = rawM r ∧ (0 ≤ rawM r ∧ rawM r < 256) ∧ (4 ≤ rawK r ∧ rawK r ≤ 8)) := ⟨r, hr3, rfl, rfl, hm, hk⟩
  obtain ⟨kf, hkf⟩ : ∃ x, rawK r = x := ⟨_, rfl⟩
  obtain ⟨mk, hmk⟩ : ∃ x, rawM r = x := ⟨_, rfl⟩
  rw [hkf] at y1 HR
  rw [hmk] at y2 HR
  obtain ⟨W3, hW3⟩ : ∃ W, W2.alloc (.cells #[.int .u8 120, .int .u8 32, .int .u8 mk] 5) = W := ⟨_, rfl⟩
  have HU2 : Hid (Up w.heap.size w W2) := by
    rw [← hW2, ← hW1]
    exact (HU1.out.alloc _).alloc _
  have HO0 : Hid (OB W3 w.heap.size (.slice (some ⟨W2.heap.size, 0, none⟩) 3 3) ([120, 32, mk] ++ [])) := by
    rw [← hW3]
    exact ob_lit W2 w.heap.size HU2.out.2 [120, 32, mk] (by show 3 ≤ 1000; omega) rfl
  have HU3 : Hid (Up w.heap.size w W3) := by
    rw [← hW3]
    exact HU2.out.alloc _
  clear hr hr3 hm hm32 hk hkf hmk
  go_wp2
  clear hW1 hW2 hW3 y1 y2 hcA hmd z5 z6
  go_loopg [9, 37] ln (fun q bv iv wr => ∃ (i : Nat) (bd : Option Addr) (bn bc : Nat), i ≤ ln ∧ q = ln - i ∧ iv = .int .i64 i ∧ bv = .slice bd bn bc ∧ bn ≤ i + 3 ∧ Hid (∃ T, ([120, 32, mk] ++ T).length = bn ∧ OB wr w.heap.size (.slice bd bn bc) ([120, 32, mk] ++ T) ∧ Byt T ∧ ∀ y ∈ T, y ≠ mk) ∧ Hid (Up w.heap.size w wr))
  case atStart => exact ⟨0, _, 3, 3, Nat.zero_le _, rfl, rfl, rfl, by omega, ⟨[], rfl, HO0.out, fun x hx => (by cases hx), fun x hx => (by cases hx)⟩, HU3⟩
  case round =>
    obtain ⟨i, bd, bn, bc, hi, hq, rfl, rfl, hbn, HL, HU⟩ := hrel
    obtain ⟨T, hl1, hl2, hl3⟩ := HL.out
    have HO : Hid (OB wr w.heap.size (.slice bd bn bc) ([120, 32, mk] ++ T) ∧ ([120, 32, mk] ++ T).length = bn ∧ Byt T ∧ ∀ y ∈ T, y ≠ mk) := ⟨hl2, hl1, hl3⟩
    have hu := HU.out.2
    clear hl1 hl2 hl3 HL
    by_cases hlt : i < ln
    · have z1 : (i : Int) < (ln : Int) := by omega
      have z2 : (0 : Int) ≤ (i : Int) := by omega
      obtain ⟨b, off, rfl, hc⟩ := HH.out.2 i hlt
      have hcw := cell_stay hc HU.out.1
      have hci := HH.out.1.1 i hlt
      obtain ⟨x, hx⟩ : ∃ x, lc i = x := ⟨_, rfl⟩
      rw [hx] at hcw hci
      clear hc hx
      by_cases h1 : x = mk
      · have k1 : (x != mk) = false := by simpa using h1
        clear h1
        go_wp2
        go_roundg (ln - (i + 1))
        case measure => omega
        case rel => exact ⟨i + 1, bd, bn, bc, by omega, rfl, by go_num, rfl, by omega, ⟨T, HO.out.2.1, HO.out.1, HO.out.2.2⟩, HU⟩
      · have k1 : (x != mk) = true := by simpa using h1
        have HE : Hid (Byt (T ++ [x]) ∧ ∀ y ∈ T ++ [x], y ≠ mk) := ⟨byt_app HO.out.2.2.1 (byt1 x hci), fun y hy => by
          rcases List.mem_append.1 hy with h2 | h2
          · exact HO.out.2.2.2 y h2
          · rw [List.mem_singleton] at h2; subst h2; exact h1⟩
        obtain ⟨l, hl⟩ : ∃ l, [120, 32, mk] ++ T = l := ⟨_, rfl⟩
        rw [hl] at HO
        have HLL : Hid ([120, 32, mk] ++ T = l) := hl
        clear h1 hl
        go_wp2_with (at_builtin; refine app_ob rfl _ _ rfl w.heap.size _ l rfl (HO.out.1.stay (below_alloc wr _)) (some ⟨wr.heap.size, 0, none⟩) 1 1 (cL [x]) rfl (one_bc wr x) (by rw [HO.out.2.1]; omega) (by simp; omega) ?_)
        intro v1 w2 ho1 hg1
        rw [cl_one] at ho1
        obtain ⟨bd1, bc1, rfl, -⟩ := ho1.form
        have HO1 : Hid (OB w2 w.heap.size (.slice bd1 (l ++ [x]).length bc1) (l ++ [x])) := ho1
        have HU2 : Hid (Up w.heap.size w w2) := (HU.out.alloc _).grown hg1 (own_base HO.out.1)
        obtain ⟨n1, hn1⟩ : ∃ n1, (l ++ [x]).length = n1 := ⟨_, rfl⟩
        have HN1 : Hid ((l ++ [x]).length = n1) := hn1
        have hn1b : n1 ≤ i + 1 + 3 := by rw [← hn1, List.length_append, HO.out.2.1]; simp; omega
        rw [hn1] at HO1 ⊢
        clear ho1 hg1 hn1
        go_wp2
        go_roundg (ln - (i + 1))
        case measure => omega
        case rel => exact ⟨i + 1, bd1, n1, bc1, by omega, rfl, by go_num, rfl, hn1b, ⟨T ++ [x], by rw [← List.append_assoc, HLL.out]; exact HN1.out, by rw [← List.append_assoc, HLL.out]; exact HO1.out, HE.out⟩, HU2⟩
    · have z1 : ¬ (i : Int) < (ln : Int) := by omega
      have hb5 : bn ≤ 503 := by omega
      have hT3 : 3 + T.length = bn := by have := HO.out.2.1; simp at this; omega
      clear hi hq hbn
      cases a2 with
      | false =>
        have ho1 : OB wr w.heap.size (.slice bd bn bc) ([120, 32, mk] ++ T ++ []) := by rw [List.append_nil]; exact HO.out.1
        have HU2 := HU
        obtain ⟨B, hB⟩ : ∃ B, ([120, 32, mk] ++ T ++ (if false = true then [mk, 32] else [])) = B := ⟨_, rfl⟩
        have ho2 : OB wr w.heap.size (.slice bd bn bc) B := by rw [← hB]; exact ho1
        obtain ⟨ad, cap, hv, hc1, hc2⟩ := ob_form ho2
        injection hv with hv1 hv2 hv3
        rw [← hv3] at hc1 hc2
        have hn : B.length = bn := hv2.symm
        clear hv1 hv2 hv3
        have hnb : bn ≤ 600 := by rw [← hn, ← hB]; simp; omega
        have hby : Byt B := by
          obtain ⟨rr, h1, h2, h3, h4, h5⟩ := HR.out
          rw [← hB]
          refine byt_app (byt_app (fun y hy => ?_) HO.out.2.2.1) (fun y hy => ?_)
          · simp only [List.mem_cons, List.not_mem_nil, or_false] at hy
            rcases hy with rfl | rfl | rfl
            · decide
            · decide
            · exact h4
          · cases hy
        have HLab : Hid (∀ j, j < bn → lxA (fam kf) (cL B) bn j = if 3 ≤ j ∧ j < bn then 7 else 4) := fun j hj => by
          obtain ⟨rr, h1, h2, h3, h4, h5⟩ := HR.out
          have := raw_lab (r := rr) h1 (T := T) HO.out.2.2.1 (fun y hy => by rw [h3]; exact HO.out.2.2.2 y hy) false j
          rw [h3, h2, hB, hn, hT3] at this
          exact this hj
        rw [hn] at hc1
        have cx := lex_any (c := cL B) (n := bn) (cap := bc) (w := wr) (by rw [← hn]; exact cL_ch hby) (by rw [← hn]; exact OB.bc (by rw [hn]; exact ho2)) (by omega) hc1 hc2 (f := kf) (by obtain ⟨rr, h1, h2, h3, h4, h5⟩ := HR.out; exact h5)
        clear ho1 ho2 hB hn hby hc1 hc2
        go_wp2_with fail
        refine cx.mono ?_
        rintro ev w3 ⟨T1, g1, rfl, hT1, hg1, hS1, hU1⟩
        have HS : Hid (Sh w3 T1 g1 bn (lxA (fam kf) (cL B) bn)) := hS1
        have HU3 : Hid (Below w.heap.size w w3) := HU2.out.1.trans (hU1.1.mono HU2.out.2)
        clear cx hT1 hg1 hS1 hU1
        go_wp2
        go_loopg [64] bn (fun q iv wx => ∃ i : Nat, i ≤ bn ∧ q = bn - i ∧ iv = .int .i64 i ∧ wx = w3)
        case atStart => exact ⟨0, Nat.zero_le _, rfl, by go_num, rfl⟩
        case round =>
          obtain ⟨j, hj, hq, rfl, rfl⟩ := hrel
          by_cases hjn : j < bn
          · have z3 : (j : Int) < (bn : Int) := by omega
            have cA := at_any HS.out j hjn
            rw [HLab.out j hjn] at cA
            by_cases h3 : 3 ≤ j
            · have z4 : (3 : Int) ≤ (j : Int) := by omega
              by_cases h4 : j < bn
              · have z7 : (j : Int) < (bn : Int) := by omega
                rw [if_pos ⟨h3, h4⟩] at cA
                clear h3 h4
                go_wp2_with fail
                refine cA.mono ?_
                rintro ev w4 ⟨rfl, hw⟩
                subst w4
                go_wp2
                go_roundg (bn - (j + 1))
                case measure => omega
                case rel => exact ⟨j + 1, by omega, rfl, by go_num, rfl⟩
              · exact absurd hjn h4
            · have z4 : ¬ (3 : Int) ≤ (j : Int) := by omega
              rw [if_neg (fun h => h3 h.1)] at cA
              clear h3
              go_wp2_with fail
              refine cA.mono ?_
              rintro ev w4 ⟨rfl, hw⟩
              subst w4
              go_wp2
              go_roundg (bn - (j + 1))
              case measure => omega
              case rel => exact ⟨j + 1, by omega, rfl, by go_num, rfl⟩
          · have z3 : ¬ (j : Int) < (bn : Int) := by omega
            go_wp2
            go_ret
            exact ⟨rfl, HU3.out⟩
      | true =>
        go_wp2_with (at_builtin; refine app_ob rfl _ _ rfl w.heap.size _ ([120, 32, mk] ++ T) rfl (HO.out.1.stay (below_alloc wr _)) (some ⟨wr.heap.size, 0, none⟩) 2 2 (cL [mk, 32]) rfl (two_bc wr mk 32) (by rw [HO.out.2.1]; omega) (by simp; omega) ?_)
        intro v1 w2 ho1 hg1
        rw [cl_two] at ho1
        have HU2 : Hid (Up w.heap.size w w2) := (HU.out.alloc _).grown hg1 (own_base HO.out.1)
        clear hg1
        obtain ⟨B, hB⟩ : ∃ B, ([120, 32, mk] ++ T ++ (if true = true then [mk, 32] else [])) = B := ⟨_, rfl⟩
        have ho2 : OB w2 w.heap.size v1 B := by rw [← hB]; exact ho1
        obtain ⟨ad, cap, hv, hc1, hc2⟩ := ob_form ho2
        subst hv
        obtain ⟨n, hn⟩ : ∃ n, B.length = n := ⟨_, rfl⟩
        have hnb : n ≤ 600 := by rw [← hn, ← hB]; simp; omega
        have hby : Byt B := by
          obtain ⟨rr, h1, h2, h3, h4, h5⟩ := HR.out
          rw [← hB]
          refine byt_app (byt_app (fun y hy => ?_) HO.out.2.2.1) (fun y hy => ?_)
          · simp only [List.mem_cons, List.not_mem_nil, or_false] at hy
            rcases hy with rfl | rfl | rfl
            · decide
            · decide
            · exact h4
          · simp only [if_true, List.mem_cons, List.not_mem_nil, or_false] at hy
            rcases hy with rfl | rfl
            · exact h4
            · decide
        have HLab : Hid (∀ j, j < n → lxA (fam kf) (cL B) n j = if 3 ≤ j ∧ j < bn then 7 else 4) := fun j hj => by
          obtain ⟨rr, h1, h2, h3, h4, h5⟩ := HR.out
          have := raw_lab (r := rr) h1 (T := T) HO.out.2.2.1 (fun y hy => by rw [h3]; exact HO.out.2.2.2 y hy) true j
          rw [h3, h2, hB, hn, hT3] at this
          exact this hj
        rw [hn] at hc1
        rw [hn] at ho2 ⊢
        have cx := lex_any (c := cL B) (n := n) (cap := cap) (w := w2) (by rw [← hn]; exact cL_ch hby) (by rw [← hn]; exact OB.bc (by rw [hn]; exact ho2)) (by omega) hc1 hc2 (f := kf) (by obtain ⟨rr, h1, h2, h3, h4, h5⟩ := HR.out; exact h5)
        clear ho1 ho2 hB hn hby hc1 hc2
        go_wp2_with fail
        refine cx.mono ?_
        rintro ev w3 ⟨T1, g1, rfl, hT1, hg1, hS1, hU1⟩
        have HS : Hid (Sh w3 T1 g1 n (lxA (fam kf) (cL B) n)) := hS1
        have HU3 : Hid (Below w.heap.size w w3) := HU2.out.1.trans (hU1.1.mono HU2.out.2)
        clear cx hT1 hg1 hS1 hU1
        go_wp2
        go_loopg [64] n (fun q iv wx => ∃ i : Nat, i ≤ n ∧ q = n - i ∧ iv = .int .i64 i ∧ wx = w3)
        case atStart => exact ⟨0, Nat.zero_le _, rfl, by go_num, rfl⟩
        case round =>
          obtain ⟨j, hj, hq, rfl, rfl⟩ := hrel
          by_cases hjn : j < n
          · have z3 : (j : Int) < (n : Int) := by omega
            have cA := at_any HS.out j hjn
            rw [HLab.out j hjn] at cA
            by_cases h3 : 3 ≤ j
            · have z4 : (3 : Int) ≤ (j : Int) := by omega
              by_cases h4 : j < bn
              · have z7 : (j : Int) < (bn : Int) := by omega
                rw [if_pos ⟨h3, h4⟩] at cA
                clear h3 h4
                go_wp2_with fail
                refine cA.mono ?_
                rintro ev w4 ⟨rfl, hw⟩
                subst w4
                go_wp2
                go_roundg (n - (j + 1))
                case measure => omega
                case rel => exact ⟨j + 1, by omega, rfl, by go_num, rfl⟩
              · have z7 : ¬ (j : Int) < (bn : Int) := by omega
                rw [if_neg (fun h => h4 h.2)] at cA
                clear h3 h4
                go_wp2_with fail
                refine cA.mono ?_
                rintro ev w4 ⟨rfl, hw⟩
                subst w4
                go_wp2
                go_roundg (n - (j + 1))
                case measure => omega
                case rel => exact ⟨j + 1, by omega, rfl, by go_num, rfl⟩
            · have z4 : ¬ (3 : Int) ≤ (j : Int) := by omega
              rw [if_neg (fun h => h3 h.1)] at cA
              clear h3
              go_wp2_with fail
              refine cA.mono ?_
              rintro ev w4 ⟨rfl, hw⟩
              subst w4
              go_wp2
              go_roundg (n - (j + 1))
              case measure => omega
              case rel => exact ⟨j + 1, by omega, rfl, by go_num, rfl⟩
          · have z3 : ¬ (j : Int) < (n : Int) := by omega
            go_wp2
            go_ret
            exact ⟨rfl, HU3.out⟩
end Go.Proofs.Ytgebmmbnpdhooaa
