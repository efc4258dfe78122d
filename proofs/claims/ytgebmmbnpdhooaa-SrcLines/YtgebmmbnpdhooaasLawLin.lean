/- SrcLines. -/
import Derived.Test.YtgebmmbnpdhooaasOM
import Derived.Test.YtgebmmbnpdhooaasLawL
namespace Go.Proofs.Ytgebmmbnpdhooaa
set_option linter.unusedVariables false
open Go.RowKit Go.ChangeShapes
def mkR : List (List Int) := [[47, 47], [47, 47], [35], [35], [45, 45]]
theorem mkR_ok : ∀ r, r < 5 → mkR[r]? = some (lineM r) := by decide
theorem linK_at : ∀ r : Nat, r < 5 → (#[(Value.int .u8 4), .int .u8 5, .int .u8 6, .int .u8 7, .int .u8 8] : Array Value)[r]? = some (.int .u8 (4 + (r : Int))) := fun r hr => by
  have h5 : r = 0 ∨ r = 1 ∨ r = 2 ∨ r = 3 ∨ r = 4 := by omega
  rcases h5 with rfl | rfl | rfl | rfl | rfl <;> rfl
theorem cl_list {c : Nat → Int} {n : Nat} (h : Ch c n) : Byt (cl c n) := cl_byt h
set_option maxRecDepth 100000 in
set_option maxHeartbeats 16000000 in
theorem lines_law {w : World} {a0 : Int} (ha0 : 0 ≤ a0 ∧ a0 < 256) {la na : Option Addr} {ln lcap nn ncap : Nat} {lc nc : Nat → Int} (hlC : Ch lc ln) (hl : BC w la ln lc) (hnC : Ch nc nn) (hno : BC w na nn nc) (hnn : ncap ≤ maxLen) :
    Calls Try.prog 7 #[.int .u8 a0, .slice la ln lcap, .slice na nn ncap] w fun ev w' => ev = .returned (.bool true) ∧ Below w.heap.size w w' := by
  have ca := awake_any w
  have hml : maxLen ≤ 9223372036854775807 := by unfold maxLen; omega
  have HH : Hid (Ch lc ln ∧ BC w la ln lc ∧ Ch nc nn ∧ BC w na nn nc) := ⟨hlC, hl, hnC, hno⟩
  obtain ⟨X0, hX0⟩ : ∃ X : Nat, a0 = (X : Int) := ⟨a0.toNat, by omega⟩
  subst hX0
  clear hlC hl ha0 hnC hno
  go_enter Try.func7, Try.ntmps7
  go_wp2_with fail
  refine ca.mono ?_
  rintro e w1 ⟨rfl, hb1⟩
  have HU1 : Hid (Up w.heap.size w w1) := ⟨hb1, hb1.size⟩
  clear ca hb1
  by_cases h5 : 300 < ln
  · have z0 : (300 : Int) < (ln : Int) := by omega
    go_wp2
    go_ret
    exact ⟨rfl, HU1.out.1⟩
  have z0 : ¬ (300 : Int) < (ln : Int) := by omega
  by_cases h6 : 300 < nn
  · have z7 : (300 : Int) < (nn : Int) := by omega
    go_wp2
    go_ret
    exact ⟨rfl, HU1.out.1⟩
  have z7 : ¬ (300 : Int) < (nn : Int) := by omega
  obtain ⟨r, hr⟩ : ∃ r, X0 % 5 = r := ⟨_, rfl⟩
  have hr5 : r < 5 := by rw [← hr]; exact Nat.mod_lt _ (by decide)
  have hmd : Int.tmod (X0 : Int) 5 = (r : Int) := by rw [← hr]; exact nat_mod X0 5
  have z5 : (0 : Int) ≤ (r : Int) := by omega
  have z6 : (r : Int) < 5 := by omega
  obtain ⟨kf, hkf⟩ : ∃ x, 4 + (r : Int) = x := ⟨_, rfl⟩
  obtain ⟨Mk, hMk⟩ : ∃ Mk, strOfNums (lineM r) = Mk := ⟨_, rfl⟩
  obtain ⟨mz, hmz⟩ : ∃ mz, (lineM r).length = mz := ⟨_, rfl⟩
  have hli := line_is hr5
  have hMs : Mk.size = mz := by rw [← hMk, strOfNums_size, hmz]
  have hmz2 : 1 ≤ mz ∧ mz ≤ 2 := by omega
  obtain ⟨W1, hW1⟩ : ∃ W, w1.alloc (.cells #[.int .u8 4, .int .u8 5, .int .u8 6, .int .u8 7, .int .u8 8] 28) = W := ⟨_, rfl⟩
  have y1 : W1.cell? ⟨w1.heap.size, r, none⟩ = some (.int .u8 kf) := by
    rw [← hW1, ← hkf]
    have := heap_alloc_new w1 (.cells #[.int .u8 4, .int .u8 5, .int .u8 6, .int .u8 7, .int .u8 8] 28)
    simp only [World.cell?, this]
    exact linK_at r hr5
  obtain ⟨W2, hW2⟩ : ∃ W, W1.alloc (.cells #[.string ⟨#[47, 47]⟩, .string ⟨#[47, 47]⟩, .string ⟨#[35]⟩, .string ⟨#[35]⟩, .string ⟨#[45, 45]⟩] 9) = W := ⟨_, rfl⟩
  have hPS : PS W2 W1.heap.size mkR := by rw [← hW2]; exact lit_ps W1 mkR
  have y2 : W2.cell? ⟨W1.heap.size, r, none⟩ = some (.string Mk) := by rw [← hMk]; exact hPS r _ (mkR_ok r hr5)
  have HU2 : Hid (Up w.heap.size w W2) := by
    rw [← hW2, ← hW1]
    exact (HU1.out.alloc _).alloc _
  have hcv := Lib.run_convert_string_bytes (P := Try.prog) W2 9 22 5 Mk Try.underlying9 Try.underlying22 Try.underlying5
  have hom := om_conv W2 w.heap.size HU2.out.2 (lineM r) hli.2.1 (by omega)
  have hbw := conv_below W2 Mk
  rw [hMs] at hcv
  rw [hmz, hMk] at hom
  obtain ⟨W3, hW3⟩ : ∃ W, Lib.bytesWorld W2 5 Mk = W := ⟨_, rfl⟩
  obtain ⟨gc, hgc⟩ : ∃ gc, grownCap W2 mz 0 5 = gc := ⟨_, rfl⟩
  obtain ⟨G0, hG0⟩ : ∃ G0, W2.heap.size = G0 := ⟨_, rfl⟩
  rw [hW3] at hcv hom hbw
  rw [hgc] at hcv hom
  rw [hG0] at hcv hom
  have HU3 : Hid (Up w.heap.size w W3) := HU2.out.stay hbw
  have HO0 : Hid (OMg W3 w.heap.size G0 gc (lineM r ++ [])) := by rw [List.append_nil]; exact hom
  have HR : Hid (r < 5 ∧ 4 + (r : Int) = kf ∧ (lineM r).length = mz ∧ (4 ≤ kf ∧ kf ≤ 8) ∧ Byt (lineM r)) := ⟨hr5, hkf, hmz, by omega, hli.2.1⟩
  clear hr hr5 hkf hMk hmz hli hPS hom hbw hgc
  go_wp2
  clear hW1 hW2 hW3 y1 y2 hcv hmd z5 z6 hG0
  go_loopg [9, 43] ln (fun q bv iv wr => ∃ (i g bn bc : Nat), i ≤ ln ∧ q = ln - i ∧ iv = .int .i64 i ∧ bv = .slice (some ⟨g, 0, none⟩) bn bc ∧ bn ≤ i + mz ∧ 1 ≤ bn ∧ Hid (∃ N, (lineM r ++ N).length = bn ∧ OMg wr w.heap.size g bc (lineM r ++ N) ∧ Byt N ∧ ∀ y ∈ N, y ≠ 10) ∧ Hid (Up w.heap.size w wr))
  case atStart => exact ⟨0, _, mz, _, Nat.zero_le _, rfl, by go_num, rfl, by omega, by omega, ⟨[], by rw [List.append_nil]; exact HR.out.2.2.1, HO0.out, fun x hx => (by cases hx), fun x hx => (by cases hx)⟩, HU3⟩
  case round =>
    obtain ⟨i, g, bn, bc, hi, hq, rfl, rfl, hbn, hbn1, HL, HU⟩ := hrel
    obtain ⟨N, hl1, hl2, hl3⟩ := HL.out
    have HO : Hid (OMg wr w.heap.size g bc (lineM r ++ N) ∧ (lineM r ++ N).length = bn ∧ Byt N ∧ ∀ y ∈ N, y ≠ 10) := ⟨hl2, hl1, hl3⟩
    have hu := HU.out.2
    clear hl1 hl2 hl3 HL
    by_cases hlt : i < ln
    · have z1 : (i : Int) < (ln : Int) := by omega
      have z2 : (0 : Int) ≤ (i : Int) := by omega
      obtain ⟨b, off, rfl, hc⟩ := HH.out.2.1 i hlt
      have hcw := cell_stay hc HU.out.1
      have hci := HH.out.1.1 i hlt
      obtain ⟨x, hx⟩ : ∃ x, lc i = x := ⟨_, rfl⟩
      rw [hx] at hcw hci
      clear hc hx
      by_cases h1 : x = 10
      · subst h1
        go_wp2
        go_roundg (ln - (i + 1))
        case measure => omega
        case rel => exact ⟨i + 1, g, bn, bc, by omega, rfl, by go_num, rfl, by omega, hbn1, ⟨N, HO.out.2.1, HO.out.1, HO.out.2.2⟩, HU⟩
      · have k1 : (x != 10) = true := by simpa using h1
        have HE : Hid (Byt (N ++ [x]) ∧ ∀ y ∈ N ++ [x], y ≠ 10) := ⟨byt_app HO.out.2.2.1 (byt1 x hci), fun y hy => by
          rcases List.mem_append.1 hy with h2 | h2
          · exact HO.out.2.2.2 y h2
          · rw [List.mem_singleton] at h2; subst h2; exact h1⟩
        obtain ⟨l, hl⟩ : ∃ l, lineM r ++ N = l := ⟨_, rfl⟩
        rw [hl] at HO
        have HLL : Hid (lineM r ++ N = l) := hl
        clear h1 hl
        go_wp2_with (at_builtin; refine om_app rfl _ _ rfl w.heap.size g bc l bn HO.out.2.1 rfl (HO.out.1.stay (below_alloc wr _)) hbn1 (some ⟨wr.heap.size, 0, none⟩) 1 1 (cL [x]) rfl (one_bc wr x) (by omega) (by simp; omega) ?_)
        intro g1 c1 w2 ho1 hg1
        rw [cl_one] at ho1
        have HO1 : Hid (OMg w2 w.heap.size g1 c1 (l ++ [x])) := ho1
        have HU2 : Hid (Up w.heap.size w w2) := (HU.out.alloc _).grown hg1 (fun k e => by rw [← Option.some.inj e]; exact HO.out.1.lo)
        obtain ⟨n1, hn1⟩ : ∃ n1, bn + 1 = n1 := ⟨_, rfl⟩
        have HN1 : Hid ((l ++ [x]).length = n1) := by show _ = _; rw [← hn1, List.length_append, HO.out.2.1]; rfl
        have hn1b : n1 ≤ i + 1 + mz ∧ 1 ≤ n1 := by omega
        rw [hn1]
        clear ho1 hg1 hn1
        go_wp2
        go_roundg (ln - (i + 1))
        case measure => omega
        case rel => exact ⟨i + 1, g1, n1, c1, by omega, rfl, by go_num, rfl, hn1b.1, hn1b.2, ⟨N ++ [x], by rw [← List.append_assoc, HLL.out]; exact HN1.out, by rw [← List.append_assoc, HLL.out]; exact HO1.out, HE.out⟩, HU2⟩
    · have z1 : ¬ (i : Int) < (ln : Int) := by omega
      have hb5 : bn ≤ 302 := by omega
      obtain ⟨l, hl⟩ : ∃ l, lineM r ++ N = l := ⟨_, rfl⟩
      rw [hl] at HO
      have HLL : Hid (lineM r ++ N = l) := hl
      have HT3 : Hid (mz + N.length = bn) := by have h1 := HO.out.2.1; rw [← hl, List.length_append, HR.out.2.2.1] at h1; exact h1
      clear hi hq hbn hl
      obtain ⟨Hb, hHb⟩ : ∃ Hb, cl nc nn = Hb := ⟨_, rfl⟩
      have HHb : Hid (cl nc nn = Hb ∧ Hb.length = nn ∧ Byt Hb) := ⟨hHb, by rw [← hHb]; exact cl_len nc nn, by rw [← hHb]; exact cl_byt HH.out.2.2.1⟩
      clear hHb
      go_wp2_with (at_builtin; refine om_app rfl _ _ rfl w.heap.size g bc l bn HO.out.2.1 rfl (HO.out.1.stay (below_alloc wr _)) hbn1 (some ⟨wr.heap.size, 0, none⟩) 1 1 (cL [10]) rfl (one_bc wr 10) (by omega) (by simp; omega) ?_)
      intro g1 c1 w2 ho1 hg1
      rw [cl_one] at ho1
      have HU2 : Hid (Up w.heap.size w w2) := (HU.out.alloc _).grown hg1 (fun k e => by rw [← Option.some.inj e]; exact HO.out.1.lo)
      have hl1 : (l ++ [10]).length = bn + 1 := by rw [List.length_append, HO.out.2.1]; rfl
      obtain ⟨l10, hl10⟩ : ∃ l10, l ++ [10] = l10 := ⟨_, rfl⟩
      rw [hl10] at ho1 hl1
      have HO1 : Hid (OMg w2 w.heap.size g1 c1 l10 ∧ l10.length = bn + 1) := ⟨ho1, hl1⟩
      have HL10 : Hid (l ++ [10] = l10) := hl10
      clear ho1 hg1 hl10 hl1
      go_wp2_with (at_builtin; refine om_app rfl _ _ rfl w.heap.size g1 c1 l10 (bn + 1) HO1.out.2 rfl HO1.out.1 (Nat.succ_pos _) na nn ncap nc rfl (HH.out.2.2.2.stay HU2.out.1) (by omega) HU2.out.2 ?_)
      intro g2 c2 w3 ho2 hg2
      have HU3 : Hid (Up w.heap.size w w3) := HU2.out.grown hg2 (fun k e => by rw [← Option.some.inj e]; exact HO1.out.1.lo)
      rw [HHb.out.1] at ho2
      obtain ⟨Bl, hBl⟩ : ∃ Bl, l10 ++ Hb = Bl := ⟨_, rfl⟩
      rw [hBl] at ho2
      obtain ⟨n, hn⟩ : ∃ n, bn + 1 + nn = n := ⟨_, rfl⟩
      rw [hn]
      have hBn : Bl.length = n := by rw [← hBl, List.length_append, HO1.out.2, HHb.out.2.1, hn]
      have hby : Byt Bl := by
        rw [← hBl, ← HL10.out, ← HLL.out]
        exact byt_app (byt_app (byt_app HR.out.2.2.2.2 HO.out.2.2.1) (byt_lit _ rfl)) HHb.out.2.2
      have hnb : n ≤ 700 := by omega
      have hbc := ho2.bc
      rw [hBn] at hbc
      have cx := lex_any (c := cL Bl) (n := n) (cap := c2) (w := w3) (by rw [← hBn]; exact cL_ch hby) hbc (by omega) (by rw [← hBn]; exact ho2.len) (by have := ho2.big; omega) HR.out.2.2.2.1
      have HLab : Hid (∀ j, j < n → lxA (fam kf) (cL Bl) n j = if j < mz then 3 else if j < bn then 1 else lxA (fam kf) (cL ([10] ++ Hb)) (nn + 1) (j - bn)) := fun j hj => by
        have := line_lab HR.out.1 (N := N) HO.out.2.2.1 HO.out.2.2.2 HHb.out.2.2 j
        have e1 : ([10] ++ Hb).length = nn + 1 := by simp [HHb.out.2.1]
        rw [HLL.out, HL10.out, hBl, hBn, HR.out.2.1, HR.out.2.2.1, HT3.out, e1] at this
        exact this hj
      have HNN : Hid (bn + 1 + nn = n) := hn
      clear hBl hby hbc ho2 hg2 hBn hn HO1
      go_wp2_with fail
      refine cx.mono ?_
      rintro ev w4 ⟨T1, g1', rfl, hT1, hg1, hS1, hU1⟩
      have HS1 : Hid (Sh w4 T1 g1' n (lxA (fam kf) (cL Bl) n)) := hS1
      have HU4 : Hid (Up w.heap.size w w4) := ⟨HU3.out.1.trans (hU1.1.mono HU3.out.2), Nat.le_trans HU3.out.2 hU1.2⟩
      clear cx hT1 hg1 hS1 hU1
      obtain ⟨W5, hW5⟩ : ∃ W, w4.alloc (.cells #[.int .u8 10] 5) = W := ⟨_, rfl⟩
      have hbW5 : Below w4.heap.size w4 W5 := by rw [← hW5]; exact below_alloc w4 _
      have HU5 : Hid (Up w.heap.size w W5) := HU4.out.stay hbW5
      have HS5 : Hid (Sh W5 T1 g1' n (lxA (fam kf) (cL Bl) n)) := HS1.out.stay hbW5
      have HO5 : Hid (OMg W5 w4.heap.size w4.heap.size 1 [10]) := by
        have h1 := ob_lit w4 w4.heap.size (Nat.le_refl _) [10] (by decide) rfl
        have h2 := om_own h1 rfl
        rw [← hW5]
        exact h2
      have HT4 : Hid (T1 < w4.heap.size ∧ g1' < w4.heap.size) := ⟨HS1.out.lt, HS1.out.row.lt⟩
      obtain ⟨G5, hG5⟩ : ∃ G5, w4.heap.size = G5 := ⟨_, rfl⟩
      obtain ⟨t10, ht10⟩ : ∃ t10, [(10 : Int)] = t10 := ⟨_, rfl⟩
      rw [ht10] at HO5
      have HT10 : Hid ([(10 : Int)] = t10 ∧ t10.length = 1) := ⟨ht10, by rw [← ht10]; rfl⟩
      clear ht10
      rw [hG5] at HO5 HT4
      have HG5 : Hid (w.heap.size ≤ G5 ∧ G5 ≤ W5.heap.size) := ⟨by rw [← hG5]; exact HU4.out.2, by rw [← hG5]; exact hbW5.size⟩
      clear hbW5
      go_wp2_with (at_builtin; refine om_app rfl _ _ rfl G5 G5 1 t10 1 HT10.out.2 rfl HO5.out (by decide) na nn ncap nc rfl (HH.out.2.2.2.stay HU5.out.1) (by omega) HG5.out.2 ?_)
      intro g6 c6 w6 ho6 hg6
      rw [HHb.out.1, ← HT10.out.1] at ho6
      have HU6 : Hid (Up w.heap.size w w6) := HU5.out.grown hg6 (fun k e => by rw [← Option.some.inj e]; exact HG5.out.1)
      have HS6 : Hid (Sh w6 T1 g1' n (lxA (fam kf) (cL Bl) n)) := HS5.out.grown hg6 (fun e => by have := Option.some.inj e; have := HT4.out; omega) (fun e => by have := Option.some.inj e; have := HT4.out; omega)
      have hbc := ho6.bc
      have e1 : ([10] ++ Hb).length = nn + 1 := by simp [HHb.out.2.1]
      rw [e1] at hbc
      obtain ⟨n2, hn2⟩ : ∃ n2, nn + 1 = n2 := ⟨_, rfl⟩
      rw [hn2] at hbc
      have hby2 : Byt ([10] ++ Hb) := byt_app (byt_lit _ rfl) HHb.out.2.2
      have cx2 := lex_any (c := cL ([10] ++ Hb)) (n := n2) (cap := c6) (w := w6) (by rw [← hn2, ← e1]; exact cL_ch hby2) hbc (by omega) (by rw [← hn2, ← e1]; exact ho6.len) (by have := ho6.big; omega) HR.out.2.2.2.1
      rw [show 1 + nn = n2 by omega]
      rw [hn2] at HLab
      have HN2 : Hid (nn + 1 = n2) := hn2
      clear hbc e1 hby2 ho6 hg6 hn2 hW5 hG5
      go_wp2_with fail
      refine cx2.mono ?_
      rintro ev w7 ⟨T2, g2', rfl, hT2, hg2, hS2, hU2⟩
      have HT : Hid (Sh w7 T2 g2' n2 (lxA (fam kf) (cL ([10] ++ Hb)) n2)) := hS2
      have HS7 : Hid (Sh w7 T1 g1' n (lxA (fam kf) (cL Bl) n)) := HS6.out.stay hU2.1
      have HU7 : Hid (Below w.heap.size w w7) := HU6.out.1.trans (hU2.1.mono HU6.out.2)
      clear cx2 hT2 hg2 hS2 hU2
      go_wp2
      go_loopg [77] n (fun q iv wx => ∃ i : Nat, i ≤ n ∧ q = n - i ∧ iv = .int .i64 i ∧ wx = w7)
      case atStart => exact ⟨0, Nat.zero_le _, rfl, by go_num, rfl⟩
      case round =>
        obtain ⟨j, hj, hq, rfl, rfl⟩ := hrel
        by_cases hjn : j < n
        · have z3 : (j : Int) < (n : Int) := by omega
          have cA := at_any HS7.out j hjn
          rw [HLab.out j hjn] at cA
          by_cases h3 : j < mz
          · have x1 : (j : Int) < (mz : Int) := by omega
            rw [if_pos h3] at cA
            clear h3
            go_wp2_with fail
            refine cA.mono ?_
            rintro ev w8 ⟨rfl, hw⟩
            subst w8
            go_wp2
            go_roundg (n - (j + 1))
            case measure => omega
            case rel => exact ⟨j + 1, by omega, rfl, by go_num, rfl⟩
          · have x1 : ¬ (j : Int) < (mz : Int) := by omega
            rw [if_neg h3] at cA
            by_cases h4 : j < bn
            · have x2 : ¬ (bn : Int) ≤ (j : Int) := by omega
              rw [if_pos h4] at cA
              clear h3 h4
              go_wp2_with fail
              refine cA.mono ?_
              rintro ev w8 ⟨rfl, hw⟩
              subst w8
              go_wp2
              go_roundg (n - (j + 1))
              case measure => omega
              case rel => exact ⟨j + 1, by omega, rfl, by go_num, rfl⟩
            · have x2 : (bn : Int) ≤ (j : Int) := by omega
              rw [if_neg h4] at cA
              obtain ⟨jj, hjj⟩ : ∃ jj, j - bn = jj := ⟨_, rfl⟩
              rw [hjj] at cA
              have cB := at_any HT.out jj (by have := HNN.out; have := HN2.out; omega)
              obtain ⟨v, hv⟩ : ∃ v, lxA (fam kf) (cL ([10] ++ Hb)) n2 jj = v := ⟨_, rfl⟩
              rw [hv] at cA cB
              have x3 : IntKind.i64.wrap ((j : Int) - (bn : Int)) = (jj : Int) := by rw [Go.IntWalk.i64_in _ (by omega)]; omega
              have x4 : (v != v) = false := by simp
              clear h3 h4 hjj hv
              go_wp2_with fail
              refine cB.mono ?_
              rintro ev w8 ⟨rfl, hw⟩
              subst w8
              clear cB
              go_wp2_with fail
              refine cA.mono ?_
              rintro ev w8 ⟨rfl, hw⟩
              subst w8
              go_wp2
              go_roundg (n - (j + 1))
              case measure => omega
              case rel => exact ⟨j + 1, by omega, rfl, by go_num, rfl⟩
        · have z3 : ¬ (j : Int) < (n : Int) := by omega
          go_wp2
          go_ret
          exact ⟨rfl, HU7.out⟩
end Go.Proofs.Ytgebmmbnpdhooaa
