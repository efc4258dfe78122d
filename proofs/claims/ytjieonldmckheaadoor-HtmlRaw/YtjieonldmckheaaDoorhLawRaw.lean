/- HtmlRaw. -/
import Derived.Test.YtjieonldmckheaaDoorhRawP
import Derived.Test.YtjieonldmckheaaDoorhRef2
import Derived.Test.YtjieonldmckheaaDoorhLawPln
import Derived.Test.YtjieonldmckheaaDoorhLawGrt
namespace Go.Proofs.YtjieonldmckheaaDoor
set_option linter.unusedVariables false
open Go.RowKit Go.ChangeShapes
def rwN : List (List Int) := [[115, 99, 114, 105, 112, 116], [115, 116, 121, 108, 101], [116, 105, 116, 108, 101], [116, 101, 120, 116, 97, 114, 101, 97]]
theorem rwN_ok : ∀ r, r < 4 → ∃ l, rwN[r]? = some l ∧ Low l ∧ l.length ≤ 8 ∧ Byt l ∧ (scB l = true ∨ txB l = true) ∧ (scB l = true ↔ ¬ 1 < r) := fun r hr => by
  have low : ∀ l : List Int, l ≠ [] → l.all (fun x => decide (97 ≤ x) && decide (x ≤ 122)) = true → Low l := fun l h0 h => ⟨h0, fun x hx => by
    have := List.all_eq_true.1 h x hx
    simpa using this⟩
  rcases (show r = 0 ∨ r = 1 ∨ r = 2 ∨ r = 3 by omega) with rfl | rfl | rfl | rfl
  · exact ⟨_, rfl, low _ (by simp) (by decide), by decide, byt_lit _ (by decide), Or.inl (by decide), by decide⟩
  · exact ⟨_, rfl, low _ (by simp) (by decide), by decide, byt_lit _ (by decide), Or.inl (by decide), by decide⟩
  · exact ⟨_, rfl, low _ (by simp) (by decide), by decide, byt_lit _ (by decide), Or.inr (by decide), by decide⟩
  · exact ⟨_, rfl, low _ (by simp) (by decide), by decide, byt_lit _ (by decide), Or.inr (by decide), by decide⟩
theorem rwA_str (l : List Int) : strOfNums (rwA l) = ⟨#[60]⟩ ++ strOfNums l ++ ⟨#[62]⟩ := by
  rw [show rwA l = [60] ++ l ++ [62] by simp [rwA], nums_app, nums_app]
  rfl
theorem rwZ_str (l : List Int) : strOfNums (rwZ l) = ⟨#[60, 47]⟩ ++ strOfNums l ++ ⟨#[62]⟩ := by
  rw [show rwZ l = [60, 47] ++ l ++ [62] by simp [rwZ], nums_app, nums_app]
  rfl
theorem byt_app {l m : List Int} (h : Byt l) (k : Byt m) : Byt (l ++ m) := fun x hx => by
  rcases List.mem_append.1 hx with h1 | h1
  · exact h x h1
  · exact k x h1
theorem rwA_byt {l : List Int} (h : Byt l) : Byt (rwA l) := by
  rw [show rwA l = [60] ++ l ++ [62] by simp [rwA]]
  exact byt_app (byt_app (byt_lit _ (by decide)) h) (byt_lit _ (by decide))
theorem rwZ_byt {l : List Int} (h : Byt l) : Byt (rwZ l) := by
  rw [show rwZ l = [60, 47] ++ l ++ [62] by simp [rwZ]]
  exact byt_app (byt_app (byt_lit _ (by decide)) h) (byt_lit _ (by decide))
set_option maxRecDepth 100000 in
set_option maxHeartbeats 4000000 in
theorem raw_law {w : World} (hG : Glo w) {ta : Option Addr} {tn tcap : Nat} {tc : Nat → Int} (htC : Ch tc tn) (ht : BC w ta tn tc) (htn : tn ≤ maxLen) {wh : Int} (hwh : 0 ≤ wh ∧ wh < 256)
    {ba : Option Addr} {bn bcap : Nat} {bc : Nat → Int} (hbC : Ch bc bn) (hb : BC w ba bn bc) (hbn : bn ≤ maxLen) :
    Calls Tryd.prog 6 #[.slice ta tn tcap, .int .u8 wh, .slice ba bn bcap] w fun ev w' => ev = .returned (.bool true) ∧ Below w.heap.size w w' := by
  have ca := awake_any w hG
  have HH : Hid (Glo w ∧ Ch tc tn ∧ BC w ta tn tc ∧ Ch bc bn ∧ BC w ba bn bc) := ⟨hG, htC, ht, hbC, hb⟩
  obtain ⟨X, rfl⟩ : ∃ X : Nat, wh = (X : Int) := ⟨wh.toNat, by omega⟩
  have hml : maxLen ≤ 9223372036854775807 := by unfold maxLen; omega
  clear hG htC ht hbC hb
  go_enter Tryd.func6, Tryd.ntmps6
  go_wp2_with fail
  refine ca.mono ?_
  rintro ev w1 ⟨rfl, hb1⟩
  have HB1 : Hid (Below w.heap.size w w1) := hb1
  have HU1 : Hid (Up w.heap.size w w1) := ⟨hb1, hb1.size⟩
  clear ca hb1
  by_cases h5 : (500 : Int) < (tn : Int)
  · go_wp2
    go_ret
    exact ⟨rfl, HB1.out⟩
  by_cases h6 : (100 : Int) < (bn : Int)
  · have h7 : decide ((500 : Int) < (tn : Int)) = false := by simpa using h5
    go_wp2
    go_ret
    exact ⟨rfl, HB1.out⟩
  have h7 : decide ((500 : Int) < (tn : Int)) = false := by simpa using h5
  have h8 : decide ((100 : Int) < (bn : Int)) = false := by simpa using h6
  go_wp2_with fail
  clear h7 h8
  go_loopg [7, 32] tn (fun q bv iv wr => ∃ (i : Nat) (bd : Option Addr) (m pc : Nat), i ≤ tn ∧ q = tn - i ∧ iv = .int .i64 i ∧ bv = .slice bd m pc ∧ m ≤ i ∧ Hid (∃ l, l.length = m ∧ OB wr w.heap.size (.slice bd m pc) l ∧ l = wo 47 ((cl tc tn).take i)) ∧ Hid (Up w.heap.size w wr))
  case atStart => exact ⟨0, none, 0, 0, Nat.zero_le _, rfl, rfl, rfl, Nat.zero_le _, ⟨[], rfl, OB.nil _ _, rfl⟩, HU1⟩
  case round =>
    obtain ⟨i, bd, m, pc, hi, hq, rfl, rfl, hm, HL, HU⟩ := hrel
    obtain ⟨l, hl1, hl2, hl3⟩ := HL.out
    have HO : Hid (OB wr w.heap.size (.slice bd m pc) l ∧ l.length = m ∧ l = wo 47 ((cl tc tn).take i)) := ⟨hl2, hl1, hl3⟩
    have hu := HU.out.2
    clear hl1 hl2 hl3 HL
    by_cases hlt : i < tn
    · have z1 : (i : Int) < (tn : Int) := by omega
      have z2 : (0 : Int) ≤ (i : Int) := by omega
      obtain ⟨b, off, rfl, hc⟩ := HH.out.2.2.1 i hlt
      have hcw := cell_stay hc HU.out.1
      obtain ⟨x, hx⟩ : ∃ x, tc i = x := ⟨_, rfl⟩
      rw [hx] at hcw
      have HT : Hid ((cl tc tn).take (i + 1) = (cl tc tn).take i ++ [x]) := by show _ = _; rw [cl_take tc tn i hlt, hx]
      clear hc hx
      by_cases hxb : x = 47
      · have k1 : (x != 47) = false := by simpa using hxb
        have HE : Hid (l = wo 47 ((cl tc tn).take (i + 1))) := by show l = _; rw [HT.out, hxb, wo_snoc_no]; exact HO.out.2.2
        clear hxb
        go_wp2
        go_roundg (tn - (i + 1))
        case measure => omega
        case rel => exact ⟨i + 1, bd, m, pc, by omega, rfl, by go_num, rfl, by omega, ⟨l, HO.out.2.1, HO.out.1, HE.out⟩, HU⟩
      · have k1 : (x != 47) = true := by simpa using hxb
        have HE : Hid (l ++ [x] = wo 47 ((cl tc tn).take (i + 1))) := by show l ++ [x] = _; rw [HT.out, wo_snoc_yes hxb, ← HO.out.2.2]
        go_wp2_with (at_builtin; refine app_ob rfl _ _ rfl w.heap.size _ l rfl (HO.out.1.stay (below_alloc wr _)) (some ⟨wr.heap.size, 0, none⟩) 1 1 (cL [x]) rfl (one_bc wr x) (by rw [HO.out.2.1]; omega) (by simp; omega) ?_)
        intro v1 w2 ho1 hg1
        rw [cl_one] at ho1
        obtain ⟨bd1, bc1, rfl, -⟩ := ho1.form
        have HO1 : Hid (OB w2 w.heap.size (.slice bd1 (l ++ [x]).length bc1) (l ++ [x])) := ho1
        have HU2 : Hid (Up w.heap.size w w2) := (HU.out.alloc _).grown hg1 (own_base HO.out.1)
        obtain ⟨n1, hn1⟩ : ∃ n1, (l ++ [x]).length = n1 := ⟨_, rfl⟩
        have HN1 : Hid ((l ++ [x]).length = n1) := hn1
        have hn1b : n1 ≤ i + 1 := by rw [← hn1, List.length_append, HO.out.2.1]; simp; omega
        rw [hn1] at HO1 ⊢
        clear ho1 hg1 hn1
        go_wp2
        go_roundg (tn - (i + 1))
        case measure => omega
        case rel => exact ⟨i + 1, bd1, n1, bc1, by omega, rfl, by go_num, rfl, hn1b, ⟨l ++ [x], HN1.out, HO1.out, HE.out⟩, HU2⟩
    · obtain rfl : i = tn := by omega
      have z1 : ¬ (i : Int) < (i : Int) := by omega
      have HL : Hid (Byt l ∧ (∀ x ∈ l, x ≠ 47) ∧ l.length = m ∧ BC wr bd m (cL l)) := by
        have h1 := HO.out.2.2
        rw [List.take_of_length_le (by rw [cl_len]; omega)] at h1
        refine ⟨?_, ?_, HO.out.2.1, ?_⟩
        · rw [h1]; exact wo_byt (cl_byt HH.out.2.1)
        · rw [h1]; exact fun x hx => (wo_mem hx).2
        · have h2 : OB wr w.heap.size (.slice bd l.length pc) l := by rw [HO.out.2.1]; exact HO.out.1
          have := h2.bc
          rw [HO.out.2.1] at this
          exact this
      obtain ⟨r, hr⟩ : ∃ r, X % 4 = r := ⟨_, rfl⟩
      have hr4 : r < 4 := by rw [← hr]; exact Nat.mod_lt _ (by decide)
      have hmd : Int.tmod (X : Int) 4 = (r : Int) := by rw [← hr]; exact nat_mod X 4
      obtain ⟨nl, hnl, hlow, hn8, hnb, hsx, hsc⟩ := rwN_ok r hr4
      obtain ⟨Nm, hNm⟩ : ∃ Nm, strOfNums nl = Nm := ⟨_, rfl⟩
      have HN : Hid (Low nl ∧ Byt nl ∧ (scB nl = true ∨ txB nl = true) ∧ (scB nl = true ↔ ¬ 1 < r) ∧ strOfNums nl = Nm) := ⟨hlow, hnb, hsx, hsc, hNm⟩
      have hNs : Nm.size = nl.length := by rw [← hNm, strOfNums_size]
      obtain ⟨W, hW⟩ : ∃ W, wr.alloc (.cells #[.string ⟨#[115, 99, 114, 105, 112, 116]⟩, .string ⟨#[115, 116, 121, 108, 101]⟩, .string ⟨#[116, 105, 116, 108, 101]⟩, .string ⟨#[116, 101, 120, 116, 97, 114, 101, 97]⟩] 9) = W := ⟨_, rfl⟩
      have hbW : Below wr.heap.size wr W := by rw [← hW]; exact below_alloc wr _
      have hPS : PS W wr.heap.size rwN := by rw [← hW]; exact lit_ps wr rwN
      have y1 : W.cell? ⟨wr.heap.size, r, none⟩ = some (.string Nm) := by rw [← hNm]; exact hPS r nl hnl
      have HUW : Hid (Up w.heap.size w W) := HU.out.stay hbW
      have HBW : Hid (BC W bd m (cL l)) := HL.out.2.2.2.stay hbW
      have hcv := Lib.run_convert_string_bytes (P := Tryd.prog) W 9 22 5 (⟨#[60]⟩ ++ Nm ++ ⟨#[62]⟩) Tryd.underlying9 Tryd.underlying22 Tryd.underlying5
      have hom := om_conv W w.heap.size HUW.out.2 (rwA nl) (rwA_byt hnb)
      have hbw := conv_below W (strOfNums (rwA nl))
      rw [rwA_str, hNm] at hom hbw
      have hsz : (⟨#[60]⟩ ++ Nm ++ ⟨#[62]⟩ : ByteArray).size = nl.length + 2 := by rw [← hNm, ← rwA_str, strOfNums_size]; simp [rwA]
      rw [hsz] at hcv
      rw [show (rwA nl).length = nl.length + 2 by simp [rwA]] at hom
      obtain ⟨s1, hs1⟩ : ∃ s1, (⟨#[60]⟩ ++ Nm ++ ⟨#[62]⟩ : ByteArray) = s1 := ⟨_, rfl⟩
      rw [hs1] at hcv hom hbw
      obtain ⟨nn, hnn⟩ : ∃ nn, nl.length = nn := ⟨_, rfl⟩
      rw [hnn] at hcv hom hNs hn8
      generalize Lib.bytesWorld W 5 s1 = V at hcv hom hbw
      generalize grownCap W (nn + 2) 0 5 = gc at hcv hom
      have HOV : Hid (OMg V w.heap.size W.heap.size gc (rwA nl)) := hom
      have HUV : Hid (Up w.heap.size w V) := HUW.out.stay hbw
      have HBV : Hid (BC V bd m (cL l)) := HBW.out.stay hbw
      have hbase := HUV.out.2
      have HNN : Hid (nl.length = nn ∧ (rwA nl).length = nn + 2 ∧ (rwZ nl).length = nn + 3 ∧ W.heap.size ≥ w.heap.size) := ⟨hnn, by rw [← hnn]; simp [rwA], by rw [← hnn]; simp [rwZ], HUW.out.2⟩
      have q1 : ¬ 9223372036854775807 < 1 + Nm.size := by omega
      have q2 : ¬ 9223372036854775807 < 1 + Nm.size + 1 := by omega
      have z5 : (0 : Int) ≤ (r : Int) := by omega
      have z6 : (r : Int) < 4 := by omega
      clear hnl hlow hnb hsx hsc hNm hbW hPS hom hbw hsz hr HO
      go_wp2_with (at_builtin; refine om_app rfl _ _ rfl w.heap.size W.heap.size gc (rwA nl) (nn + 2) HNN.out.2.1 rfl HOV.out (by omega) bd m pc (cL l) rfl HBV.out (by omega) hbase ?_)
      intro g1 cp1 w2 ho1 hg1
      have HO1 : Hid (OMg w2 w.heap.size g1 cp1 (rwA nl ++ l) ∧ (rwA nl ++ l).length = nn + 2 + m) := by
        have e1 : cl (cL l) m = l := by rw [← HL.out.2.2.1]; exact cl_cL l
        rw [e1] at ho1
        exact ⟨ho1, by rw [List.length_append, HNN.out.2.1, HL.out.2.2.1]⟩
      have HU2 : Hid (Up w.heap.size w w2) := HUV.out.grown hg1 (fun j hj => by cases hj; exact HNN.out.2.2.2)
      have hbase2 := HU2.out.2
      obtain ⟨m1, hm1⟩ : ∃ m1, nn + 2 + m = m1 := ⟨_, rfl⟩
      rw [hm1] at HO1 ⊢
      have HS2 : Hid (strOfNums (rwZ nl) = ⟨#[60, 47]⟩ ++ Nm ++ ⟨#[62]⟩ ∧ Byt (rwZ nl)) := ⟨by rw [rwZ_str, HN.out.2.2.2.2], rwZ_byt HN.out.2.1⟩
      obtain ⟨s2, hs2⟩ : ∃ s2, (⟨#[60, 47]⟩ ++ Nm ++ ⟨#[62]⟩ : ByteArray) = s2 := ⟨_, rfl⟩
      rw [hs2] at HS2
      have q3 : ¬ 9223372036854775807 < 2 + Nm.size := by omega
      have q4 : ¬ 9223372036854775807 < 2 + Nm.size + 1 := by omega
      clear ho1 hg1 q1 q2 hcv hs1 HOV HBV HBW hW y1 hbase
      go_wp2_with (at_builtin; refine om_str rfl _ _ rfl w.heap.size g1 cp1 (rwA nl ++ l) m1 HO1.out.2 rfl HO1.out.1 (by omega) s2 (rwZ nl) HS2.out.2 HS2.out.1 rfl (by rw [HNN.out.2.2.1]; omega) hbase2 ?_)
      intro g2 cp2 w3 ho2 hg2
      rw [HNN.out.2.2.1]
      have HO2 : Hid (OMg w3 w.heap.size g2 cp2 (rwA nl ++ l ++ rwZ nl) ∧ (rwA nl ++ l ++ rwZ nl).length = m1 + (nn + 3)) := ⟨by (try rw [List.append_assoc]); exact ho2, by rw [List.length_append, HO1.out.2, HNN.out.2.2.1]⟩
      have HU3 : Hid (Up w.heap.size w w3) := HU2.out.grown hg2 (fun j hj => by cases hj; exact HO1.out.1.lo)
      have hbase3 := HU3.out.2
      have HBb : Hid (BC w3 ba bn bc) := HH.out.2.2.2.2.stay HU3.out.1
      obtain ⟨m2, hm2⟩ : ∃ m2, m1 + (nn + 3) = m2 := ⟨_, rfl⟩
      rw [hm2] at HO2 ⊢
      clear ho2 hg2 q3 q4 hs2 hbase2
      go_wp2_with (at_builtin; refine om_app rfl _ _ rfl w.heap.size g2 cp2 (rwA nl ++ l ++ rwZ nl) m2 HO2.out.2 rfl HO2.out.1 (by omega) ba bn bcap bc rfl HBb.out (by omega) hbase3 ?_)
      intro g3 cp3 w4 ho3' hg3
      have ho3 : OMg w4 w.heap.size g3 cp3 (rwA nl ++ l ++ rwZ nl ++ cl bc bn) := by
        simp only [List.append_assoc] at ho3' ⊢
        exact ho3'
      have HU4 : Hid (Up w.heap.size w w4) := HU3.out.grown hg3 (fun j hj => by cases hj; exact HO2.out.1.lo)
      obtain ⟨m3, hm3⟩ : ∃ m3, m2 + bn = m3 := ⟨_, rfl⟩
      have hlen : (rwA nl ++ l ++ rwZ nl ++ cl bc bn).length = m3 := by rw [List.length_append, HO2.out.2, cl_len, hm3]
      have hbyt : Byt (rwA nl ++ l ++ rwZ nl ++ cl bc bn) := byt_app (byt_app (byt_app (rwA_byt HN.out.2.1) HL.out.1) (rwZ_byt HN.out.2.1)) (cl_byt HH.out.2.2.2.1)
      have hraw := raw_all HN.out.1 HN.out.2.2.1 HL.out.2.1 hbyt
      have hch := cL_ch hbyt
      have hbc := ho3.bc
      have hcp := ho3.len
      rw [hlen] at hraw hch hbc hcp
      rw [HNN.out.1, HL.out.2.2.1] at hraw
      generalize cL (rwA nl ++ l ++ rwZ nl ++ cl bc bn) = c at hraw hch hbc
      have HRW : Hid (∀ i, i < m2 → lxA c m3 i = if nn + 2 ≤ i ∧ i < m1 then (if scB nl = true then 4 else 1) else 2) := fun i hi => by
        rw [hraw i (by omega), hm1]
      rw [hm3]
      have cx := lex_any hch hbc (by omega) hcp (HH.out.1.stay HU4.out.1)
      obtain ⟨QX, hQX⟩ : ∃ QX, LxP c m3 w4 = QX := ⟨_, rfl⟩
      have HQX : Hid (LxP c m3 w4 = QX) := hQX
      rw [hQX] at cx
      clear hQX ho3 ho3' hg3 hlen hbyt hraw hch hbc hcp hbase3
      go_wp2_with fail
      refine cx.mono ?_
      intro ev w5 hev
      rw [← HQX.out] at hev
      obtain ⟨T, g, rfl, -, -, hS, hU5⟩ := hev
      have HU5 : Hid (Up w.heap.size w w5) := HU4.out.stay hU5.1
      have HS5 : Hid (Sh w5 T g m3 (lxA c m3)) := hS
      have cln := len_any hS
      have hm23 : m2 ≤ m3 := by omega
      obtain ⟨wt, hwt⟩ : ∃ wt : Int, (if scB nl = true then 4 else 1) = wt := ⟨_, rfl⟩
      rw [hwt] at HRW
      have HWT : Hid (¬ 1 < r → wt = 4) := fun h => by rw [← hwt, if_pos (HN.out.2.2.2.1.2 h)]
      have HWT1 : Hid (1 < r → wt = 1) := fun h => by rw [← hwt, if_neg (fun e => HN.out.2.2.2.1.1 e h)]
      have hNs2 : (Nm.size : Int) = (nn : Int) := by omega
      clear cx hS hU5 HQX hwt
      go_upto_if 76 with fail
      go_cut [17] (fun v wx => v = .int .u8 wt ∧ wx = w5)
      case first =>
        by_cases h1 : 1 < r
        · have z7 : (1 : Int) < (r : Int) := by omega
          have e := HWT1.out h1
          go_wp2
          go_meet
          case rel => exact ⟨by rw [e], rfl⟩
        · have z7 : ¬ (1 : Int) < (r : Int) := by omega
          have e := HWT.out h1
          go_wp2
          go_meet
          case rel => exact ⟨by rw [e], rfl⟩
      case rest =>
        obtain ⟨rfl, hwx⟩ := hcut
        obtain rfl := hwx.symm
        go_wp2_with fail
        go_loopg [78] m2 (fun q iv wr => ∃ k : Nat, k ≤ m2 ∧ q = m2 - k ∧ iv = .int .i64 k ∧ wr = w5)
        case atStart => exact ⟨0, Nat.zero_le _, rfl, rfl, rfl⟩
        case round =>
          obtain ⟨k, hk, hq2, rfl, hwr⟩ := hrel
          subst wr
          by_cases hk2 : k < m2
          · have y1 : (k : Int) < (m2 : Int) := by omega
            have cat := at_any HS5.out k (by omega)
            have hv := HRW.out k hk2
            by_cases a1 : nn + 2 ≤ k
            · have b1 : (nn : Int) + 2 ≤ (k : Int) := by omega
              by_cases a2 : k < m1
              · have b2 : (k : Int) < (m1 : Int) := by omega
                rw [if_pos ⟨a1, a2⟩] at hv
                rw [hv] at cat
                clear hv
                go_wp2_with fail
                refine cat.mono ?_
                rintro ev w6 ⟨rfl, hw6⟩
                subst w6
                go_wp2
                go_roundg (m2 - (k + 1))
                case measure => omega
                case rel => exact ⟨k + 1, by omega, rfl, by go_num, rfl⟩
              · have b2 : ¬ (k : Int) < (m1 : Int) := by omega
                have b3 : decide ((k : Int) < (m1 : Int)) = false := by simpa using b2
                rw [if_neg (fun e => a2 e.2)] at hv
                rw [hv] at cat
                clear hv
                go_wp2_with fail
                refine cat.mono ?_
                rintro ev w6 ⟨rfl, hw6⟩
                subst w6
                go_wp2
                go_roundg (m2 - (k + 1))
                case measure => omega
                case rel => exact ⟨k + 1, by omega, rfl, by go_num, rfl⟩
            · have b1 : ¬ (nn : Int) + 2 ≤ (k : Int) := by omega
              have b3 : decide ((nn : Int) + 2 ≤ (k : Int)) = false := by simpa using b1
              rw [if_neg (fun e => a1 e.1)] at hv
              rw [hv] at cat
              clear hv
              go_wp2_with fail
              refine cat.mono ?_
              rintro ev w6 ⟨rfl, hw6⟩
              subst w6
              go_wp2
              go_roundg (m2 - (k + 1))
              case measure => omega
              case rel => exact ⟨k + 1, by omega, rfl, by go_num, rfl⟩
          · have y1 : ¬ (k : Int) < (m2 : Int) := by omega
            go_wp2_with fail
            refine cln.mono ?_
            rintro ev w6 ⟨rfl, hw6⟩
            subst w6
            go_wp2
            go_ret
            exact ⟨rfl, HU5.out.1⟩
end Go.Proofs.YtjieonldmckheaaDoor
