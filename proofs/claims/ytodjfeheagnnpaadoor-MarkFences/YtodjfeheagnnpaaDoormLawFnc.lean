/- MarkFences. -/
import Derived.Test.YtodjfeheagnnpaaDoormStb
import Derived.Test.YtodjfeheagnnpaaDoormFncP
import Derived.Test.YtodjfeheagnnpaaDoormOz
import Derived.Test.YtodjfeheagnnpaaDoormIz
namespace Go.Proofs.YtodjfeheagnnpaaDoor
set_option linter.unusedVariables false
open Go.RowKit Go.ChangeShapes

set_option maxRecDepth 100000 in
set_option maxHeartbeats 4000000 in
theorem fences_96 {w : World} (hG : GlM w) (hAn : ∀ (c : Nat → Int) (n : Nat), Ch c n → n ≤ 40000 → ∀ e, e ≤ n → AnOk (tr c e) e) {ta : Option Addr} {tn tcap : Nat} {tc : Nat → Int} (htC : Ch tc tn) (htb : BC w ta tn tc) (htn : tn ≤ 500) {nv : Int} (hnv : 0 ≤ nv ∧ nv < 256) {ba : Option Addr} {bbn bcap : Nat} {bc : Nat → Int} (hbC : Ch bc bbn) (hbb : BC w ba bbn bc) (hbn : bbn ≤ 300) :
    Calls Tryd.prog 4 #[.slice ta tn tcap, .int .u8 nv, .bool false, .slice ba bbn bcap] w fun ev w' => ev = .returned (.bool true) ∧ Below w.heap.size w w' := by
  have hs : FnS 96 := Or.inl rfl
  have ca := mawake_any w hG
  have HH : Hid (GlM w ∧ (Ch tc tn ∧ BC w ta tn tc) ∧ (Ch bc bbn ∧ BC w ba bbn bc)) := ⟨hG, ⟨htC, htb⟩, ⟨hbC, hbb⟩⟩
  have HA : Hid (∀ (c : Nat → Int) (n : Nat), Ch c n → n ≤ 40000 → ∀ e, e ≤ n → AnOk (tr c e) e) := hAn
  obtain ⟨N, rfl⟩ : ∃ N : Nat, nv = (N : Int) := ⟨nv.toNat, by omega⟩
  obtain ⟨r, hr⟩ : ∃ r, N % 5 = r := ⟨_, rfl⟩
  have hr5 : r < 5 := by rw [← hr]; exact Nat.mod_lt _ (by decide)
  have hmd : Int.tmod (N : Int) 5 = (r : Int) := by rw [← hr]; exact nat_mod N 5
  obtain ⟨k, hk⟩ : ∃ k : Nat, 3 + r = k := ⟨_, rfl⟩
  have hki : (3 : Int) + (r : Int) = (k : Int) := by omega
  have hk3 : 3 ≤ k ∧ k ≤ 7 := by omega
  have y1 : ¬ (500 : Int) < (tn : Int) := by omega
  have y2 : ¬ (300 : Int) < (bbn : Int) := by omega
  have hcA := fun (w' : World) => Go.Lib.run_convert_bytes_const (P := Tryd.prog) w' 22 5 #[.int .u8 120, .int .u8 10] 2 2 Tryd.underlying22 Tryd.underlying5
  have hcB := fun (w' : World) => Go.Lib.run_convert_bytes_const (P := Tryd.prog) w' 22 5 #[.int .u8 121, .int .u8 10] 2 2 Tryd.underlying22 Tryd.underlying5
  clear hG htC htb hbC hbb hr hk hnv hAn
  go_enter Tryd.func4, Tryd.ntmps4
  go_wp2_with fail
  refine ca.mono ?_
  rintro e w1 ⟨rfl, hb1⟩
  have HU1 : Hid (Up w.heap.size w w1) := ⟨hb1, hb1.size⟩
  clear ca hb1
  go_wp2
  go_loopg [10, 35] tn (fun q bv iv wr => ∃ (i : Nat) (bd : Option Addr) (bn bc : Nat), i ≤ tn ∧ q = tn - i ∧ iv = .int .i64 i ∧ bv = .slice bd bn bc ∧ bn ≤ i ∧ Hid (∃ l, l.length = bn ∧ OB wr w.heap.size (.slice bd bn bc) l ∧ l = wo 96 ((cl tc tn).take i)) ∧ Hid (Up w.heap.size w wr))
  case atStart => exact ⟨0, none, 0, 0, Nat.zero_le _, rfl, rfl, rfl, Nat.zero_le _, ⟨[], rfl, OB.nil _ _, rfl⟩, HU1⟩
  case round =>
    obtain ⟨i, bd, bn, bcp, hi, hq, rfl, rfl, hbn2, HL, HU⟩ := hrel
    obtain ⟨l, hl1, hl2, hl3⟩ := HL.out
    have HO : Hid (OB wr w.heap.size (.slice bd bn bcp) l ∧ l.length = bn ∧ l = wo 96 ((cl tc tn).take i)) := ⟨hl2, hl1, hl3⟩
    have hu := HU.out.2
    clear hl1 hl2 hl3 HL
    by_cases hlt : i < tn
    · have z1 : (i : Int) < (tn : Int) := by omega
      have z2 : (0 : Int) ≤ (i : Int) := by omega
      obtain ⟨b, off, rfl, hc⟩ := HH.out.2.1.2 i hlt
      have hcw := cell_stay hc HU.out.1
      obtain ⟨x, hx⟩ : ∃ x, tc i = x := ⟨_, rfl⟩
      rw [hx] at hcw
      have HT : Hid ((cl tc tn).take (i + 1) = (cl tc tn).take i ++ [x]) := by show _ = _; rw [cl_take tc tn i hlt, hx]
      clear hc hx
      by_cases hxb : x = 96
      · have k1 : (x != 96) = false := by simpa using hxb
        have HE : Hid (l = wo 96 ((cl tc tn).take (i + 1))) := by show l = _; rw [HT.out, hxb, wo_snoc_no]; exact HO.out.2.2
        clear hxb
        go_wp2
        go_roundg (tn - (i + 1))
        case measure => omega
        case rel => exact ⟨i + 1, bd, bn, bcp, by omega, rfl, by go_num, rfl, by omega, ⟨l, HO.out.2.1, HO.out.1, HE.out⟩, HU⟩
      · have k1 : (x != 96) = true := by simpa using hxb
        have HE : Hid (l ++ [x] = wo 96 ((cl tc tn).take (i + 1))) := by show l ++ [x] = _; rw [HT.out, wo_snoc_yes hxb, ← HO.out.2.2]
        go_wp2_with (at_builtin; refine app_ob rfl _ _ rfl w.heap.size _ l rfl (HO.out.1.stay (below_alloc wr _)) (some ⟨wr.heap.size, 0, none⟩) 1 1 (cL [x]) rfl (one_bc wr x) (by rw [HO.out.2.1]; omega) (by simp; omega) ?_)
        intro v1 w1 ho1 hg1
        rw [cl_one] at ho1
        obtain ⟨bd1, bc1, rfl, -⟩ := ho1.form
        have HO1 : Hid (OB w1 w.heap.size (.slice bd1 (l ++ [x]).length bc1) (l ++ [x])) := ho1
        have HU1 : Hid (Up w.heap.size w w1) := (HU.out.alloc _).grown hg1 (own_base HO.out.1)
        obtain ⟨n1, hn1⟩ : ∃ n1, (l ++ [x]).length = n1 := ⟨_, rfl⟩
        have HN1 : Hid ((l ++ [x]).length = n1) := hn1
        have hn1b : n1 ≤ i + 1 := by rw [← hn1, List.length_append, HO.out.2.1]; simp; omega
        rw [hn1] at HO1 ⊢
        clear ho1 hg1 hn1
        go_wp2
        go_roundg (tn - (i + 1))
        case measure => omega
        case rel => exact ⟨i + 1, bd1, n1, bc1, by omega, rfl, by go_num, rfl, hn1b, ⟨l ++ [x], HN1.out, HO1.out, HE.out⟩, HU1⟩
    obtain rfl : i = tn := by omega
    have z1 : ¬ (i : Int) < (i : Int) := by omega
    have HCL : Hid (Byt l ∧ (∀ x ∈ l, x ≠ 96) ∧ l.length = bn ∧ BC wr bd bn (cL l) ∧ Up w.heap.size w wr) := by
      have h1 := HO.out.2.2
      rw [List.take_of_length_le (by rw [cl_len]; omega)] at h1
      refine ⟨?_, ?_, HO.out.2.1, ?_, HU.out⟩
      · rw [h1]; exact wo_byt (cl_byt HH.out.2.1.1)
      · rw [h1]; exact fun x hx => (wo_mem hx).2
      · have h2 : OB wr w.heap.size (.slice bd l.length bcp) l := by rw [HO.out.2.1]; exact HO.out.1
        have := h2.bc
        rw [HO.out.2.1] at this
        exact this
    clear HO
    go_wp2
    obtain ⟨w2, rfl⟩ : ∃ w2, w2 = wr := ⟨_, rfl⟩
    go_loopg [11, 50] k (fun q fv iv wq => ∃ (j : Nat) (fd : Option Addr) (fc : Nat), j ≤ k ∧ q = k - j ∧ iv = .int .u8 j ∧ fv = .slice fd j fc ∧ Hid (OB wq w2.heap.size (.slice fd j fc) (fnR 96 j)) ∧ Hid (Up w2.heap.size w2 wq))
    case atStart => exact ⟨0, none, 0, Nat.zero_le _, rfl, rfl, rfl, OB.nil _ _, Up.refl w2⟩
    case round =>
      obtain ⟨j, fd, fc, hj, hqj, rfl, rfl, HF, HUF⟩ := hrel
      have huf := HUF.out.2
      by_cases hlt : j < k
      · have z1 : (j : Int) < (k : Int) := by omega
        go_wp2_with (at_builtin; refine app_ob rfl _ _ rfl w2.heap.size _ (fnR 96 j) rfl (HF.out.stay (below_alloc wr _)) (some ⟨wr.heap.size, 0, none⟩) 1 1 (cL [96]) rfl (one_bc wr 96) (by rw [fnR_len]; omega) (by simp; omega) ?_)
        intro v1 w3 ho1 hg1
        rw [cl_one, show fnR 96 j ++ [(96 : Int)] = fnR 96 (j + 1) from (List.replicate_succ' ..).symm] at ho1
        obtain ⟨bd1, bc1, rfl, -⟩ := ho1.form
        rw [fnR_len] at ho1 ⊢
        have HO1 : Hid (OB w3 w2.heap.size (.slice bd1 (j + 1) bc1) (fnR 96 (j + 1))) := ho1
        have HU3 : Hid (Up w2.heap.size w2 w3) := (HUF.out.alloc _).grown hg1 (own_base HF.out)
        clear ho1 hg1
        go_wp2
        go_roundg (k - (j + 1))
        case measure => omega
        case rel => exact ⟨j + 1, bd1, bc1, by omega, rfl, by go_num, rfl, HO1, HU3⟩
      have hjk : j = k := by omega
      subst hjk
      have z1 : ¬ (j : Int) < (j : Int) := by omega
      have HBF : Hid (BC wr fd j (cL (fnR 96 j)) ∧ BC wr bd bn (cL l) ∧ Up w.heap.size w wr) := by
        refine ⟨?_, HCL.out.2.2.2.1.stay HUF.out.1, ?_⟩
        · have h2 : OB wr w2.heap.size (.slice fd (fnR 96 j).length fc) (fnR 96 j) := by rw [fnR_len]; exact HF.out
          have := h2.bc
          rw [fnR_len] at this
          exact this
        · exact HCL.out.2.2.2.2.stay HUF.out.1
      clear HF
      have HW3 : Hid (Up w.heap.size w wr) := HBF.out.2.2
      obtain ⟨W, hW⟩ : ∃ W, wr.alloc (.cells #[.int .u8 120, .int .u8 10] 5 (2, 3)) = W := ⟨_, rfl⟩
      have HO0 : Hid (OMg W wr.heap.size wr.heap.size 2 [120, 10]) := by show OMg _ _ _ _ _; rw [← hW]; exact om_two wr _ (Nat.le_refl _) 120 10
      have HV0 : Hid (Up wr.heap.size wr W) := by show Up _ _ _; rw [← hW]; exact (Up.refl wr).alloc _
      have hv0 := HV0.out.2
      have HLl : Hid (l.length = bn) := HCL.out.2.2.1
      have HX1 : Hid (BC W fd j (cL (fnR 96 j))) := HBF.out.1.stay HV0.out.1
      go_wp2_with (at_builtin; refine om_app rfl _ _ rfl wr.heap.size (wr.heap.size) (2) [120, 10] (2) rfl rfl HO0.out (by omega) fd j fc (cL (fnR 96 j)) rfl HX1.out (by omega) hv0 ?_)
      intro g1 cp1 v1 ho1 hg1
      rw [show cl (cL (fnR 96 j)) j = fnR 96 j by have := cl_cL (fnR 96 j); rwa [fnR_len] at this] at ho1
      obtain ⟨B1, hB1⟩ : ∃ B1, [120, 10] ++ fnR 96 j = B1 := ⟨_, rfl⟩
      have HB1 : Hid (B1 = [120, 10] ++ fnR 96 j) := hB1.symm
      have ho1x : OMg v1 wr.heap.size g1 cp1 B1 := by rw [← hB1]; simpa using ho1
      have HO1 : Hid (OMg v1 wr.heap.size g1 cp1 B1) := ho1x
      obtain ⟨n1, hn1⟩ : ∃ n1, 2 + j = n1 := ⟨_, rfl⟩
      try rw [hn1]
      have HL1 : Hid (B1.length = n1) := by show _ = _; rw [HB1.out, List.length_append, show ([120, 10] : List Int).length = 2 from rfl, fnR_len 96 j]; exact hn1
      have HV1 : Hid (Up wr.heap.size wr v1) := HV0.out.grown hg1 (fun q hq => by have := HO0.out.lo; have := Option.some.inj hq; omega)
      have hv1 := HV1.out.2
      have HNN1 : Hid (n1 = 2 + j) := hn1.symm
      have hnl1 : n1 ≤ 2 + j ∧ 2 + j ≤ n1 := by omega
      clear ho1 hg1 hB1 hn1 ho1x
      go_wp2_with (at_builtin; refine om_app rfl _ _ rfl wr.heap.size (g1) (cp1) B1 (n1) HL1.out rfl (HO1.out.stay (below_alloc v1 _)) (by omega) (some ⟨v1.heap.size, 0, none⟩) 1 1 (cL [10]) rfl (one_bc v1 10) (by omega) (by simp; omega) ?_)
      intro g2 cp2 v2 ho2 hg2
      rw [cl_one] at ho2
      obtain ⟨B2, hB2⟩ : ∃ B2, B1 ++ [10] = B2 := ⟨_, rfl⟩
      have HB2 : Hid (B2 = B1 ++ [10]) := hB2.symm
      have ho2x : OMg v2 wr.heap.size g2 cp2 B2 := by rw [← hB2]; simpa using ho2
      have HO2 : Hid (OMg v2 wr.heap.size g2 cp2 B2) := ho2x
      obtain ⟨n2, hn2⟩ : ∃ n2, n1 + 1 = n2 := ⟨_, rfl⟩
      try rw [hn2]
      have HL2 : Hid (B2.length = n2) := by show _ = _; rw [HB2.out, List.length_append, HL1.out, show ([10] : List Int).length = 1 from rfl]; exact hn2
      have HV2 : Hid (Up wr.heap.size wr v2) := (HV1.out.alloc _).grown hg2 (fun q hq => by have := HO1.out.lo; have := Option.some.inj hq; omega)
      have hv2 := HV2.out.2
      have HNN2 : Hid (n2 = n1 + 1) := hn2.symm
      have hnl2 : n2 ≤ n1 + 1 ∧ n1 + 1 ≤ n2 := by omega
      clear ho2 hg2 hB2 hn2 ho2x
      have HX3 : Hid (BC v2 bd bn (cL l)) := HBF.out.2.1.stay HV2.out.1
      go_wp2_with (at_builtin; refine om_app rfl _ _ rfl wr.heap.size (g2) (cp2) B2 (n2) HL2.out rfl HO2.out (by omega) bd bn bcp (cL l) rfl HX3.out (by omega) hv2 ?_)
      intro g3 cp3 v3 ho3 hg3
      rw [show cl (cL l) bn = l by have := cl_cL l; rwa [HLl.out] at this] at ho3
      obtain ⟨B3, hB3⟩ : ∃ B3, B2 ++ l = B3 := ⟨_, rfl⟩
      have HB3 : Hid (B3 = B2 ++ l) := hB3.symm
      have ho3x : OMg v3 wr.heap.size g3 cp3 B3 := by rw [← hB3]; simpa using ho3
      have HO3 : Hid (OMg v3 wr.heap.size g3 cp3 B3) := ho3x
      obtain ⟨n3, hn3⟩ : ∃ n3, n2 + bn = n3 := ⟨_, rfl⟩
      try rw [hn3]
      have HL3 : Hid (B3.length = n3) := by show _ = _; rw [HB3.out, List.length_append, HL2.out, HLl.out]; exact hn3
      have HV3 : Hid (Up wr.heap.size wr v3) := HV2.out.grown hg3 (fun q hq => by have := HO2.out.lo; have := Option.some.inj hq; omega)
      have hv3 := HV3.out.2
      have HNN3 : Hid (n3 = n2 + bn) := hn3.symm
      have hnl3 : n3 ≤ n2 + bn ∧ n2 + bn ≤ n3 := by omega
      clear ho3 hg3 hB3 hn3 ho3x
      go_wp2_with (at_builtin; refine om_app rfl _ _ rfl wr.heap.size (g3) (cp3) B3 (n3) HL3.out rfl (HO3.out.stay (below_alloc v3 _)) (by omega) (some ⟨v3.heap.size, 0, none⟩) 1 1 (cL [10]) rfl (one_bc v3 10) (by omega) (by simp; omega) ?_)
      intro g4 cp4 v4 ho4 hg4
      rw [cl_one] at ho4
      obtain ⟨B4, hB4⟩ : ∃ B4, B3 ++ [10] = B4 := ⟨_, rfl⟩
      have HB4 : Hid (B4 = B3 ++ [10]) := hB4.symm
      have ho4x : OMg v4 wr.heap.size g4 cp4 B4 := by rw [← hB4]; simpa using ho4
      have HO4 : Hid (OMg v4 wr.heap.size g4 cp4 B4) := ho4x
      obtain ⟨n4, hn4⟩ : ∃ n4, n3 + 1 = n4 := ⟨_, rfl⟩
      try rw [hn4]
      have HL4 : Hid (B4.length = n4) := by show _ = _; rw [HB4.out, List.length_append, HL3.out, show ([10] : List Int).length = 1 from rfl]; exact hn4
      have HV4 : Hid (Up wr.heap.size wr v4) := (HV3.out.alloc _).grown hg4 (fun q hq => by have := HO3.out.lo; have := Option.some.inj hq; omega)
      have hv4 := HV4.out.2
      have HNN4 : Hid (n4 = n3 + 1) := hn4.symm
      have hnl4 : n4 ≤ n3 + 1 ∧ n3 + 1 ≤ n4 := by omega
      clear ho4 hg4 hB4 hn4 ho4x
      have HX5 : Hid (BC v4 fd j (cL (fnR 96 j))) := HBF.out.1.stay HV4.out.1
      go_wp2_with (at_builtin; refine om_app rfl _ _ rfl wr.heap.size (g4) (cp4) B4 (n4) HL4.out rfl HO4.out (by omega) fd j fc (cL (fnR 96 j)) rfl HX5.out (by omega) hv4 ?_)
      intro g5 cp5 v5 ho5 hg5
      rw [show cl (cL (fnR 96 j)) j = fnR 96 j by have := cl_cL (fnR 96 j); rwa [fnR_len] at this] at ho5
      obtain ⟨B5, hB5⟩ : ∃ B5, B4 ++ fnR 96 j = B5 := ⟨_, rfl⟩
      have HB5 : Hid (B5 = B4 ++ fnR 96 j) := hB5.symm
      have ho5x : OMg v5 wr.heap.size g5 cp5 B5 := by rw [← hB5]; simpa using ho5
      have HO5 : Hid (OMg v5 wr.heap.size g5 cp5 B5) := ho5x
      obtain ⟨n5, hn5⟩ : ∃ n5, n4 + j = n5 := ⟨_, rfl⟩
      try rw [hn5]
      have HL5 : Hid (B5.length = n5) := by show _ = _; rw [HB5.out, List.length_append, HL4.out, fnR_len 96 j]; exact hn5
      have HV5 : Hid (Up wr.heap.size wr v5) := HV4.out.grown hg5 (fun q hq => by have := HO4.out.lo; have := Option.some.inj hq; omega)
      have hv5 := HV5.out.2
      have HNN5 : Hid (n5 = n4 + j) := hn5.symm
      have hnl5 : n5 ≤ n4 + j ∧ n4 + j ≤ n5 := by omega
      clear ho5 hg5 hB5 hn5 ho5x
      go_wp2_with (at_builtin; refine om_app rfl _ _ rfl wr.heap.size (g5) (cp5) B5 (n5) HL5.out rfl (HO5.out.stay (below_alloc v5 _)) (by omega) (some ⟨v5.heap.size, 0, none⟩) 1 1 (cL [10]) rfl (one_bc v5 10) (by omega) (by simp; omega) ?_)
      intro g6 cp6 v6 ho6 hg6
      rw [cl_one] at ho6
      obtain ⟨B6, hB6⟩ : ∃ B6, B5 ++ [10] = B6 := ⟨_, rfl⟩
      have HB6 : Hid (B6 = B5 ++ [10]) := hB6.symm
      have ho6x : OMg v6 wr.heap.size g6 cp6 B6 := by rw [← hB6]; simpa using ho6
      have HO6 : Hid (OMg v6 wr.heap.size g6 cp6 B6) := ho6x
      obtain ⟨n6, hn6⟩ : ∃ n6, n5 + 1 = n6 := ⟨_, rfl⟩
      try rw [hn6]
      have HL6 : Hid (B6.length = n6) := by show _ = _; rw [HB6.out, List.length_append, HL5.out, show ([10] : List Int).length = 1 from rfl]; exact hn6
      have HV6 : Hid (Up wr.heap.size wr v6) := (HV5.out.alloc _).grown hg6 (fun q hq => by have := HO5.out.lo; have := Option.some.inj hq; omega)
      have hv6 := HV6.out.2
      have HNN6 : Hid (n6 = n5 + 1) := hn6.symm
      have hnl6 : n6 ≤ n5 + 1 ∧ n5 + 1 ≤ n6 := by omega
      clear ho6 hg6 hB6 hn6 ho6x
      have HX7 : Hid (BC v6 ba bbn bc) := (HH.out.2.2.2.stay HW3.out.1).stay HV6.out.1
      go_wp2_with (at_builtin; refine om_app rfl _ _ rfl wr.heap.size (g6) (cp6) B6 (n6) HL6.out rfl HO6.out (by omega) ba bbn bcap bc rfl HX7.out (by omega) hv6 ?_)
      intro g7 cp7 v7 ho7 hg7
      obtain ⟨B7, hB7⟩ : ∃ B7, B6 ++ cl bc bbn = B7 := ⟨_, rfl⟩
      have HB7 : Hid (B7 = B6 ++ cl bc bbn) := hB7.symm
      have ho7x : OMg v7 wr.heap.size g7 cp7 B7 := by rw [← hB7]; simpa using ho7
      have HO7 : Hid (OMg v7 wr.heap.size g7 cp7 B7) := ho7x
      obtain ⟨n7, hn7⟩ : ∃ n7, n6 + bbn = n7 := ⟨_, rfl⟩
      try rw [hn7]
      have HL7 : Hid (B7.length = n7) := by show _ = _; rw [HB7.out, List.length_append, HL6.out, cl_len bc bbn]; exact hn7
      have HV7 : Hid (Up wr.heap.size wr v7) := HV6.out.grown hg7 (fun q hq => by have := HO6.out.lo; have := Option.some.inj hq; omega)
      have hv7 := HV7.out.2
      have HNN7 : Hid (n7 = n6 + bbn) := hn7.symm
      have hnl7 : n7 ≤ n6 + bbn ∧ n6 + bbn ≤ n7 := by omega
      clear ho7 hg7 hB7 hn7 ho7x
      have HB6H : Hid (B6 = fnH 96 j l) := by show _ = _; rw [HB6.out, HB5.out, HB4.out, HB3.out, HB2.out, HB1.out]; simp [fnH]
      have HE6 : Hid (n6 = fnE j bn) := by have := HL6.out; rw [HB6H.out, fnH_len, HLl.out] at this; exact this.symm
      have hbeb : Byt (cl bc bbn) := cl_byt HH.out.2.2.1
      have HT : Hid (B7 = fnH 96 j l ++ cl bc bbn) := by show _ = _; rw [HB7.out, HB6H.out]
      have hT7 : Byt B7 := by
        intro x hx
        rw [HT.out] at hx
        unfold fnH at hx
        simp only [List.mem_append, List.mem_singleton] at hx
        rcases hx with ((rfl | rfl) | ((h | rfl) | ((h | rfl) | (h | rfl)))) | h
        · decide
        · decide
        · rw [List.eq_of_mem_replicate h]; decide
        · decide
        · exact HCL.out.1 x h
        · decide
        · rw [List.eq_of_mem_replicate h]; decide
        · decide
        · exact hbeb x h
      have hch7 : Ch (cL B7) n7 := by rw [← HL7.out]; exact cL_ch hT7
      have hbc7 : BC v7 (some ⟨g7, 0, none⟩) n7 (cL B7) := by have := HO7.out.bc; rw [HL7.out] at this; exact this
      have hle7 : n7 ≤ cp7 := by have := HO7.out.len; rw [HL7.out] at this; exact this
      have hbg7 : cp7 ≤ 9223372036854775807 := by have := HO7.out.big; unfold maxLen at this; omega
      have hG7 : GlM v7 := (HH.out.1.stay HW3.out.1).stay HV7.out.1
      have cx := mlex_any (cap := cp7) hch7 hbc7 (by omega) (by omega) hle7 hbg7 hG7 (HA.out _ _ hch7 (by omega))
      unfold MlP at cx
      have hfa := fence_at hs (k := j) hk3.1 (cl := l) (be := cl bc bbn) HCL.out.1 HCL.out.2.1 hbeb
      rw [← HT.out, HL7.out, HLl.out, ← HE6.out] at hfa
      obtain ⟨LA, hLA⟩ : ∃ LA, mkA (cL B7) n7 = LA := ⟨_, rfl⟩
      rw [hLA] at cx hfa
      obtain ⟨LB, hLB⟩ : ∃ LB, mk (cL (cl bc bbn)) (cl bc bbn).length 0 ⟨0, 0, false⟩ (fun _ => 1) = LB := ⟨_, rfl⟩
      rw [hLB] at hfa
      have HFA : Hid ((∀ i, i < 2 → LA i = 1) ∧ (∀ i, 2 ≤ i → i < n6 → LA i = 4) ∧ ∀ i, LA (n6 + i) = LB i) := hfa
      have HLB : Hid (mk (cL (cl bc bbn)) (cl bc bbn).length 0 ⟨0, 0, false⟩ (fun _ => 1) = LB) := hLB
      have HBE : Hid (Byt (cl bc bbn)) := hbeb
      clear hbeb hT7 hch7 hbc7 hle7 hbg7 hG7 hfa hLA hLB hW hcA
      go_wp2_with fail
      refine cx.mono ?_
      rintro e w8 ⟨T, gs, rfl, hT, hgs, hS8, hU8⟩
      have HS8 : Hid (Sh w8 T gs n7 LA) := hS8
      have HU8 : Hid (Up w.heap.size w w8) := (HW3.out.stay HV7.out.1).stay hU8.1
      have hu8 := HU8.out.2
      clear cx hT hgs hS8 hU8
      obtain ⟨Y, hY⟩ : ∃ Y, w8.alloc (.cells #[.int .u8 121, .int .u8 10] 5 (2, 3)) = Y := ⟨_, rfl⟩
      have HOY : Hid (OMg Y w8.heap.size w8.heap.size 2 [121, 10]) := by show OMg _ _ _ _ _; rw [← hY]; exact om_two w8 _ (Nat.le_refl _) 121 10
      have HVY : Hid (Up w8.heap.size w8 Y) := by show Up _ _ _; rw [← hY]; exact (Up.refl w8).alloc _
      have hvY := HVY.out.2
      have HXY : Hid (BC Y ba bbn bc) := (HH.out.2.2.2.stay HU8.out.1).stay HVY.out.1
      go_wp2_with (at_builtin; refine om_app rfl _ _ rfl w8.heap.size w8.heap.size 2 [121, 10] 2 rfl rfl HOY.out (by omega) ba bbn bcap bc rfl HXY.out (by omega) hvY ?_)
      intro g9 cp9 v9 ho9 hg9
      obtain ⟨B9, hB9⟩ : ∃ B9, [121] ++ [10] ++ cl bc bbn = B9 := ⟨_, rfl⟩
      have HB9 : Hid (B9 = [121] ++ [10] ++ cl bc bbn) := hB9.symm
      have HO9 : Hid (OMg v9 w8.heap.size g9 cp9 B9) := by show OMg _ _ _ _ _; rw [← hB9]; simpa using ho9
      obtain ⟨n9, hn9⟩ : ∃ n9, 2 + bbn = n9 := ⟨_, rfl⟩
      rw [hn9]
      have HL9 : Hid (B9.length = n9) := by show _ = _; rw [← hB9, List.length_append, cl_len]; exact hn9
      have HV9 : Hid (Up w8.heap.size w8 v9) := HVY.out.grown hg9 (fun q hq => by have := HOY.out.lo; have := Option.some.inj hq; omega)
      have hT9 : Byt B9 := by
        intro x hx
        rw [← hB9] at hx
        simp only [List.mem_append, List.mem_singleton] at hx
        rcases hx with (rfl | rfl) | h
        · decide
        · decide
        · exact HBE.out x h
      have hch9 : Ch (cL B9) n9 := by rw [← HL9.out]; exact cL_ch hT9
      have hbc9 : BC v9 (some ⟨g9, 0, none⟩) n9 (cL B9) := by have := HO9.out.bc; rw [HL9.out] at this; exact this
      have hle9 : n9 ≤ cp9 := by have := HO9.out.len; rw [HL9.out] at this; exact this
      have hbg9 : cp9 ≤ 9223372036854775807 := by have := HO9.out.big; unfold maxLen at this; omega
      have hG9 : GlM v9 := (HH.out.1.stay HU8.out.1).stay HV9.out.1
      have cy := mlex_any (cap := cp9) hch9 hbc9 (by omega) (by omega) hle9 hbg9 hG9 (HA.out _ _ hch9 (by omega))
      unfold MlP at cy
      have hpa := plain_at HBE.out
      rw [← HB9.out, HL9.out, HLB.out] at hpa
      obtain ⟨LC, hLC⟩ : ∃ LC, mkA (cL B9) n9 = LC := ⟨_, rfl⟩
      rw [hLC] at cy hpa
      have HPA : Hid (∀ i, LC (2 + i) = LB i) := hpa
      have hn9b : 2 + bbn ≤ n9 ∧ n9 ≤ 2 + bbn := by omega
      clear ho9 hg9 hB9 hn9 hT9 hch9 hbc9 hle9 hbg9 hG9 hpa hLC hY hcB
      go_wp2_with fail
      refine cy.mono ?_
      rintro e w9 ⟨T2, gs2, rfl, hT2, hgs2, hS9, hU9⟩
      have HS : Hid (Sh w9 T gs n7 LA ∧ Sh w9 T2 gs2 n9 LC ∧ Below w.heap.size w w9) := ⟨(HS8.out.stay HV9.out.1).stay (hU9.1.mono (Nat.le_refl _)), hS9, ((HU8.out.stay HV9.out.1).stay hU9.1).1⟩
      clear cy hT2 hgs2 hS9 hU9
      have c0 := at_any HS.out.1 0 (by omega)
      have c1 := at_any HS.out.1 1 (by omega)
      rw [HFA.out.1 0 (by omega)] at c0
      rw [HFA.out.1 1 (by omega)] at c1
      rw [show ((0 : Nat) : Int) = 0 from rfl] at c0
      rw [show ((1 : Nat) : Int) = 1 from rfl] at c1
      go_wp2_with fail
      refine c0.mono ?_
      rintro e w10 ⟨rfl, hw⟩
      subst w10
      clear c0
      go_wp2_with fail
      refine c1.mono ?_
      rintro e w10 ⟨rfl, hw⟩
      subst w10
      clear c1
      have hn62 : 2 ≤ n6 := by omega
      have hn7b : n6 + bbn ≤ n7 := by omega
      have hn6b : n6 ≤ 2000 := by omega
      go_upto_region 28 with fail
      go_loopg [20] n6 (fun q iv wq => ∃ i : Nat, 2 ≤ i ∧ i ≤ n6 ∧ q = n6 - i + 2 ∧ iv = .int .i64 i ∧ wq = w9)
      case atStart => exact ⟨2, Nat.le_refl _, hn62, by omega, rfl, rfl⟩
      case round =>
        obtain ⟨i, hi2, hi, hqi, rfl, hw⟩ := hrel
        subst hw
        by_cases hlt : i < n6
        · have z1 : (i : Int) < (n6 : Int) := by omega
          have c2 := at_any HS.out.1 i (by omega)
          rw [HFA.out.2.1 i hi2 hlt] at c2
          go_wp2_with fail
          refine c2.mono ?_
          rintro e w10 ⟨rfl, hw⟩
          subst w10
          clear c2
          go_wp2
          go_roundg (n6 - (i + 1) + 2)
          case measure => omega
          case rel => exact ⟨i + 1, by omega, by omega, rfl, by go_num, rfl⟩
        have hi6 : i = n6 := by omega
        subst hi6
        have z1 : ¬ (i : Int) < (i : Int) := by omega
        go_wp2_with fail
        obtain ⟨w9, rfl⟩ : ∃ w9, w9 = wr := ⟨_, rfl⟩
        go_loopg [109] bbn (fun q iv wq => ∃ m : Nat, m ≤ bbn ∧ q = bbn - m ∧ iv = .int .i64 m ∧ wq = w9)
        case atStart => exact ⟨0, Nat.zero_le _, rfl, rfl, rfl⟩
        case round =>
          obtain ⟨m, hm, hqm, rfl, hw⟩ := hrel
          subst hw
          by_cases hlt : m < bbn
          · have z1 : (m : Int) < (bbn : Int) := by omega
            have c3 := at_any HS.out.1 (i + m) (by omega)
            have c4 := at_any HS.out.2.1 (2 + m) (by omega)
            rw [HFA.out.2.2 m, show ((i + m : Nat) : Int) = (i : Int) + (m : Int) by push_cast; rfl] at c3
            rw [HPA.out m, show ((2 + m : Nat) : Int) = 2 + (m : Int) by push_cast; rfl] at c4
            obtain ⟨y, hy⟩ : ∃ y, LB m = y := ⟨_, rfl⟩
            rw [hy] at c3 c4
            clear hy
            go_wp2_with fail
            refine c3.mono ?_
            rintro e w10 ⟨rfl, hw⟩
            subst w10
            clear c3
            go_wp2_with fail
            refine c4.mono ?_
            rintro e w10 ⟨rfl, hw⟩
            subst w10
            clear c4
            go_wp2
            go_roundg (bbn - (m + 1))
            case measure => omega
            case rel => exact ⟨m + 1, by omega, rfl, by go_num, rfl⟩
          have hmb : m = bbn := by omega
          subst hmb
          have z1 : ¬ (m : Int) < (m : Int) := by omega
          go_wp2
          go_ret
          exact ⟨rfl, HS.out.2.2⟩

set_option maxRecDepth 100000 in
set_option maxHeartbeats 4000000 in
theorem fences_126 {w : World} (hG : GlM w) (hAn : ∀ (c : Nat → Int) (n : Nat), Ch c n → n ≤ 40000 → ∀ e, e ≤ n → AnOk (tr c e) e) {ta : Option Addr} {tn tcap : Nat} {tc : Nat → Int} (htC : Ch tc tn) (htb : BC w ta tn tc) (htn : tn ≤ 500) {nv : Int} (hnv : 0 ≤ nv ∧ nv < 256) {ba : Option Addr} {bbn bcap : Nat} {bc : Nat → Int} (hbC : Ch bc bbn) (hbb : BC w ba bbn bc) (hbn : bbn ≤ 300) :
    Calls Tryd.prog 4 #[.slice ta tn tcap, .int .u8 nv, .bool true, .slice ba bbn bcap] w fun ev w' => ev = .returned (.bool true) ∧ Below w.heap.size w w' := by
  have hs : FnS 126 := Or.inr rfl
  have ca := mawake_any w hG
  have HH : Hid (GlM w ∧ (Ch tc tn ∧ BC w ta tn tc) ∧ (Ch bc bbn ∧ BC w ba bbn bc)) := ⟨hG, ⟨htC, htb⟩, ⟨hbC, hbb⟩⟩
  have HA : Hid (∀ (c : Nat → Int) (n : Nat), Ch c n → n ≤ 40000 → ∀ e, e ≤ n → AnOk (tr c e) e) := hAn
  obtain ⟨N, rfl⟩ : ∃ N : Nat, nv = (N : Int) := ⟨nv.toNat, by omega⟩
  obtain ⟨r, hr⟩ : ∃ r, N % 5 = r := ⟨_, rfl⟩
  have hr5 : r < 5 := by rw [← hr]; exact Nat.mod_lt _ (by decide)
  have hmd : Int.tmod (N : Int) 5 = (r : Int) := by rw [← hr]; exact nat_mod N 5
  obtain ⟨k, hk⟩ : ∃ k : Nat, 3 + r = k := ⟨_, rfl⟩
  have hki : (3 : Int) + (r : Int) = (k : Int) := by omega
  have hk3 : 3 ≤ k ∧ k ≤ 7 := by omega
  have y1 : ¬ (500 : Int) < (tn : Int) := by omega
  have y2 : ¬ (300 : Int) < (bbn : Int) := by omega
  have hcA := fun (w' : World) => Go.Lib.run_convert_bytes_const (P := Tryd.prog) w' 22 5 #[.int .u8 120, .int .u8 10] 2 2 Tryd.underlying22 Tryd.underlying5
  have hcB := fun (w' : World) => Go.Lib.run_convert_bytes_const (P := Tryd.prog) w' 22 5 #[.int .u8 121, .int .u8 10] 2 2 Tryd.underlying22 Tryd.underlying5
  clear hG htC htb hbC hbb hr hk hnv hAn
  go_enter Tryd.func4, Tryd.ntmps4
  go_wp2_with fail
  refine ca.mono ?_
  rintro e w1 ⟨rfl, hb1⟩
  have HU1 : Hid (Up w.heap.size w w1) := ⟨hb1, hb1.size⟩
  clear ca hb1
  go_wp2
  go_loopg [10, 35] tn (fun q bv iv wr => ∃ (i : Nat) (bd : Option Addr) (bn bc : Nat), i ≤ tn ∧ q = tn - i ∧ iv = .int .i64 i ∧ bv = .slice bd bn bc ∧ bn ≤ i ∧ Hid (∃ l, l.length = bn ∧ OB wr w.heap.size (.slice bd bn bc) l ∧ l = wo 126 ((cl tc tn).take i)) ∧ Hid (Up w.heap.size w wr))
  case atStart => exact ⟨0, none, 0, 0, Nat.zero_le _, rfl, rfl, rfl, Nat.zero_le _, ⟨[], rfl, OB.nil _ _, rfl⟩, HU1⟩
  case round =>
    obtain ⟨i, bd, bn, bcp, hi, hq, rfl, rfl, hbn2, HL, HU⟩ := hrel
    obtain ⟨l, hl1, hl2, hl3⟩ := HL.out
    have HO : Hid (OB wr w.heap.size (.slice bd bn bcp) l ∧ l.length = bn ∧ l = wo 126 ((cl tc tn).take i)) := ⟨hl2, hl1, hl3⟩
    have hu := HU.out.2
    clear hl1 hl2 hl3 HL
    by_cases hlt : i < tn
    · have z1 : (i : Int) < (tn : Int) := by omega
      have z2 : (0 : Int) ≤ (i : Int) := by omega
      obtain ⟨b, off, rfl, hc⟩ := HH.out.2.1.2 i hlt
      have hcw := cell_stay hc HU.out.1
      obtain ⟨x, hx⟩ : ∃ x, tc i = x := ⟨_, rfl⟩
      rw [hx] at hcw
      have HT : Hid ((cl tc tn).take (i + 1) = (cl tc tn).take i ++ [x]) := by show _ = _; rw [cl_take tc tn i hlt, hx]
      clear hc hx
      by_cases hxb : x = 126
      · have k1 : (x != 126) = false := by simpa using hxb
        have HE : Hid (l = wo 126 ((cl tc tn).take (i + 1))) := by show l = _; rw [HT.out, hxb, wo_snoc_no]; exact HO.out.2.2
        clear hxb
        go_wp2
        go_roundg (tn - (i + 1))
        case measure => omega
        case rel => exact ⟨i + 1, bd, bn, bcp, by omega, rfl, by go_num, rfl, by omega, ⟨l, HO.out.2.1, HO.out.1, HE.out⟩, HU⟩
      · have k1 : (x != 126) = true := by simpa using hxb
        have HE : Hid (l ++ [x] = wo 126 ((cl tc tn).take (i + 1))) := by show l ++ [x] = _; rw [HT.out, wo_snoc_yes hxb, ← HO.out.2.2]
        go_wp2_with (at_builtin; refine app_ob rfl _ _ rfl w.heap.size _ l rfl (HO.out.1.stay (below_alloc wr _)) (some ⟨wr.heap.size, 0, none⟩) 1 1 (cL [x]) rfl (one_bc wr x) (by rw [HO.out.2.1]; omega) (by simp; omega) ?_)
        intro v1 w1 ho1 hg1
        rw [cl_one] at ho1
        obtain ⟨bd1, bc1, rfl, -⟩ := ho1.form
        have HO1 : Hid (OB w1 w.heap.size (.slice bd1 (l ++ [x]).length bc1) (l ++ [x])) := ho1
        have HU1 : Hid (Up w.heap.size w w1) := (HU.out.alloc _).grown hg1 (own_base HO.out.1)
        obtain ⟨n1, hn1⟩ : ∃ n1, (l ++ [x]).length = n1 := ⟨_, rfl⟩
        have HN1 : Hid ((l ++ [x]).length = n1) := hn1
        have hn1b : n1 ≤ i + 1 := by rw [← hn1, List.length_append, HO.out.2.1]; simp; omega
        rw [hn1] at HO1 ⊢
        clear ho1 hg1 hn1
        go_wp2
        go_roundg (tn - (i + 1))
        case measure => omega
        case rel => exact ⟨i + 1, bd1, n1, bc1, by omega, rfl, by go_num, rfl, hn1b, ⟨l ++ [x], HN1.out, HO1.out, HE.out⟩, HU1⟩
    obtain rfl : i = tn := by omega
    have z1 : ¬ (i : Int) < (i : Int) := by omega
    have HCL : Hid (Byt l ∧ (∀ x ∈ l, x ≠ 126) ∧ l.length = bn ∧ BC wr bd bn (cL l) ∧ Up w.heap.size w wr) := by
      have h1 := HO.out.2.2
      rw [List.take_of_length_le (by rw [cl_len]; omega)] at h1
      refine ⟨?_, ?_, HO.out.2.1, ?_, HU.out⟩
      · rw [h1]; exact wo_byt (cl_byt HH.out.2.1.1)
      · rw [h1]; exact fun x hx => (wo_mem hx).2
      · have h2 : OB wr w.heap.size (.slice bd l.length bcp) l := by rw [HO.out.2.1]; exact HO.out.1
        have := h2.bc
        rw [HO.out.2.1] at this
        exact this
    clear HO
    go_wp2
    obtain ⟨w2, rfl⟩ : ∃ w2, w2 = wr := ⟨_, rfl⟩
    go_loopg [11, 50] k (fun q fv iv wq => ∃ (j : Nat) (fd : Option Addr) (fc : Nat), j ≤ k ∧ q = k - j ∧ iv = .int .u8 j ∧ fv = .slice fd j fc ∧ Hid (OB wq w2.heap.size (.slice fd j fc) (fnR 126 j)) ∧ Hid (Up w2.heap.size w2 wq))
    case atStart => exact ⟨0, none, 0, Nat.zero_le _, rfl, rfl, rfl, OB.nil _ _, Up.refl w2⟩
    case round =>
      obtain ⟨j, fd, fc, hj, hqj, rfl, rfl, HF, HUF⟩ := hrel
      have huf := HUF.out.2
      by_cases hlt : j < k
      · have z1 : (j : Int) < (k : Int) := by omega
        go_wp2_with (at_builtin; refine app_ob rfl _ _ rfl w2.heap.size _ (fnR 126 j) rfl (HF.out.stay (below_alloc wr _)) (some ⟨wr.heap.size, 0, none⟩) 1 1 (cL [126]) rfl (one_bc wr 126) (by rw [fnR_len]; omega) (by simp; omega) ?_)
        intro v1 w3 ho1 hg1
        rw [cl_one, show fnR 126 j ++ [(126 : Int)] = fnR 126 (j + 1) from (List.replicate_succ' ..).symm] at ho1
        obtain ⟨bd1, bc1, rfl, -⟩ := ho1.form
        rw [fnR_len] at ho1 ⊢
        have HO1 : Hid (OB w3 w2.heap.size (.slice bd1 (j + 1) bc1) (fnR 126 (j + 1))) := ho1
        have HU3 : Hid (Up w2.heap.size w2 w3) := (HUF.out.alloc _).grown hg1 (own_base HF.out)
        clear ho1 hg1
        go_wp2
        go_roundg (k - (j + 1))
        case measure => omega
        case rel => exact ⟨j + 1, bd1, bc1, by omega, rfl, by go_num, rfl, HO1, HU3⟩
      have hjk : j = k := by omega
      subst hjk
      have z1 : ¬ (j : Int) < (j : Int) := by omega
      have HBF : Hid (BC wr fd j (cL (fnR 126 j)) ∧ BC wr bd bn (cL l) ∧ Up w.heap.size w wr) := by
        refine ⟨?_, HCL.out.2.2.2.1.stay HUF.out.1, ?_⟩
        · have h2 : OB wr w2.heap.size (.slice fd (fnR 126 j).length fc) (fnR 126 j) := by rw [fnR_len]; exact HF.out
          have := h2.bc
          rw [fnR_len] at this
          exact this
        · exact HCL.out.2.2.2.2.stay HUF.out.1
      clear HF
      have HW3 : Hid (Up w.heap.size w wr) := HBF.out.2.2
      obtain ⟨W, hW⟩ : ∃ W, wr.alloc (.cells #[.int .u8 120, .int .u8 10] 5 (2, 3)) = W := ⟨_, rfl⟩
      have HO0 : Hid (OMg W wr.heap.size wr.heap.size 2 [120, 10]) := by show OMg _ _ _ _ _; rw [← hW]; exact om_two wr _ (Nat.le_refl _) 120 10
      have HV0 : Hid (Up wr.heap.size wr W) := by show Up _ _ _; rw [← hW]; exact (Up.refl wr).alloc _
      have hv0 := HV0.out.2
      have HLl : Hid (l.length = bn) := HCL.out.2.2.1
      have HX1 : Hid (BC W fd j (cL (fnR 126 j))) := HBF.out.1.stay HV0.out.1
      go_wp2_with (at_builtin; refine om_app rfl _ _ rfl wr.heap.size (wr.heap.size) (2) [120, 10] (2) rfl rfl HO0.out (by omega) fd j fc (cL (fnR 126 j)) rfl HX1.out (by omega) hv0 ?_)
      intro g1 cp1 v1 ho1 hg1
      rw [show cl (cL (fnR 126 j)) j = fnR 126 j by have := cl_cL (fnR 126 j); rwa [fnR_len] at this] at ho1
      obtain ⟨B1, hB1⟩ : ∃ B1, [120, 10] ++ fnR 126 j = B1 := ⟨_, rfl⟩
      have HB1 : Hid (B1 = [120, 10] ++ fnR 126 j) := hB1.symm
      have ho1x : OMg v1 wr.heap.size g1 cp1 B1 := by rw [← hB1]; simpa using ho1
      have HO1 : Hid (OMg v1 wr.heap.size g1 cp1 B1) := ho1x
      obtain ⟨n1, hn1⟩ : ∃ n1, 2 + j = n1 := ⟨_, rfl⟩
      try rw [hn1]
      have HL1 : Hid (B1.length = n1) := by show _ = _; rw [HB1.out, List.length_append, show ([120, 10] : List Int).length = 2 from rfl, fnR_len 126 j]; exact hn1
      have HV1 : Hid (Up wr.heap.size wr v1) := HV0.out.grown hg1 (fun q hq => by have := HO0.out.lo; have := Option.some.inj hq; omega)
      have hv1 := HV1.out.2
      have HNN1 : Hid (n1 = 2 + j) := hn1.symm
      have hnl1 : n1 ≤ 2 + j ∧ 2 + j ≤ n1 := by omega
      clear ho1 hg1 hB1 hn1 ho1x
      go_wp2_with (at_builtin; refine om_app rfl _ _ rfl wr.heap.size (g1) (cp1) B1 (n1) HL1.out rfl (HO1.out.stay (below_alloc v1 _)) (by omega) (some ⟨v1.heap.size, 0, none⟩) 1 1 (cL [10]) rfl (one_bc v1 10) (by omega) (by simp; omega) ?_)
      intro g2 cp2 v2 ho2 hg2
      rw [cl_one] at ho2
      obtain ⟨B2, hB2⟩ : ∃ B2, B1 ++ [10] = B2 := ⟨_, rfl⟩
      have HB2 : Hid (B2 = B1 ++ [10]) := hB2.symm
      have ho2x : OMg v2 wr.heap.size g2 cp2 B2 := by rw [← hB2]; simpa using ho2
      have HO2 : Hid (OMg v2 wr.heap.size g2 cp2 B2) := ho2x
      obtain ⟨n2, hn2⟩ : ∃ n2, n1 + 1 = n2 := ⟨_, rfl⟩
      try rw [hn2]
      have HL2 : Hid (B2.length = n2) := by show _ = _; rw [HB2.out, List.length_append, HL1.out, show ([10] : List Int).length = 1 from rfl]; exact hn2
      have HV2 : Hid (Up wr.heap.size wr v2) := (HV1.out.alloc _).grown hg2 (fun q hq => by have := HO1.out.lo; have := Option.some.inj hq; omega)
      have hv2 := HV2.out.2
      have HNN2 : Hid (n2 = n1 + 1) := hn2.symm
      have hnl2 : n2 ≤ n1 + 1 ∧ n1 + 1 ≤ n2 := by omega
      clear ho2 hg2 hB2 hn2 ho2x
      have HX3 : Hid (BC v2 bd bn (cL l)) := HBF.out.2.1.stay HV2.out.1
      go_wp2_with (at_builtin; refine om_app rfl _ _ rfl wr.heap.size (g2) (cp2) B2 (n2) HL2.out rfl HO2.out (by omega) bd bn bcp (cL l) rfl HX3.out (by omega) hv2 ?_)
      intro g3 cp3 v3 ho3 hg3
      rw [show cl (cL l) bn = l by have := cl_cL l; rwa [HLl.out] at this] at ho3
      obtain ⟨B3, hB3⟩ : ∃ B3, B2 ++ l = B3 := ⟨_, rfl⟩
      have HB3 : Hid (B3 = B2 ++ l) := hB3.symm
      have ho3x : OMg v3 wr.heap.size g3 cp3 B3 := by rw [← hB3]; simpa using ho3
      have HO3 : Hid (OMg v3 wr.heap.size g3 cp3 B3) := ho3x
      obtain ⟨n3, hn3⟩ : ∃ n3, n2 + bn = n3 := ⟨_, rfl⟩
      try rw [hn3]
      have HL3 : Hid (B3.length = n3) := by show _ = _; rw [HB3.out, List.length_append, HL2.out, HLl.out]; exact hn3
      have HV3 : Hid (Up wr.heap.size wr v3) := HV2.out.grown hg3 (fun q hq => by have := HO2.out.lo; have := Option.some.inj hq; omega)
      have hv3 := HV3.out.2
      have HNN3 : Hid (n3 = n2 + bn) := hn3.symm
      have hnl3 : n3 ≤ n2 + bn ∧ n2 + bn ≤ n3 := by omega
      clear ho3 hg3 hB3 hn3 ho3x
      go_wp2_with (at_builtin; refine om_app rfl _ _ rfl wr.heap.size (g3) (cp3) B3 (n3) HL3.out rfl (HO3.out.stay (below_alloc v3 _)) (by omega) (some ⟨v3.heap.size, 0, none⟩) 1 1 (cL [10]) rfl (one_bc v3 10) (by omega) (by simp; omega) ?_)
      intro g4 cp4 v4 ho4 hg4
      rw [cl_one] at ho4
      obtain ⟨B4, hB4⟩ : ∃ B4, B3 ++ [10] = B4 := ⟨_, rfl⟩
      have HB4 : Hid (B4 = B3 ++ [10]) := hB4.symm
      have ho4x : OMg v4 wr.heap.size g4 cp4 B4 := by rw [← hB4]; simpa using ho4
      have HO4 : Hid (OMg v4 wr.heap.size g4 cp4 B4) := ho4x
      obtain ⟨n4, hn4⟩ : ∃ n4, n3 + 1 = n4 := ⟨_, rfl⟩
      try rw [hn4]
      have HL4 : Hid (B4.length = n4) := by show _ = _; rw [HB4.out, List.length_append, HL3.out, show ([10] : List Int).length = 1 from rfl]; exact hn4
      have HV4 : Hid (Up wr.heap.size wr v4) := (HV3.out.alloc _).grown hg4 (fun q hq => by have := HO3.out.lo; have := Option.some.inj hq; omega)
      have hv4 := HV4.out.2
      have HNN4 : Hid (n4 = n3 + 1) := hn4.symm
      have hnl4 : n4 ≤ n3 + 1 ∧ n3 + 1 ≤ n4 := by omega
      clear ho4 hg4 hB4 hn4 ho4x
      have HX5 : Hid (BC v4 fd j (cL (fnR 126 j))) := HBF.out.1.stay HV4.out.1
      go_wp2_with (at_builtin; refine om_app rfl _ _ rfl wr.heap.size (g4) (cp4) B4 (n4) HL4.out rfl HO4.out (by omega) fd j fc (cL (fnR 126 j)) rfl HX5.out (by omega) hv4 ?_)
      intro g5 cp5 v5 ho5 hg5
      rw [show cl (cL (fnR 126 j)) j = fnR 126 j by have := cl_cL (fnR 126 j); rwa [fnR_len] at this] at ho5
      obtain ⟨B5, hB5⟩ : ∃ B5, B4 ++ fnR 126 j = B5 := ⟨_, rfl⟩
      have HB5 : Hid (B5 = B4 ++ fnR 126 j) := hB5.symm
      have ho5x : OMg v5 wr.heap.size g5 cp5 B5 := by rw [← hB5]; simpa using ho5
      have HO5 : Hid (OMg v5 wr.heap.size g5 cp5 B5) := ho5x
      obtain ⟨n5, hn5⟩ : ∃ n5, n4 + j = n5 := ⟨_, rfl⟩
      try rw [hn5]
      have HL5 : Hid (B5.length = n5) := by show _ = _; rw [HB5.out, List.length_append, HL4.out, fnR_len 126 j]; exact hn5
      have HV5 : Hid (Up wr.heap.size wr v5) := HV4.out.grown hg5 (fun q hq => by have := HO4.out.lo; have := Option.some.inj hq; omega)
      have hv5 := HV5.out.2
      have HNN5 : Hid (n5 = n4 + j) := hn5.symm
      have hnl5 : n5 ≤ n4 + j ∧ n4 + j ≤ n5 := by omega
      clear ho5 hg5 hB5 hn5 ho5x
      go_wp2_with (at_builtin; refine om_app rfl _ _ rfl wr.heap.size (g5) (cp5) B5 (n5) HL5.out rfl (HO5.out.stay (below_alloc v5 _)) (by omega) (some ⟨v5.heap.size, 0, none⟩) 1 1 (cL [10]) rfl (one_bc v5 10) (by omega) (by simp; omega) ?_)
      intro g6 cp6 v6 ho6 hg6
      rw [cl_one] at ho6
      obtain ⟨B6, hB6⟩ : ∃ B6, B5 ++ [10] = B6 := ⟨_, rfl⟩
      have HB6 : Hid (B6 = B5 ++ [10]) := hB6.symm
      have ho6x : OMg v6 wr.heap.size g6 cp6 B6 := by rw [← hB6]; simpa using ho6
      have HO6 : Hid (OMg v6 wr.heap.size g6 cp6 B6) := ho6x
      obtain ⟨n6, hn6⟩ : ∃ n6, n5 + 1 = n6 := ⟨_, rfl⟩
      try rw [hn6]
      have HL6 : Hid (B6.length = n6) := by show _ = _; rw [HB6.out, List.length_append, HL5.out, show ([10] : List Int).length = 1 from rfl]; exact hn6
      have HV6 : Hid (Up wr.heap.size wr v6) := (HV5.out.alloc _).grown hg6 (fun q hq => by have := HO5.out.lo; have := Option.some.inj hq; omega)
      have hv6 := HV6.out.2
      have HNN6 : Hid (n6 = n5 + 1) := hn6.symm
      have hnl6 : n6 ≤ n5 + 1 ∧ n5 + 1 ≤ n6 := by omega
      clear ho6 hg6 hB6 hn6 ho6x
      have HX7 : Hid (BC v6 ba bbn bc) := (HH.out.2.2.2.stay HW3.out.1).stay HV6.out.1
      go_wp2_with (at_builtin; refine om_app rfl _ _ rfl wr.heap.size (g6) (cp6) B6 (n6) HL6.out rfl HO6.out (by omega) ba bbn bcap bc rfl HX7.out (by omega) hv6 ?_)
      intro g7 cp7 v7 ho7 hg7
      obtain ⟨B7, hB7⟩ : ∃ B7, B6 ++ cl bc bbn = B7 := ⟨_, rfl⟩
      have HB7 : Hid (B7 = B6 ++ cl bc bbn) := hB7.symm
      have ho7x : OMg v7 wr.heap.size g7 cp7 B7 := by rw [← hB7]; simpa using ho7
      have HO7 : Hid (OMg v7 wr.heap.size g7 cp7 B7) := ho7x
      obtain ⟨n7, hn7⟩ : ∃ n7, n6 + bbn = n7 := ⟨_, rfl⟩
      try rw [hn7]
      have HL7 : Hid (B7.length = n7) := by show _ = _; rw [HB7.out, List.length_append, HL6.out, cl_len bc bbn]; exact hn7
      have HV7 : Hid (Up wr.heap.size wr v7) := HV6.out.grown hg7 (fun q hq => by have := HO6.out.lo; have := Option.some.inj hq; omega)
      have hv7 := HV7.out.2
      have HNN7 : Hid (n7 = n6 + bbn) := hn7.symm
      have hnl7 : n7 ≤ n6 + bbn ∧ n6 + bbn ≤ n7 := by omega
      clear ho7 hg7 hB7 hn7 ho7x
      have HB6H : Hid (B6 = fnH 126 j l) := by show _ = _; rw [HB6.out, HB5.out, HB4.out, HB3.out, HB2.out, HB1.out]; simp [fnH]
      have HE6 : Hid (n6 = fnE j bn) := by have := HL6.out; rw [HB6H.out, fnH_len, HLl.out] at this; exact this.symm
      have hbeb : Byt (cl bc bbn) := cl_byt HH.out.2.2.1
      have HT : Hid (B7 = fnH 126 j l ++ cl bc bbn) := by show _ = _; rw [HB7.out, HB6H.out]
      have hT7 : Byt B7 := by
        intro x hx
        rw [HT.out] at hx
        unfold fnH at hx
        simp only [List.mem_append, List.mem_singleton] at hx
        rcases hx with ((rfl | rfl) | ((h | rfl) | ((h | rfl) | (h | rfl)))) | h
        · decide
        · decide
        · rw [List.eq_of_mem_replicate h]; decide
        · decide
        · exact HCL.out.1 x h
        · decide
        · rw [List.eq_of_mem_replicate h]; decide
        · decide
        · exact hbeb x h
      have hch7 : Ch (cL B7) n7 := by rw [← HL7.out]; exact cL_ch hT7
      have hbc7 : BC v7 (some ⟨g7, 0, none⟩) n7 (cL B7) := by have := HO7.out.bc; rw [HL7.out] at this; exact this
      have hle7 : n7 ≤ cp7 := by have := HO7.out.len; rw [HL7.out] at this; exact this
      have hbg7 : cp7 ≤ 9223372036854775807 := by have := HO7.out.big; unfold maxLen at this; omega
      have hG7 : GlM v7 := (HH.out.1.stay HW3.out.1).stay HV7.out.1
      have cx := mlex_any (cap := cp7) hch7 hbc7 (by omega) (by omega) hle7 hbg7 hG7 (HA.out _ _ hch7 (by omega))
      unfold MlP at cx
      have hfa := fence_at hs (k := j) hk3.1 (cl := l) (be := cl bc bbn) HCL.out.1 HCL.out.2.1 hbeb
      rw [← HT.out, HL7.out, HLl.out, ← HE6.out] at hfa
      obtain ⟨LA, hLA⟩ : ∃ LA, mkA (cL B7) n7 = LA := ⟨_, rfl⟩
      rw [hLA] at cx hfa
      obtain ⟨LB, hLB⟩ : ∃ LB, mk (cL (cl bc bbn)) (cl bc bbn).length 0 ⟨0, 0, false⟩ (fun _ => 1) = LB := ⟨_, rfl⟩
      rw [hLB] at hfa
      have HFA : Hid ((∀ i, i < 2 → LA i = 1) ∧ (∀ i, 2 ≤ i → i < n6 → LA i = 4) ∧ ∀ i, LA (n6 + i) = LB i) := hfa
      have HLB : Hid (mk (cL (cl bc bbn)) (cl bc bbn).length 0 ⟨0, 0, false⟩ (fun _ => 1) = LB) := hLB
      have HBE : Hid (Byt (cl bc bbn)) := hbeb
      clear hbeb hT7 hch7 hbc7 hle7 hbg7 hG7 hfa hLA hLB hW hcA
      go_wp2_with fail
      refine cx.mono ?_
      rintro e w8 ⟨T, gs, rfl, hT, hgs, hS8, hU8⟩
      have HS8 : Hid (Sh w8 T gs n7 LA) := hS8
      have HU8 : Hid (Up w.heap.size w w8) := (HW3.out.stay HV7.out.1).stay hU8.1
      have hu8 := HU8.out.2
      clear cx hT hgs hS8 hU8
      obtain ⟨Y, hY⟩ : ∃ Y, w8.alloc (.cells #[.int .u8 121, .int .u8 10] 5 (2, 3)) = Y := ⟨_, rfl⟩
      have HOY : Hid (OMg Y w8.heap.size w8.heap.size 2 [121, 10]) := by show OMg _ _ _ _ _; rw [← hY]; exact om_two w8 _ (Nat.le_refl _) 121 10
      have HVY : Hid (Up w8.heap.size w8 Y) := by show Up _ _ _; rw [← hY]; exact (Up.refl w8).alloc _
      have hvY := HVY.out.2
      have HXY : Hid (BC Y ba bbn bc) := (HH.out.2.2.2.stay HU8.out.1).stay HVY.out.1
      go_wp2_with (at_builtin; refine om_app rfl _ _ rfl w8.heap.size w8.heap.size 2 [121, 10] 2 rfl rfl HOY.out (by omega) ba bbn bcap bc rfl HXY.out (by omega) hvY ?_)
      intro g9 cp9 v9 ho9 hg9
      obtain ⟨B9, hB9⟩ : ∃ B9, [121] ++ [10] ++ cl bc bbn = B9 := ⟨_, rfl⟩
      have HB9 : Hid (B9 = [121] ++ [10] ++ cl bc bbn) := hB9.symm
      have HO9 : Hid (OMg v9 w8.heap.size g9 cp9 B9) := by show OMg _ _ _ _ _; rw [← hB9]; simpa using ho9
      obtain ⟨n9, hn9⟩ : ∃ n9, 2 + bbn = n9 := ⟨_, rfl⟩
      rw [hn9]
      have HL9 : Hid (B9.length = n9) := by show _ = _; rw [← hB9, List.length_append, cl_len]; exact hn9
      have HV9 : Hid (Up w8.heap.size w8 v9) := HVY.out.grown hg9 (fun q hq => by have := HOY.out.lo; have := Option.some.inj hq; omega)
      have hT9 : Byt B9 := by
        intro x hx
        rw [← hB9] at hx
        simp only [List.mem_append, List.mem_singleton] at hx
        rcases hx with (rfl | rfl) | h
        · decide
        · decide
        · exact HBE.out x h
      have hch9 : Ch (cL B9) n9 := by rw [← HL9.out]; exact cL_ch hT9
      have hbc9 : BC v9 (some ⟨g9, 0, none⟩) n9 (cL B9) := by have := HO9.out.bc; rw [HL9.out] at this; exact this
      have hle9 : n9 ≤ cp9 := by have := HO9.out.len; rw [HL9.out] at this; exact this
      have hbg9 : cp9 ≤ 9223372036854775807 := by have := HO9.out.big; unfold maxLen at this; omega
      have hG9 : GlM v9 := (HH.out.1.stay HU8.out.1).stay HV9.out.1
      have cy := mlex_any (cap := cp9) hch9 hbc9 (by omega) (by omega) hle9 hbg9 hG9 (HA.out _ _ hch9 (by omega))
      unfold MlP at cy
      have hpa := plain_at HBE.out
      rw [← HB9.out, HL9.out, HLB.out] at hpa
      obtain ⟨LC, hLC⟩ : ∃ LC, mkA (cL B9) n9 = LC := ⟨_, rfl⟩
      rw [hLC] at cy hpa
      have HPA : Hid (∀ i, LC (2 + i) = LB i) := hpa
      have hn9b : 2 + bbn ≤ n9 ∧ n9 ≤ 2 + bbn := by omega
      clear ho9 hg9 hB9 hn9 hT9 hch9 hbc9 hle9 hbg9 hG9 hpa hLC hY hcB
      go_wp2_with fail
      refine cy.mono ?_
      rintro e w9 ⟨T2, gs2, rfl, hT2, hgs2, hS9, hU9⟩
      have HS : Hid (Sh w9 T gs n7 LA ∧ Sh w9 T2 gs2 n9 LC ∧ Below w.heap.size w w9) := ⟨(HS8.out.stay HV9.out.1).stay (hU9.1.mono (Nat.le_refl _)), hS9, ((HU8.out.stay HV9.out.1).stay hU9.1).1⟩
      clear cy hT2 hgs2 hS9 hU9
      have c0 := at_any HS.out.1 0 (by omega)
      have c1 := at_any HS.out.1 1 (by omega)
      rw [HFA.out.1 0 (by omega)] at c0
      rw [HFA.out.1 1 (by omega)] at c1
      rw [show ((0 : Nat) : Int) = 0 from rfl] at c0
      rw [show ((1 : Nat) : Int) = 1 from rfl] at c1
      go_wp2_with fail
      refine c0.mono ?_
      rintro e w10 ⟨rfl, hw⟩
      subst w10
      clear c0
      go_wp2_with fail
      refine c1.mono ?_
      rintro e w10 ⟨rfl, hw⟩
      subst w10
      clear c1
      have hn62 : 2 ≤ n6 := by omega
      have hn7b : n6 + bbn ≤ n7 := by omega
      have hn6b : n6 ≤ 2000 := by omega
      go_upto_region 28 with fail
      go_loopg [20] n6 (fun q iv wq => ∃ i : Nat, 2 ≤ i ∧ i ≤ n6 ∧ q = n6 - i + 2 ∧ iv = .int .i64 i ∧ wq = w9)
      case atStart => exact ⟨2, Nat.le_refl _, hn62, by omega, rfl, rfl⟩
      case round =>
        obtain ⟨i, hi2, hi, hqi, rfl, hw⟩ := hrel
        subst hw
        by_cases hlt : i < n6
        · have z1 : (i : Int) < (n6 : Int) := by omega
          have c2 := at_any HS.out.1 i (by omega)
          rw [HFA.out.2.1 i hi2 hlt] at c2
          go_wp2_with fail
          refine c2.mono ?_
          rintro e w10 ⟨rfl, hw⟩
          subst w10
          clear c2
          go_wp2
          go_roundg (n6 - (i + 1) + 2)
          case measure => omega
          case rel => exact ⟨i + 1, by omega, by omega, rfl, by go_num, rfl⟩
        have hi6 : i = n6 := by omega
        subst hi6
        have z1 : ¬ (i : Int) < (i : Int) := by omega
        go_wp2_with fail
        obtain ⟨w9, rfl⟩ : ∃ w9, w9 = wr := ⟨_, rfl⟩
        go_loopg [109] bbn (fun q iv wq => ∃ m : Nat, m ≤ bbn ∧ q = bbn - m ∧ iv = .int .i64 m ∧ wq = w9)
        case atStart => exact ⟨0, Nat.zero_le _, rfl, rfl, rfl⟩
        case round =>
          obtain ⟨m, hm, hqm, rfl, hw⟩ := hrel
          subst hw
          by_cases hlt : m < bbn
          · have z1 : (m : Int) < (bbn : Int) := by omega
            have c3 := at_any HS.out.1 (i + m) (by omega)
            have c4 := at_any HS.out.2.1 (2 + m) (by omega)
            rw [HFA.out.2.2 m, show ((i + m : Nat) : Int) = (i : Int) + (m : Int) by push_cast; rfl] at c3
            rw [HPA.out m, show ((2 + m : Nat) : Int) = 2 + (m : Int) by push_cast; rfl] at c4
            obtain ⟨y, hy⟩ : ∃ y, LB m = y := ⟨_, rfl⟩
            rw [hy] at c3 c4
            clear hy
            go_wp2_with fail
            refine c3.mono ?_
            rintro e w10 ⟨rfl, hw⟩
            subst w10
            clear c3
            go_wp2_with fail
            refine c4.mono ?_
            rintro e w10 ⟨rfl, hw⟩
            subst w10
            clear c4
            go_wp2
            go_roundg (bbn - (m + 1))
            case measure => omega
            case rel => exact ⟨m + 1, by omega, rfl, by go_num, rfl⟩
          have hmb : m = bbn := by omega
          subst hmb
          have z1 : ¬ (m : Int) < (m : Int) := by omega
          go_wp2
          go_ret
          exact ⟨rfl, HS.out.2.2⟩

set_option maxRecDepth 100000 in
theorem mfences_an {w : World} (hG : GlM w) (hAn : ∀ (c : Nat → Int) (n : Nat), Ch c n → n ≤ 40000 → ∀ e, e ≤ n → AnOk (tr c e) e) {ta : Option Addr} {tn tcap : Nat} {tc : Nat → Int} (htC : Ch tc tn) (htb : BC w ta tn tc) (htm : tn ≤ maxLen) {nv : Int} (hnv : 0 ≤ nv ∧ nv < 256) (ti : Bool) {ba : Option Addr} {bbn bcap : Nat} {bc : Nat → Int} (hbC : Ch bc bbn) (hbb : BC w ba bbn bc) (hbm : bbn ≤ maxLen) :
    Calls Tryd.prog 4 #[.slice ta tn tcap, .int .u8 nv, .bool ti, .slice ba bbn bcap] w fun ev w' => ev = .returned (.bool true) ∧ Below w.heap.size w w' := by
  by_cases h1 : tn ≤ 500
  · by_cases h2 : bbn ≤ 300
    · cases ti with
      | false => exact fences_96 hG hAn htC htb h1 hnv hbC hbb h2
      | true => exact fences_126 hG hAn htC htb h1 hnv hbC hbb h2
    · have ca := mawake_any w hG
      have hml : maxLen ≤ 9223372036854775807 := by unfold maxLen; omega
      have y1 : ¬ (500 : Int) < (tn : Int) := by omega
      have y2 : (300 : Int) < (bbn : Int) := by omega
      clear hG hAn htC htb hbC hbb
      go_enter Tryd.func4, Tryd.ntmps4
      go_wp2_with fail
      refine ca.mono ?_
      rintro e w1 ⟨rfl, hb1⟩
      have HB : Hid (Below w.heap.size w w1) := hb1
      clear ca hb1
      go_wp2
      go_ret
      exact ⟨rfl, HB.out⟩
  · have ca := mawake_any w hG
    have hml : maxLen ≤ 9223372036854775807 := by unfold maxLen; omega
    have y1 : (500 : Int) < (tn : Int) := by omega
    clear hG hAn htC htb hbC hbb
    go_enter Tryd.func4, Tryd.ntmps4
    go_wp2_with fail
    refine ca.mono ?_
    rintro e w1 ⟨rfl, hb1⟩
    have HB : Hid (Below w.heap.size w w1) := hb1
    clear ca hb1
    go_wp2
    go_ret
    exact ⟨rfl, HB.out⟩
theorem mfences_law {w : World} (hG : GlM w) {ta : Option Addr} {tn tcap : Nat} {tc : Nat → Int} (htC : Ch tc tn) (htb : BC w ta tn tc) (htm : tn ≤ maxLen) {nv : Int} (hnv : 0 ≤ nv ∧ nv < 256) (ti : Bool) {ba : Option Addr} {bbn bcap : Nat} {bc : Nat → Int} (hbC : Ch bc bbn) (hbb : BC w ba bbn bc) (hbm : bbn ≤ maxLen) :
    Calls Tryd.prog 4 #[.slice ta tn tcap, .int .u8 nv, .bool ti, .slice ba bbn bcap] w fun ev w' => ev = .returned (.bool true) ∧ Below w.heap.size w w' :=
  mfences_an hG (fun c n hC hn e he => an_ok hC hn e he) htC htb htm hnv ti hbC hbb hbm
end Go.Proofs.YtodjfeheagnnpaaDoor
