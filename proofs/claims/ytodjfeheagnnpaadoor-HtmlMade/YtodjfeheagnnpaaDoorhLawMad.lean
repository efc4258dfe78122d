/- HtmlMade. -/
import Derived.Test.YtodjfeheagnnpaaDoorhMadR
namespace Go.Proofs.YtodjfeheagnnpaaDoor
set_option linter.unusedVariables false
open Go.RowKit Go.ChangeShapes

set_option maxRecDepth 100000 in
set_option maxHeartbeats 4000000 in
theorem made_false {w : World} (hG : Glo w) {na : Option Addr} {nn ncap : Nat} {nc : Nat → Int} (hnC : Ch nc nn) (hnb : BC w na nn nc) (hnn : nn ≤ maxLen) {va : Option Addr} {vvn vcap : Nat} (hvr : BRR w va vvn) (hvn : vvn ≤ maxLen) {ba : Option Addr} {bbn bcap : Nat} {bc : Nat → Int} (hbC : Ch bc bbn) (hbb : BC w ba bbn bc) (hbn : bbn ≤ maxLen) :
    Calls Tryd.prog 3 #[.slice na nn ncap, .slice va vvn vcap, .bool false, .slice ba bbn bcap] w fun ev w' => ev = .returned (.bool true) ∧ Below w.heap.size w w' := by
  obtain ⟨sh, hsh⟩ : ∃ sh, sh = false := ⟨_, rfl⟩
  have HSH : Hid (sh = false) := hsh
  obtain ⟨i0, hi0, hz0, hz1, hz2⟩ := info_parts infoPr
  have ca := awake_any w hG
  have HH : Hid (Glo w ∧ (Ch nc nn ∧ BC w na nn nc) ∧ BRR w va vvn ∧ (Ch bc bbn ∧ BC w ba bbn bc)) := ⟨hG, ⟨hnC, hnb⟩, hvr, ⟨hbC, hbb⟩⟩
  have hml : maxLen ≤ 9223372036854775807 := by unfold maxLen; omega
  have hcA := fun (w' : World) => Go.Lib.run_convert_bytes_const (P := Tryd.prog) w' 22 5 #[.int .u8 60] 1 1 Tryd.underlying22 Tryd.underlying5
  clear hG hnC hnb hvr hbC hbb hsh
  go_enter Tryd.func3, Tryd.ntmps3
  go_wp2_with fail
  refine ca.mono ?_
  rintro e w1 ⟨rfl, hb1⟩
  have HU1 : Hid (Up w.heap.size w w1) := ⟨hb1, hb1.size⟩
  clear ca hb1
  obtain ⟨W, hW⟩ : ∃ W, w1.alloc (.cells #[.int .u8 60] 5 (1, 2)) = W := ⟨_, rfl⟩
  have HOW : Hid (OMg W w.heap.size w1.heap.size 1 [60]) := by show OMg _ _ _ _ _; rw [← hW]; exact om_lit w1 _ HU1.out.2
  have HUW : Hid (Up w.heap.size w W) := by show Up _ _ _; rw [← hW]; exact HU1.out.alloc _
  have huW := HUW.out.2
  go_wp2_with (at_builtin; refine om_str rfl _ _ rfl w.heap.size w1.heap.size 1 [60] 1 rfl rfl HOW.out (by omega) ⟨#[69, 109, 45, 50]⟩ [69, 109, 45, 50] (byt_lit _ rfl) rfl rfl (by decide) huW ?_)
  intro gb cpb wb hob hgb
  try rw [show 1 + ([69, 109, 45, 50] : List Int).length = 5 from rfl]
  have HOb : Hid (OMg wb w.heap.size gb cpb (mdH sh)) := by show OMg _ _ _ _ _; rw [HSH.out]; exact hob
  have HUb : Hid (Up w.heap.size w wb) := HUW.out.grown hgb (fun k hk => by have := HOW.out.lo; have := Option.some.inj hk; omega)
  have HLb : Hid ((mdH sh).length = 5) := by show _ = _; rw [HSH.out]; rfl
  have hm3 : ∀ w : World, (Builtin.min_ #[3, 3, 3] 3 #[.int .i64 (nn : Int), .int .i64 (vvn : Int), .int .i64 8]).run Tryd.prog w = .ok (.int .i64 (min (min (nn : Int) (vvn : Int)) 8)) w := fun w => run_min3 w _ _ _ _ _ _
  obtain ⟨m, hm⟩ : ∃ m : Nat, min (min nn vvn) 8 = m := ⟨_, rfl⟩
  have hmi : min (min (nn : Int) (vvn : Int)) 8 = (m : Int) := by omega
  have hmb : m ≤ nn ∧ m ≤ vvn ∧ m ≤ 8 := by omega
  rw [hmi] at hm3
  clear hob hgb hm hmi hW hcA
  go_wp2
  go_loopg [10, 11, 37] m (fun q bv pv iv wr => ∃ (i g bn cp : Nat) (pd : Option Addr) (pn pc : Nat), i ≤ m ∧ q = m - i ∧ iv = .int .i64 i ∧ bv = .slice (some ⟨g, 0, none⟩) bn cp ∧ pv = .slice pd pn pc ∧ bn ≤ 6 + 19 * i ∧ 5 ≤ bn ∧ pn ≤ i ∧ Hid (∃ B l, OMg wr w.heap.size g cp B ∧ B.length = bn ∧ PR wr w.heap.size (.slice pd pn pc) l ∧ l.length = pn ∧ (l = [] → pd = none) ∧ Md sh B l) ∧ Hid (Up w.heap.size w wr))
  case atStart => exact ⟨0, gb, 5, cpb, none, 0, 0, Nat.zero_le _, rfl, rfl, rfl, rfl, by omega, by omega, Nat.le_refl _, ⟨mdH sh, [], HOb.out, HLb.out, World.ownsRow_nil _ _ _ _, rfl, fun _ => rfl, mdz sh⟩, HUb⟩
  case round =>
    obtain ⟨i, g, bn, cp, pd, pn, pc, hi, hq, rfl, rfl, rfl, hbn1, hbn5, hpn, HX, HU⟩ := hrel
    obtain ⟨B, l, hx1, hx2, hx3, hx4, hx5, hx6⟩ := HX.out
    have HB : Hid (OMg wr w.heap.size g cp B) := hx1
    have HBL : Hid (B.length = bn) := hx2
    have HP : Hid (PR wr w.heap.size (.slice pd pn pc) l) := hx3
    have HPL : Hid (l.length = pn) := hx4
    have HPZ : Hid (l = [] → pd = none) := hx5
    have HM : Hid (Md sh B l) := hx6
    have hu := HU.out.2
    clear hx1 hx2 hx3 hx4 hx5 hx6 HX
    by_cases hlt : i < m
    · have z1 : (i : Int) < (m : Int) := by omega
      have z2 : (0 : Int) ≤ (i : Int) := by omega
      have z4 : (i : Int) < (nn : Int) := by omega
      have z5 : (i : Int) < (vvn : Int) := by omega
      obtain ⟨xb, xo, rfl, hc⟩ := HH.out.2.1.2 i (by omega)
      have HC : Hid (w.cell? ⟨xb, xo + i, none⟩ = some (.int .u8 (nc i))) := hc
      have hcw := cell_stay hc HU.out.1
      have hci := HH.out.2.1.1.1 i (by omega)
      obtain ⟨X, hX⟩ : ∃ X : Nat, nc i = (X : Int) := ⟨(nc i).toNat, by omega⟩
      rw [hX] at hcw HC
      obtain ⟨r, hr⟩ : ∃ r, X % 6 = r := ⟨_, rfl⟩
      have hr6 : r < 6 := by rw [← hr]; exact Nat.mod_lt _ (by decide)
      have hmd : Int.tmod (X : Int) 6 = (r : Int) := by rw [← hr]; exact nat_mod X 6
      obtain ⟨t, ht, ht0, hta, ht6, htl⟩ := mdT_ok r hr6
      have hta' : ∀ x ∈ t, (0 ≤ x ∧ x < 256) ∧ atB x = true := fun x hx => by
        have := List.all_eq_true.1 hta x hx
        simpa [and_assoc] using this
      have HT : Hid (t ≠ [] ∧ Byt t ∧ ∀ x ∈ t, atB x = true) := ⟨ht0, fun x hx => (hta' x hx).1, fun x hx => (hta' x hx).2⟩
      have HALT : Hid (altB (t.map lw) = (decide (r < 2) || decide (r = 4))) := htl
      obtain ⟨Nm, hNm⟩ : ∃ Nm, strOfNums t = Nm := ⟨_, rfl⟩
      have HNm : Hid (strOfNums t = Nm) := hNm
      obtain ⟨tn, htn⟩ : ∃ tn, t.length = tn := ⟨_, rfl⟩
      have HTN : Hid (t.length = tn) := htn
      rw [htn] at ht6
      obtain ⟨W, hW⟩ : ∃ W, wr.alloc (.cells #[.string ⟨#[97, 108, 116]⟩, .string ⟨#[84, 73, 84, 76, 69]⟩, .string ⟨#[99, 108, 97, 115, 115]⟩, .string ⟨#[120, 45, 97, 108, 116]⟩, .string ⟨#[65, 108, 116]⟩, .string ⟨#[116, 105, 116, 108, 101, 115]⟩] 9) = W := ⟨_, rfl⟩
      have hbW : Below wr.heap.size wr W := by rw [← hW]; exact below_alloc wr _
      have hPS : PS W wr.heap.size mdT := by rw [← hW]; exact lit_ps wr mdT
      have y1 : W.cell? ⟨wr.heap.size, r, none⟩ = some (.string Nm) := by rw [← hNm]; exact hPS r t ht
      have y2 := cell_stay hcw hbW
      have HUW : Hid (Up w.heap.size w W) := HU.out.stay hbW
      have HBW : Hid (OMg W w.heap.size g cp B) := HB.out.stay hbW
      have HPW : Hid (PR W w.heap.size (.slice pd pn pc) l) := HP.out.stay hbW
      have huW := HUW.out.2
      have z5' : (0 : Int) ≤ (r : Int) := by omega
      have z6 : (r : Int) < 6 := by omega
      clear hc hX hci hr ht ht0 hta hta' htl hNm hbW hPS hcw htn
      go_wp2_with (at_builtin; refine om_app rfl _ _ rfl w.heap.size g cp B bn HBL.out rfl (HBW.out.stay (below_alloc W _)) (by omega) (some ⟨W.heap.size, 0, none⟩) 1 1 (cL [32]) rfl (one_bc W 32) (by omega) (by simp; omega) ?_)
      intro g1 cp1 wa hoa hga
      rw [cl_one] at hoa
      obtain ⟨B1, hB1⟩ : ∃ B1, B ++ [32] = B1 := ⟨_, rfl⟩
      have HB1 : Hid (B1 = B ++ [32]) := hB1.symm
      rw [hB1] at hoa
      have HOa : Hid (OMg wa w.heap.size g1 cp1 B1) := hoa
      have HNa : Hid (∀ k, (Value.slice pd pn pc).ownBlock = some k → k ≠ g) := pr_ne HP.out HPL.out HPZ.out HB.out (by rw [HBL.out]; omega)
      have HPa : Hid (PR wa w.heap.size (.slice pd pn pc) l) := (HPW.out.stay (below_alloc W _)).keepO hga HNa.out
      have HUa : Hid (Up w.heap.size w wa) := (HUW.out.alloc _).grown hga (fun k hk => by have := HB.out.lo; have := Option.some.inj hk; omega)
      have HLa : Hid (B1.length = bn + 1) := by show _ = _; rw [HB1.out, List.length_append, HBL.out]; rfl
      have hua := HUa.out.2
      clear hoa hga hB1
      go_wp2_with (at_builtin; refine om_str rfl _ _ rfl w.heap.size g1 cp1 B1 (bn + 1) HLa.out rfl HOa.out (by omega) Nm t HT.out.2.1 HNm.out rfl (by have := HTN.out; omega) hua ?_)
      intro g2 cp2 wb2 hob hgb
      try rw [show bn + 1 + t.length = bn + 1 + tn by rw [HTN.out]]
      obtain ⟨B2, hB2⟩ : ∃ B2, B1 ++ t = B2 := ⟨_, rfl⟩
      have HB2 : Hid (B2 = B1 ++ t) := hB2.symm
      rw [hB2] at hob
      have HOb2 : Hid (OMg wb2 w.heap.size g2 cp2 B2) := hob
      have HNb : Hid (∀ k, (Value.slice pd pn pc).ownBlock = some k → k ≠ g1) := pr_ne HPa.out HPL.out HPZ.out HOa.out (by rw [HLa.out]; omega)
      have HPb : Hid (PR wb2 w.heap.size (.slice pd pn pc) l) := HPa.out.keepO hgb HNb.out
      have HUb2 : Hid (Up w.heap.size w wb2) := HUa.out.grown hgb (fun k hk => by have := HOa.out.lo; have := Option.some.inj hk; omega)
      have HLb2 : Hid (B2.length = bn + 1 + tn) := by show _ = _; rw [HB2.out, List.length_append, HLa.out, HTN.out]
      have hub := HUb2.out.2
      clear hob hgb hB2
      go_wp2_with (at_builtin; refine om_str rfl _ _ rfl w.heap.size g2 cp2 B2 (bn + 1 + tn) HLb2.out rfl HOb2.out (by omega) ⟨#[61, 34]⟩ [61, 34] (byt_lit _ rfl) rfl rfl (by simp; omega) hub ?_)
      intro g3 cp3 w4 hoc hgc
      obtain ⟨B3, hB3⟩ : ∃ B3, B2 ++ [61, 34] = B3 := ⟨_, rfl⟩
      have HB3x : Hid (B3 = B2 ++ [61, 34]) := hB3.symm
      have HB3e : Hid (B3 = B ++ [32] ++ t ++ [61, 34]) := by show _ = _; rw [HB3x.out, HB2.out, HB1.out]
      rw [hB3] at hoc
      obtain ⟨n3, hn3⟩ : ∃ n3, bn + 1 + tn + 2 = n3 := ⟨_, rfl⟩
      first | rw [hn3] | rw [show ([61, 34] : List Int).length = 2 from rfl, hn3]
      have hn3' : n3 = bn + tn + 3 := by omega
      have hn3a : n3 ≤ bn + 9 := by omega
      have hn3b : bn + 3 ≤ n3 := by omega
      have HN3 : Hid (B3.length = n3) := by show _ = _; rw [HB3x.out, List.length_append, HLb2.out]; exact hn3
      have HB3 : Hid (B3.length = bn + t.length + 3) := by show _ = _; rw [HN3.out, HTN.out]; exact hn3'
      have HO4 : Hid (OMg w4 w.heap.size g3 cp3 B3) := hoc
      have HNc : Hid (∀ k, (Value.slice pd pn pc).ownBlock = some k → k ≠ g2) := pr_ne HPb.out HPL.out HPZ.out HOb2.out (by rw [HLb2.out]; omega)
      have HP4 : Hid (PR w4 w.heap.size (.slice pd pn pc) l) := HPb.out.keepO hgc HNc.out
      have HU4 : Hid (Up w.heap.size w w4) := HUb2.out.grown hgc (fun k hk => by have := HOb2.out.lo; have := Option.some.inj hk; omega)
      clear hoc hgc hB3 hn3 hn3'
      obtain ⟨yb, yo, ad', n', cap', c', rfl, hy1, hy2, hy3, hy4⟩ := HH.out.2.2.1 i (by omega)
      have y3 := cell_stay hy1 HU4.out.1
      have cT := text_any (cap := cap') hy2 (hy3.stay HU4.out.1) hy4
      clear hy1 hy2 hy3 hy4
      go_wp2_with fail
      refine cT.mono ?_
      rintro e w5 ⟨v, rfl, hv9, hvb, hv34, hb5⟩
      obtain ⟨vn, hvn⟩ : ∃ vn, v.length = vn := ⟨_, rfl⟩
      rw [hvn] at hv9
      obtain ⟨Vs, hVs⟩ : ∃ Vs, strOfNums v = Vs := ⟨_, rfl⟩
      have HV : Hid (strOfNums v = Vs ∧ v.length = vn ∧ Byt v ∧ ∀ x ∈ v, x ≠ 34) := ⟨hVs, hvn, hvb, hv34⟩
      rw [hVs]
      have HO5 : Hid (OMg w5 w.heap.size g3 cp3 B3) := HO4.out.stay hb5
      have HP5 : Hid (PR w5 w.heap.size (.slice pd pn pc) l) := HP4.out.stay hb5
      have HU5 : Hid (Up w.heap.size w w5) := HU4.out.stay hb5
      have y4 := cell_stay HC.out HU5.out.1
      have hve : (Vs.toList == []) = decide (vn = 0) := by
        rw [← hVs, show ((strOfNums v).toList == []) = (v == []) from nums_is hvb _ (byt_lit [] rfl), ← hvn]
        cases v <;> rfl
      clear cT hvn hVs hvb hv34 hb5
      by_cases hr2 : r < 2
      · have k1 : (r : Int) < 2 := by omega
        by_cases hv0 : vn = 0
        · rw [decide_eq_true hv0] at hve
          have hv0z : vn ≤ 0 := by omega
          clear hv0
          have HE6 : Hid ((l ++ if (decide (0 < v.length) && altB (t.map lw)) = true then [(bn + t.length + 3, v.length)] else []) = l) := by
            show _ = _
            rw [HALT.out, if_neg (by simp only [Bool.and_eq_true, Bool.or_eq_true, decide_eq_true_eq]; have := HV.out.2.1; omega), List.append_nil]
          have hu6 := HU5.out.2
          go_wp2_with (at_builtin; refine om_str rfl _ _ rfl w.heap.size g3 cp3 B3 n3 HN3.out rfl HO5.out (by omega) Vs v HV.out.2.2.1 HV.out.1 rfl (by have := HV.out.2.1; omega) hu6 ?_)
          intro g7 cp7 w7 ho7 hg7
          try rw [show n3 + v.length = n3 + vn by rw [HV.out.2.1]]
          have HN7 : Hid (∀ k, (Value.slice (pd) pn pc).ownBlock = some k → k ≠ g3) := pr_ne HP5.out HPL.out HPZ.out HO5.out (by rw [HN3.out]; omega)
          have HP7 : Hid (PR w7 w.heap.size (.slice (pd) pn pc) l) := HP5.out.keepO hg7 HN7.out
          have HU7 : Hid (Up w.heap.size w w7) := HU5.out.grown hg7 (fun k hk => by have := HO5.out.lo; have := Option.some.inj hk; omega)
          obtain ⟨B7, hB7⟩ : ∃ B7, B3 ++ v = B7 := ⟨_, rfl⟩
          have HB7 : Hid (B7 = B3 ++ v) := hB7.symm
          rw [hB7] at ho7
          have HO7 : Hid (OMg w7 w.heap.size g7 cp7 B7) := ho7
          have HL7 : Hid (B7.length = n3 + vn) := by show _ = _; rw [HB7.out, List.length_append, HN3.out, HV.out.2.1]
          have hu7 := HU7.out.2
          clear ho7 hg7 hB7
          go_wp2_with (at_builtin; refine om_app rfl _ _ rfl w.heap.size g7 cp7 B7 (n3 + vn) HL7.out rfl (HO7.out.stay (below_alloc w7 _)) (by omega) (some ⟨w7.heap.size, 0, none⟩) 1 1 (cL [34]) rfl (one_bc w7 34) (by omega) (by simp; omega) ?_)
          intro g8 cp8 w8 ho8 hg8
          rw [cl_one] at ho8
          have HN8 : Hid (∀ k, (Value.slice (pd) pn pc).ownBlock = some k → k ≠ g7) := pr_ne HP7.out HPL.out HPZ.out HO7.out (by rw [HL7.out]; omega)
          have HP8 : Hid (PR w8 w.heap.size (.slice (pd) pn pc) l) := (HP7.out.stay (below_alloc w7 _)).keepO hg8 HN8.out
          have HU8 : Hid (Up w.heap.size w w8) := (HU7.out.alloc _).grown hg8 (fun k hk => by have := HO7.out.lo; have := Option.some.inj hk; omega)
          have HO8 : Hid (OMg w8 w.heap.size g8 cp8 (B ++ atL t v)) := by
            have e : B ++ atL t v = B7 ++ [34] := by rw [HB7.out, HB3e.out]; simp [atL]
            show OMg _ _ _ _ _
            rw [e]
            exact ho8
          have HL8 : Hid ((B ++ atL t v).length = n3 + vn + 1) := by
            have e : B ++ atL t v = B7 ++ [34] := by rw [HB7.out, HB3e.out]; simp [atL]
            show _ = _
            rw [e, List.length_append, HL7.out]; rfl
          have HM8 : Hid (Md sh (B ++ atL t v) l) := by
            have := HM.out.step HT.out.1 HT.out.2.1 HV.out.2.2.1 HT.out.2.2 HV.out.2.2.2
            rw [HBL.out, HE6.out] at this
            exact this
          clear ho8 hg8
          go_wp2
          go_roundg (m - (i + 1))
          case measure => omega
          case rel => exact ⟨i + 1, g8, n3 + vn + 1, cp8, pd, pn, pc, by omega, rfl, by go_num, rfl, rfl, by omega, by omega, by omega, ⟨_, l, HO8.out, HL8.out, HP8.out, HPL.out, HPZ.out, HM8.out⟩, HU8⟩
        · rw [decide_eq_false hv0] at hve
          have HO : Hid (w5.ownsRow w.heap.size 29 2 (.slice pd pn pc) pn (prC l)) := by
            have := HP5.out
            unfold PR at this
            rw [HPL.out] at this
            exact this
          have hw5 := HU5.out.2
          have hvs : Vs.size = vn := by rw [← HV.out.1, strOfNums_size, HV.out.2.1]
          go_wp2_with (at_builtin; refine wpList_append_lies _ rfl _ _ 26 rfl w.heap.size 29 i0 _ 2 16 Tryd.underlying26 hi0 hz0 hz1 hz2 rfl (by decide) _ _ _ rfl (HO.out.alloc _) ⟨w5.heap.size, 0, none⟩ 1 1 [.int .i64 (n3 : Int), .int .i64 (vn : Int)] rfl rfl (World.news_of_block (heap_alloc_new _ _)) (pr_one _ _) (by omega) (by unfold maxLen; omega) (by omega) (by simp; omega) (w5.heap.size + 1) (by simp) ?_)
          intro gp capp w6 ho6 hg6 ha6 hlt6
          have HNE : Hid (∀ k, (Value.slice pd pn pc).ownBlock = some k → k ≠ g3) := pr_ne HP5.out HPL.out HPZ.out HO5.out (by rw [HN3.out]; omega)
          have HU6 : Hid (Up w.heap.size w w6) := (HU5.out.alloc _).grown hg6 (own_base HO.out)
          have HO6 : Hid (OMg w6 w.heap.size g3 cp3 B3) := (HO5.out.stay (below_alloc w5 _)).keep hg6 HNE.out
          have HP6 : Hid (PR w6 w.heap.size (.slice (some ⟨gp, 0, none⟩) (pn + 1) capp) (l ++ [(n3, vn)])) := by
            show PR _ _ _ _
            unfold PR
            rw [List.length_append, HPL.out, prC_app]
            exact ho6
          have HL6 : Hid ((l ++ [(n3, vn)]).length = pn + 1) := by show _ = _; rw [List.length_append, HPL.out]; rfl
          have HZ6 : Hid (l ++ [(n3, vn)] = [] → (some ⟨gp, 0, none⟩ : Option Addr) = none) := fun h => absurd h (by simp)
          have HE6 : Hid ((l ++ if (decide (0 < v.length) && altB (t.map lw)) = true then [(bn + t.length + 3, v.length)] else []) = l ++ [(n3, vn)]) := by
            show _ = _
            rw [HALT.out, if_pos (by simp only [Bool.and_eq_true, Bool.or_eq_true, decide_eq_true_eq]; have := HV.out.2.1; omega), HV.out.2.1, HN3.out.symm.trans HB3.out]
          clear ho6 hg6 ha6 hlt6
          have hu6 := HU6.out.2
          go_wp2_with (at_builtin; refine om_str rfl _ _ rfl w.heap.size g3 cp3 B3 n3 HN3.out rfl HO6.out (by omega) Vs v HV.out.2.2.1 HV.out.1 rfl (by have := HV.out.2.1; omega) hu6 ?_)
          intro g7 cp7 w7 ho7 hg7
          try rw [show n3 + v.length = n3 + vn by rw [HV.out.2.1]]
          have HN7 : Hid (∀ k, (Value.slice (some ⟨gp, 0, none⟩) (pn + 1) capp).ownBlock = some k → k ≠ g3) := pr_ne HP6.out HL6.out HZ6.out HO6.out (by rw [HN3.out]; omega)
          have HP7 : Hid (PR w7 w.heap.size (.slice (some ⟨gp, 0, none⟩) (pn + 1) capp) (l ++ [(n3, vn)])) := HP6.out.keepO hg7 HN7.out
          have HU7 : Hid (Up w.heap.size w w7) := HU6.out.grown hg7 (fun k hk => by have := HO6.out.lo; have := Option.some.inj hk; omega)
          obtain ⟨B7, hB7⟩ : ∃ B7, B3 ++ v = B7 := ⟨_, rfl⟩
          have HB7 : Hid (B7 = B3 ++ v) := hB7.symm
          rw [hB7] at ho7
          have HO7 : Hid (OMg w7 w.heap.size g7 cp7 B7) := ho7
          have HL7 : Hid (B7.length = n3 + vn) := by show _ = _; rw [HB7.out, List.length_append, HN3.out, HV.out.2.1]
          have hu7 := HU7.out.2
          clear ho7 hg7 hB7
          go_wp2_with (at_builtin; refine om_app rfl _ _ rfl w.heap.size g7 cp7 B7 (n3 + vn) HL7.out rfl (HO7.out.stay (below_alloc w7 _)) (by omega) (some ⟨w7.heap.size, 0, none⟩) 1 1 (cL [34]) rfl (one_bc w7 34) (by omega) (by simp; omega) ?_)
          intro g8 cp8 w8 ho8 hg8
          rw [cl_one] at ho8
          have HN8 : Hid (∀ k, (Value.slice (some ⟨gp, 0, none⟩) (pn + 1) capp).ownBlock = some k → k ≠ g7) := pr_ne HP7.out HL6.out HZ6.out HO7.out (by rw [HL7.out]; omega)
          have HP8 : Hid (PR w8 w.heap.size (.slice (some ⟨gp, 0, none⟩) (pn + 1) capp) (l ++ [(n3, vn)])) := (HP7.out.stay (below_alloc w7 _)).keepO hg8 HN8.out
          have HU8 : Hid (Up w.heap.size w w8) := (HU7.out.alloc _).grown hg8 (fun k hk => by have := HO7.out.lo; have := Option.some.inj hk; omega)
          have HO8 : Hid (OMg w8 w.heap.size g8 cp8 (B ++ atL t v)) := by
            have e : B ++ atL t v = B7 ++ [34] := by rw [HB7.out, HB3e.out]; simp [atL]
            show OMg _ _ _ _ _
            rw [e]
            exact ho8
          have HL8 : Hid ((B ++ atL t v).length = n3 + vn + 1) := by
            have e : B ++ atL t v = B7 ++ [34] := by rw [HB7.out, HB3e.out]; simp [atL]
            show _ = _
            rw [e, List.length_append, HL7.out]; rfl
          have HM8 : Hid (Md sh (B ++ atL t v) (l ++ [(n3, vn)])) := by
            have := HM.out.step HT.out.1 HT.out.2.1 HV.out.2.2.1 HT.out.2.2 HV.out.2.2.2
            rw [HBL.out, HE6.out] at this
            exact this
          clear ho8 hg8
          go_wp2
          go_roundg (m - (i + 1))
          case measure => omega
          case rel => exact ⟨i + 1, g8, n3 + vn + 1, cp8, some ⟨gp, 0, none⟩, (pn + 1), capp, by omega, rfl, by go_num, rfl, rfl, by omega, by omega, by omega, ⟨_, (l ++ [(n3, vn)]), HO8.out, HL8.out, HP8.out, HL6.out, HZ6.out, HM8.out⟩, HU8⟩
      · have k1 : ¬ (r : Int) < 2 := by omega
        by_cases hr4 : r = 4
        · have k2 : ((r : Int) == 4) = true := by rw [hr4]; rfl
          by_cases hv0 : vn = 0
          · rw [decide_eq_true hv0] at hve
            have hv0z : vn ≤ 0 := by omega
            clear hv0
            have HE6 : Hid ((l ++ if (decide (0 < v.length) && altB (t.map lw)) = true then [(bn + t.length + 3, v.length)] else []) = l) := by
              show _ = _
              rw [HALT.out, if_neg (by simp only [Bool.and_eq_true, Bool.or_eq_true, decide_eq_true_eq]; have := HV.out.2.1; omega), List.append_nil]
            have hu6 := HU5.out.2
            go_wp2_with (at_builtin; refine om_str rfl _ _ rfl w.heap.size g3 cp3 B3 n3 HN3.out rfl HO5.out (by omega) Vs v HV.out.2.2.1 HV.out.1 rfl (by have := HV.out.2.1; omega) hu6 ?_)
            intro g7 cp7 w7 ho7 hg7
            try rw [show n3 + v.length = n3 + vn by rw [HV.out.2.1]]
            have HN7 : Hid (∀ k, (Value.slice (pd) pn pc).ownBlock = some k → k ≠ g3) := pr_ne HP5.out HPL.out HPZ.out HO5.out (by rw [HN3.out]; omega)
            have HP7 : Hid (PR w7 w.heap.size (.slice (pd) pn pc) l) := HP5.out.keepO hg7 HN7.out
            have HU7 : Hid (Up w.heap.size w w7) := HU5.out.grown hg7 (fun k hk => by have := HO5.out.lo; have := Option.some.inj hk; omega)
            obtain ⟨B7, hB7⟩ : ∃ B7, B3 ++ v = B7 := ⟨_, rfl⟩
            have HB7 : Hid (B7 = B3 ++ v) := hB7.symm
            rw [hB7] at ho7
            have HO7 : Hid (OMg w7 w.heap.size g7 cp7 B7) := ho7
            have HL7 : Hid (B7.length = n3 + vn) := by show _ = _; rw [HB7.out, List.length_append, HN3.out, HV.out.2.1]
            have hu7 := HU7.out.2
            clear ho7 hg7 hB7
            go_wp2_with (at_builtin; refine om_app rfl _ _ rfl w.heap.size g7 cp7 B7 (n3 + vn) HL7.out rfl (HO7.out.stay (below_alloc w7 _)) (by omega) (some ⟨w7.heap.size, 0, none⟩) 1 1 (cL [34]) rfl (one_bc w7 34) (by omega) (by simp; omega) ?_)
            intro g8 cp8 w8 ho8 hg8
            rw [cl_one] at ho8
            have HN8 : Hid (∀ k, (Value.slice (pd) pn pc).ownBlock = some k → k ≠ g7) := pr_ne HP7.out HPL.out HPZ.out HO7.out (by rw [HL7.out]; omega)
            have HP8 : Hid (PR w8 w.heap.size (.slice (pd) pn pc) l) := (HP7.out.stay (below_alloc w7 _)).keepO hg8 HN8.out
            have HU8 : Hid (Up w.heap.size w w8) := (HU7.out.alloc _).grown hg8 (fun k hk => by have := HO7.out.lo; have := Option.some.inj hk; omega)
            have HO8 : Hid (OMg w8 w.heap.size g8 cp8 (B ++ atL t v)) := by
              have e : B ++ atL t v = B7 ++ [34] := by rw [HB7.out, HB3e.out]; simp [atL]
              show OMg _ _ _ _ _
              rw [e]
              exact ho8
            have HL8 : Hid ((B ++ atL t v).length = n3 + vn + 1) := by
              have e : B ++ atL t v = B7 ++ [34] := by rw [HB7.out, HB3e.out]; simp [atL]
              show _ = _
              rw [e, List.length_append, HL7.out]; rfl
            have HM8 : Hid (Md sh (B ++ atL t v) l) := by
              have := HM.out.step HT.out.1 HT.out.2.1 HV.out.2.2.1 HT.out.2.2 HV.out.2.2.2
              rw [HBL.out, HE6.out] at this
              exact this
            clear ho8 hg8
            go_wp2
            go_roundg (m - (i + 1))
            case measure => omega
            case rel => exact ⟨i + 1, g8, n3 + vn + 1, cp8, pd, pn, pc, by omega, rfl, by go_num, rfl, rfl, by omega, by omega, by omega, ⟨_, l, HO8.out, HL8.out, HP8.out, HPL.out, HPZ.out, HM8.out⟩, HU8⟩
          · rw [decide_eq_false hv0] at hve
            have HO : Hid (w5.ownsRow w.heap.size 29 2 (.slice pd pn pc) pn (prC l)) := by
              have := HP5.out
              unfold PR at this
              rw [HPL.out] at this
              exact this
            have hw5 := HU5.out.2
            have hvs : Vs.size = vn := by rw [← HV.out.1, strOfNums_size, HV.out.2.1]
            go_wp2_with (at_builtin; refine wpList_append_lies _ rfl _ _ 26 rfl w.heap.size 29 i0 _ 2 16 Tryd.underlying26 hi0 hz0 hz1 hz2 rfl (by decide) _ _ _ rfl (HO.out.alloc _) ⟨w5.heap.size, 0, none⟩ 1 1 [.int .i64 (n3 : Int), .int .i64 (vn : Int)] rfl rfl (World.news_of_block (heap_alloc_new _ _)) (pr_one _ _) (by omega) (by unfold maxLen; omega) (by omega) (by simp; omega) (w5.heap.size + 1) (by simp) ?_)
            intro gp capp w6 ho6 hg6 ha6 hlt6
            have HNE : Hid (∀ k, (Value.slice pd pn pc).ownBlock = some k → k ≠ g3) := pr_ne HP5.out HPL.out HPZ.out HO5.out (by rw [HN3.out]; omega)
            have HU6 : Hid (Up w.heap.size w w6) := (HU5.out.alloc _).grown hg6 (own_base HO.out)
            have HO6 : Hid (OMg w6 w.heap.size g3 cp3 B3) := (HO5.out.stay (below_alloc w5 _)).keep hg6 HNE.out
            have HP6 : Hid (PR w6 w.heap.size (.slice (some ⟨gp, 0, none⟩) (pn + 1) capp) (l ++ [(n3, vn)])) := by
              show PR _ _ _ _
              unfold PR
              rw [List.length_append, HPL.out, prC_app]
              exact ho6
            have HL6 : Hid ((l ++ [(n3, vn)]).length = pn + 1) := by show _ = _; rw [List.length_append, HPL.out]; rfl
            have HZ6 : Hid (l ++ [(n3, vn)] = [] → (some ⟨gp, 0, none⟩ : Option Addr) = none) := fun h => absurd h (by simp)
            have HE6 : Hid ((l ++ if (decide (0 < v.length) && altB (t.map lw)) = true then [(bn + t.length + 3, v.length)] else []) = l ++ [(n3, vn)]) := by
              show _ = _
              rw [HALT.out, if_pos (by simp only [Bool.and_eq_true, Bool.or_eq_true, decide_eq_true_eq]; have := HV.out.2.1; omega), HV.out.2.1, HN3.out.symm.trans HB3.out]
            clear ho6 hg6 ha6 hlt6
            have hu6 := HU6.out.2
            go_wp2_with (at_builtin; refine om_str rfl _ _ rfl w.heap.size g3 cp3 B3 n3 HN3.out rfl HO6.out (by omega) Vs v HV.out.2.2.1 HV.out.1 rfl (by have := HV.out.2.1; omega) hu6 ?_)
            intro g7 cp7 w7 ho7 hg7
            try rw [show n3 + v.length = n3 + vn by rw [HV.out.2.1]]
            have HN7 : Hid (∀ k, (Value.slice (some ⟨gp, 0, none⟩) (pn + 1) capp).ownBlock = some k → k ≠ g3) := pr_ne HP6.out HL6.out HZ6.out HO6.out (by rw [HN3.out]; omega)
            have HP7 : Hid (PR w7 w.heap.size (.slice (some ⟨gp, 0, none⟩) (pn + 1) capp) (l ++ [(n3, vn)])) := HP6.out.keepO hg7 HN7.out
            have HU7 : Hid (Up w.heap.size w w7) := HU6.out.grown hg7 (fun k hk => by have := HO6.out.lo; have := Option.some.inj hk; omega)
            obtain ⟨B7, hB7⟩ : ∃ B7, B3 ++ v = B7 := ⟨_, rfl⟩
            have HB7 : Hid (B7 = B3 ++ v) := hB7.symm
            rw [hB7] at ho7
            have HO7 : Hid (OMg w7 w.heap.size g7 cp7 B7) := ho7
            have HL7 : Hid (B7.length = n3 + vn) := by show _ = _; rw [HB7.out, List.length_append, HN3.out, HV.out.2.1]
            have hu7 := HU7.out.2
            clear ho7 hg7 hB7
            go_wp2_with (at_builtin; refine om_app rfl _ _ rfl w.heap.size g7 cp7 B7 (n3 + vn) HL7.out rfl (HO7.out.stay (below_alloc w7 _)) (by omega) (some ⟨w7.heap.size, 0, none⟩) 1 1 (cL [34]) rfl (one_bc w7 34) (by omega) (by simp; omega) ?_)
            intro g8 cp8 w8 ho8 hg8
            rw [cl_one] at ho8
            have HN8 : Hid (∀ k, (Value.slice (some ⟨gp, 0, none⟩) (pn + 1) capp).ownBlock = some k → k ≠ g7) := pr_ne HP7.out HL6.out HZ6.out HO7.out (by rw [HL7.out]; omega)
            have HP8 : Hid (PR w8 w.heap.size (.slice (some ⟨gp, 0, none⟩) (pn + 1) capp) (l ++ [(n3, vn)])) := (HP7.out.stay (below_alloc w7 _)).keepO hg8 HN8.out
            have HU8 : Hid (Up w.heap.size w w8) := (HU7.out.alloc _).grown hg8 (fun k hk => by have := HO7.out.lo; have := Option.some.inj hk; omega)
            have HO8 : Hid (OMg w8 w.heap.size g8 cp8 (B ++ atL t v)) := by
              have e : B ++ atL t v = B7 ++ [34] := by rw [HB7.out, HB3e.out]; simp [atL]
              show OMg _ _ _ _ _
              rw [e]
              exact ho8
            have HL8 : Hid ((B ++ atL t v).length = n3 + vn + 1) := by
              have e : B ++ atL t v = B7 ++ [34] := by rw [HB7.out, HB3e.out]; simp [atL]
              show _ = _
              rw [e, List.length_append, HL7.out]; rfl
            have HM8 : Hid (Md sh (B ++ atL t v) (l ++ [(n3, vn)])) := by
              have := HM.out.step HT.out.1 HT.out.2.1 HV.out.2.2.1 HT.out.2.2 HV.out.2.2.2
              rw [HBL.out, HE6.out] at this
              exact this
            clear ho8 hg8
            go_wp2
            go_roundg (m - (i + 1))
            case measure => omega
            case rel => exact ⟨i + 1, g8, n3 + vn + 1, cp8, some ⟨gp, 0, none⟩, (pn + 1), capp, by omega, rfl, by go_num, rfl, rfl, by omega, by omega, by omega, ⟨_, (l ++ [(n3, vn)]), HO8.out, HL8.out, HP8.out, HL6.out, HZ6.out, HM8.out⟩, HU8⟩
        · have k2 : ((r : Int) == 4) = false := by simp; omega
          have HE6 : Hid ((l ++ if (decide (0 < v.length) && altB (t.map lw)) = true then [(bn + t.length + 3, v.length)] else []) = l) := by
            show _ = _
            rw [HALT.out, if_neg (by simp only [Bool.and_eq_true, Bool.or_eq_true, decide_eq_true_eq]; have := HV.out.2.1; omega), List.append_nil]
          have hu6 := HU5.out.2
          go_wp2_with (at_builtin; refine om_str rfl _ _ rfl w.heap.size g3 cp3 B3 n3 HN3.out rfl HO5.out (by omega) Vs v HV.out.2.2.1 HV.out.1 rfl (by have := HV.out.2.1; omega) hu6 ?_)
          intro g7 cp7 w7 ho7 hg7
          try rw [show n3 + v.length = n3 + vn by rw [HV.out.2.1]]
          have HN7 : Hid (∀ k, (Value.slice (pd) pn pc).ownBlock = some k → k ≠ g3) := pr_ne HP5.out HPL.out HPZ.out HO5.out (by rw [HN3.out]; omega)
          have HP7 : Hid (PR w7 w.heap.size (.slice (pd) pn pc) l) := HP5.out.keepO hg7 HN7.out
          have HU7 : Hid (Up w.heap.size w w7) := HU5.out.grown hg7 (fun k hk => by have := HO5.out.lo; have := Option.some.inj hk; omega)
          obtain ⟨B7, hB7⟩ : ∃ B7, B3 ++ v = B7 := ⟨_, rfl⟩
          have HB7 : Hid (B7 = B3 ++ v) := hB7.symm
          rw [hB7] at ho7
          have HO7 : Hid (OMg w7 w.heap.size g7 cp7 B7) := ho7
          have HL7 : Hid (B7.length = n3 + vn) := by show _ = _; rw [HB7.out, List.length_append, HN3.out, HV.out.2.1]
          have hu7 := HU7.out.2
          clear ho7 hg7 hB7
          go_wp2_with (at_builtin; refine om_app rfl _ _ rfl w.heap.size g7 cp7 B7 (n3 + vn) HL7.out rfl (HO7.out.stay (below_alloc w7 _)) (by omega) (some ⟨w7.heap.size, 0, none⟩) 1 1 (cL [34]) rfl (one_bc w7 34) (by omega) (by simp; omega) ?_)
          intro g8 cp8 w8 ho8 hg8
          rw [cl_one] at ho8
          have HN8 : Hid (∀ k, (Value.slice (pd) pn pc).ownBlock = some k → k ≠ g7) := pr_ne HP7.out HPL.out HPZ.out HO7.out (by rw [HL7.out]; omega)
          have HP8 : Hid (PR w8 w.heap.size (.slice (pd) pn pc) l) := (HP7.out.stay (below_alloc w7 _)).keepO hg8 HN8.out
          have HU8 : Hid (Up w.heap.size w w8) := (HU7.out.alloc _).grown hg8 (fun k hk => by have := HO7.out.lo; have := Option.some.inj hk; omega)
          have HO8 : Hid (OMg w8 w.heap.size g8 cp8 (B ++ atL t v)) := by
            have e : B ++ atL t v = B7 ++ [34] := by rw [HB7.out, HB3e.out]; simp [atL]
            show OMg _ _ _ _ _
            rw [e]
            exact ho8
          have HL8 : Hid ((B ++ atL t v).length = n3 + vn + 1) := by
            have e : B ++ atL t v = B7 ++ [34] := by rw [HB7.out, HB3e.out]; simp [atL]
            show _ = _
            rw [e, List.length_append, HL7.out]; rfl
          have HM8 : Hid (Md sh (B ++ atL t v) l) := by
            have := HM.out.step HT.out.1 HT.out.2.1 HV.out.2.2.1 HT.out.2.2 HV.out.2.2.2
            rw [HBL.out, HE6.out] at this
            exact this
          clear ho8 hg8
          go_wp2
          go_roundg (m - (i + 1))
          case measure => omega
          case rel => exact ⟨i + 1, g8, n3 + vn + 1, cp8, pd, pn, pc, by omega, rfl, by go_num, rfl, rfl, by omega, by omega, by omega, ⟨_, l, HO8.out, HL8.out, HP8.out, HPL.out, HPZ.out, HM8.out⟩, HU8⟩
    · obtain rfl : i = m := by omega
      have z1 : ¬ (i : Int) < (i : Int) := by omega
      have hbn158 : bn ≤ 158 := by omega
      have hpn8 : pn ≤ 8 := by omega
      clear hbn1 hpn z1
      have z1 : ¬ (i : Int) < (i : Int) := by omega
      go_wp2_with (at_builtin; refine om_app rfl _ _ rfl w.heap.size g cp B bn HBL.out rfl (HB.out.stay (below_alloc wr _)) (by omega) (some ⟨wr.heap.size, 0, none⟩) 1 1 (cL [62]) rfl (one_bc wr 62) (by omega) (by simp; omega) ?_)
      intro g1 cp1 wa hoa hga
      rw [cl_one] at hoa
      obtain ⟨C1, hC1⟩ : ∃ C1, B ++ [62] = C1 := ⟨_, rfl⟩
      have HC1 : Hid (C1 = B ++ [62]) := hC1.symm
      rw [hC1] at hoa
      have HOa : Hid (OMg wa w.heap.size g1 cp1 C1) := hoa
      have HNa : Hid (∀ k, (Value.slice pd pn pc).ownBlock = some k → k ≠ g) := pr_ne HP.out HPL.out HPZ.out HB.out (by rw [HBL.out]; omega)
      have HPa : Hid (PR wa w.heap.size (.slice pd pn pc) l) := (HP.out.stay (below_alloc wr _)).keepO hga HNa.out
      have HUa : Hid (Up w.heap.size w wa) := (HU.out.alloc _).grown hga (fun k hk => by have := HB.out.lo; have := Option.some.inj hk; omega)
      have HLa : Hid (C1.length = bn + 1) := by show _ = _; rw [HC1.out, List.length_append, HBL.out]; rfl
      have HCb : Hid (Byt C1) := by
        intro x hx
        rw [HC1.out] at hx
        rcases List.mem_append.1 hx with h1 | h1
        · exact HM.out.by' x h1
        · rw [List.mem_singleton] at h1; subst h1; decide
      have hua := HUa.out.2
      clear hoa hga hC1
      have HBa : Hid (BC (wa.alloc (.cells #[] 5)) (some ⟨g1, 0, none⟩) (bn + 1) (cL C1)) := by
        have := (HOa.out.stay (below_alloc wa (.cells #[] 5))).bc
        rw [HLa.out] at this
        exact this
      go_wp2_with (at_builtin; refine app_ob rfl _ _ rfl w.heap.size _ [] rfl (own_nil5 wa w.heap.size hua) (some ⟨g1, 0, none⟩) (bn + 1) cp1 (cL C1) rfl HBa.out (by simp; omega) (by simp; omega) ?_)
      intro vx wx hox hgx
      try rw [List.nil_append] at hox
      rw [show cl (cL C1) (bn + 1) = C1 by rw [← HLa.out]; exact cl_cL C1] at hox
      obtain ⟨xd, xc, rfl, -⟩ := hox.form
      rw [HLa.out]
      have HOx : Hid (OB wx w.heap.size (.slice xd (bn + 1) xc) C1) := by
        have := hox
        rw [HLa.out] at this
        exact this
      have HPx : Hid (PR wx w.heap.size (.slice pd pn pc) l) := (HPa.out.stay (below_alloc wa _)).keepR hgx (fun k hk e => by
        have h1 := HPa.out.lt k hk
        have h2 : (Value.slice (some ⟨wa.heap.size, 0, none⟩) 0 0).ownBlock = some wa.heap.size := rfl
        rw [h2] at e
        have := Option.some.inj e
        omega)
      have HUx : Hid (Up w.heap.size w wx) := (HUa.out.alloc _).grown hgx (own_base (own_nil5 wa w.heap.size hua))
      clear hox hgx HBa
      have cT := text_any (cap := bcap) HH.out.2.2.2.1 (HH.out.2.2.2.2.stay HUx.out.1) hbn
      go_wp2_with fail
      refine cT.mono ?_
      rintro e w2 ⟨v, rfl, hv9, hvb, hv34, hb2⟩
      obtain ⟨vn, hvn⟩ : ∃ vn, v.length = vn := ⟨_, rfl⟩
      rw [hvn] at hv9
      obtain ⟨Vs, hVs⟩ : ∃ Vs, strOfNums v = Vs := ⟨_, rfl⟩
      have HV : Hid (strOfNums v = Vs ∧ v.length = vn ∧ Byt v) := ⟨hVs, hvn, hvb⟩
      rw [hVs]
      have HO2 : Hid (OB w2 w.heap.size (.slice xd (bn + 1) xc) C1) := HOx.out.stay hb2
      have HP2 : Hid (PR w2 w.heap.size (.slice pd pn pc) l) := HPx.out.stay hb2
      have HU2 : Hid (Up w.heap.size w w2) := HUx.out.stay hb2
      have hu2 := HU2.out.2
      clear cT hvn hVs hvb hv34 hb2
      go_wp2_with (at_builtin; refine app_str rfl _ _ rfl w.heap.size _ C1 rfl HO2.out Vs v HV.out.2.2 HV.out.1 rfl (by rw [HLa.out, HV.out.2.1]; omega) hu2 ?_)
      intro v3 w3 ho3 hg3
      obtain ⟨T3, hT3⟩ : ∃ T3, C1 ++ v = T3 := ⟨_, rfl⟩
      have HT3 : Hid (T3 = B ++ ([62] ++ v)) := by show _ = _; rw [← hT3, HC1.out, List.append_assoc]
      rw [hT3] at ho3
      have HT3b : Hid (Byt T3) := by
        intro x hx
        rw [← hT3] at hx
        rcases List.mem_append.1 hx with h1 | h1
        · exact HCb.out x h1
        · exact HV.out.2.2 x h1
      obtain ⟨N3, hN3⟩ : ∃ N3, T3.length = N3 := ⟨_, rfl⟩
      have hN3b : N3 = bn + 1 + vn := by rw [← hN3, ← hT3, List.length_append, HLa.out, HV.out.2.1]
      have HN3 : Hid (T3.length = N3) := hN3
      obtain ⟨x3, c3, rfl, hc3⟩ := ho3.form
      obtain ⟨gx, rfl, -, -⟩ := own_at (n := T3.length) ho3 (by omega)
      have hbc3 := ho3.bc
      rw [hN3] at hbc3 hc3 ⊢
      have HP3 : Hid (PR w3 w.heap.size (.slice pd pn pc) l) := HP2.out.keepR hg3 (pr_ne2 HP2.out HPL.out HPZ.out HO2.out (by rw [HLa.out]; omega))
      have HU3 : Hid (Up w.heap.size w w3) := HU2.out.grown hg3 (own_base HO2.out)
      have hch : Ch (cL T3) N3 := by rw [← hN3]; exact cL_ch HT3b.out
      have cR := read_any (cap := c3) hch hbc3 (by omega) hc3 0 (by omega)
      have htg : tg (cL T3) N3 0 = some ⟨bn + 1, [101, 109, 45, 50], sh, l⟩ := by
        have := HM.out.tag HV.out.2.2
        rw [← HT3.out, HN3.out, HBL.out] at this
        exact this
      have HTG : Hid (tg (cL T3) N3 0 = some ⟨bn + 1, [101, 109, 45, 50], sh, l⟩) := htg
      rw [show ((0 : Nat) : Int) = 0 from rfl] at cR
      have hN9 : N3 ≤ 65536 := by omega
      clear ho3 hg3 hT3 hN3 hbc3 hch htg hN3b hc3
      go_wp2_with fail
      refine cR.mono ?_
      rintro e w4 (⟨h1, -, -⟩ | ⟨t, pv, h1, rfl, hpv, hb4⟩)
      · rw [HTG.out] at h1; cases h1
      rw [HTG.out] at h1
      injection h1 with h1
      subst h1
      obtain ⟨qd, qc, rfl⟩ := hpv.form
      dsimp only at hpv ⊢
      rw [HPL.out] at hpv ⊢
      have HQ4 : Hid (PR w4 w3.heap.size (.slice qd pn qc) l) := hpv
      have HP4 : Hid (PR w4 w.heap.size (.slice pd pn pc) l) := HP3.out.stay hb4
      have HU4 : Hid (Up w.heap.size w w4) := HU3.out.stay hb4
      rw [show strOfNums [101, 109, 45, 50] = ⟨#[101, 109, 45, 50]⟩ by kernel_rfl, HSH.out]
      rw [show ((bn + 1 : Nat) : Int) = (bn : Int) + 1 by push_cast; rfl]
      obtain ⟨V, hV⟩ : ∃ V, w4.alloc (.cells #[.int .i64 ((bn : Int) + 1), .string ⟨#[101, 109, 45, 50]⟩, .bool false, .slice qd pn qc] 31) = V := ⟨_, rfl⟩
      have hVh : V.heap[w4.heap.size]? = some (.cells #[.int .i64 ((bn : Int) + 1), .string ⟨#[101, 109, 45, 50]⟩, .bool false, .slice qd pn qc] 31) := by rw [← hV]; exact heap_alloc_new _ _
      have hVb : Below w4.heap.size w4 V := by rw [← hV]; exact below_alloc w4 _
      have t0 : V.cell? ⟨w4.heap.size, 0, none⟩ = some (.int .i64 ((bn : Int) + 1)) := by simp [World.cell?, hVh]
      have t1 : V.cell? ⟨w4.heap.size, 1, none⟩ = some (.string ⟨#[101, 109, 45, 50]⟩) := by simp [World.cell?, hVh]
      have t2 : V.cell? ⟨w4.heap.size, 2, none⟩ = some (.bool false) := by simp [World.cell?, hVh]
      have t3 : V.cell? ⟨w4.heap.size, 3, none⟩ = some (.slice qd pn qc) := by simp [World.cell?, hVh]
      have HVh : Hid (V.heap[w4.heap.size]? = some (.cells #[.int .i64 ((bn : Int) + 1), .string ⟨#[101, 109, 45, 50]⟩, .bool false, .slice qd pn qc] 31)) := hVh
      have HQV : Hid (PR V w3.heap.size (.slice qd pn qc) l) := HQ4.out.stay hVb
      have HPV : Hid (PR V w.heap.size (.slice pd pn pc) l) := HP4.out.stay hVb
      have HUV : Hid (Up w.heap.size w V) := HU4.out.stay hVb
      have cN := new_ok (bn + 1) (by omega) V
      rw [show ((bn + 1 : Nat) : Int) = (bn : Int) + 1 by push_cast; rfl] at cN
      clear cR hpv hb4 hVh hVb
      go_wp2_with fail
      refine cN.mono ?_
      rintro e w5 ⟨T, gs, rfl, hT, hgs, hS5, hU5⟩
      have h45 := blk_stay HVh.out hU5.1
      have HV5 : Hid (w5.heap[w4.heap.size]? = some (.cells #[.int .i64 ((bn : Int) + 1), .string ⟨#[101, 109, 45, 50]⟩, .bool false, .slice qd pn qc] 31)) := h45
      have HQ5 : Hid (PR w5 w3.heap.size (.slice qd pn qc) l) := HQV.out.stay hU5.1
      have HP5 : Hid (PR w5 w.heap.size (.slice pd pn pc) l) := HPV.out.stay hU5.1
      have HU5 : Hid (Up w.heap.size w w5) := HUV.out.stay hU5.1
      have HG5 : Hid (V.heap.size ≤ gs ∧ w4.heap.size < V.heap.size) := ⟨hgs, lt_of_heap HVh.out⟩
      have u0 : w5.cell? ⟨w4.heap.size, 0, none⟩ = some (.int .i64 ((bn : Int) + 1)) := by simp [World.cell?, h45]
      have u1 : w5.cell? ⟨w4.heap.size, 1, none⟩ = some (.string ⟨#[101, 109, 45, 50]⟩) := by simp [World.cell?, h45]
      have u2 : w5.cell? ⟨w4.heap.size, 2, none⟩ = some (.bool false) := by simp [World.cell?, h45]
      have u3 : w5.cell? ⟨w4.heap.size, 3, none⟩ = some (.slice qd pn qc) := by simp [World.cell?, h45]
      have cL1 := lay_tag hS5 (by omega) 0 (bn + 1) ⟨#[101, 109, 45, 50]⟩ false (.slice qd pn qc) l HQ5.out (fun p hp => by have := HM.out.ok p hp; rw [HBL.out] at this; omega) (by rw [HPL.out]; omega)
      rw [show ((bn + 1 : Nat) : Int) = (bn : Int) + 1 by push_cast; rfl, show ((0 : Nat) : Int) = 0 from rfl] at cL1
      have HS5 : Hid (Sh w5 T gs (bn + 1) (fun _ => 1)) := hS5
      clear cN hT hgs hS5 hU5 h45 t0 t1 t2 t3 hV
      go_wp2_with fail
      refine cL1.mono ?_
      rintro e w6 ⟨rfl, hS6, hG6⟩
      have h46 := (hG6.block w4.heap.size (lt_of_heap HV5.out) (fun e => by have := Option.some.inj e; have := HG5.out; omega)).trans HV5.out
      have HS6 : Hid (Sh w6 T gs (bn + 1) (lbM (l.drop 0))) := by
        refine hS6.congr fun k hk => ?_
        rw [List.drop_zero]
        exact lay_lbM (bn + 1) l [] _ (fun k hk => by unfold setL; rw [if_pos (by omega)]; rfl) k hk
      have HQ6 : Hid (PR w6 w3.heap.size (.slice qd pn qc) l) := HQ5.out.keep HS5.out.row hG6
      have HP6 : Hid (PR w6 w.heap.size (.slice pd pn pc) l) := HP5.out.keep HS5.out.row hG6
      have HU6 : Hid (Up w.heap.size w w6) := HU5.out.grown hG6 (fun k hk => by have := Option.some.inj hk; have := HG5.out; have := HUV.out.2; omega)
      have HGS : Hid (w.heap.size ≤ gs) := by have := HG5.out; have := HUV.out.2; show _ ≤ _; omega
      have s3 : w6.cell? ⟨w4.heap.size, 3, none⟩ = some (.slice qd pn qc) := by simp [World.cell?, h46]
      clear cL1 hS6 hG6 h46 u0 u1 u2 u3
      go_upto_region 27 with fail
      clear s3
      go_loopg [143] pn (fun q iv wr => ∃ j : Nat, j ≤ pn ∧ q = pn - j ∧ iv = .int .i64 j ∧ Hid (Sh wr T gs (bn + 1) (lbM (l.drop j)) ∧ PR wr w3.heap.size (.slice qd pn qc) l ∧ PR wr w.heap.size (.slice pd pn pc) l ∧ Up w.heap.size w wr))
      case atStart => exact ⟨0, Nat.zero_le _, rfl, rfl, HS6.out, HQ6.out, HP6.out, HU6.out⟩
      case round =>
        obtain ⟨j, hj, hqj, rfl, HR⟩ := hrel
        by_cases hlt2 : j < pn
        · have y1 : (j : Int) < (pn : Int) := by omega
          have y2 : (0 : Int) ≤ (j : Int) := by omega
          have hjl : j < l.length := by rw [HPL.out]; exact hlt2
          obtain ⟨p, hp⟩ : ∃ p, l[j]? = some p := ⟨_, List.getElem?_eq_getElem hjl⟩
          have hdr : l.drop j = p :: l.drop (j + 1) := by
            rw [List.drop_eq_getElem_cons hjl]
            rw [List.getElem?_eq_getElem hjl] at hp
            rw [Option.some.inj hp]
          have hpm : p ∈ l := List.mem_of_getElem? hp
          have hpo := HM.out.ok p hpm
          have hap : ∀ q ∈ l.drop (j + 1), p.1 + p.2 ≤ q.1 := by
            have h1 := HM.out.up.sublist (List.drop_sublist j l)
            rw [hdr] at h1
            exact fun q hq => (List.pairwise_cons.1 h1).1 q hq
          rw [HBL.out] at hpo
          obtain ⟨gq, eq1, -, -⟩ := own_at (n := pn) (by have := HR.out.2.1; unfold PR at this; rw [HPL.out] at this; exact this) (by omega)
          obtain ⟨gp, ep1, -, -⟩ := own_at (n := pn) (by have := HR.out.2.2.1; unfold PR at this; rw [HPL.out] at this; exact this) (by omega)
          have hQr := HR.out.2.1
          have hPr := HR.out.2.2.1
          rw [eq1] at hQr
          rw [ep1] at hPr
          obtain ⟨a1, a2⟩ := hQr.cells HPL.out.symm hp
          obtain ⟨p1, hp1⟩ : ∃ p1, p.1 = p1 := ⟨_, rfl⟩
          obtain ⟨p2, hp2⟩ : ∃ p2, p.2 = p2 := ⟨_, rfl⟩
          rw [hp1] at a1
          rw [hp2] at a2
          rw [hp1, hp2] at hpo
          obtain ⟨X, hX⟩ : ∃ X, wr.alloc (.cells #[.int .i64 (p1 : Int), .int .i64 (p2 : Int)] 29) = X := ⟨_, rfl⟩
          have hXb : Below wr.heap.size wr X := by rw [← hX]; exact below_alloc wr _
          have hXh : X.heap[wr.heap.size]? = some (.cells #[.int .i64 (p1 : Int), .int .i64 (p2 : Int)] 29) := by rw [← hX]; exact heap_alloc_new _ _
          have x0 : X.cell? ⟨wr.heap.size, 0, none⟩ = some (.int .i64 (p1 : Int)) := by simp [World.cell?, hXh]
          have x1 : X.cell? ⟨wr.heap.size, 1, none⟩ = some (.int .i64 (p2 : Int)) := by simp [World.cell?, hXh]
          obtain ⟨b1, b2⟩ := (hPr.stay hXb).cells HPL.out.symm hp
          rw [hp1] at b1
          rw [hp2] at b2
          have HRX : Hid (Sh X T gs (bn + 1) (lbM (l.drop j)) ∧ PR X w3.heap.size (.slice qd pn qc) l ∧ PR X w.heap.size (.slice pd pn pc) l ∧ Up w.heap.size w X) := ⟨HR.out.1.stay hXb, HR.out.2.1.stay hXb, HR.out.2.2.1.stay hXb, HR.out.2.2.2.stay hXb⟩
          have CA : Hid (∀ nq : Nat, Calls Tryd.prog 13 #[.pointer (some ⟨T, 0, none⟩), .int .i64 p1] (X.drewN nq) fun e w' => e = .returned (.int .u8 1) ∧ w' = X.drewN nq) := fun nq => by
            have := at_any (HRX.out.1.stay (below_drewN (Below.refl _ _) nq)) p1 (by omega)
            rw [hdr, ← hp1, lbM_hit (by rw [hp2]; exact hpo.1), hp1] at this
            exact this
          have HNX : Hid (∀ k, k < bn + 1 → setL (lbM (l.drop j)) 2 (p1 : Int) ((p1 : Int) + (p2 : Int)) k = lbM (l.drop (j + 1)) k) := fun k _ => by
            rw [hdr, ← hp1, ← hp2]
            exact lbM_next hap k
          subst eq1 ep1
          have y5 : IntKind.i64.wrap ((p1 : Int) + (p2 : Int)) = (p1 : Int) + (p2 : Int) := IntWalk.i64_in _ (by omega)
          clear hdr hpm hap hp hp1 hp2 hQr hPr hXb hXh hjl
          go_upto_region 29 with fail
          go_quiet (first | (go_at_call 13; exact Calls.quiet_of_same (CA.out _)))
          go_wp2_with fail
          refine (set_any (HRX.out.1.stay (below_drewN (Below.refl _ _) _)) (by omega) 2 (p1 : Int) ((p1 : Int) + (p2 : Int))).mono ?_
          rintro e w8 ⟨rfl, hS8, hG8, -⟩
          have hd := below_drewN (Below.refl X.heap.size X)
          have HF : Hid (Sh w8 T gs (bn + 1) (lbM (l.drop (j + 1))) ∧ PR w8 w3.heap.size (.slice (some ⟨gq, 0, none⟩) pn qc) l ∧ PR w8 w.heap.size (.slice (some ⟨gp, 0, none⟩) pn pc) l ∧ Up w.heap.size w w8) :=
            ⟨hS8.congr HNX.out, (HRX.out.2.1.stay (hd _)).keep (HRX.out.1.stay (hd _)).row hG8, (HRX.out.2.2.1.stay (hd _)).keep (HRX.out.1.stay (hd _)).row hG8, (HRX.out.2.2.2.stay (hd _)).grown hG8 (fun k hk => by have := Option.some.inj hk; have := HGS.out; omega)⟩
          clear hS8 hG8 hd
          go_wp2
          go_roundg (pn - (j + 1))
          case measure => omega
          case rel => exact ⟨j + 1, by omega, rfl, by go_num, HF⟩
        · obtain rfl : j = pn := by omega
          have y1 : ¬ (j : Int) < (j : Int) := by omega
          have HS9 : Hid (Sh wr T gs (bn + 1) (fun _ => 2)) := by
            refine HR.out.1.congr fun k _ => ?_
            rw [List.drop_eq_nil_of_le (by rw [HPL.out]; exact Nat.le_refl _)]
            rfl
          have c3s := segs_any HS9.out (by omega)
          have hsg : sg (fun _ => (2 : Int)) (bn + 1) = [⟨2, 0, bn + 1⟩] := by
            have := sg_run (L := fun _ => (2 : Int)) (i := 0) rfl bn (fun _ _ _ => rfl)
            rw [Nat.zero_add] at this
            exact this
          rw [hsg] at c3s
          clear hsg
          go_wp2_with fail
          refine c3s.mono ?_
          rintro e w9 ⟨v9, rfl, hR9, hU9⟩
          obtain ⟨a9, c9, rfl⟩ := hR9.form
          have cA := at_any (HS9.out.stay hU9.1) 0 (by omega)
          rw [show ((0 : Nat) : Int) = 0 from rfl] at cA
          have HU9 : Hid (Below w.heap.size w w9) := HR.out.2.2.2.1.trans (hU9.1.mono HR.out.2.2.2.2)
          clear c3s hR9 hU9
          go_wp2_with fail
          refine cA.mono ?_
          rintro e w10 ⟨rfl, hw⟩
          subst w10
          clear cA
          go_wp2
          go_ret
          exact ⟨rfl, HU9.out⟩

set_option maxRecDepth 100000 in
set_option maxHeartbeats 4000000 in
theorem made_true {w : World} (hG : Glo w) {na : Option Addr} {nn ncap : Nat} {nc : Nat → Int} (hnC : Ch nc nn) (hnb : BC w na nn nc) (hnn : nn ≤ maxLen) {va : Option Addr} {vvn vcap : Nat} (hvr : BRR w va vvn) (hvn : vvn ≤ maxLen) {ba : Option Addr} {bbn bcap : Nat} {bc : Nat → Int} (hbC : Ch bc bbn) (hbb : BC w ba bbn bc) (hbn : bbn ≤ maxLen) :
    Calls Tryd.prog 3 #[.slice na nn ncap, .slice va vvn vcap, .bool true, .slice ba bbn bcap] w fun ev w' => ev = .returned (.bool true) ∧ Below w.heap.size w w' := by
  obtain ⟨sh, hsh⟩ : ∃ sh, sh = true := ⟨_, rfl⟩
  have HSH : Hid (sh = true) := hsh
  obtain ⟨i0, hi0, hz0, hz1, hz2⟩ := info_parts infoPr
  have ca := awake_any w hG
  have HH : Hid (Glo w ∧ (Ch nc nn ∧ BC w na nn nc) ∧ BRR w va vvn ∧ (Ch bc bbn ∧ BC w ba bbn bc)) := ⟨hG, ⟨hnC, hnb⟩, hvr, ⟨hbC, hbb⟩⟩
  have hml : maxLen ≤ 9223372036854775807 := by unfold maxLen; omega
  have hcA := fun (w' : World) => Go.Lib.run_convert_bytes_const (P := Tryd.prog) w' 22 5 #[.int .u8 60] 1 1 Tryd.underlying22 Tryd.underlying5
  clear hG hnC hnb hvr hbC hbb hsh
  go_enter Tryd.func3, Tryd.ntmps3
  go_wp2_with fail
  refine ca.mono ?_
  rintro e w1 ⟨rfl, hb1⟩
  have HU1 : Hid (Up w.heap.size w w1) := ⟨hb1, hb1.size⟩
  clear ca hb1
  obtain ⟨W, hW⟩ : ∃ W, w1.alloc (.cells #[.int .u8 60] 5 (1, 2)) = W := ⟨_, rfl⟩
  have HOW : Hid (OMg W w.heap.size w1.heap.size 1 [60]) := by show OMg _ _ _ _ _; rw [← hW]; exact om_lit w1 _ HU1.out.2
  have HUW : Hid (Up w.heap.size w W) := by show Up _ _ _; rw [← hW]; exact HU1.out.alloc _
  have huW := HUW.out.2
  go_wp2_with (at_builtin; refine om_app rfl _ _ rfl w.heap.size w1.heap.size 1 [60] 1 rfl rfl (HOW.out.stay (below_alloc W _)) (by omega) (some ⟨W.heap.size, 0, none⟩) 1 1 (cL [47]) rfl (one_bc W 47) (by omega) (by simp; omega) ?_)
  intro ga cpa wa hoa hga
  rw [cl_one] at hoa
  have HOa : Hid (OMg wa w.heap.size ga cpa [60, 47]) := hoa
  have HUa : Hid (Up w.heap.size w wa) := (HUW.out.alloc _).grown hga (fun k hk => by have := HOW.out.lo; have := Option.some.inj hk; omega)
  have hua := HUa.out.2
  clear hoa hga
  go_wp2_with (at_builtin; refine om_str rfl _ _ rfl w.heap.size ga cpa [60, 47] 2 rfl rfl HOa.out (by omega) ⟨#[69, 109, 45, 50]⟩ [69, 109, 45, 50] (byt_lit _ rfl) rfl rfl (by decide) hua ?_)
  intro gb cpb wb hob hgb
  try rw [show 2 + ([69, 109, 45, 50] : List Int).length = 6 from rfl]
  have HOb : Hid (OMg wb w.heap.size gb cpb (mdH sh)) := by show OMg _ _ _ _ _; rw [HSH.out]; exact hob
  have HUb : Hid (Up w.heap.size w wb) := HUa.out.grown hgb (fun k hk => by have := HOa.out.lo; have := Option.some.inj hk; omega)
  have HLb : Hid ((mdH sh).length = 6) := by show _ = _; rw [HSH.out]; rfl
  have hm3 : ∀ w : World, (Builtin.min_ #[3, 3, 3] 3 #[.int .i64 (nn : Int), .int .i64 (vvn : Int), .int .i64 8]).run Tryd.prog w = .ok (.int .i64 (min (min (nn : Int) (vvn : Int)) 8)) w := fun w => run_min3 w _ _ _ _ _ _
  obtain ⟨m, hm⟩ : ∃ m : Nat, min (min nn vvn) 8 = m := ⟨_, rfl⟩
  have hmi : min (min (nn : Int) (vvn : Int)) 8 = (m : Int) := by omega
  have hmb : m ≤ nn ∧ m ≤ vvn ∧ m ≤ 8 := by omega
  rw [hmi] at hm3
  clear hob hgb hm hmi hW hcA
  go_wp2
  go_loopg [10, 11, 37] m (fun q bv pv iv wr => ∃ (i g bn cp : Nat) (pd : Option Addr) (pn pc : Nat), i ≤ m ∧ q = m - i ∧ iv = .int .i64 i ∧ bv = .slice (some ⟨g, 0, none⟩) bn cp ∧ pv = .slice pd pn pc ∧ bn ≤ 6 + 19 * i ∧ 5 ≤ bn ∧ pn ≤ i ∧ Hid (∃ B l, OMg wr w.heap.size g cp B ∧ B.length = bn ∧ PR wr w.heap.size (.slice pd pn pc) l ∧ l.length = pn ∧ (l = [] → pd = none) ∧ Md sh B l) ∧ Hid (Up w.heap.size w wr))
  case atStart => exact ⟨0, gb, 6, cpb, none, 0, 0, Nat.zero_le _, rfl, rfl, rfl, rfl, by omega, by omega, Nat.le_refl _, ⟨mdH sh, [], HOb.out, HLb.out, World.ownsRow_nil _ _ _ _, rfl, fun _ => rfl, mdz sh⟩, HUb⟩
  case round =>
    obtain ⟨i, g, bn, cp, pd, pn, pc, hi, hq, rfl, rfl, rfl, hbn1, hbn5, hpn, HX, HU⟩ := hrel
    obtain ⟨B, l, hx1, hx2, hx3, hx4, hx5, hx6⟩ := HX.out
    have HB : Hid (OMg wr w.heap.size g cp B) := hx1
    have HBL : Hid (B.length = bn) := hx2
    have HP : Hid (PR wr w.heap.size (.slice pd pn pc) l) := hx3
    have HPL : Hid (l.length = pn) := hx4
    have HPZ : Hid (l = [] → pd = none) := hx5
    have HM : Hid (Md sh B l) := hx6
    have hu := HU.out.2
    clear hx1 hx2 hx3 hx4 hx5 hx6 HX
    by_cases hlt : i < m
    · have z1 : (i : Int) < (m : Int) := by omega
      have z2 : (0 : Int) ≤ (i : Int) := by omega
      have z4 : (i : Int) < (nn : Int) := by omega
      have z5 : (i : Int) < (vvn : Int) := by omega
      obtain ⟨xb, xo, rfl, hc⟩ := HH.out.2.1.2 i (by omega)
      have HC : Hid (w.cell? ⟨xb, xo + i, none⟩ = some (.int .u8 (nc i))) := hc
      have hcw := cell_stay hc HU.out.1
      have hci := HH.out.2.1.1.1 i (by omega)
      obtain ⟨X, hX⟩ : ∃ X : Nat, nc i = (X : Int) := ⟨(nc i).toNat, by omega⟩
      rw [hX] at hcw HC
      obtain ⟨r, hr⟩ : ∃ r, X % 6 = r := ⟨_, rfl⟩
      have hr6 : r < 6 := by rw [← hr]; exact Nat.mod_lt _ (by decide)
      have hmd : Int.tmod (X : Int) 6 = (r : Int) := by rw [← hr]; exact nat_mod X 6
      obtain ⟨t, ht, ht0, hta, ht6, htl⟩ := mdT_ok r hr6
      have hta' : ∀ x ∈ t, (0 ≤ x ∧ x < 256) ∧ atB x = true := fun x hx => by
        have := List.all_eq_true.1 hta x hx
        simpa [and_assoc] using this
      have HT : Hid (t ≠ [] ∧ Byt t ∧ ∀ x ∈ t, atB x = true) := ⟨ht0, fun x hx => (hta' x hx).1, fun x hx => (hta' x hx).2⟩
      have HALT : Hid (altB (t.map lw) = (decide (r < 2) || decide (r = 4))) := htl
      obtain ⟨Nm, hNm⟩ : ∃ Nm, strOfNums t = Nm := ⟨_, rfl⟩
      have HNm : Hid (strOfNums t = Nm) := hNm
      obtain ⟨tn, htn⟩ : ∃ tn, t.length = tn := ⟨_, rfl⟩
      have HTN : Hid (t.length = tn) := htn
      rw [htn] at ht6
      obtain ⟨W, hW⟩ : ∃ W, wr.alloc (.cells #[.string ⟨#[97, 108, 116]⟩, .string ⟨#[84, 73, 84, 76, 69]⟩, .string ⟨#[99, 108, 97, 115, 115]⟩, .string ⟨#[120, 45, 97, 108, 116]⟩, .string ⟨#[65, 108, 116]⟩, .string ⟨#[116, 105, 116, 108, 101, 115]⟩] 9) = W := ⟨_, rfl⟩
      have hbW : Below wr.heap.size wr W := by rw [← hW]; exact below_alloc wr _
      have hPS : PS W wr.heap.size mdT := by rw [← hW]; exact lit_ps wr mdT
      have y1 : W.cell? ⟨wr.heap.size, r, none⟩ = some (.string Nm) := by rw [← hNm]; exact hPS r t ht
      have y2 := cell_stay hcw hbW
      have HUW : Hid (Up w.heap.size w W) := HU.out.stay hbW
      have HBW : Hid (OMg W w.heap.size g cp B) := HB.out.stay hbW
      have HPW : Hid (PR W w.heap.size (.slice pd pn pc) l) := HP.out.stay hbW
      have huW := HUW.out.2
      have z5' : (0 : Int) ≤ (r : Int) := by omega
      have z6 : (r : Int) < 6 := by omega
      clear hc hX hci hr ht ht0 hta hta' htl hNm hbW hPS hcw htn
      go_wp2_with (at_builtin; refine om_app rfl _ _ rfl w.heap.size g cp B bn HBL.out rfl (HBW.out.stay (below_alloc W _)) (by omega) (some ⟨W.heap.size, 0, none⟩) 1 1 (cL [32]) rfl (one_bc W 32) (by omega) (by simp; omega) ?_)
      intro g1 cp1 wa hoa hga
      rw [cl_one] at hoa
      obtain ⟨B1, hB1⟩ : ∃ B1, B ++ [32] = B1 := ⟨_, rfl⟩
      have HB1 : Hid (B1 = B ++ [32]) := hB1.symm
      rw [hB1] at hoa
      have HOa : Hid (OMg wa w.heap.size g1 cp1 B1) := hoa
      have HNa : Hid (∀ k, (Value.slice pd pn pc).ownBlock = some k → k ≠ g) := pr_ne HP.out HPL.out HPZ.out HB.out (by rw [HBL.out]; omega)
      have HPa : Hid (PR wa w.heap.size (.slice pd pn pc) l) := (HPW.out.stay (below_alloc W _)).keepO hga HNa.out
      have HUa : Hid (Up w.heap.size w wa) := (HUW.out.alloc _).grown hga (fun k hk => by have := HB.out.lo; have := Option.some.inj hk; omega)
      have HLa : Hid (B1.length = bn + 1) := by show _ = _; rw [HB1.out, List.length_append, HBL.out]; rfl
      have hua := HUa.out.2
      clear hoa hga hB1
      go_wp2_with (at_builtin; refine om_str rfl _ _ rfl w.heap.size g1 cp1 B1 (bn + 1) HLa.out rfl HOa.out (by omega) Nm t HT.out.2.1 HNm.out rfl (by have := HTN.out; omega) hua ?_)
      intro g2 cp2 wb2 hob hgb
      try rw [show bn + 1 + t.length = bn + 1 + tn by rw [HTN.out]]
      obtain ⟨B2, hB2⟩ : ∃ B2, B1 ++ t = B2 := ⟨_, rfl⟩
      have HB2 : Hid (B2 = B1 ++ t) := hB2.symm
      rw [hB2] at hob
      have HOb2 : Hid (OMg wb2 w.heap.size g2 cp2 B2) := hob
      have HNb : Hid (∀ k, (Value.slice pd pn pc).ownBlock = some k → k ≠ g1) := pr_ne HPa.out HPL.out HPZ.out HOa.out (by rw [HLa.out]; omega)
      have HPb : Hid (PR wb2 w.heap.size (.slice pd pn pc) l) := HPa.out.keepO hgb HNb.out
      have HUb2 : Hid (Up w.heap.size w wb2) := HUa.out.grown hgb (fun k hk => by have := HOa.out.lo; have := Option.some.inj hk; omega)
      have HLb2 : Hid (B2.length = bn + 1 + tn) := by show _ = _; rw [HB2.out, List.length_append, HLa.out, HTN.out]
      have hub := HUb2.out.2
      clear hob hgb hB2
      go_wp2_with (at_builtin; refine om_str rfl _ _ rfl w.heap.size g2 cp2 B2 (bn + 1 + tn) HLb2.out rfl HOb2.out (by omega) ⟨#[61, 34]⟩ [61, 34] (byt_lit _ rfl) rfl rfl (by simp; omega) hub ?_)
      intro g3 cp3 w4 hoc hgc
      obtain ⟨B3, hB3⟩ : ∃ B3, B2 ++ [61, 34] = B3 := ⟨_, rfl⟩
      have HB3x : Hid (B3 = B2 ++ [61, 34]) := hB3.symm
      have HB3e : Hid (B3 = B ++ [32] ++ t ++ [61, 34]) := by show _ = _; rw [HB3x.out, HB2.out, HB1.out]
      rw [hB3] at hoc
      obtain ⟨n3, hn3⟩ : ∃ n3, bn + 1 + tn + 2 = n3 := ⟨_, rfl⟩
      first | rw [hn3] | rw [show ([61, 34] : List Int).length = 2 from rfl, hn3]
      have hn3' : n3 = bn + tn + 3 := by omega
      have hn3a : n3 ≤ bn + 9 := by omega
      have hn3b : bn + 3 ≤ n3 := by omega
      have HN3 : Hid (B3.length = n3) := by show _ = _; rw [HB3x.out, List.length_append, HLb2.out]; exact hn3
      have HB3 : Hid (B3.length = bn + t.length + 3) := by show _ = _; rw [HN3.out, HTN.out]; exact hn3'
      have HO4 : Hid (OMg w4 w.heap.size g3 cp3 B3) := hoc
      have HNc : Hid (∀ k, (Value.slice pd pn pc).ownBlock = some k → k ≠ g2) := pr_ne HPb.out HPL.out HPZ.out HOb2.out (by rw [HLb2.out]; omega)
      have HP4 : Hid (PR w4 w.heap.size (.slice pd pn pc) l) := HPb.out.keepO hgc HNc.out
      have HU4 : Hid (Up w.heap.size w w4) := HUb2.out.grown hgc (fun k hk => by have := HOb2.out.lo; have := Option.some.inj hk; omega)
      clear hoc hgc hB3 hn3 hn3'
      obtain ⟨yb, yo, ad', n', cap', c', rfl, hy1, hy2, hy3, hy4⟩ := HH.out.2.2.1 i (by omega)
      have y3 := cell_stay hy1 HU4.out.1
      have cT := text_any (cap := cap') hy2 (hy3.stay HU4.out.1) hy4
      clear hy1 hy2 hy3 hy4
      go_wp2_with fail
      refine cT.mono ?_
      rintro e w5 ⟨v, rfl, hv9, hvb, hv34, hb5⟩
      obtain ⟨vn, hvn⟩ : ∃ vn, v.length = vn := ⟨_, rfl⟩
      rw [hvn] at hv9
      obtain ⟨Vs, hVs⟩ : ∃ Vs, strOfNums v = Vs := ⟨_, rfl⟩
      have HV : Hid (strOfNums v = Vs ∧ v.length = vn ∧ Byt v ∧ ∀ x ∈ v, x ≠ 34) := ⟨hVs, hvn, hvb, hv34⟩
      rw [hVs]
      have HO5 : Hid (OMg w5 w.heap.size g3 cp3 B3) := HO4.out.stay hb5
      have HP5 : Hid (PR w5 w.heap.size (.slice pd pn pc) l) := HP4.out.stay hb5
      have HU5 : Hid (Up w.heap.size w w5) := HU4.out.stay hb5
      have y4 := cell_stay HC.out HU5.out.1
      have hve : (Vs.toList == []) = decide (vn = 0) := by
        rw [← hVs, show ((strOfNums v).toList == []) = (v == []) from nums_is hvb _ (byt_lit [] rfl), ← hvn]
        cases v <;> rfl
      clear cT hvn hVs hvb hv34 hb5
      by_cases hr2 : r < 2
      · have k1 : (r : Int) < 2 := by omega
        by_cases hv0 : vn = 0
        · rw [decide_eq_true hv0] at hve
          have hv0z : vn ≤ 0 := by omega
          clear hv0
          have HE6 : Hid ((l ++ if (decide (0 < v.length) && altB (t.map lw)) = true then [(bn + t.length + 3, v.length)] else []) = l) := by
            show _ = _
            rw [HALT.out, if_neg (by simp only [Bool.and_eq_true, Bool.or_eq_true, decide_eq_true_eq]; have := HV.out.2.1; omega), List.append_nil]
          have hu6 := HU5.out.2
          go_wp2_with (at_builtin; refine om_str rfl _ _ rfl w.heap.size g3 cp3 B3 n3 HN3.out rfl HO5.out (by omega) Vs v HV.out.2.2.1 HV.out.1 rfl (by have := HV.out.2.1; omega) hu6 ?_)
          intro g7 cp7 w7 ho7 hg7
          try rw [show n3 + v.length = n3 + vn by rw [HV.out.2.1]]
          have HN7 : Hid (∀ k, (Value.slice (pd) pn pc).ownBlock = some k → k ≠ g3) := pr_ne HP5.out HPL.out HPZ.out HO5.out (by rw [HN3.out]; omega)
          have HP7 : Hid (PR w7 w.heap.size (.slice (pd) pn pc) l) := HP5.out.keepO hg7 HN7.out
          have HU7 : Hid (Up w.heap.size w w7) := HU5.out.grown hg7 (fun k hk => by have := HO5.out.lo; have := Option.some.inj hk; omega)
          obtain ⟨B7, hB7⟩ : ∃ B7, B3 ++ v = B7 := ⟨_, rfl⟩
          have HB7 : Hid (B7 = B3 ++ v) := hB7.symm
          rw [hB7] at ho7
          have HO7 : Hid (OMg w7 w.heap.size g7 cp7 B7) := ho7
          have HL7 : Hid (B7.length = n3 + vn) := by show _ = _; rw [HB7.out, List.length_append, HN3.out, HV.out.2.1]
          have hu7 := HU7.out.2
          clear ho7 hg7 hB7
          go_wp2_with (at_builtin; refine om_app rfl _ _ rfl w.heap.size g7 cp7 B7 (n3 + vn) HL7.out rfl (HO7.out.stay (below_alloc w7 _)) (by omega) (some ⟨w7.heap.size, 0, none⟩) 1 1 (cL [34]) rfl (one_bc w7 34) (by omega) (by simp; omega) ?_)
          intro g8 cp8 w8 ho8 hg8
          rw [cl_one] at ho8
          have HN8 : Hid (∀ k, (Value.slice (pd) pn pc).ownBlock = some k → k ≠ g7) := pr_ne HP7.out HPL.out HPZ.out HO7.out (by rw [HL7.out]; omega)
          have HP8 : Hid (PR w8 w.heap.size (.slice (pd) pn pc) l) := (HP7.out.stay (below_alloc w7 _)).keepO hg8 HN8.out
          have HU8 : Hid (Up w.heap.size w w8) := (HU7.out.alloc _).grown hg8 (fun k hk => by have := HO7.out.lo; have := Option.some.inj hk; omega)
          have HO8 : Hid (OMg w8 w.heap.size g8 cp8 (B ++ atL t v)) := by
            have e : B ++ atL t v = B7 ++ [34] := by rw [HB7.out, HB3e.out]; simp [atL]
            show OMg _ _ _ _ _
            rw [e]
            exact ho8
          have HL8 : Hid ((B ++ atL t v).length = n3 + vn + 1) := by
            have e : B ++ atL t v = B7 ++ [34] := by rw [HB7.out, HB3e.out]; simp [atL]
            show _ = _
            rw [e, List.length_append, HL7.out]; rfl
          have HM8 : Hid (Md sh (B ++ atL t v) l) := by
            have := HM.out.step HT.out.1 HT.out.2.1 HV.out.2.2.1 HT.out.2.2 HV.out.2.2.2
            rw [HBL.out, HE6.out] at this
            exact this
          clear ho8 hg8
          go_wp2
          go_roundg (m - (i + 1))
          case measure => omega
          case rel => exact ⟨i + 1, g8, n3 + vn + 1, cp8, pd, pn, pc, by omega, rfl, by go_num, rfl, rfl, by omega, by omega, by omega, ⟨_, l, HO8.out, HL8.out, HP8.out, HPL.out, HPZ.out, HM8.out⟩, HU8⟩
        · rw [decide_eq_false hv0] at hve
          have HO : Hid (w5.ownsRow w.heap.size 29 2 (.slice pd pn pc) pn (prC l)) := by
            have := HP5.out
            unfold PR at this
            rw [HPL.out] at this
            exact this
          have hw5 := HU5.out.2
          have hvs : Vs.size = vn := by rw [← HV.out.1, strOfNums_size, HV.out.2.1]
          go_wp2_with (at_builtin; refine wpList_append_lies _ rfl _ _ 26 rfl w.heap.size 29 i0 _ 2 16 Tryd.underlying26 hi0 hz0 hz1 hz2 rfl (by decide) _ _ _ rfl (HO.out.alloc _) ⟨w5.heap.size, 0, none⟩ 1 1 [.int .i64 (n3 : Int), .int .i64 (vn : Int)] rfl rfl (World.news_of_block (heap_alloc_new _ _)) (pr_one _ _) (by omega) (by unfold maxLen; omega) (by omega) (by simp; omega) (w5.heap.size + 1) (by simp) ?_)
          intro gp capp w6 ho6 hg6 ha6 hlt6
          have HNE : Hid (∀ k, (Value.slice pd pn pc).ownBlock = some k → k ≠ g3) := pr_ne HP5.out HPL.out HPZ.out HO5.out (by rw [HN3.out]; omega)
          have HU6 : Hid (Up w.heap.size w w6) := (HU5.out.alloc _).grown hg6 (own_base HO.out)
          have HO6 : Hid (OMg w6 w.heap.size g3 cp3 B3) := (HO5.out.stay (below_alloc w5 _)).keep hg6 HNE.out
          have HP6 : Hid (PR w6 w.heap.size (.slice (some ⟨gp, 0, none⟩) (pn + 1) capp) (l ++ [(n3, vn)])) := by
            show PR _ _ _ _
            unfold PR
            rw [List.length_append, HPL.out, prC_app]
            exact ho6
          have HL6 : Hid ((l ++ [(n3, vn)]).length = pn + 1) := by show _ = _; rw [List.length_append, HPL.out]; rfl
          have HZ6 : Hid (l ++ [(n3, vn)] = [] → (some ⟨gp, 0, none⟩ : Option Addr) = none) := fun h => absurd h (by simp)
          have HE6 : Hid ((l ++ if (decide (0 < v.length) && altB (t.map lw)) = true then [(bn + t.length + 3, v.length)] else []) = l ++ [(n3, vn)]) := by
            show _ = _
            rw [HALT.out, if_pos (by simp only [Bool.and_eq_true, Bool.or_eq_true, decide_eq_true_eq]; have := HV.out.2.1; omega), HV.out.2.1, HN3.out.symm.trans HB3.out]
          clear ho6 hg6 ha6 hlt6
          have hu6 := HU6.out.2
          go_wp2_with (at_builtin; refine om_str rfl _ _ rfl w.heap.size g3 cp3 B3 n3 HN3.out rfl HO6.out (by omega) Vs v HV.out.2.2.1 HV.out.1 rfl (by have := HV.out.2.1; omega) hu6 ?_)
          intro g7 cp7 w7 ho7 hg7
          try rw [show n3 + v.length = n3 + vn by rw [HV.out.2.1]]
          have HN7 : Hid (∀ k, (Value.slice (some ⟨gp, 0, none⟩) (pn + 1) capp).ownBlock = some k → k ≠ g3) := pr_ne HP6.out HL6.out HZ6.out HO6.out (by rw [HN3.out]; omega)
          have HP7 : Hid (PR w7 w.heap.size (.slice (some ⟨gp, 0, none⟩) (pn + 1) capp) (l ++ [(n3, vn)])) := HP6.out.keepO hg7 HN7.out
          have HU7 : Hid (Up w.heap.size w w7) := HU6.out.grown hg7 (fun k hk => by have := HO6.out.lo; have := Option.some.inj hk; omega)
          obtain ⟨B7, hB7⟩ : ∃ B7, B3 ++ v = B7 := ⟨_, rfl⟩
          have HB7 : Hid (B7 = B3 ++ v) := hB7.symm
          rw [hB7] at ho7
          have HO7 : Hid (OMg w7 w.heap.size g7 cp7 B7) := ho7
          have HL7 : Hid (B7.length = n3 + vn) := by show _ = _; rw [HB7.out, List.length_append, HN3.out, HV.out.2.1]
          have hu7 := HU7.out.2
          clear ho7 hg7 hB7
          go_wp2_with (at_builtin; refine om_app rfl _ _ rfl w.heap.size g7 cp7 B7 (n3 + vn) HL7.out rfl (HO7.out.stay (below_alloc w7 _)) (by omega) (some ⟨w7.heap.size, 0, none⟩) 1 1 (cL [34]) rfl (one_bc w7 34) (by omega) (by simp; omega) ?_)
          intro g8 cp8 w8 ho8 hg8
          rw [cl_one] at ho8
          have HN8 : Hid (∀ k, (Value.slice (some ⟨gp, 0, none⟩) (pn + 1) capp).ownBlock = some k → k ≠ g7) := pr_ne HP7.out HL6.out HZ6.out HO7.out (by rw [HL7.out]; omega)
          have HP8 : Hid (PR w8 w.heap.size (.slice (some ⟨gp, 0, none⟩) (pn + 1) capp) (l ++ [(n3, vn)])) := (HP7.out.stay (below_alloc w7 _)).keepO hg8 HN8.out
          have HU8 : Hid (Up w.heap.size w w8) := (HU7.out.alloc _).grown hg8 (fun k hk => by have := HO7.out.lo; have := Option.some.inj hk; omega)
          have HO8 : Hid (OMg w8 w.heap.size g8 cp8 (B ++ atL t v)) := by
            have e : B ++ atL t v = B7 ++ [34] := by rw [HB7.out, HB3e.out]; simp [atL]
            show OMg _ _ _ _ _
            rw [e]
            exact ho8
          have HL8 : Hid ((B ++ atL t v).length = n3 + vn + 1) := by
            have e : B ++ atL t v = B7 ++ [34] := by rw [HB7.out, HB3e.out]; simp [atL]
            show _ = _
            rw [e, List.length_append, HL7.out]; rfl
          have HM8 : Hid (Md sh (B ++ atL t v) (l ++ [(n3, vn)])) := by
            have := HM.out.step HT.out.1 HT.out.2.1 HV.out.2.2.1 HT.out.2.2 HV.out.2.2.2
            rw [HBL.out, HE6.out] at this
            exact this
          clear ho8 hg8
          go_wp2
          go_roundg (m - (i + 1))
          case measure => omega
          case rel => exact ⟨i + 1, g8, n3 + vn + 1, cp8, some ⟨gp, 0, none⟩, (pn + 1), capp, by omega, rfl, by go_num, rfl, rfl, by omega, by omega, by omega, ⟨_, (l ++ [(n3, vn)]), HO8.out, HL8.out, HP8.out, HL6.out, HZ6.out, HM8.out⟩, HU8⟩
      · have k1 : ¬ (r : Int) < 2 := by omega
        by_cases hr4 : r = 4
        · have k2 : ((r : Int) == 4) = true := by rw [hr4]; rfl
          by_cases hv0 : vn = 0
          · rw [decide_eq_true hv0] at hve
            have hv0z : vn ≤ 0 := by omega
            clear hv0
            have HE6 : Hid ((l ++ if (decide (0 < v.length) && altB (t.map lw)) = true then [(bn + t.length + 3, v.length)] else []) = l) := by
              show _ = _
              rw [HALT.out, if_neg (by simp only [Bool.and_eq_true, Bool.or_eq_true, decide_eq_true_eq]; have := HV.out.2.1; omega), List.append_nil]
            have hu6 := HU5.out.2
            go_wp2_with (at_builtin; refine om_str rfl _ _ rfl w.heap.size g3 cp3 B3 n3 HN3.out rfl HO5.out (by omega) Vs v HV.out.2.2.1 HV.out.1 rfl (by have := HV.out.2.1; omega) hu6 ?_)
            intro g7 cp7 w7 ho7 hg7
            try rw [show n3 + v.length = n3 + vn by rw [HV.out.2.1]]
            have HN7 : Hid (∀ k, (Value.slice (pd) pn pc).ownBlock = some k → k ≠ g3) := pr_ne HP5.out HPL.out HPZ.out HO5.out (by rw [HN3.out]; omega)
            have HP7 : Hid (PR w7 w.heap.size (.slice (pd) pn pc) l) := HP5.out.keepO hg7 HN7.out
            have HU7 : Hid (Up w.heap.size w w7) := HU5.out.grown hg7 (fun k hk => by have := HO5.out.lo; have := Option.some.inj hk; omega)
            obtain ⟨B7, hB7⟩ : ∃ B7, B3 ++ v = B7 := ⟨_, rfl⟩
            have HB7 : Hid (B7 = B3 ++ v) := hB7.symm
            rw [hB7] at ho7
            have HO7 : Hid (OMg w7 w.heap.size g7 cp7 B7) := ho7
            have HL7 : Hid (B7.length = n3 + vn) := by show _ = _; rw [HB7.out, List.length_append, HN3.out, HV.out.2.1]
            have hu7 := HU7.out.2
            clear ho7 hg7 hB7
            go_wp2_with (at_builtin; refine om_app rfl _ _ rfl w.heap.size g7 cp7 B7 (n3 + vn) HL7.out rfl (HO7.out.stay (below_alloc w7 _)) (by omega) (some ⟨w7.heap.size, 0, none⟩) 1 1 (cL [34]) rfl (one_bc w7 34) (by omega) (by simp; omega) ?_)
            intro g8 cp8 w8 ho8 hg8
            rw [cl_one] at ho8
            have HN8 : Hid (∀ k, (Value.slice (pd) pn pc).ownBlock = some k → k ≠ g7) := pr_ne HP7.out HPL.out HPZ.out HO7.out (by rw [HL7.out]; omega)
            have HP8 : Hid (PR w8 w.heap.size (.slice (pd) pn pc) l) := (HP7.out.stay (below_alloc w7 _)).keepO hg8 HN8.out
            have HU8 : Hid (Up w.heap.size w w8) := (HU7.out.alloc _).grown hg8 (fun k hk => by have := HO7.out.lo; have := Option.some.inj hk; omega)
            have HO8 : Hid (OMg w8 w.heap.size g8 cp8 (B ++ atL t v)) := by
              have e : B ++ atL t v = B7 ++ [34] := by rw [HB7.out, HB3e.out]; simp [atL]
              show OMg _ _ _ _ _
              rw [e]
              exact ho8
            have HL8 : Hid ((B ++ atL t v).length = n3 + vn + 1) := by
              have e : B ++ atL t v = B7 ++ [34] := by rw [HB7.out, HB3e.out]; simp [atL]
              show _ = _
              rw [e, List.length_append, HL7.out]; rfl
            have HM8 : Hid (Md sh (B ++ atL t v) l) := by
              have := HM.out.step HT.out.1 HT.out.2.1 HV.out.2.2.1 HT.out.2.2 HV.out.2.2.2
              rw [HBL.out, HE6.out] at this
              exact this
            clear ho8 hg8
            go_wp2
            go_roundg (m - (i + 1))
            case measure => omega
            case rel => exact ⟨i + 1, g8, n3 + vn + 1, cp8, pd, pn, pc, by omega, rfl, by go_num, rfl, rfl, by omega, by omega, by omega, ⟨_, l, HO8.out, HL8.out, HP8.out, HPL.out, HPZ.out, HM8.out⟩, HU8⟩
          · rw [decide_eq_false hv0] at hve
            have HO : Hid (w5.ownsRow w.heap.size 29 2 (.slice pd pn pc) pn (prC l)) := by
              have := HP5.out
              unfold PR at this
              rw [HPL.out] at this
              exact this
            have hw5 := HU5.out.2
            have hvs : Vs.size = vn := by rw [← HV.out.1, strOfNums_size, HV.out.2.1]
            go_wp2_with (at_builtin; refine wpList_append_lies _ rfl _ _ 26 rfl w.heap.size 29 i0 _ 2 16 Tryd.underlying26 hi0 hz0 hz1 hz2 rfl (by decide) _ _ _ rfl (HO.out.alloc _) ⟨w5.heap.size, 0, none⟩ 1 1 [.int .i64 (n3 : Int), .int .i64 (vn : Int)] rfl rfl (World.news_of_block (heap_alloc_new _ _)) (pr_one _ _) (by omega) (by unfold maxLen; omega) (by omega) (by simp; omega) (w5.heap.size + 1) (by simp) ?_)
            intro gp capp w6 ho6 hg6 ha6 hlt6
            have HNE : Hid (∀ k, (Value.slice pd pn pc).ownBlock = some k → k ≠ g3) := pr_ne HP5.out HPL.out HPZ.out HO5.out (by rw [HN3.out]; omega)
            have HU6 : Hid (Up w.heap.size w w6) := (HU5.out.alloc _).grown hg6 (own_base HO.out)
            have HO6 : Hid (OMg w6 w.heap.size g3 cp3 B3) := (HO5.out.stay (below_alloc w5 _)).keep hg6 HNE.out
            have HP6 : Hid (PR w6 w.heap.size (.slice (some ⟨gp, 0, none⟩) (pn + 1) capp) (l ++ [(n3, vn)])) := by
              show PR _ _ _ _
              unfold PR
              rw [List.length_append, HPL.out, prC_app]
              exact ho6
            have HL6 : Hid ((l ++ [(n3, vn)]).length = pn + 1) := by show _ = _; rw [List.length_append, HPL.out]; rfl
            have HZ6 : Hid (l ++ [(n3, vn)] = [] → (some ⟨gp, 0, none⟩ : Option Addr) = none) := fun h => absurd h (by simp)
            have HE6 : Hid ((l ++ if (decide (0 < v.length) && altB (t.map lw)) = true then [(bn + t.length + 3, v.length)] else []) = l ++ [(n3, vn)]) := by
              show _ = _
              rw [HALT.out, if_pos (by simp only [Bool.and_eq_true, Bool.or_eq_true, decide_eq_true_eq]; have := HV.out.2.1; omega), HV.out.2.1, HN3.out.symm.trans HB3.out]
            clear ho6 hg6 ha6 hlt6
            have hu6 := HU6.out.2
            go_wp2_with (at_builtin; refine om_str rfl _ _ rfl w.heap.size g3 cp3 B3 n3 HN3.out rfl HO6.out (by omega) Vs v HV.out.2.2.1 HV.out.1 rfl (by have := HV.out.2.1; omega) hu6 ?_)
            intro g7 cp7 w7 ho7 hg7
            try rw [show n3 + v.length = n3 + vn by rw [HV.out.2.1]]
            have HN7 : Hid (∀ k, (Value.slice (some ⟨gp, 0, none⟩) (pn + 1) capp).ownBlock = some k → k ≠ g3) := pr_ne HP6.out HL6.out HZ6.out HO6.out (by rw [HN3.out]; omega)
            have HP7 : Hid (PR w7 w.heap.size (.slice (some ⟨gp, 0, none⟩) (pn + 1) capp) (l ++ [(n3, vn)])) := HP6.out.keepO hg7 HN7.out
            have HU7 : Hid (Up w.heap.size w w7) := HU6.out.grown hg7 (fun k hk => by have := HO6.out.lo; have := Option.some.inj hk; omega)
            obtain ⟨B7, hB7⟩ : ∃ B7, B3 ++ v = B7 := ⟨_, rfl⟩
            have HB7 : Hid (B7 = B3 ++ v) := hB7.symm
            rw [hB7] at ho7
            have HO7 : Hid (OMg w7 w.heap.size g7 cp7 B7) := ho7
            have HL7 : Hid (B7.length = n3 + vn) := by show _ = _; rw [HB7.out, List.length_append, HN3.out, HV.out.2.1]
            have hu7 := HU7.out.2
            clear ho7 hg7 hB7
            go_wp2_with (at_builtin; refine om_app rfl _ _ rfl w.heap.size g7 cp7 B7 (n3 + vn) HL7.out rfl (HO7.out.stay (below_alloc w7 _)) (by omega) (some ⟨w7.heap.size, 0, none⟩) 1 1 (cL [34]) rfl (one_bc w7 34) (by omega) (by simp; omega) ?_)
            intro g8 cp8 w8 ho8 hg8
            rw [cl_one] at ho8
            have HN8 : Hid (∀ k, (Value.slice (some ⟨gp, 0, none⟩) (pn + 1) capp).ownBlock = some k → k ≠ g7) := pr_ne HP7.out HL6.out HZ6.out HO7.out (by rw [HL7.out]; omega)
            have HP8 : Hid (PR w8 w.heap.size (.slice (some ⟨gp, 0, none⟩) (pn + 1) capp) (l ++ [(n3, vn)])) := (HP7.out.stay (below_alloc w7 _)).keepO hg8 HN8.out
            have HU8 : Hid (Up w.heap.size w w8) := (HU7.out.alloc _).grown hg8 (fun k hk => by have := HO7.out.lo; have := Option.some.inj hk; omega)
            have HO8 : Hid (OMg w8 w.heap.size g8 cp8 (B ++ atL t v)) := by
              have e : B ++ atL t v = B7 ++ [34] := by rw [HB7.out, HB3e.out]; simp [atL]
              show OMg _ _ _ _ _
              rw [e]
              exact ho8
            have HL8 : Hid ((B ++ atL t v).length = n3 + vn + 1) := by
              have e : B ++ atL t v = B7 ++ [34] := by rw [HB7.out, HB3e.out]; simp [atL]
              show _ = _
              rw [e, List.length_append, HL7.out]; rfl
            have HM8 : Hid (Md sh (B ++ atL t v) (l ++ [(n3, vn)])) := by
              have := HM.out.step HT.out.1 HT.out.2.1 HV.out.2.2.1 HT.out.2.2 HV.out.2.2.2
              rw [HBL.out, HE6.out] at this
              exact this
            clear ho8 hg8
            go_wp2
            go_roundg (m - (i + 1))
            case measure => omega
            case rel => exact ⟨i + 1, g8, n3 + vn + 1, cp8, some ⟨gp, 0, none⟩, (pn + 1), capp, by omega, rfl, by go_num, rfl, rfl, by omega, by omega, by omega, ⟨_, (l ++ [(n3, vn)]), HO8.out, HL8.out, HP8.out, HL6.out, HZ6.out, HM8.out⟩, HU8⟩
        · have k2 : ((r : Int) == 4) = false := by simp; omega
          have HE6 : Hid ((l ++ if (decide (0 < v.length) && altB (t.map lw)) = true then [(bn + t.length + 3, v.length)] else []) = l) := by
            show _ = _
            rw [HALT.out, if_neg (by simp only [Bool.and_eq_true, Bool.or_eq_true, decide_eq_true_eq]; have := HV.out.2.1; omega), List.append_nil]
          have hu6 := HU5.out.2
          go_wp2_with (at_builtin; refine om_str rfl _ _ rfl w.heap.size g3 cp3 B3 n3 HN3.out rfl HO5.out (by omega) Vs v HV.out.2.2.1 HV.out.1 rfl (by have := HV.out.2.1; omega) hu6 ?_)
          intro g7 cp7 w7 ho7 hg7
          try rw [show n3 + v.length = n3 + vn by rw [HV.out.2.1]]
          have HN7 : Hid (∀ k, (Value.slice (pd) pn pc).ownBlock = some k → k ≠ g3) := pr_ne HP5.out HPL.out HPZ.out HO5.out (by rw [HN3.out]; omega)
          have HP7 : Hid (PR w7 w.heap.size (.slice (pd) pn pc) l) := HP5.out.keepO hg7 HN7.out
          have HU7 : Hid (Up w.heap.size w w7) := HU5.out.grown hg7 (fun k hk => by have := HO5.out.lo; have := Option.some.inj hk; omega)
          obtain ⟨B7, hB7⟩ : ∃ B7, B3 ++ v = B7 := ⟨_, rfl⟩
          have HB7 : Hid (B7 = B3 ++ v) := hB7.symm
          rw [hB7] at ho7
          have HO7 : Hid (OMg w7 w.heap.size g7 cp7 B7) := ho7
          have HL7 : Hid (B7.length = n3 + vn) := by show _ = _; rw [HB7.out, List.length_append, HN3.out, HV.out.2.1]
          have hu7 := HU7.out.2
          clear ho7 hg7 hB7
          go_wp2_with (at_builtin; refine om_app rfl _ _ rfl w.heap.size g7 cp7 B7 (n3 + vn) HL7.out rfl (HO7.out.stay (below_alloc w7 _)) (by omega) (some ⟨w7.heap.size, 0, none⟩) 1 1 (cL [34]) rfl (one_bc w7 34) (by omega) (by simp; omega) ?_)
          intro g8 cp8 w8 ho8 hg8
          rw [cl_one] at ho8
          have HN8 : Hid (∀ k, (Value.slice (pd) pn pc).ownBlock = some k → k ≠ g7) := pr_ne HP7.out HPL.out HPZ.out HO7.out (by rw [HL7.out]; omega)
          have HP8 : Hid (PR w8 w.heap.size (.slice (pd) pn pc) l) := (HP7.out.stay (below_alloc w7 _)).keepO hg8 HN8.out
          have HU8 : Hid (Up w.heap.size w w8) := (HU7.out.alloc _).grown hg8 (fun k hk => by have := HO7.out.lo; have := Option.some.inj hk; omega)
          have HO8 : Hid (OMg w8 w.heap.size g8 cp8 (B ++ atL t v)) := by
            have e : B ++ atL t v = B7 ++ [34] := by rw [HB7.out, HB3e.out]; simp [atL]
            show OMg _ _ _ _ _
            rw [e]
            exact ho8
          have HL8 : Hid ((B ++ atL t v).length = n3 + vn + 1) := by
            have e : B ++ atL t v = B7 ++ [34] := by rw [HB7.out, HB3e.out]; simp [atL]
            show _ = _
            rw [e, List.length_append, HL7.out]; rfl
          have HM8 : Hid (Md sh (B ++ atL t v) l) := by
            have := HM.out.step HT.out.1 HT.out.2.1 HV.out.2.2.1 HT.out.2.2 HV.out.2.2.2
            rw [HBL.out, HE6.out] at this
            exact this
          clear ho8 hg8
          go_wp2
          go_roundg (m - (i + 1))
          case measure => omega
          case rel => exact ⟨i + 1, g8, n3 + vn + 1, cp8, pd, pn, pc, by omega, rfl, by go_num, rfl, rfl, by omega, by omega, by omega, ⟨_, l, HO8.out, HL8.out, HP8.out, HPL.out, HPZ.out, HM8.out⟩, HU8⟩
    · obtain rfl : i = m := by omega
      have z1 : ¬ (i : Int) < (i : Int) := by omega
      have hbn158 : bn ≤ 158 := by omega
      have hpn8 : pn ≤ 8 := by omega
      clear hbn1 hpn z1
      have z1 : ¬ (i : Int) < (i : Int) := by omega
      go_wp2_with (at_builtin; refine om_app rfl _ _ rfl w.heap.size g cp B bn HBL.out rfl (HB.out.stay (below_alloc wr _)) (by omega) (some ⟨wr.heap.size, 0, none⟩) 1 1 (cL [62]) rfl (one_bc wr 62) (by omega) (by simp; omega) ?_)
      intro g1 cp1 wa hoa hga
      rw [cl_one] at hoa
      obtain ⟨C1, hC1⟩ : ∃ C1, B ++ [62] = C1 := ⟨_, rfl⟩
      have HC1 : Hid (C1 = B ++ [62]) := hC1.symm
      rw [hC1] at hoa
      have HOa : Hid (OMg wa w.heap.size g1 cp1 C1) := hoa
      have HNa : Hid (∀ k, (Value.slice pd pn pc).ownBlock = some k → k ≠ g) := pr_ne HP.out HPL.out HPZ.out HB.out (by rw [HBL.out]; omega)
      have HPa : Hid (PR wa w.heap.size (.slice pd pn pc) l) := (HP.out.stay (below_alloc wr _)).keepO hga HNa.out
      have HUa : Hid (Up w.heap.size w wa) := (HU.out.alloc _).grown hga (fun k hk => by have := HB.out.lo; have := Option.some.inj hk; omega)
      have HLa : Hid (C1.length = bn + 1) := by show _ = _; rw [HC1.out, List.length_append, HBL.out]; rfl
      have HCb : Hid (Byt C1) := by
        intro x hx
        rw [HC1.out] at hx
        rcases List.mem_append.1 hx with h1 | h1
        · exact HM.out.by' x h1
        · rw [List.mem_singleton] at h1; subst h1; decide
      have hua := HUa.out.2
      clear hoa hga hC1
      have HBa : Hid (BC (wa.alloc (.cells #[] 5)) (some ⟨g1, 0, none⟩) (bn + 1) (cL C1)) := by
        have := (HOa.out.stay (below_alloc wa (.cells #[] 5))).bc
        rw [HLa.out] at this
        exact this
      go_wp2_with (at_builtin; refine app_ob rfl _ _ rfl w.heap.size _ [] rfl (own_nil5 wa w.heap.size hua) (some ⟨g1, 0, none⟩) (bn + 1) cp1 (cL C1) rfl HBa.out (by simp; omega) (by simp; omega) ?_)
      intro vx wx hox hgx
      try rw [List.nil_append] at hox
      rw [show cl (cL C1) (bn + 1) = C1 by rw [← HLa.out]; exact cl_cL C1] at hox
      obtain ⟨xd, xc, rfl, -⟩ := hox.form
      rw [HLa.out]
      have HOx : Hid (OB wx w.heap.size (.slice xd (bn + 1) xc) C1) := by
        have := hox
        rw [HLa.out] at this
        exact this
      have HPx : Hid (PR wx w.heap.size (.slice pd pn pc) l) := (HPa.out.stay (below_alloc wa _)).keepR hgx (fun k hk e => by
        have h1 := HPa.out.lt k hk
        have h2 : (Value.slice (some ⟨wa.heap.size, 0, none⟩) 0 0).ownBlock = some wa.heap.size := rfl
        rw [h2] at e
        have := Option.some.inj e
        omega)
      have HUx : Hid (Up w.heap.size w wx) := (HUa.out.alloc _).grown hgx (own_base (own_nil5 wa w.heap.size hua))
      clear hox hgx HBa
      have cT := text_any (cap := bcap) HH.out.2.2.2.1 (HH.out.2.2.2.2.stay HUx.out.1) hbn
      go_wp2_with fail
      refine cT.mono ?_
      rintro e w2 ⟨v, rfl, hv9, hvb, hv34, hb2⟩
      obtain ⟨vn, hvn⟩ : ∃ vn, v.length = vn := ⟨_, rfl⟩
      rw [hvn] at hv9
      obtain ⟨Vs, hVs⟩ : ∃ Vs, strOfNums v = Vs := ⟨_, rfl⟩
      have HV : Hid (strOfNums v = Vs ∧ v.length = vn ∧ Byt v) := ⟨hVs, hvn, hvb⟩
      rw [hVs]
      have HO2 : Hid (OB w2 w.heap.size (.slice xd (bn + 1) xc) C1) := HOx.out.stay hb2
      have HP2 : Hid (PR w2 w.heap.size (.slice pd pn pc) l) := HPx.out.stay hb2
      have HU2 : Hid (Up w.heap.size w w2) := HUx.out.stay hb2
      have hu2 := HU2.out.2
      clear cT hvn hVs hvb hv34 hb2
      go_wp2_with (at_builtin; refine app_str rfl _ _ rfl w.heap.size _ C1 rfl HO2.out Vs v HV.out.2.2 HV.out.1 rfl (by rw [HLa.out, HV.out.2.1]; omega) hu2 ?_)
      intro v3 w3 ho3 hg3
      obtain ⟨T3, hT3⟩ : ∃ T3, C1 ++ v = T3 := ⟨_, rfl⟩
      have HT3 : Hid (T3 = B ++ ([62] ++ v)) := by show _ = _; rw [← hT3, HC1.out, List.append_assoc]
      rw [hT3] at ho3
      have HT3b : Hid (Byt T3) := by
        intro x hx
        rw [← hT3] at hx
        rcases List.mem_append.1 hx with h1 | h1
        · exact HCb.out x h1
        · exact HV.out.2.2 x h1
      obtain ⟨N3, hN3⟩ : ∃ N3, T3.length = N3 := ⟨_, rfl⟩
      have hN3b : N3 = bn + 1 + vn := by rw [← hN3, ← hT3, List.length_append, HLa.out, HV.out.2.1]
      have HN3 : Hid (T3.length = N3) := hN3
      obtain ⟨x3, c3, rfl, hc3⟩ := ho3.form
      obtain ⟨gx, rfl, -, -⟩ := own_at (n := T3.length) ho3 (by omega)
      have hbc3 := ho3.bc
      rw [hN3] at hbc3 hc3 ⊢
      have HP3 : Hid (PR w3 w.heap.size (.slice pd pn pc) l) := HP2.out.keepR hg3 (pr_ne2 HP2.out HPL.out HPZ.out HO2.out (by rw [HLa.out]; omega))
      have HU3 : Hid (Up w.heap.size w w3) := HU2.out.grown hg3 (own_base HO2.out)
      have hch : Ch (cL T3) N3 := by rw [← hN3]; exact cL_ch HT3b.out
      have cR := read_any (cap := c3) hch hbc3 (by omega) hc3 0 (by omega)
      have htg : tg (cL T3) N3 0 = some ⟨bn + 1, [101, 109, 45, 50], sh, l⟩ := by
        have := HM.out.tag HV.out.2.2
        rw [← HT3.out, HN3.out, HBL.out] at this
        exact this
      have HTG : Hid (tg (cL T3) N3 0 = some ⟨bn + 1, [101, 109, 45, 50], sh, l⟩) := htg
      rw [show ((0 : Nat) : Int) = 0 from rfl] at cR
      have hN9 : N3 ≤ 65536 := by omega
      clear ho3 hg3 hT3 hN3 hbc3 hch htg hN3b hc3
      go_wp2_with fail
      refine cR.mono ?_
      rintro e w4 (⟨h1, -, -⟩ | ⟨t, pv, h1, rfl, hpv, hb4⟩)
      · rw [HTG.out] at h1; cases h1
      rw [HTG.out] at h1
      injection h1 with h1
      subst h1
      obtain ⟨qd, qc, rfl⟩ := hpv.form
      dsimp only at hpv ⊢
      rw [HPL.out] at hpv ⊢
      have HQ4 : Hid (PR w4 w3.heap.size (.slice qd pn qc) l) := hpv
      have HP4 : Hid (PR w4 w.heap.size (.slice pd pn pc) l) := HP3.out.stay hb4
      have HU4 : Hid (Up w.heap.size w w4) := HU3.out.stay hb4
      rw [show strOfNums [101, 109, 45, 50] = ⟨#[101, 109, 45, 50]⟩ by kernel_rfl, HSH.out]
      rw [show ((bn + 1 : Nat) : Int) = (bn : Int) + 1 by push_cast; rfl]
      obtain ⟨V, hV⟩ : ∃ V, w4.alloc (.cells #[.int .i64 ((bn : Int) + 1), .string ⟨#[101, 109, 45, 50]⟩, .bool true, .slice qd pn qc] 31) = V := ⟨_, rfl⟩
      have hVh : V.heap[w4.heap.size]? = some (.cells #[.int .i64 ((bn : Int) + 1), .string ⟨#[101, 109, 45, 50]⟩, .bool true, .slice qd pn qc] 31) := by rw [← hV]; exact heap_alloc_new _ _
      have hVb : Below w4.heap.size w4 V := by rw [← hV]; exact below_alloc w4 _
      have t0 : V.cell? ⟨w4.heap.size, 0, none⟩ = some (.int .i64 ((bn : Int) + 1)) := by simp [World.cell?, hVh]
      have t1 : V.cell? ⟨w4.heap.size, 1, none⟩ = some (.string ⟨#[101, 109, 45, 50]⟩) := by simp [World.cell?, hVh]
      have t2 : V.cell? ⟨w4.heap.size, 2, none⟩ = some (.bool true) := by simp [World.cell?, hVh]
      have t3 : V.cell? ⟨w4.heap.size, 3, none⟩ = some (.slice qd pn qc) := by simp [World.cell?, hVh]
      have HVh : Hid (V.heap[w4.heap.size]? = some (.cells #[.int .i64 ((bn : Int) + 1), .string ⟨#[101, 109, 45, 50]⟩, .bool true, .slice qd pn qc] 31)) := hVh
      have HQV : Hid (PR V w3.heap.size (.slice qd pn qc) l) := HQ4.out.stay hVb
      have HPV : Hid (PR V w.heap.size (.slice pd pn pc) l) := HP4.out.stay hVb
      have HUV : Hid (Up w.heap.size w V) := HU4.out.stay hVb
      have cN := new_ok (bn + 1) (by omega) V
      rw [show ((bn + 1 : Nat) : Int) = (bn : Int) + 1 by push_cast; rfl] at cN
      clear cR hpv hb4 hVh hVb
      go_wp2_with fail
      refine cN.mono ?_
      rintro e w5 ⟨T, gs, rfl, hT, hgs, hS5, hU5⟩
      have h45 := blk_stay HVh.out hU5.1
      have HV5 : Hid (w5.heap[w4.heap.size]? = some (.cells #[.int .i64 ((bn : Int) + 1), .string ⟨#[101, 109, 45, 50]⟩, .bool true, .slice qd pn qc] 31)) := h45
      have HQ5 : Hid (PR w5 w3.heap.size (.slice qd pn qc) l) := HQV.out.stay hU5.1
      have HP5 : Hid (PR w5 w.heap.size (.slice pd pn pc) l) := HPV.out.stay hU5.1
      have HU5 : Hid (Up w.heap.size w w5) := HUV.out.stay hU5.1
      have HG5 : Hid (V.heap.size ≤ gs ∧ w4.heap.size < V.heap.size) := ⟨hgs, lt_of_heap HVh.out⟩
      have u0 : w5.cell? ⟨w4.heap.size, 0, none⟩ = some (.int .i64 ((bn : Int) + 1)) := by simp [World.cell?, h45]
      have u1 : w5.cell? ⟨w4.heap.size, 1, none⟩ = some (.string ⟨#[101, 109, 45, 50]⟩) := by simp [World.cell?, h45]
      have u2 : w5.cell? ⟨w4.heap.size, 2, none⟩ = some (.bool true) := by simp [World.cell?, h45]
      have u3 : w5.cell? ⟨w4.heap.size, 3, none⟩ = some (.slice qd pn qc) := by simp [World.cell?, h45]
      have cL1 := lay_tag hS5 (by omega) 0 (bn + 1) ⟨#[101, 109, 45, 50]⟩ true (.slice qd pn qc) l HQ5.out (fun p hp => by have := HM.out.ok p hp; rw [HBL.out] at this; omega) (by rw [HPL.out]; omega)
      rw [show ((bn + 1 : Nat) : Int) = (bn : Int) + 1 by push_cast; rfl, show ((0 : Nat) : Int) = 0 from rfl] at cL1
      have HS5 : Hid (Sh w5 T gs (bn + 1) (fun _ => 1)) := hS5
      clear cN hT hgs hS5 hU5 h45 t0 t1 t2 t3 hV
      go_wp2_with fail
      refine cL1.mono ?_
      rintro e w6 ⟨rfl, hS6, hG6⟩
      have h46 := (hG6.block w4.heap.size (lt_of_heap HV5.out) (fun e => by have := Option.some.inj e; have := HG5.out; omega)).trans HV5.out
      have HS6 : Hid (Sh w6 T gs (bn + 1) (lbM (l.drop 0))) := by
        refine hS6.congr fun k hk => ?_
        rw [List.drop_zero]
        exact lay_lbM (bn + 1) l [] _ (fun k hk => by unfold setL; rw [if_pos (by omega)]; rfl) k hk
      have HQ6 : Hid (PR w6 w3.heap.size (.slice qd pn qc) l) := HQ5.out.keep HS5.out.row hG6
      have HP6 : Hid (PR w6 w.heap.size (.slice pd pn pc) l) := HP5.out.keep HS5.out.row hG6
      have HU6 : Hid (Up w.heap.size w w6) := HU5.out.grown hG6 (fun k hk => by have := Option.some.inj hk; have := HG5.out; have := HUV.out.2; omega)
      have HGS : Hid (w.heap.size ≤ gs) := by have := HG5.out; have := HUV.out.2; show _ ≤ _; omega
      have s3 : w6.cell? ⟨w4.heap.size, 3, none⟩ = some (.slice qd pn qc) := by simp [World.cell?, h46]
      clear cL1 hS6 hG6 h46 u0 u1 u2 u3
      go_upto_region 27 with fail
      clear s3
      go_loopg [143] pn (fun q iv wr => ∃ j : Nat, j ≤ pn ∧ q = pn - j ∧ iv = .int .i64 j ∧ Hid (Sh wr T gs (bn + 1) (lbM (l.drop j)) ∧ PR wr w3.heap.size (.slice qd pn qc) l ∧ PR wr w.heap.size (.slice pd pn pc) l ∧ Up w.heap.size w wr))
      case atStart => exact ⟨0, Nat.zero_le _, rfl, rfl, HS6.out, HQ6.out, HP6.out, HU6.out⟩
      case round =>
        obtain ⟨j, hj, hqj, rfl, HR⟩ := hrel
        by_cases hlt2 : j < pn
        · have y1 : (j : Int) < (pn : Int) := by omega
          have y2 : (0 : Int) ≤ (j : Int) := by omega
          have hjl : j < l.length := by rw [HPL.out]; exact hlt2
          obtain ⟨p, hp⟩ : ∃ p, l[j]? = some p := ⟨_, List.getElem?_eq_getElem hjl⟩
          have hdr : l.drop j = p :: l.drop (j + 1) := by
            rw [List.drop_eq_getElem_cons hjl]
            rw [List.getElem?_eq_getElem hjl] at hp
            rw [Option.some.inj hp]
          have hpm : p ∈ l := List.mem_of_getElem? hp
          have hpo := HM.out.ok p hpm
          have hap : ∀ q ∈ l.drop (j + 1), p.1 + p.2 ≤ q.1 := by
            have h1 := HM.out.up.sublist (List.drop_sublist j l)
            rw [hdr] at h1
            exact fun q hq => (List.pairwise_cons.1 h1).1 q hq
          rw [HBL.out] at hpo
          obtain ⟨gq, eq1, -, -⟩ := own_at (n := pn) (by have := HR.out.2.1; unfold PR at this; rw [HPL.out] at this; exact this) (by omega)
          obtain ⟨gp, ep1, -, -⟩ := own_at (n := pn) (by have := HR.out.2.2.1; unfold PR at this; rw [HPL.out] at this; exact this) (by omega)
          have hQr := HR.out.2.1
          have hPr := HR.out.2.2.1
          rw [eq1] at hQr
          rw [ep1] at hPr
          obtain ⟨a1, a2⟩ := hQr.cells HPL.out.symm hp
          obtain ⟨p1, hp1⟩ : ∃ p1, p.1 = p1 := ⟨_, rfl⟩
          obtain ⟨p2, hp2⟩ : ∃ p2, p.2 = p2 := ⟨_, rfl⟩
          rw [hp1] at a1
          rw [hp2] at a2
          rw [hp1, hp2] at hpo
          obtain ⟨X, hX⟩ : ∃ X, wr.alloc (.cells #[.int .i64 (p1 : Int), .int .i64 (p2 : Int)] 29) = X := ⟨_, rfl⟩
          have hXb : Below wr.heap.size wr X := by rw [← hX]; exact below_alloc wr _
          have hXh : X.heap[wr.heap.size]? = some (.cells #[.int .i64 (p1 : Int), .int .i64 (p2 : Int)] 29) := by rw [← hX]; exact heap_alloc_new _ _
          have x0 : X.cell? ⟨wr.heap.size, 0, none⟩ = some (.int .i64 (p1 : Int)) := by simp [World.cell?, hXh]
          have x1 : X.cell? ⟨wr.heap.size, 1, none⟩ = some (.int .i64 (p2 : Int)) := by simp [World.cell?, hXh]
          obtain ⟨b1, b2⟩ := (hPr.stay hXb).cells HPL.out.symm hp
          rw [hp1] at b1
          rw [hp2] at b2
          have HRX : Hid (Sh X T gs (bn + 1) (lbM (l.drop j)) ∧ PR X w3.heap.size (.slice qd pn qc) l ∧ PR X w.heap.size (.slice pd pn pc) l ∧ Up w.heap.size w X) := ⟨HR.out.1.stay hXb, HR.out.2.1.stay hXb, HR.out.2.2.1.stay hXb, HR.out.2.2.2.stay hXb⟩
          have CA : Hid (∀ nq : Nat, Calls Tryd.prog 13 #[.pointer (some ⟨T, 0, none⟩), .int .i64 p1] (X.drewN nq) fun e w' => e = .returned (.int .u8 1) ∧ w' = X.drewN nq) := fun nq => by
            have := at_any (HRX.out.1.stay (below_drewN (Below.refl _ _) nq)) p1 (by omega)
            rw [hdr, ← hp1, lbM_hit (by rw [hp2]; exact hpo.1), hp1] at this
            exact this
          have HNX : Hid (∀ k, k < bn + 1 → setL (lbM (l.drop j)) 2 (p1 : Int) ((p1 : Int) + (p2 : Int)) k = lbM (l.drop (j + 1)) k) := fun k _ => by
            rw [hdr, ← hp1, ← hp2]
            exact lbM_next hap k
          subst eq1 ep1
          have y5 : IntKind.i64.wrap ((p1 : Int) + (p2 : Int)) = (p1 : Int) + (p2 : Int) := IntWalk.i64_in _ (by omega)
          clear hdr hpm hap hp hp1 hp2 hQr hPr hXb hXh hjl
          go_upto_region 29 with fail
          go_quiet (first | (go_at_call 13; exact Calls.quiet_of_same (CA.out _)))
          go_wp2_with fail
          refine (set_any (HRX.out.1.stay (below_drewN (Below.refl _ _) _)) (by omega) 2 (p1 : Int) ((p1 : Int) + (p2 : Int))).mono ?_
          rintro e w8 ⟨rfl, hS8, hG8, -⟩
          have hd := below_drewN (Below.refl X.heap.size X)
          have HF : Hid (Sh w8 T gs (bn + 1) (lbM (l.drop (j + 1))) ∧ PR w8 w3.heap.size (.slice (some ⟨gq, 0, none⟩) pn qc) l ∧ PR w8 w.heap.size (.slice (some ⟨gp, 0, none⟩) pn pc) l ∧ Up w.heap.size w w8) :=
            ⟨hS8.congr HNX.out, (HRX.out.2.1.stay (hd _)).keep (HRX.out.1.stay (hd _)).row hG8, (HRX.out.2.2.1.stay (hd _)).keep (HRX.out.1.stay (hd _)).row hG8, (HRX.out.2.2.2.stay (hd _)).grown hG8 (fun k hk => by have := Option.some.inj hk; have := HGS.out; omega)⟩
          clear hS8 hG8 hd
          go_wp2
          go_roundg (pn - (j + 1))
          case measure => omega
          case rel => exact ⟨j + 1, by omega, rfl, by go_num, HF⟩
        · obtain rfl : j = pn := by omega
          have y1 : ¬ (j : Int) < (j : Int) := by omega
          have HS9 : Hid (Sh wr T gs (bn + 1) (fun _ => 2)) := by
            refine HR.out.1.congr fun k _ => ?_
            rw [List.drop_eq_nil_of_le (by rw [HPL.out]; exact Nat.le_refl _)]
            rfl
          have c3s := segs_any HS9.out (by omega)
          have hsg : sg (fun _ => (2 : Int)) (bn + 1) = [⟨2, 0, bn + 1⟩] := by
            have := sg_run (L := fun _ => (2 : Int)) (i := 0) rfl bn (fun _ _ _ => rfl)
            rw [Nat.zero_add] at this
            exact this
          rw [hsg] at c3s
          clear hsg
          go_wp2_with fail
          refine c3s.mono ?_
          rintro e w9 ⟨v9, rfl, hR9, hU9⟩
          obtain ⟨a9, c9, rfl⟩ := hR9.form
          have cA := at_any (HS9.out.stay hU9.1) 0 (by omega)
          rw [show ((0 : Nat) : Int) = 0 from rfl] at cA
          have HU9 : Hid (Below w.heap.size w w9) := HR.out.2.2.2.1.trans (hU9.1.mono HR.out.2.2.2.2)
          clear c3s hR9 hU9
          go_wp2_with fail
          refine cA.mono ?_
          rintro e w10 ⟨rfl, hw⟩
          subst w10
          clear cA
          go_wp2
          go_ret
          exact ⟨rfl, HU9.out⟩

theorem made_law {w : World} (hG : Glo w) {na : Option Addr} {nn ncap : Nat} {nc : Nat → Int} (hnC : Ch nc nn) (hnb : BC w na nn nc) (hnn : nn ≤ maxLen) {va : Option Addr} {vvn vcap : Nat} (hvr : BRR w va vvn) (hvn : vvn ≤ maxLen) (sh : Bool) {ba : Option Addr} {bbn bcap : Nat} {bc : Nat → Int} (hbC : Ch bc bbn) (hbb : BC w ba bbn bc) (hbn : bbn ≤ maxLen) :
    Calls Tryd.prog 3 #[.slice na nn ncap, .slice va vvn vcap, .bool sh, .slice ba bbn bcap] w fun ev w' => ev = .returned (.bool true) ∧ Below w.heap.size w w' := by
  cases sh with
  | false => exact made_false hG hnC hnb hnn hvr hvn hbC hbb hbn
  | true => exact made_true hG hnC hnb hnn hvr hvn hbC hbb hbn
end Go.Proofs.YtodjfeheagnnpaaDoor
