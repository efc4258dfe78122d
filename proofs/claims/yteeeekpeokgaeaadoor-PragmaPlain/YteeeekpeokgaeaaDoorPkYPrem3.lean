/- pragma: what its functions answer. -/
import Derived.Test.YteeeekpeokgaeaaDoorPkYAwk2
import Derived.Test.YteeeekpeokgaeaaDoorPkYPln2
import Derived.Test.YteeeekpeokgaeaaDooryRl
import Derived.Test.YteeeekpeokgaeaaDooryKn
namespace Go.Proofs.YteeeekpeokgaeaaDoor
set_option linter.unusedVariables false
open Go.RowKit Go.ChangeShapes
def RLx : RLt := RLd
theorem rld_keep : KeepOk RLx := fun w w' base r rows ws h hs hk => by
  obtain ⟨R, b, n, va, h1, h2, h3, h4, h5, h6, h7⟩ := h
  exact ⟨R, b, n, va, h1, h2, h3, by rw [hk R h2 (Array.getElem?_eq_some_iff.1 h4).1]; exact h4, own_blk h5 (fun g h1 h2 => hk g h1 h2), h6.block (hk b h3 h6.lt), h7⟩
theorem rld_read : ReadOk RLx := fun s v w hs hT h => read_any s v w hs hT h
theorem rld_off : OffOk RLx := fun w base r rows ws a h ha => by
  obtain ⟨R, b, n, va, rfl, h2, h3, h4, h5, h6, h7, h8, h9⟩ := h
  exact off_at h4 h5.any h7 (by omega) (fun p hp => Nat.le_trans (h9 p hp) (by decide))
theorem rld_knows : KnowsOk RLx := fun w base r rows ws t h ht hT => by
  obtain ⟨R, b, n, va, rfl, h2, h3, h4, h5, h6, h7⟩ := h
  exact knows_at t ht hT h4 h6
theorem rld_spans : SpansOk RLx := fun w base r rows ws h => by
  obtain ⟨R, b, n, va, rfl, h2, h3, h4, h5, h6, h7, h8, h9⟩ := h
  exact spans_at h4 h5 (by omega)
theorem po_ok : PragOk RLx := ⟨rld_keep, rld_read, rld_off, rld_knows, rld_spans⟩
theorem no_ok : NilOk := ⟨fun w a _ => off_nil w a, fun w t _ _ => knows_nil w t, fun w => spans_nil w⟩
theorem i64_wf {z : Int} (h : (Lit.int .i64 z).wf = true) : -9223372036854775808 ≤ z ∧ z ≤ 9223372036854775807 := by
  simp only [Lit.wf] at h
  have e1 : IntKind.i64.min = -9223372036854775808 := by decide
  have e2 : IntKind.i64.max = 9223372036854775807 := by decide
  revert h
  simp
  omega
end Go.Proofs.YteeeekpeokgaeaaDoor
/- PragmaPlain: the law. -/
namespace Go.Proofs.YteeeekpeokgaeaaDoor
set_option linter.unusedVariables false
open Go.RowKit Go.ChangeShapes Tns
set_option maxHeartbeats 8000000 in
set_option maxRecDepth 100000 in
theorem plain_law {RL : RLt} (PO : PragOk RL) {w : World} (hT : PT w) {ba : Option Addr} {bn bcap : Nat} {bc : Nat → Int} (hbC : Ch bc bn) (hb : BC w ba bn bc) (hbn : bn ≤ maxLen) (t : ByteArray) :
    Calls Tryd.prog 7 #[.slice ba bn bcap, .string t] w fun ev w' => ev = .returned (.bool true) ∧ Below w.heap.size w w' := by
  have ca := awake_any PO w hT
  have HH : Hid (PT w ∧ Ch bc bn ∧ BC w ba bn bc ∧ PragOk RL) := ⟨hT, hbC, hb, PO⟩
  clear hT hbC hb PO
  go_enter Tryd.func7, Tryd.ntmps7
  go_wp2_with fail
  refine ca.mono ?_
  rintro ev w1 ⟨rfl, hb1⟩
  have HB1 : Hid (Below w.heap.size w w1) := hb1
  clear ca hb1
  by_cases h5 : (500 : Int) < (bn : Int)
  · go_wp2
    go_ret
    exact ⟨rfl, HB1.out⟩
  · by_cases h6 : (200 : Int) < (t.size : Int)
    · go_wp2
      go_ret
      exact ⟨rfl, HB1.out⟩
    · have hn : bn ≤ 500 := by omega
      have ht2 : t.size ≤ 200 := by omega
      obtain ⟨l, hl⟩ : ∃ l, cl bc bn = l := ⟨_, rfl⟩
      have hll : l.length = bn := by rw [← hl, cl_len]
      have HLB : Hid (Byt l ∧ cl bc bn = l) := ⟨by rw [← hl]; exact cl_byt HH.out.2.1, hl⟩
      have hbc1 := HH.out.2.2.1.stay HB1.out
      have ho0 : OB (w1.alloc (.cells #[] 5)) w1.heap.size (.slice (some ⟨w1.heap.size, 0, none⟩) 0 0) [] := World.ownsRow_lit w1 #[] 0 (Nat.le_refl _) (Nat.zero_le _) rfl
      have hbc2 : BC (w1.alloc (.cells #[] 5)) ba bn bc := hbc1.stay (below_alloc w1 _)
      have HO0 : Hid (OB (w1.alloc (.cells #[] 5)) w1.heap.size (.slice (some ⟨w1.heap.size, 0, none⟩) 0 0) []) := ho0
      clear ho0 hbc1 hl
      go_wp2_with (at_builtin; refine app_ob rfl _ _ rfl w1.heap.size _ [] rfl HO0.out ba bn bcap bc rfl hbc2 ?c1 ?c2 ?_)
      case c1 => simp; omega
      case c2 => simp only [World.size_alloc]; omega
      intro v' w2 ho2 hgr
      rw [HLB.out.2] at ho2
      have HU2 : Hid (Up w1.heap.size w1 w2) := ((Up.refl w1).alloc _).grown hgr (own_base HO0.out)
      obtain ⟨ad, cap, e1, hcap⟩ := ho2.form
      subst e1
      have HO2 : Hid (OB w2 w1.heap.size (.slice ad l.length cap) (pmx l 0)) := ho2
      rw [hll] at hcap
      have HAD : Hid (0 < bn → ∃ g, ad = some ⟨g, 0, none⟩ ∧ w1.heap.size ≤ g) := fun h0 => by
        obtain ⟨_, ⟨q1, q2⟩ | ⟨g, c9, cur, q1, hg, _⟩⟩ := ho2
        · injection q1 with _ q2 _
          omega
        · injection q1 with q1 _ _
          exact ⟨g, q1, hg⟩
      have HLL : Hid (l.length = bn) := hll
      rw [hll]
      clear ho2 hgr hbc2 HO0
      go_wp2
      go_loopg [25] bn (fun q iv wr => ∃ i : Nat, i ≤ bn ∧ q = bn - i ∧ iv = .int .i64 (i : Int) ∧ Hid (OB wr w1.heap.size (.slice ad l.length cap) (pmx l i)) ∧ Hid (Up w1.heap.size w1 wr))
      case atStart => exact ⟨0, Nat.zero_le _, rfl, rfl, HO2, HU2⟩
      case round =>
        clear HO2 HU2
        obtain ⟨i, hi, hq, rfl, HO, HU⟩ := hrel
        by_cases hlt : i < bn
        · have z0 : (0 : Int) ≤ (i : Int) := by omega
          have z1 : (i : Int) < (bn : Int) := by omega
          obtain ⟨g, rfl, hg⟩ := HAD.out (by omega)
          obtain ⟨x, hx⟩ : ∃ x, l[i]? = some x := ⟨_, List.getElem?_eq_getElem (by rw [HLL.out]; exact hlt)⟩
          have hpl := pmx_len l i
          have ho := HO.out
          have hbc3 : BC wr (some ⟨g, 0, none⟩) bn (cL (pmx l i)) := by
            have e2 := ho
            rw [← hpl] at e2
            have e3 := e2.bc
            rw [hpl, HLL.out] at e3
            exact e3
          obtain ⟨b', o', e4, hc4⟩ := hbc3 i hlt
          injection e4 with e4
          injection e4 with e4 e5 _
          subst e4 e5
          rw [cL_in (pmx_at hx), Nat.zero_add] at hc4
          have hfr : wr.frozen? ⟨g, i, none⟩ = false := by
            obtain ⟨_, ⟨q1, _⟩ | ⟨g9, c9, cur, q1, hg9, hh9, _⟩⟩ := ho
            · cases q1
            · injection q1 with q1 _ _
              injection q1 with q1
              injection q1 with q1
              subst q1
              simp [World.frozen?, hh9]
          by_cases hx58 : x = 58
          · subst hx58
            have HO3 : Hid (OB (wr.setCell ⟨g, i, none⟩ (.int .u8 59)) w1.heap.size (.slice (some ⟨g, 0, none⟩) l.length cap) (pmx l (i + 1))) := by
              have e6 : OB wr w1.heap.size (.slice (some ⟨g, 0, none⟩) (pmx l i).length cap) (pmx l i) := by rw [hpl]; exact HO.out
              have e7 := ob_set (x := 59) e6 (j := i) (by rw [hpl, HLL.out]; exact hlt)
              rw [List.length_set, hpl] at e7
              rw [pmx_succ hx]
              exact e7
            have HU3 : Hid (Up w1.heap.size w1 (wr.setCell ⟨g, i, none⟩ (.int .u8 59))) := up_set HU.out hg
            clear HO HU ho hbc3 hx
            go_wp2
            go_roundg (bn - (i + 1))
            case measure => omega
            case rel => exact ⟨i + 1, by omega, rfl, by go_num, HO3, HU3⟩
          · have y1 : (x == 58) = false := beq_eq_false_iff_ne.2 hx58
            have HO3 : Hid (OB wr w1.heap.size (.slice (some ⟨g, 0, none⟩) l.length cap) (pmx l (i + 1))) := by
              rw [pmx_same hx hx58]
              exact HO.out
            clear HO ho hbc3 hx hx58 hfr
            go_wp2
            go_roundg (bn - (i + 1))
            case measure => omega
            case rel => exact ⟨i + 1, by omega, rfl, by go_num, HO3, HU⟩
        · obtain rfl : i = bn := by omega
          have z1 : ¬ (i : Int) < (i : Int) := by omega
          have ho : OB wr w1.heap.size (.slice ad (l.map unc).length cap) (l.map unc) := by
            have e2 := HO.out
            have e3 := pmx_all l
            rw [HLL.out] at e3
            rw [e3] at e2
            rw [List.length_map]
            exact e2
          have hbc3 := ho.bc
          have hch := cL_ch (unc_byt HLB.out.1)
          rw [List.length_map, HLL.out] at hbc3 hch
          have hcl2 : cl (cL (l.map unc)) i = l.map unc := by
            have e4 := cl_cL (l.map unc)
            rw [List.length_map, HLL.out] at e4
            exact e4
          have hbs := bsl_of_bc (cap := cap) hch.1 hbc3 hcap
          rw [hcl2] at hbs
          have hT3 := (HH.out.1.stay HB1.out).stay HU.out.1
          have cr := HH.out.2.2.2.2.1 (strOfNums (l.map unc)) _ wr (by rw [strOfNums_size, List.length_map, HLL.out]; omega) hT3 hbs
          rw [unc_rd HLB.out.1] at cr
          have HB2 : Hid (Below w.heap.size w wr) := HB1.out.trans (HU.out.1.mono HB1.out.size)
          clear ho hbc3 hch hcl2 hbs hT3 HO HU
          go_wp2_with fail
          refine cr.mono ?_
          rintro ev w3 ⟨r, rfl, hr, hb3⟩
          obtain ⟨B0, hB0⟩ : ∃ z, wr.heap.size = z := ⟨_, rfl⟩
          rw [hB0] at hr
          have HR3 : Hid (RL w3 B0 r [] []) := hr
          have HB3 : Hid (Below w.heap.size w w3) := HB2.out.trans (hb3.mono HB2.out.size)
          clear cr hr hb3 hB0
          go_wp2
          go_loopg [40] i (fun q jv wr2 => ∃ j : Nat, j ≤ i ∧ q = i - j ∧ jv = .int .i64 (j : Int) ∧ Hid (RL wr2 B0 r [] []) ∧ Hid (Below w.heap.size w wr2))
          case atStart => exact ⟨0, Nat.zero_le _, rfl, rfl, HR3, HB3⟩
          case round =>
            clear HR3 HB3
            obtain ⟨j, hj, hqj, rfl, HR, HB⟩ := hrel
            by_cases hji : j < i
            · have y1 : (j : Int) < (i : Int) := by omega
              have co := HH.out.2.2.2.2.2.1 _ _ _ _ _ (j : Int) HR.out (by omega)
              rw [show offB [] (j : Int) = false from rfl] at co
              go_wp2_with fail
              refine co.mono ?_
              rintro ev w4 ⟨rfl, hb4⟩
              have HR4 : Hid (RL w4 B0 r [] []) := HH.out.2.2.2.stay HR.out hb4
              have HB4 : Hid (Below w.heap.size w w4) := HB.out.trans (hb4.mono HB.out.size)
              clear co hb4 HR HB
              go_wp2
              go_roundg (i - (j + 1))
              case measure => omega
              case rel => exact ⟨j + 1, by omega, rfl, by go_num, HR4, HB4⟩
            · obtain rfl : j = i := by omega
              have y1 : ¬ (j : Int) < (j : Int) := by omega
              have cs := HH.out.2.2.2.2.2.2.2 _ _ _ _ _ HR.out
              go_wp2_with fail
              refine cs.mono ?_
              rintro ev w4 ⟨v4, rfl, hS4, hb4⟩
              have HR4 : Hid (RL w4 B0 r [] []) := HH.out.2.2.2.stay HR.out hb4
              have HB4 : Hid (Below w.heap.size w w4) := HB.out.trans (hb4.mono HB.out.size)
              obtain ⟨va, vc, rfl⟩ : ∃ a c, v4 = .slice a 0 c := by
                obtain ⟨a, c, e9, -⟩ := hS4.any
                exact ⟨a, c, e9⟩
              have ck := HH.out.2.2.2.2.2.2.1 w4 _ _ _ _ t HR4.out (by omega) (HH.out.1.stay HB4.out).1
              rw [show knB [] (fld t) = false from rfl] at ck
              clear cs hb4 hS4 HR HB
              go_wp2_with fail
              refine ck.mono ?_
              rintro ev w5 ⟨rfl, hb5⟩
              have HB5 : Hid (Below w.heap.size w w5) := HB4.out.trans (hb5.mono HB4.out.size)
              clear ck hb5
              go_wp2
              go_ret
              exact ⟨rfl, HB5.out⟩
end Go.Proofs.YteeeekpeokgaeaaDoor
/- A law of pragma, as its row wants it. -/
namespace Go.Proofs.YteeeekpeokgaeaaDoor
set_option linter.unusedVariables false
open Go.RowKit Go.ChangeShapes
end Go.Proofs.YteeeekpeokgaeaaDoor
