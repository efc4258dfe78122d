/- PragmaLines: the law. -/
import Derived.Test.YteeeekpeokgaeaaDooryLnP
import Derived.Test.YteeeekpeokgaeaaDoorPkYAwk2
import Derived.BigQuiet
import Derived.Deep.DeepCutAuto
import Derived.Deep.CutBlock
namespace Go.Proofs.YteeeekpeokgaeaaDoor
set_option linter.unusedVariables false
open Go.RowKit Go.ChangeShapes Tns
/-- What lines ask, the last one first. -/
def kl (c : Nat → Int) : Nat → List Nat
  | 0 => []
  | i + 1 => (c i).toNat % 5 :: kl c i
theorem kl_lt (c : Nat → Int) : ∀ i, ∀ k ∈ kl c i, k < 5
  | 0, k, h => by cases h
  | i + 1, k, h => by
    rcases List.mem_cons.1 h with rfl | h
    · exact Nat.mod_lt _ (by decide)
    · exact kl_lt c i k h
theorem kl_len (c : Nat → Int) : ∀ i, (kl c i).length = i
  | 0 => rfl
  | i + 1 => by show (kl c i).length + 1 = i + 1; rw [kl_len c i]
def bI : List Nat → List Int
  | [] => []
  | k :: l => bI l ++ tI k
theorem bI_byt : ∀ l : List Nat, Byt (bI l)
  | [] => fun x hx => by cases hx
  | k :: l => fun x hx => by
    rcases List.mem_append.1 (show x ∈ bI l ++ tI k from hx) with h | h
    · exact bI_byt l x h
    · have : Byt (tI k) := by
        rcases k with _ | _ | _ | _ | k
        all_goals exact byt_lit _ rfl
      exact this x h
theorem bI_nums : ∀ l : List Nat, (∀ k ∈ l, k < 5) → strOfNums (bI l) = TX l
  | [], _ => rfl
  | k :: l, h => by
    show strOfNums (bI l ++ tI k) = TX l ++ tB k
    rw [← bI_nums l (fun q hq => h q (List.mem_cons_of_mem _ hq)), ← tB_nums k (h k (List.mem_cons_self ..)), strOfNums_app]
theorem sq_len : ∀ l : List Nat, (sq l).g.length = l.length
  | [] => rfl
  | k :: l => by
    show ((sq l).g ++ [_]).length = l.length + 1
    rw [List.length_append, sq_len l]
    rfl
/-- The rows of a file that is put together. -/
def GR (w : World) (base : Nat) (bv gv wv : Value) (l : List Nat) : Prop :=
  OB w base bv (bI l) ∧ w.ownsRow base 3 1 gv l.length ((sq l).g.map fun q => .int .i64 (q.1 : Int)) ∧ w.ownsRow base 4 1 wv l.length ((sq l).g.map fun q => .bool q.2)
theorem infoI : (Tryd.prog.info? 3).map (fun i => (i.zero, i.size, i.bytes)) = some (some (.int .i64 0), 1, 8) := by kernel_rfl
theorem infoB : (Tryd.prog.info? 4).map (fun i => (i.zero, i.size, i.bytes)) = some (some (.bool false), 1, 1) := by kernel_rfl
set_option maxHeartbeats 16000000 in
set_option maxRecDepth 100000 in
theorem lines_law {RL : RLt} (PO : PragOk RL) {w : World} (hT : PT w) {la : Option Addr} {ln lcap : Nat} {lc : Nat → Int} (hlC : Ch lc ln) (hl : BC w la ln lc) (hln : ln ≤ maxLen) :
    Calls Tryd.prog 4 #[.slice la ln lcap] w fun ev w' => ev = .returned (.bool true) ∧ Below w.heap.size w w' := by
  have ca := awake_any PO w hT
  have HH : Hid (PT w ∧ Ch lc ln ∧ BC w la ln lc ∧ PragOk RL) := ⟨hT, hlC, hl, PO⟩
  obtain ⟨iI, hI, hI0, hI1, hI2⟩ := info_parts infoI
  obtain ⟨iB, hB, hBo0, hBo1, hBo2⟩ := info_parts infoB
  unfold maxLen at hln
  clear hT hlC hl PO
  go_enter Tryd.func4, Tryd.ntmps4
  go_wp2_with fail
  refine ca.mono ?_
  rintro ev w1 ⟨rfl, hb1⟩
  have HB1 : Hid (Below w.heap.size w w1) := hb1
  have HG0 : Hid (GR w1 w1.heap.size (.slice none 0 0) (.slice none 0 0) (.slice none 0 0) (kl lc 0)) := ⟨OB.nil _ _, World.ownsRow_nil _ _ _ _, World.ownsRow_nil _ _ _ _⟩
  clear ca hb1
  go_upto_block 0 with fail
  go_cut [3, 4, 5, 6, 7, 8, 9, 10] (fun bv gv wv ov xv a b c wx => ∃ n : Nat, n ≤ 61 ∧ n ≤ ln ∧ Hid (GR wx w1.heap.size bv gv wv (kl lc n)) ∧ Hid (Up w1.heap.size w1 wx))
  case first =>
    go_wp2_with fail
    go_loopg [3, 4, 5, 6, 7, 19] ln (fun q bv gv wv ov xv iv wr => ∃ i : Nat, i ≤ ln ∧ i ≤ 61 ∧ q = ln - i ∧ iv = .int .i64 (i : Int) ∧ ov = .bool (sq (kl lc i)).o ∧ xv = .bool (sq (kl lc i)).x ∧ Hid (GR wr w1.heap.size bv gv wv (kl lc i)) ∧ Hid (Up w1.heap.size w1 wr))
    case atStart => exact ⟨0, Nat.zero_le _, Nat.zero_le _, rfl, rfl, rfl, rfl, HG0, Up.refl _⟩
    case round =>
      clear HG0
      obtain ⟨i, hi, hi61, hq, rfl, rfl, rfl, HG, HU⟩ := hrel
      by_cases hlt : i < ln
      · have z0 : (0 : Int) ≤ (i : Int) := by omega
        have z1 : (i : Int) < (ln : Int) := by omega
        have hbl := HH.out.2.2.1.stay (HB1.out.trans (HU.out.1.mono HB1.out.size))
        obtain ⟨b, off, rfl, hc⟩ := hbl i hlt
        have hc256 := HH.out.2.1.1 i hlt
        obtain ⟨x, hx⟩ : ∃ x : Nat, lc i = (x : Int) := ⟨(lc i).toNat, by omega⟩
        rw [hx] at hc hc256
        have hkl : kl lc (i + 1) = x % 5 :: kl lc i := by
          show (lc i).toNat % 5 :: kl lc i = _
          rw [hx]
          rfl
        by_cases h60 : 60 < i
        · have z2 : (60 : Int) < (i : Int) := by omega
          clear hbl
          go_wp2
          go_meet
          case rel => exact ⟨i, hi61, hi, HG, HU⟩
        · have z2 : ¬ (60 : Int) < (i : Int) := by omega
          clear hbl hc256
          obtain ⟨ba, bc, rfl⟩ : ∃ ba bc, u3 = .slice ba (bI (kl lc i)).length bc := by
            obtain ⟨a, c9, e9, -⟩ := HG.out.1.form
            exact ⟨a, c9, e9⟩
          have hlen := kl_len lc i
          have hsz : (bI (kl lc i)).length = (TX (kl lc i)).size := by rw [← bI_nums _ (kl_lt lc i), strOfNums_size]
          have hbz : (bI (kl lc i)).length ≤ 14 * i := by
            rw [hsz]
            have := TX_size (kl lc i) (kl_lt lc i)
            omega
          obtain ⟨N, hN⟩ : ∃ N, (bI (kl lc i)).length = N := ⟨_, rfl⟩
          rw [hN] at hsz hbz
          have HNz : Hid ((bI (kl lc i)).length = N ∧ (TX (kl lc i)).size = N) := ⟨hN, hsz.symm⟩
          obtain ⟨k, hk⟩ : ∃ k, x % 5 = k := ⟨_, rfl⟩
          have hk5 : k < 5 := by omega
          rw [hk] at hkl
          have hmd : (x : Int).tmod 5 = (k : Int) := by rw [Int.tmod_eq_emod_of_nonneg (by omega)]; omega
          obtain ⟨st, hst⟩ : ∃ st, sq (kl lc i) = st := ⟨_, rfl⟩
          have hst2 : sq (kl lc (i + 1)) = ⟨(stE k st.o st.x).1, (stE k st.o st.x).2.2, st.g ++ [(N, (stE k st.o st.x).2.1)]⟩ := by
            rw [hkl, ← hst, ← HNz.out.2]
            rfl
          have HST2 : Hid (sq (kl lc (i + 1)) = ⟨(stE k st.o st.x).1, (stE k st.o st.x).2.2, st.g ++ [(N, (stE k st.o st.x).2.1)]⟩ ∧ bI (kl lc (i + 1)) = bI (kl lc i) ++ tI k) := ⟨hst2, by rw [hkl]; rfl⟩
          have hob := HG.out.1
          have hg := HG.out.2.1
          have hw := HG.out.2.2
          rw [hlen, hst] at hg hw
          rw [hN]
          rw [hst]
          obtain ⟨b1, hb1⟩ : ∃ b, st.o = b := ⟨_, rfl⟩
          obtain ⟨b2, hb2⟩ : ∃ b, st.x = b := ⟨_, rfl⟩
          rw [hb1, hb2] at HST2 ⊢
          have HOw : Hid (OB wr w1.heap.size (.slice ba N bc) (bI (kl lc i)) ∧ wr.ownsRow w1.heap.size 4 1 u5 i (st.g.map fun q => .bool q.2)) := ⟨by rw [← hN]; exact hob, hw⟩
          clear hsz hN hst hst2 hob hw hkl hk hb1 hb2 hlen HG hx
          go_wp2_with (at_builtin; refine wpList_append_own _ rfl _ _ 40 rfl w1.heap.size 3 iI _ 1 8 Tryd.underlying40 hI hI0 hI1 hI2 rfl (by decide) _ _ _ rfl (World.ownsRow.alloc hg _) ⟨wr.heap.size, 0, none⟩ 1 1 [.int .i64 (N : Int)] rfl rfl ?c1 ?c2 ?c3 ?c4 ?c5 ?_)
          case c2 => rfl
          case c3 => unfold maxLen; omega
          case c4 => omega
          case c5 => have := HU.out.2; omega
          intro v9 w2 hown2 hgr hnil
          obtain ⟨ga, gm, gc, rfl⟩ := own_frm3 hown2
          have hbA : Below wr.heap.size wr (wr.alloc (.cells #[.int .i64 (N : Int)] 3)) := below_alloc wr _
          have hgA := World.ownsRow.alloc hg (.cells #[.int .i64 (N : Int)] 3)
          have HG2 : Hid (w2.ownsRow w1.heap.size 3 1 (.slice ga gm gc) (i + 1) (st.g.map (fun q => Value.int .i64 (q.1 : Int)) ++ [.int .i64 (N : Int)])) := hown2
          have HOb2 : Hid (OB w2 w1.heap.size (.slice ba N bc) (bI (kl lc i))) := World.ownsRow.kept (own_stay HOw.out.1 hbA) hgr (own_oth (own_stay HOw.out.1 hbA) hgA (by decide))
          have HOw2 : Hid (w2.ownsRow w1.heap.size 4 1 u5 i (st.g.map fun q => .bool q.2)) := World.ownsRow.kept (own_stay HOw.out.2 hbA) hgr (own_oth (own_stay HOw.out.2 hbA) hgA (by decide))
          have HU2 : Hid (Up w1.heap.size w1 w2) := (HU.out.alloc _).grown hgr (own_base hg)
          obtain ⟨wa, wm, wcc, rfl⟩ := own_frm3 HOw2.out
          clear hown2 hgr hnil hbA hgA hg HOw HU
          go_upto_region 12 with fail
          go_cut [10] (fun av wx => av = .bool (b1 || b2) ∧ wx = w2)
          case first =>
            cases b1
            · go_wp2
              go_meet
              case rel => exact ⟨rfl, rfl⟩
            · go_wp2
              go_meet
              case rel => exact ⟨rfl, rfl⟩
          case rest =>
          obtain ⟨rfl, hwc⟩ := hcut
          have hwc := hwc.symm
          subst hwc
          go_upto_block 2 with fail
          go_cut [3, 6, 7, 10] (fun bv ov xv av wx => ov = .bool (stE k b1 b2).1 ∧ xv = .bool (stE k b1 b2).2.2 ∧ av = .bool (stE k b1 b2).2.1 ∧ Hid (OB wx w1.heap.size bv (bI (kl lc i) ++ tI k)) ∧ Hid (wx.ownsRow w1.heap.size 3 1 (.slice ga gm gc) (i + 1) (st.g.map (fun q => Value.int .i64 (q.1 : Int)) ++ [.int .i64 (N : Int)])) ∧ Hid (wx.ownsRow w1.heap.size 4 1 (.slice wa wm wcc) i (st.g.map fun q => .bool q.2)) ∧ Hid (Up w1.heap.size w1 wx))
          case first =>
            have hob := HOb2.out
            rcases (show k = 0 ∨ k = 1 ∨ k = 2 ∨ k = 3 ∨ k = 4 by omega) with rfl | rfl | rfl | rfl | rfl
            · have hmd2 : (x : Int).tmod 5 = 0 := hmd
              clear hmd
              have q1 : Byt (tI 0) := byt_lit _ rfl
              have q2 : strOfNums (tI 0) = ⟨#[120, 32, 115, 112, 101, 108, 108, 58, 111, 102, 102, 32, 121, 10]⟩ := tB_nums 0 (by decide)
              have q3 : (bI (kl lc i)).length + (tI 0).length ≤ 100000000 := by rw [HNz.out.1, show (tI 0).length = 14 from rfl]; omega
              have q4 := HU2.out.2
              go_wp2_with (at_builtin; refine app_str rfl _ _ rfl w1.heap.size _ (bI (kl lc i)) rfl hob _ (tI 0) q1 q2 rfl q3 q4 ?_)
              intro v' w3 ho3 hgr
              have HO3 : Hid (OB w3 w1.heap.size v' (bI (kl lc i) ++ tI 0)) := ho3
              have HG3 : Hid (w3.ownsRow w1.heap.size 3 1 (.slice ga gm gc) (i + 1) (st.g.map (fun q => Value.int .i64 (q.1 : Int)) ++ [.int .i64 (N : Int)])) := World.ownsRow.kept HG2.out hgr (own_oth HG2.out hob (by decide))
              have HW3 : Hid (w3.ownsRow w1.heap.size 4 1 (.slice wa wm wcc) i (st.g.map fun q => .bool q.2)) := World.ownsRow.kept HOw2.out hgr (own_oth HOw2.out hob (by decide))
              have HU3 : Hid (Up w1.heap.size w1 w3) := HU2.out.grown hgr (own_base hob)
              obtain ⟨va, vc, e9, -⟩ := ho3.form
              subst e9
              clear ho3 hgr hob q1 q2 q3 q4
              go_wp2
              go_meet
              case rel => exact ⟨rfl, rfl, rfl, HO3, HG3, HW3, HU3⟩
            · have hmd2 : (x : Int).tmod 5 = 1 := hmd
              clear hmd
              have q1 : Byt (tI 1) := byt_lit _ rfl
              have q2 : strOfNums (tI 1) = ⟨#[115, 112, 101, 108, 108, 58, 111, 110, 10]⟩ := tB_nums 1 (by decide)
              have q3 : (bI (kl lc i)).length + (tI 1).length ≤ 100000000 := by rw [HNz.out.1, show (tI 1).length = 9 from rfl]; omega
              have q4 := HU2.out.2
              go_wp2_with (at_builtin; refine app_str rfl _ _ rfl w1.heap.size _ (bI (kl lc i)) rfl hob _ (tI 1) q1 q2 rfl q3 q4 ?_)
              intro v' w3 ho3 hgr
              have HO3 : Hid (OB w3 w1.heap.size v' (bI (kl lc i) ++ tI 1)) := ho3
              have HG3 : Hid (w3.ownsRow w1.heap.size 3 1 (.slice ga gm gc) (i + 1) (st.g.map (fun q => Value.int .i64 (q.1 : Int)) ++ [.int .i64 (N : Int)])) := World.ownsRow.kept HG2.out hgr (own_oth HG2.out hob (by decide))
              have HW3 : Hid (w3.ownsRow w1.heap.size 4 1 (.slice wa wm wcc) i (st.g.map fun q => .bool q.2)) := World.ownsRow.kept HOw2.out hgr (own_oth HOw2.out hob (by decide))
              have HU3 : Hid (Up w1.heap.size w1 w3) := HU2.out.grown hgr (own_base hob)
              obtain ⟨va, vc, e9, -⟩ := ho3.form
              subst e9
              clear ho3 hgr hob q1 q2 q3 q4
              go_wp2
              go_meet
              case rel => exact ⟨rfl, rfl, rfl, HO3, HG3, HW3, HU3⟩
            · have hmd2 : (x : Int).tmod 5 = 2 := hmd
              clear hmd
              have q1 : Byt (tI 2) := byt_lit _ rfl
              have q2 : strOfNums (tI 2) = ⟨#[115, 112, 101, 108, 108, 58, 108, 105, 110, 101, 10]⟩ := tB_nums 2 (by decide)
              have q3 : (bI (kl lc i)).length + (tI 2).length ≤ 100000000 := by rw [HNz.out.1, show (tI 2).length = 11 from rfl]; omega
              have q4 := HU2.out.2
              go_wp2_with (at_builtin; refine app_str rfl _ _ rfl w1.heap.size _ (bI (kl lc i)) rfl hob _ (tI 2) q1 q2 rfl q3 q4 ?_)
              intro v' w3 ho3 hgr
              have HO3 : Hid (OB w3 w1.heap.size v' (bI (kl lc i) ++ tI 2)) := ho3
              have HG3 : Hid (w3.ownsRow w1.heap.size 3 1 (.slice ga gm gc) (i + 1) (st.g.map (fun q => Value.int .i64 (q.1 : Int)) ++ [.int .i64 (N : Int)])) := World.ownsRow.kept HG2.out hgr (own_oth HG2.out hob (by decide))
              have HW3 : Hid (w3.ownsRow w1.heap.size 4 1 (.slice wa wm wcc) i (st.g.map fun q => .bool q.2)) := World.ownsRow.kept HOw2.out hgr (own_oth HOw2.out hob (by decide))
              have HU3 : Hid (Up w1.heap.size w1 w3) := HU2.out.grown hgr (own_base hob)
              obtain ⟨va, vc, e9, -⟩ := ho3.form
              subst e9
              clear ho3 hgr hob q1 q2 q3 q4
              go_wp2
              go_meet
              case rel => exact ⟨rfl, rfl, rfl, HO3, HG3, HW3, HU3⟩
            · have hmd2 : (x : Int).tmod 5 = 3 := hmd
              clear hmd
              have q1 : Byt (tI 3) := byt_lit _ rfl
              have q2 : strOfNums (tI 3) = ⟨#[115, 112, 101, 108, 108, 58, 110, 101, 120, 116, 10]⟩ := tB_nums 3 (by decide)
              have q3 : (bI (kl lc i)).length + (tI 3).length ≤ 100000000 := by rw [HNz.out.1, show (tI 3).length = 11 from rfl]; omega
              have q4 := HU2.out.2
              go_wp2_with (at_builtin; refine app_str rfl _ _ rfl w1.heap.size _ (bI (kl lc i)) rfl hob _ (tI 3) q1 q2 rfl q3 q4 ?_)
              intro v' w3 ho3 hgr
              have HO3 : Hid (OB w3 w1.heap.size v' (bI (kl lc i) ++ tI 3)) := ho3
              have HG3 : Hid (w3.ownsRow w1.heap.size 3 1 (.slice ga gm gc) (i + 1) (st.g.map (fun q => Value.int .i64 (q.1 : Int)) ++ [.int .i64 (N : Int)])) := World.ownsRow.kept HG2.out hgr (own_oth HG2.out hob (by decide))
              have HW3 : Hid (w3.ownsRow w1.heap.size 4 1 (.slice wa wm wcc) i (st.g.map fun q => .bool q.2)) := World.ownsRow.kept HOw2.out hgr (own_oth HOw2.out hob (by decide))
              have HU3 : Hid (Up w1.heap.size w1 w3) := HU2.out.grown hgr (own_base hob)
              obtain ⟨va, vc, e9, -⟩ := ho3.form
              subst e9
              clear ho3 hgr hob q1 q2 q3 q4
              go_wp2
              go_meet
              case rel => exact ⟨rfl, rfl, rfl, HO3, HG3, HW3, HU3⟩
            · have hmd2 : (x : Int).tmod 5 = 4 := hmd
              clear hmd
              have q1 : Byt (tI 4) := byt_lit _ rfl
              have q2 : strOfNums (tI 4) = ⟨#[112, 108, 97, 105, 110, 10]⟩ := tB_nums 4 (by decide)
              have q3 : (bI (kl lc i)).length + (tI 4).length ≤ 100000000 := by rw [HNz.out.1, show (tI 4).length = 6 from rfl]; omega
              have q4 := HU2.out.2
              go_wp2_with (at_builtin; refine app_str rfl _ _ rfl w1.heap.size _ (bI (kl lc i)) rfl hob _ (tI 4) q1 q2 rfl q3 q4 ?_)
              intro v' w3 ho3 hgr
              have HO3 : Hid (OB w3 w1.heap.size v' (bI (kl lc i) ++ tI 4)) := ho3
              have HG3 : Hid (w3.ownsRow w1.heap.size 3 1 (.slice ga gm gc) (i + 1) (st.g.map (fun q => Value.int .i64 (q.1 : Int)) ++ [.int .i64 (N : Int)])) := World.ownsRow.kept HG2.out hgr (own_oth HG2.out hob (by decide))
              have HW3 : Hid (w3.ownsRow w1.heap.size 4 1 (.slice wa wm wcc) i (st.g.map fun q => .bool q.2)) := World.ownsRow.kept HOw2.out hgr (own_oth HOw2.out hob (by decide))
              have HU3 : Hid (Up w1.heap.size w1 w3) := HU2.out.grown hgr (own_base hob)
              obtain ⟨va, vc, e9, -⟩ := ho3.form
              subst e9
              clear ho3 hgr hob q1 q2 q3 q4
              go_wp2
              go_meet
              case rel => exact ⟨rfl, rfl, rfl, HO3, HG3, HW3, HU3⟩
          case rest =>
            obtain ⟨rfl, rfl, rfl, HO3, HG3, HW3, HU3⟩ := hcut
            obtain ⟨va, vc, e9, -⟩ := HO3.out.form
            subst e9
            obtain ⟨M, hM⟩ : ∃ z, (bI (kl lc i) ++ tI k).length = z := ⟨_, rfl⟩
            have HO3 : Hid (OB wc w1.heap.size (.slice va M vc) (bI (kl lc i) ++ tI k)) := by show OB _ _ _ _; rw [← hM]; exact HO3.out
            rw [hM]
            clear hM
            have hw3 := HW3.out
            obtain ⟨t1, ht1⟩ : ∃ z, (stE k b1 b2).1 = z := ⟨_, rfl⟩
            obtain ⟨t2, ht2⟩ : ∃ z, (stE k b1 b2).2.2 = z := ⟨_, rfl⟩
            obtain ⟨t3, ht3⟩ : ∃ z, (stE k b1 b2).2.1 = z := ⟨_, rfl⟩
            rw [ht1, ht2, ht3] at HST2
            rw [ht1, ht2, ht3]
            clear HOb2 HG2 HOw2 HU2 ht1 ht2 ht3
            go_wp2_with (at_builtin; refine wpList_append_own _ rfl _ _ 41 rfl w1.heap.size 4 iB _ 1 1 Tryd.underlying41 hB hBo0 hBo1 hBo2 rfl (by decide) _ _ _ rfl (World.ownsRow.alloc hw3 _) ⟨wc.heap.size, 0, none⟩ 1 1 [.bool t3] rfl rfl ?d1 ?d2 ?d3 ?d4 ?d5 ?_)
            case d2 => rfl
            case d3 => unfold maxLen; omega
            case d4 => omega
            case d5 => have := HU3.out.2; omega
            intro v9 w4 hown4 hgr hnil
            obtain ⟨wa, wm, wcc, rfl⟩ := own_frm3 hown4
            have hbA : Below wc.heap.size wc (wc.alloc (.cells #[.bool t3] 4)) := below_alloc wc _
            have hwA := World.ownsRow.alloc hw3 (.cells #[.bool t3] 4)
            have hG4 : GR w4 w1.heap.size (.slice va M vc) (.slice ga gm gc) (.slice wa wm wcc) (kl lc (i + 1)) := by
              refine ⟨?_, ?_, ?_⟩
              · rw [HST2.out.2]
                exact World.ownsRow.kept (own_stay HO3.out hbA) hgr (own_oth (own_stay HO3.out hbA) hwA (by decide))
              · rw [kl_len, HST2.out.1, List.map_append]
                exact World.ownsRow.kept (own_stay HG3.out hbA) hgr (own_oth (own_stay HG3.out hbA) hwA (by decide))
              · rw [kl_len, HST2.out.1, List.map_append]
                exact hown4
            have HG4 : Hid (GR w4 w1.heap.size (.slice va M vc) (.slice ga gm gc) (.slice wa wm wcc) (kl lc (i + 1))) := hG4
            have HU4 : Hid (Up w1.heap.size w1 w4) := (HU3.out.alloc _).grown hgr (own_base hw3)
            clear hown4 hgr hnil hbA hwA hG4 hw3 HO3 HG3 HW3 HU3
            go_wp2
            go_roundg (ln - (i + 1))
            case measure => omega
            case rel => exact ⟨i + 1, by omega, by omega, rfl, by go_num, by rw [HST2.out.1], by rw [HST2.out.1], HG4, HU4⟩
      · have z1 : ¬ (i : Int) < (ln : Int) := by omega
        go_wp2
        go_meet
        case rel => exact ⟨i, hi61, hi, HG, HU⟩
  case rest =>
    obtain ⟨n, hn61, hnl, HG, HU⟩ := hcut
    obtain ⟨ba, bc, e9, hcap⟩ := HG.out.1.form
    subst e9
    have hob := HG.out.1
    have hsz : (bI (kl lc n)).length = (TX (kl lc n)).size := by rw [← bI_nums _ (kl_lt lc n), strOfNums_size]
    have hTs := TX_size (kl lc n) (kl_lt lc n)
    rw [kl_len] at hTs
    have hch := cL_ch (bI_byt (kl lc n))
    have hbs := bsl_of_bc (cap := bc) hch.1 hob.bc hcap
    rw [cl_cL, bI_nums _ (kl_lt lc n)] at hbs
    have HBw : Hid (Below w.heap.size w wc) := HB1.out.trans (HU.out.1.mono HB1.out.size)
    have cr := HH.out.2.2.2.2.1 (TX (kl lc n)) _ wc (by omega) (HH.out.1.stay HBw.out) hbs
    obtain ⟨i1, i2, i3, i4, i5, i6⟩ := rdA_TX (kl lc n) (kl_lt lc n)
    obtain ⟨rows, hrows⟩ : ∃ z, (rdA (TX (kl lc n))).r = z := ⟨_, rfl⟩
    obtain ⟨ws, hws⟩ : ∃ z, (rdA (TX (kl lc n))).w = z := ⟨_, rfl⟩
    obtain ⟨g, hg⟩ : ∃ z, (sq (kl lc n)).g = z := ⟨_, rfl⟩
    have hgl : g.length = n := by rw [← hg, sq_len, kl_len]
    have hgI := HG.out.2.1
    have hgB := HG.out.2.2
    rw [kl_len, hg] at hgI hgB
    rw [hrows, hg] at i4 i5
    rw [hrows, hws] at cr
    have HF : Hid ((∀ q ∈ g, q.1 < 900 ∧ offB rows (q.1 : Int) = q.2) ∧ rows.length = g.countP (fun q => q.2) ∧ g.length = n) := ⟨fun q hq => ⟨by have := (i4 q hq).1; omega, (i4 q hq).2⟩, i5, hgl⟩
    have HGI : Hid (wc.ownsRow w1.heap.size 3 1 u4 n (g.map fun q => .int .i64 (q.1 : Int))) := hgI
    have HGB : Hid (wc.ownsRow w1.heap.size 4 1 u5 n (g.map fun q => .bool q.2)) := hgB
    obtain ⟨ga, gc, rfl⟩ : ∃ a c, u4 = .slice a n c := by
      obtain ⟨a, c9, e9⟩ := own_form hgI
      exact ⟨a, c9, e9⟩
    obtain ⟨wa, wcc, rfl⟩ : ∃ a c, u5 = .slice a n c := by
      obtain ⟨a, c9, e9⟩ := own_form hgB
      exact ⟨a, c9, e9⟩
    obtain ⟨Lb, hLb⟩ : ∃ z, (bI (kl lc n)).length = z := ⟨_, rfl⟩
    rw [hLb] at cr ⊢
    clear hob hch hbs i1 i2 i3 i4 i5 i6 hrows hws hg hgl hgI hgB hsz hTs hcap HG hLb
    go_wp2_with fail
    refine cr.mono ?_
    rintro ev w3 ⟨r, rfl, hr, hb3⟩
    obtain ⟨B0, hB0⟩ : ∃ z, wc.heap.size = z := ⟨_, rfl⟩
    have HGI3 : Hid (w3.ownsRow w1.heap.size 3 1 (.slice ga n gc) n (g.map fun q => .int .i64 (q.1 : Int))) := own_stay HGI.out hb3
    have HGB3 : Hid (w3.ownsRow w1.heap.size 4 1 (.slice wa n wcc) n (g.map fun q => .bool q.2)) := own_stay HGB.out hb3
    rw [hB0] at hr
    have HR3 : Hid (RL w3 B0 r rows ws) := hr
    have HB3 : Hid (Below w.heap.size w w3) := HBw.out.trans (hb3.mono HBw.out.size)
    clear cr hr hb3 hB0 HGI HGB HBw
    go_wp2
    go_loopg [12, 64] n (fun q cv iv wr => ∃ j : Nat, j ≤ n ∧ q = n - j ∧ iv = .int .i64 (j : Int) ∧ cv = .int .i64 (((g.take j).countP (fun q => q.2) : Nat) : Int) ∧ Hid (Up w3.heap.size w3 wr))
    case atStart => exact ⟨0, Nat.zero_le _, rfl, rfl, rfl, Up.refl _⟩
    case round =>
      obtain ⟨j, hj, hqj, rfl, rfl, HU3⟩ := hrel
      obtain ⟨cn, hcn⟩ : ∃ z, (g.take j).countP (fun q => q.2) = z := ⟨_, rfl⟩
      have hcj : cn ≤ j := by
        rw [← hcn]
        have h1 := List.countP_le_length (p := fun q : Nat × Bool => q.2) (l := g.take j)
        rw [List.length_take] at h1
        omega
      rw [hcn]
      by_cases hjn : j < n
      · have x0 : (0 : Int) ≤ (j : Int) := by omega
        have x1 : (j : Int) < (n : Int) := by omega
        obtain ⟨p, hp⟩ : ∃ p, g[j]? = some p := ⟨_, List.getElem?_eq_getElem (by rw [HF.out.2.2]; exact hjn)⟩
        obtain ⟨hp9, hpo⟩ := HF.out.1 p (List.mem_of_getElem? hp)
        have hgi := own_stay HGI3.out HU3.out.1
        have hgb := own_stay HGB3.out HU3.out.1
        obtain ⟨gb, e5, -, -⟩ := own_at hgi (by omega)
        subst e5
        obtain ⟨wb, e6, -, -⟩ := own_at hgb (by omega)
        subst e6
        have a1 : wr.cell? ⟨gb, j, none⟩ = some (.int .i64 (p.1 : Int)) := by
          rw [hgi.cellAt j (by omega), List.getElem?_map, hp]
          rfl
        have a2 : wr.cell? ⟨wb, j, none⟩ = some (.bool p.2) := by
          rw [hgb.cellAt j (by omega), List.getElem?_map, hp]
          rfl
        have hct : (g.take (j + 1)).countP (fun q => q.2) = cn + (bif p.2 then 1 else 0) := by
          rw [List.take_add_one, hp, List.countP_append, hcn]
          show cn + List.countP (fun q : Nat × Bool => q.2) [p] = _
          clear hp hp9 hpo a1 a2
          obtain ⟨q1, q2⟩ := p
          cases q2 <;> rfl
        obtain ⟨p1, hp1⟩ : ∃ z, p.1 = z := ⟨_, rfl⟩
        obtain ⟨p2, hp2⟩ : ∃ z, p.2 = z := ⟨_, rfl⟩
        rw [hp1] at a1 hpo hp9
        rw [hp2] at a2 hpo hct
        have HCT : Hid ((g.take (j + 1)).countP (fun q => q.2) = cn + (bif p2 then 1 else 0)) := hct
        have CO : Hid (∀ w', Up wr.heap.size wr w' → Calls Tryd.prog 14 #[r, .int .i64 (p1 : Int)] w' fun e w'' => e = .returned (.bool p2) ∧ Below w'.heap.size w' w'') := fun w' hu => by
          rw [← hpo]
          exact HH.out.2.2.2.2.2.1 w' _ _ _ _ (p1 : Int) (HH.out.2.2.2.stay HR3.out (HU3.out.stay hu.1).1) (by omega)
        have xe : (p2 != p2) = false := by simp
        clear hgi hgb hp hpo hct hp1 hp2 hcn
        go_upto_region 35 with fail
        refine wp_region_held_drew (S := fun w' => Up wr.heap.size wr w') (by kernel_rfl) (Up.drew (Up.refl wr)) (fun hHeld => ?_)
        (try dsimp only at hHeld)
        obtain ⟨x0, hx0⟩ : ∃ x0, wr.drew = x0 := ⟨_, rfl⟩
        rw [hx0] at hHeld ⊢
        clear hx0
        refine takeH (i := 0) (v := ?_) (d := (some 69)) rfl (by kernel_rfl) (by kernel_rfl) (by kernel_rfl) rfl (fun _ _ _ h => h) (Or.inl ⟨by kernel_rfl, ?_⟩) (by assumption) ?_; rotate_left
        · (intro w hSw; (try dsimp only at hSw); first | (go_simp; done) | (go_simp; with_reducible rfl))
        (try simp only [Act.put, List.setIfInBounds_toArray, List.set_cons_zero, List.set_cons_succ])
        refine takeH (i := 1) (v := ?_) (d := (some 70)) rfl (by kernel_rfl) (by kernel_rfl) (by kernel_rfl) rfl (fun _ _ _ h => h) (Or.inl ⟨by kernel_rfl, ?_⟩) (by assumption) ?_; rotate_left
        · (intro w hSw; (try dsimp only at hSw); first | (go_simp; done) | (go_simp; with_reducible rfl))
        (try simp only [Act.put, List.setIfInBounds_toArray, List.set_cons_zero, List.set_cons_succ])
        refine takeH (i := 3) (v := ?_) (d := (some 72)) rfl (by kernel_rfl) (by kernel_rfl) (by kernel_rfl) rfl (fun _ _ _ h => h) (Or.inl ⟨by kernel_rfl, ?_⟩) (by assumption) ?_; rotate_left
        · (intro w hSw; (try dsimp only at hSw); first | (go_simp; done) | (go_simp; with_reducible rfl))
        (try simp only [Act.put, List.setIfInBounds_toArray, List.set_cons_zero, List.set_cons_succ])
        refine takeH (i := 4) (v := ?_) (d := (some 73)) rfl (by kernel_rfl) (by kernel_rfl) (by kernel_rfl) rfl (fun _ _ _ h => h) (Or.inl ⟨by kernel_rfl, ?_⟩) (by assumption) ?_; rotate_left
        · (intro w hSw; (try dsimp only at hSw); first | (go_simp; done) | (go_simp; with_reducible rfl))
        (try simp only [Act.put, List.setIfInBounds_toArray, List.set_cons_zero, List.set_cons_succ])
        refine takeH (i := 5) (v := ?_) (d := (some 74)) rfl (by kernel_rfl) (by kernel_rfl) (by kernel_rfl) rfl (fun _ _ _ h => h) (Or.inl ⟨by kernel_rfl, ?_⟩) (by assumption) ?_; rotate_left
        · (intro w hSw; (try dsimp only at hSw); first | (go_simp; done) | (go_simp; with_reducible rfl))
        (try simp only [Act.put, List.setIfInBounds_toArray, List.set_cons_zero, List.set_cons_succ])
        refine takeH (i := 6) (v := ?_) (d := (some 75)) rfl (by kernel_rfl) (by kernel_rfl) (by kernel_rfl) rfl (fun _ _ _ h => h) (Or.inl ⟨by kernel_rfl, ?_⟩) (by assumption) ?_; rotate_left
        · (intro w hSw; (try dsimp only at hSw); have q0 := cell_stay a2 hSw.1; first | (go_simp; done) | (go_simp; with_reducible rfl))
        (try simp only [Act.put, List.setIfInBounds_toArray, List.set_cons_zero, List.set_cons_succ])
        have HV0 : Hid (Up wr.heap.size wr x0) := hHeld
        have cc1 := CO.out x0 hHeld
        refine wpAnyH_ready (rs := [2]) (by kernel_rfl) (by simp) (AllReadyH.cons rfl (fun K hK => ?_) AllReadyH.nil)
        (try rw [if_pos (by kernel_rfl)])
        go_simp
        refine cc1.mono ?_
        rintro ev w8 ⟨rfl, hb8⟩
        have HV1 : Hid (Up wr.heap.size wr w8) := HV0.out.stay hb8
        clear cc1 hb8 hHeld HV0
        go_wp2_with fail
        refine hK.out _ _ HV1.out (fun hHeld => ?_)
        clear hK K
        (try dsimp only at hHeld)
        (try simp only [Act.put, List.setIfInBounds_toArray, List.set_cons_zero, List.set_cons_succ])
        refine takeH (i := 7) (v := ?_) (d := (some 76)) rfl (by kernel_rfl) (by kernel_rfl) (by kernel_rfl) rfl (fun _ _ _ h => h) (Or.inl ⟨by kernel_rfl, ?_⟩) (by assumption) ?_; rotate_left
        · (intro w hSw; (try dsimp only at hSw); first | (go_simp; done) | (go_simp; with_reducible rfl))
        (try simp only [Act.put, List.setIfInBounds_toArray, List.set_cons_zero, List.set_cons_succ])
        refine wpAnyH_done (by kernel_rfl) ?_ _
        have a3 := cell_stay a2 HV1.out.1
        have HV3 : Hid (Up w3.heap.size w3 w8) := HU3.out.stay HV1.out.1
        clear hHeld CO HV1 HU3 a1 a2
        cases p2
        · go_wp2
          go_roundg (n - (j + 1))
          case measure => omega
          case rel => exact ⟨j + 1, by omega, rfl, by go_num, by rw [HCT.out]; rfl, HV3⟩
        · go_wp2
          go_roundg (n - (j + 1))
          case measure => omega
          case rel => exact ⟨j + 1, by omega, rfl, by go_num, by rw [HCT.out]; show _ = Value.int .i64 ((cn + 1 : Nat) : Int); go_num, HV3⟩
      · obtain rfl : j = n := by omega
        have x1 : ¬ (j : Int) < (j : Int) := by omega
        have hcr : cn = rows.length := by
          rw [HF.out.2.1, ← hcn, List.take_of_length_le (by rw [HF.out.2.2]; exact Nat.le_refl _)]
        subst hcr
        clear hcn
        have HRr : Hid (RL wr B0 r rows ws) := HH.out.2.2.2.stay HR3.out HU3.out.1
        have cs := HH.out.2.2.2.2.2.2.2 _ _ _ _ _ HRr.out
        have HB4 : Hid (Below w.heap.size w wr) := HB3.out.trans (HU3.out.1.mono HB3.out.size)
        go_wp2_with fail
        refine cs.mono ?_
        rintro ev w4 ⟨v4, rfl, hS4, hb4⟩
        have HB5 : Hid (Below w.heap.size w w4) := HB4.out.trans (hb4.mono HB4.out.size)
        obtain ⟨va, vc, rfl⟩ : ∃ a c, v4 = .slice a rows.length c := by
          obtain ⟨a, c, e9, -⟩ := hS4.any
          exact ⟨a, c, e9⟩
        clear cs hb4 hS4
        go_wp2
        go_ret
        exact ⟨by first | rfl | simp, HB5.out⟩
end Go.Proofs.YteeeekpeokgaeaaDoor
