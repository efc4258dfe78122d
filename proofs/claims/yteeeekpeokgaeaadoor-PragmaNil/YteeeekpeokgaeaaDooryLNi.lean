/- PragmaNil: the law. -/
import Derived.Test.YteeeekpeokgaeaaDoorPkYPln2
import Derived.BigQuiet
namespace Go.Proofs.YteeeekpeokgaeaaDoor
set_option linter.unusedVariables false
open Go.RowKit Go.ChangeShapes Tns
set_option maxHeartbeats 16000000 in
set_option maxRecDepth 100000 in
theorem nil_law {RL : RLt} (PO : PragOk RL) (NO : NilOk) {w : World} (hT : PT w) {ba : Option Addr} {bn bcap : Nat} {bc : Nat → Int} (hbC : Ch bc bn) (hb : BC w ba bn bc) (hbn : bn ≤ maxLen) {at_ : Int} (hat : -9223372036854775808 ≤ at_ ∧ at_ ≤ 9223372036854775807) (t : ByteArray) :
    Calls Tryd.prog 6 #[.slice ba bn bcap, .int .i64 at_, .string t] w fun ev w' => ev = .returned (.bool true) ∧ Below w.heap.size w w' := by
  have ca := awake_any PO w hT
  have HH : Hid (PT w ∧ Ch bc bn ∧ BC w ba bn bc ∧ PragOk RL) := ⟨hT, hbC, hb, PO⟩
  have HNo : Hid (NilOk ∧ (-9223372036854775808 ≤ at_ ∧ at_ ≤ 9223372036854775807)) := ⟨NO, hat⟩
  have hcA := fun (w' : World) => Go.Lib.run_convert_bytes_const (P := Tryd.prog) w' 22 5 #[.int .u8 115, .int .u8 112, .int .u8 101, .int .u8 108, .int .u8 108, .int .u8 58, .int .u8 119, .int .u8 111, .int .u8 114, .int .u8 100, .int .u8 115, .int .u8 32, .int .u8 113, .int .u8 113, .int .u8 10, .int .u8 115, .int .u8 112, .int .u8 101, .int .u8 108, .int .u8 108, .int .u8 58, .int .u8 108, .int .u8 105, .int .u8 110, .int .u8 101, .int .u8 10] 26 26 Tryd.underlying22 Tryd.underlying5
  clear hT hbC hb PO NO hat
  go_enter Tryd.func6, Tryd.ntmps6
  go_wp2_with fail
  refine ca.mono ?_
  rintro ev w1 ⟨rfl, hb1⟩
  have HB1 : Hid (Below w.heap.size w w1) := hb1
  clear ca hb1
  by_cases h5 : (500 : Int) < (bn : Int)
  · go_wp2
    go_ret
    exact ⟨rfl, HB1.out⟩
  · by_cases h6 : (300 : Int) < (t.size : Int)
    · go_wp2
      go_ret
      exact ⟨rfl, HB1.out⟩
    · have hn : bn ≤ 500 := by omega
      have ht2 : t.size ≤ 300 := by omega
      obtain ⟨W, hW⟩ : ∃ W, w1.alloc (.cells #[.int .u8 115, .int .u8 112, .int .u8 101, .int .u8 108, .int .u8 108, .int .u8 58, .int .u8 119, .int .u8 111, .int .u8 114, .int .u8 100, .int .u8 115, .int .u8 32, .int .u8 113, .int .u8 113, .int .u8 10, .int .u8 115, .int .u8 112, .int .u8 101, .int .u8 108, .int .u8 108, .int .u8 58, .int .u8 108, .int .u8 105, .int .u8 110, .int .u8 101, .int .u8 10] 5 (26, 27)) = W := ⟨_, rfl⟩
      have hom : OMg W w1.heap.size w1.heap.size 26 exN := by
        rw [← hW]
        exact om_lit w1 w1.heap.size (Nat.le_refl _) exN (by unfold maxLen; decide)
      have HW : Hid (Up w1.heap.size w1 W) := by rw [← hW]; exact (Up.refl w1).alloc _
      have hbc1 := HH.out.2.2.1.stay (HB1.out.trans (HW.out.1.mono HB1.out.size))
      have q1 : 26 + bn ≤ 100000000 := by omega
      have q2 := HW.out.2
      go_wp2_with (at_builtin; refine om_app rfl _ _ rfl w1.heap.size w1.heap.size 26 exN 26 rfl rfl hom (by decide) ba bn bcap bc rfl hbc1 q1 q2 ?_)
      intro g1 cp1 w2 hom2 hgr
      have HU2 : Hid (Up w1.heap.size w1 w2) := HW.out.grown hgr (fun k hk => by injection hk with hk; omega)
      obtain ⟨LL, hLL⟩ : ∃ l, exN ++ cl bc bn = l := ⟨_, rfl⟩
      rw [hLL] at hom2
      have hll : LL.length = 26 + bn := by rw [← hLL, List.length_append, cl_len]; rfl
      have HLb : Hid (Byt LL ∧ strOfNums LL = exNb ++ strOfNums (cl bc bn)) := by
        refine ⟨?_, ?_⟩
        · rw [← hLL]
          intro x hx
          rcases List.mem_append.1 hx with h | h
          · exact (byt_lit exN rfl) x h
          · exact cl_byt HH.out.2.1 x h
        · rw [← hLL, strOfNums_app, exN_nums]
      obtain ⟨n, hnn⟩ : ∃ n, 26 + bn = n := ⟨_, rfl⟩
      rw [hnn] at hll ⊢
      have HOM : Hid (OMg w2 w1.heap.size g1 cp1 LL ∧ LL.length = n ∧ n ≤ cp1) := ⟨hom2, hll, by have := hom2.len; omega⟩
      have hbcX : BC (w2.alloc (.cells #[] 5)) (some ⟨g1, 0, none⟩) n (cL LL) := by
        have e1 := (hom2.stay (below_alloc w2 (.cells #[] 5))).bc
        rw [hll] at e1
        exact e1
      have ho0 : OB (w2.alloc (.cells #[] 5)) w2.heap.size (.slice (some ⟨w2.heap.size, 0, none⟩) 0 0) [] := World.ownsRow_lit w2 #[] 0 (Nat.le_refl _) (Nat.zero_le _) rfl
      have q3 : ([] : List Int).length + n ≤ 100000000 := by simp; omega
      have q4 : w2.heap.size ≤ (w2.alloc (.cells #[] 5)).heap.size := by simp only [World.size_alloc]; omega
      have hn526 : n ≤ 526 := by omega
      have hn26 : 26 ≤ n := by omega
      clear hgr hW hcA q1 q2 hbc1 hom hom2 HW hLL hnn
      go_wp2_with (at_builtin; refine app_ob rfl _ _ rfl w2.heap.size _ [] rfl ho0 (some ⟨g1, 0, none⟩) n cp1 (cL LL) rfl hbcX q3 q4 ?_)
      intro v3 w3 ho3 hgr3
      have hclL : cl (cL LL) n = LL := by
        have e1 := cl_cL LL
        rw [hll] at e1
        exact e1
      rw [hclL] at ho3
      have ho3 : OB w3 w2.heap.size v3 LL := ho3
      have HU3 : Hid (Up w2.heap.size w2 w3) := ((Up.refl w2).alloc _).grown hgr3 (own_base ho0)
      obtain ⟨ad, cap, e1, hcap⟩ := ho3.form
      subst e1
      rw [hll] at hcap
      obtain ⟨g, e2, hg, -⟩ := own_at (show w3.ownsRow w2.heap.size 5 1 (.slice ad LL.length cap) LL.length (u8L LL) from ho3) (by omega)
      subst e2
      have hb3 := ho3.bc
      rw [hll] at hb3
      have hch := cL_ch HLb.out.1
      rw [hll] at hch
      have hbs := bsl_of_bc (cap := cap) hch.1 hb3 hcap
      rw [hclL] at hbs
      have HB3 : Hid (Below w.heap.size w w3) := HB1.out.trans ((HU2.out.1.trans (HU3.out.1.mono HU2.out.2)).mono HB1.out.size)
      have HO3 : Hid (∃ l : List Int, l.length = n ∧ OB w3 w2.heap.size (.slice (some ⟨g, 0, none⟩) l.length cap) l) := ⟨LL, hll, ho3⟩
      have HCH : Hid (Ch (cL LL) n ∧ cl (cL LL) n = LL) := ⟨hch, hclL⟩
      have cr := HH.out.2.2.2.2.1 (strOfNums LL) _ w3 (by rw [strOfNums_size, hll]; omega) (HH.out.1.stay HB3.out) hbs
      obtain ⟨s, hs⟩ : ∃ s, strOfNums LL = s := ⟨_, rfl⟩
      have hssz : s.size = n := by rw [← hs, strOfNums_size, hll]
      rw [hs] at cr HLb
      obtain ⟨rows, hrows⟩ : ∃ z, (rdA s).r = z := ⟨_, rfl⟩
      obtain ⟨ws, hws⟩ : ∃ z, (rdA s).w = z := ⟨_, rfl⟩
      have HKN : Hid (knB ws (fld ⟨#[81, 81]⟩) = true) := by
        show _ = _
        rw [← hws, HLb.out.2]
        exact nil_knows _
      have HSr : Hid (strOfNums LL = s ∧ (rdA s).r = rows ∧ (rdA s).w = ws ∧ s.size = n) := ⟨hs, hrows, hws, hssz⟩
      have HRW : Hid ((∀ p ∈ rows, p.1 + p.2 ≤ 6000) ∧ rows.length ≤ 6000) := by
        refine ⟨fun p hp => ?_, ?_⟩
        · rw [← hrows] at hp
          have := rdA_in s _ p hp
          omega
        · rw [← hrows]
          have := rdA_len s (Lns.nL s)
          have h2 := Lns.nL_le s
          show (rdL s (Lns.nL s)).r.length ≤ 6000
          omega
      rw [hrows, hws] at cr
      have hg1 : g < w3.heap.size := by
        obtain ⟨_, ⟨q5, _⟩ | ⟨g9, c9, cur, q5, hg9, hh9, _⟩⟩ := (show w3.ownsRow w2.heap.size 5 1 (.slice (some ⟨g, 0, none⟩) LL.length cap) LL.length (u8L LL) from ho3)
        · cases q5
        · injection q5 with q5 _ _
          injection q5 with q5
          injection q5 with q5
          subst q5
          exact (Array.getElem?_eq_some_iff.1 hh9).1
      rw [hll]
      clear ho0 ho3 hgr3 hbcX q3 q4 hb3 hch hbs hclL hs hrows hws hssz
      go_wp2_with fail
      refine cr.mono ?_
      rintro ev w4 ⟨r, rfl, hr, hb4⟩
      obtain ⟨B0, hB0⟩ : ∃ z, w3.heap.size = z := ⟨_, rfl⟩
      rw [hB0] at hr hg1
      have HR4 : Hid (RL w4 B0 r rows ws) := hr
      have HO4 : Hid (∃ l : List Int, l.length = n ∧ OB w4 w2.heap.size (.slice (some ⟨g, 0, none⟩) l.length cap) l) := by
        obtain ⟨l, h1, h2⟩ := HO3.out
        exact ⟨l, h1, own_stay h2 hb4⟩
      have HU4 : Hid (Up w2.heap.size w2 w4) := HU3.out.stay hb4
      clear cr hr hb4 hB0 HO3 HU3 hll
      go_wp2
      go_loopg [36] n (fun q iv wr => ∃ i : Nat, i ≤ n ∧ q = n - i ∧ iv = .int .i64 (i : Int) ∧ Hid (∃ l : List Int, l.length = n ∧ OB wr w2.heap.size (.slice (some ⟨g, 0, none⟩) l.length cap) l) ∧ Hid (Up w2.heap.size w2 wr) ∧ Hid (RL wr B0 r rows ws))
      case atStart => exact ⟨0, Nat.zero_le _, rfl, rfl, HO4, HU4, HR4⟩
      case round =>
        clear HO4 HU4 HR4
        obtain ⟨i, hi, hq, rfl, HO, HU, HR⟩ := hrel
        by_cases hlt : i < n
        · have z0 : (0 : Int) ≤ (i : Int) := by omega
          have z1 : (i : Int) < (n : Int) := by omega
          obtain ⟨l, h1, h2⟩ := HO.out
          have hcx : wr.cell? ⟨g, i, none⟩ = some (.int .u8 (cL l i)) := by
            obtain ⟨b9, o9, e9, hc9⟩ := h2.bc i (by omega)
            injection e9 with e9
            injection e9 with e9 e10 _
            subst e9 e10
            rw [Nat.zero_add] at hc9
            exact hc9
          have hfr : wr.frozen? ⟨g, i, none⟩ = false := by
            obtain ⟨_, ⟨q5, _⟩ | ⟨g9, c9, cur, q5, hg9, hh9, _⟩⟩ := h2
            · cases q5
            · injection q5 with q5 _ _
              injection q5 with q5
              injection q5 with q5
              subst q5
              simp [World.frozen?, hh9]
          have HO5 : Hid (∃ l : List Int, l.length = n ∧ OB (wr.setCell ⟨g, i, none⟩ (.int .u8 122)) w2.heap.size (.slice (some ⟨g, 0, none⟩) l.length cap) l) := ⟨l.set i 122, by rw [List.length_set]; exact h1, ob_set h2 (by omega)⟩
          have HU5 : Hid (Up w2.heap.size w2 (wr.setCell ⟨g, i, none⟩ (.int .u8 122))) := up_set HU.out hg
          have HR5 : Hid (RL (wr.setCell ⟨g, i, none⟩ (.int .u8 122)) B0 r rows ws) := HH.out.2.2.2.1 _ _ _ _ _ _ HR.out (by simp [World.setCell]) (fun k hk hkk => Below.heap_setCell wr ⟨g, i, none⟩ _ k (by show k ≠ g; omega))
          clear HO HU HR h2
          go_wp2
          go_roundg (n - (i + 1))
          case measure => omega
          case rel => exact ⟨i + 1, by omega, rfl, by go_num, HO5, HU5, HR5⟩
        · have z1 : ¬ (i : Int) < (n : Int) := by omega
          clear HO
          have hbx := (HOM.out.1.stay HU.out.1).bc
          rw [HOM.out.2.1] at hbx
          have hbs := bsl_of_bc (cap := cp1) HCH.out.1.1 hbx HOM.out.2.2
          rw [HCH.out.2, HSr.out.1] at hbs
          have crr := rread_any s _ wr (by have := HSr.out.2.2.2; omega) hbs
          rw [HSr.out.2.1, HSr.out.2.2.1] at crr
          have HBr : Hid (Below w.heap.size w wr) := HB1.out.trans ((HU2.out.1.trans (HU.out.1.mono HU2.out.2)).mono HB1.out.size)
          clear hbx hbs HU
          go_wp2_with fail
          refine crr.mono ?_
          rintro ev w5 ⟨va, vb, rfl, hsv, hsw, hb5⟩
          have HR5 : Hid (RL w5 B0 r rows ws) := HH.out.2.2.2.stay HR.out hb5
          have HB5 : Hid (Below w.heap.size w w5) := HBr.out.trans (hb5.mono HBr.out.size)
          have HSv : Hid (SpA w5 va rows) := hsv.any
          obtain ⟨a1, a2, rfl⟩ : ∃ a1 a2, va = .slice a1 rows.length a2 := by
            obtain ⟨a, c9, e9, -⟩ := hsv.any
            exact ⟨a, c9, e9⟩
          obtain ⟨b1, b2, rfl⟩ : ∃ b1 b2, vb = .slice b1 ws.length b2 := by
            obtain ⟨a, c9, e9, -⟩ := hsw.any
            exact ⟨a, c9, e9⟩
          clear crr hb5 hsv hsw HR HBr
          obtain ⟨nr, hnr⟩ : ∃ z, rows.length = z := ⟨_, rfl⟩
          obtain ⟨nw, hnw⟩ : ∃ z, ws.length = z := ⟨_, rfl⟩
          have HNR : Hid (rows.length = nr) := hnr
          have hnr6 : nr ≤ 6000 := by rw [← hnr]; exact HRW.out.2
          rw [hnr] at HSv ⊢
          rw [hnw]
          obtain ⟨W6, hW6⟩ : ∃ x, w5.alloc (.cells #[.slice a1 nr a2, .slice b1 nw b2] 32) = x := ⟨_, rfl⟩
          obtain ⟨E, hE⟩ : ∃ x, w5.heap.size = x := ⟨_, rfl⟩
          have hb6 : Below w5.heap.size w5 W6 := by rw [← hW6]; exact below_alloc w5 _
          have hE0 : W6.heap[E]? = some (.cells #[.slice a1 nr a2, .slice b1 nw b2] 32) := by rw [← hW6, ← hE]; exact heap_alloc_new _ _
          have HE0 : Hid (W6.cell? ⟨E, 0, none⟩ = some (.slice a1 nr a2) ∧ W6.cell? ⟨E, 1, none⟩ = some (.slice b1 nw b2)) := by
            refine ⟨?_, ?_⟩ <;> simp [World.cell?, hE0]
          have HR6 : Hid (RL W6 B0 r rows ws) := HH.out.2.2.2.stay HR5.out hb6
          have HB6 : Hid (Below w.heap.size w W6) := HB5.out.trans (hb6.mono HB5.out.size)
          have HSv6 : Hid (SpA W6 (.slice a1 nr a2) rows) := HSv.out.stay hb6
          have cs := HH.out.2.2.2.2.2.2.2 W6 _ _ _ _ HR6.out
          clear hnr hnw HSv HR5 HB5 hb6 hE0
          go_wp2_with fail
          refine cs.mono ?_
          rintro ev w7 ⟨v7, rfl, hS7, hb7⟩
          clear cs hW6 hE
          obtain ⟨c1, c2, rfl⟩ : ∃ c1 c2, v7 = .slice c1 nr c2 := by
            obtain ⟨a, c9, e9, -⟩ := hS7.any
            exact ⟨a, c9, by rw [e9, HNR.out]⟩
          have HS7 : Hid (∃ cs : List Value, w7.ownsRow W6.heap.size 36 2 (.slice c1 nr c2) nr cs) := by
            refine ⟨spC rows, ?_⟩
            have e1 : w7.ownsRow W6.heap.size 36 2 (.slice c1 nr c2) rows.length (spC rows) := hS7
            rw [HNR.out] at e1
            exact e1
          have HU7 : Hid (Up W6.heap.size W6 w7) := ⟨hb7, hb7.size⟩
          clear hS7 hb7
          go_wp2
          go_loopg [13] nr (fun q iv wr => ∃ i : Nat, i ≤ nr ∧ q = nr - i ∧ iv = .int .i64 (i : Int) ∧ Hid (∃ cs : List Value, wr.ownsRow W6.heap.size 36 2 (.slice c1 nr c2) nr cs) ∧ Hid (Up W6.heap.size W6 wr))
          case atStart => exact ⟨0, Nat.zero_le _, rfl, rfl, HS7, HU7⟩
          case round =>
            clear HS7 HU7
            obtain ⟨i, hi, hq, rfl, HS, HU⟩ := hrel
            by_cases hlt : i < nr
            · have z0 : (0 : Int) ≤ (i : Int) := by omega
              have z1 : (i : Int) < (nr : Int) := by omega
              obtain ⟨cs, hcs⟩ := HS.out
              obtain ⟨g7, e7, hg7, -⟩ := own_at hcs (by omega)
              subst e7
              have hh7 : ∃ cur : Array Value, wr.heap[g7]? = some (.cells cur 36) ∧ nr * 2 ≤ cur.size := by
                obtain ⟨_, ⟨q5, _⟩ | ⟨g9, c9, cur, q5, hg9, hh9, hc9, hm9, hs9, _⟩⟩ := hcs
                · cases q5
                · injection q5 with q5 _ q6
                  injection q5 with q5
                  injection q5 with q5
                  subst q5
                  exact ⟨cur, hh9, by omega⟩
              obtain ⟨cur, hh7, hcz⟩ := hh7
              have hx0 : i * 2 < cur.size := by omega
              have hx1 : i * 2 + 1 < cur.size := by omega
              obtain ⟨u0, hu0⟩ : ∃ u, wr.cell? ⟨g7, i * 2, none⟩ = some u := ⟨cur[i * 2], by simp [World.cell?, hh7, hx0]⟩
              obtain ⟨u1, hu1⟩ : ∃ u, wr.cell? ⟨g7, i * 2 + 1, none⟩ = some u := ⟨cur[i * 2 + 1], by simp [World.cell?, hh7, hx1]⟩
              have hf0 : wr.frozen? ⟨g7, i * 2, none⟩ = false := by simp [World.frozen?, hh7]
              have hf1 : wr.frozen? ⟨g7, i * 2 + 1, none⟩ = false := by simp [World.frozen?, hh7]
              have HS3 : Hid (∃ cs : List Value, ((wr.setCell ⟨g7, i * 2, none⟩ (.int .i64 0)).setCell ⟨g7, i * 2 + 1, none⟩ (.int .i64 0)).ownsRow W6.heap.size 36 2 (.slice (some ⟨g7, 0, none⟩) nr c2) nr cs) := ⟨_, own_cells (own_cells hcs (by omega)) (by omega)⟩
              have HU3 : Hid (Up W6.heap.size W6 ((wr.setCell ⟨g7, i * 2, none⟩ (.int .i64 0)).setCell ⟨g7, i * 2 + 1, none⟩ (.int .i64 0))) := up_set (up_set HU.out hg7) hg7
              clear HS HU hcs hh7 hcz hx0 hx1
              go_wp2
              go_roundg (nr - (i + 1))
              case measure => omega
              case rel => exact ⟨i + 1, by omega, rfl, by go_num, HS3, HU3⟩
            · have z1 : ¬ (i : Int) < (nr : Int) := by omega
              have HB8 : Hid (Below w.heap.size w wr) := HB6.out.trans (HU.out.1.mono HB6.out.size)
              have HT8 : Hid (Lns.Tabs wr) := (HH.out.1.stay HB8.out).1
              have HR8 : Hid (RL wr B0 r rows ws) := HH.out.2.2.2.stay HR6.out HU.out.1
              have HS8 : Hid (SpA wr (.slice a1 nr a2) rows) := HSv6.out.stay HU.out.1
              have HE8 : Hid (wr.cell? ⟨E, 0, none⟩ = some (.slice a1 nr a2) ∧ wr.cell? ⟨E, 1, none⟩ = some (.slice b1 nw b2)) := ⟨cell_stay HE0.out.1 HU.out.1, cell_stay HE0.out.2 HU.out.1⟩
              obtain ⟨Bv, hBv⟩ : ∃ z, offB rows at_ = z := ⟨_, rfl⟩
              have C1 : Hid (∀ w', Up wr.heap.size wr w' → Calls Tryd.prog 14 #[.pointer none, .int .i64 at_] w' fun e w'' => e = .returned (.bool false) ∧ Below w'.heap.size w' w'') := fun w' hu => HNo.out.1.1 w' at_ HNo.out.2
              have C2 : Hid (∀ w', Up wr.heap.size wr w' → Calls Tryd.prog 16 #[.pointer none, .string t] w' fun e w'' => e = .returned (.bool false) ∧ Below w'.heap.size w' w'') := fun w' hu => HNo.out.1.2.1 w' t (by omega) (Lns.tabs_stay HT8.out hu.1)
              have C3 : Hid (∀ w', Up wr.heap.size wr w' → Calls Tryd.prog 13 #[.pointer none] w' fun e w'' => ∃ a c, e = .returned (.slice a 0 c) ∧ Below w'.heap.size w' w'') := fun w' hu => HNo.out.1.2.2 w'
              have C4 : Hid (∀ w', Up wr.heap.size wr w' → Calls Tryd.prog 14 #[r, .int .i64 at_] w' fun e w'' => e = .returned (.bool Bv) ∧ Below w'.heap.size w' w'') := fun w' hu => by
                rw [← hBv]
                exact HH.out.2.2.2.2.2.1 w' _ _ _ _ at_ (HH.out.2.2.2.stay HR8.out hu.1) HNo.out.2
              have C5 : Hid (∀ w', Up wr.heap.size wr w' → Calls Tryd.prog 15 #[.agg #[.slice a1 nr a2, .slice b1 nw b2], .int .i64 at_] w' fun e w'' => e = .returned (.bool Bv) ∧ Below w'.heap.size w' w'') := fun w' hu => by
                rw [← hBv]
                exact ral_any (HS8.out.stay hu.1) ⟨_, _, _, rfl⟩ at_ (by have := HRW.out.2; omega) (fun p hp => by have := HRW.out.1 p hp; omega)
              have C6 : Hid (∀ w', Up wr.heap.size wr w' → Calls Tryd.prog 16 #[r, .string ⟨#[81, 81]⟩] w' fun e w'' => e = .returned (.bool true) ∧ Below w'.heap.size w' w'') := fun w' hu => by
                rw [← HKN.out]
                exact HH.out.2.2.2.2.2.2.1 w' _ _ _ _ ⟨#[81, 81]⟩ (HH.out.2.2.2.stay HR8.out hu.1) (by decide) (Lns.tabs_stay HT8.out hu.1)
              have xe : (Bv == Bv) = true := by simp
              clear hBv HU HS
              go_upto_region 19 with fail
              refine wp_region_held_drew (S := fun w' => Up wr.heap.size wr w') (by kernel_rfl) (Up.drew (Up.refl wr)) (fun hHeld => ?_)
              (try dsimp only at hHeld)
              obtain ⟨x0, hx0⟩ : ∃ x0, wr.drew = x0 := ⟨_, rfl⟩
              rw [hx0] at hHeld ⊢
              clear hx0
              refine takeH (i := 0) (v := ?_) (d := (some 57)) rfl (by kernel_rfl) (by kernel_rfl) (by kernel_rfl) rfl (fun _ _ _ h => h) (Or.inl ⟨by kernel_rfl, ?_⟩) (by assumption) ?_; rotate_left
              · (intro w hSw; (try dsimp only at hSw); first | (go_simp; done) | (go_simp; with_reducible rfl))
              (try simp only [Act.put, List.setIfInBounds_toArray, List.set_cons_zero, List.set_cons_succ])
              refine takeH (i := 1) (v := ?_) (d := (some 58)) rfl (by kernel_rfl) (by kernel_rfl) (by kernel_rfl) rfl (fun _ _ _ h => h) (Or.inl ⟨by kernel_rfl, ?_⟩) (by assumption) ?_; rotate_left
              · (intro w hSw; (try dsimp only at hSw); first | (go_simp; done) | (go_simp; with_reducible rfl))
              (try simp only [Act.put, List.setIfInBounds_toArray, List.set_cons_zero, List.set_cons_succ])
              have HV0 : Hid (Up wr.heap.size wr x0) := hHeld
              have cc0 := C1.out x0 HV0.out
              refine wpAnyH_ready (rs := [2]) (by kernel_rfl) (by simp) (AllReadyH.cons rfl (fun K hK => ?_) AllReadyH.nil)
              (try rw [if_pos (by kernel_rfl)])
              go_simp
              refine cc0.mono ?_
              rintro ev x1 ⟨rfl, hb9⟩
              have HV1 : Hid (Up wr.heap.size wr x1) := HV0.out.stay hb9
              clear cc0 hb9 hHeld HV0 C1
              go_wp2_with fail
              refine hK.out _ _ HV1.out (fun hHeld => ?_)
              clear hK K
              (try dsimp only at hHeld)
              (try simp only [Act.put, List.setIfInBounds_toArray, List.set_cons_zero, List.set_cons_succ])
              refine takeH (i := 3) (v := ?_) (d := (some 60)) rfl (by kernel_rfl) (by kernel_rfl) (by kernel_rfl) rfl (fun _ _ _ h => h) (Or.inl ⟨by kernel_rfl, ?_⟩) (by assumption) ?_; rotate_left
              · (intro w hSw; (try dsimp only at hSw); first | (go_simp; done) | (go_simp; with_reducible rfl))
              (try simp only [Act.put, List.setIfInBounds_toArray, List.set_cons_zero, List.set_cons_succ])
              refine takeH (i := 4) (v := ?_) (d := (some 61)) rfl (by kernel_rfl) (by kernel_rfl) (by kernel_rfl) rfl (fun _ _ _ h => h) (Or.inl ⟨by kernel_rfl, ?_⟩) (by assumption) ?_; rotate_left
              · (intro w hSw; (try dsimp only at hSw); first | (go_simp; done) | (go_simp; with_reducible rfl))
              (try simp only [Act.put, List.setIfInBounds_toArray, List.set_cons_zero, List.set_cons_succ])
              refine takeH (i := 5) (v := ?_) (d := (some 62)) rfl (by kernel_rfl) (by kernel_rfl) (by kernel_rfl) rfl (fun _ _ _ h => h) (Or.inl ⟨by kernel_rfl, ?_⟩) (by assumption) ?_; rotate_left
              · (intro w hSw; (try dsimp only at hSw); first | (go_simp; done) | (go_simp; with_reducible rfl))
              (try simp only [Act.put, List.setIfInBounds_toArray, List.set_cons_zero, List.set_cons_succ])
              refine takeH (i := 6) (v := ?_) (d := (some 63)) rfl (by kernel_rfl) (by kernel_rfl) (by kernel_rfl) rfl (fun _ _ _ h => h) (Or.inl ⟨by kernel_rfl, ?_⟩) (by assumption) ?_; rotate_left
              · (intro w hSw; (try dsimp only at hSw); first | (go_simp; done) | (go_simp; with_reducible rfl))
              (try simp only [Act.put, List.setIfInBounds_toArray, List.set_cons_zero, List.set_cons_succ])
              have cc1 := C2.out x1 HV1.out
              refine wpAnyH_ready (rs := [7]) (by kernel_rfl) (by simp) (AllReadyH.cons rfl (fun K hK => ?_) AllReadyH.nil)
              (try rw [if_pos (by kernel_rfl)])
              go_simp
              refine cc1.mono ?_
              rintro ev x2 ⟨rfl, hb9⟩
              have HV2 : Hid (Up wr.heap.size wr x2) := HV1.out.stay hb9
              clear cc1 hb9 hHeld HV1 C2
              go_wp2_with fail
              refine hK.out _ _ HV2.out (fun hHeld => ?_)
              clear hK K
              (try dsimp only at hHeld)
              (try simp only [Act.put, List.setIfInBounds_toArray, List.set_cons_zero, List.set_cons_succ])
              refine takeH (i := 8) (v := ?_) (d := (some 65)) rfl (by kernel_rfl) (by kernel_rfl) (by kernel_rfl) rfl (fun _ _ _ h => h) (Or.inl ⟨by kernel_rfl, ?_⟩) (by assumption) ?_; rotate_left
              · (intro w hSw; (try dsimp only at hSw); first | (go_simp; done) | (go_simp; with_reducible rfl))
              (try simp only [Act.put, List.setIfInBounds_toArray, List.set_cons_zero, List.set_cons_succ])
              refine takeH (i := 9) (v := ?_) (d := (some 66)) rfl (by kernel_rfl) (by kernel_rfl) (by kernel_rfl) rfl (fun _ _ _ h => h) (Or.inl ⟨by kernel_rfl, ?_⟩) (by assumption) ?_; rotate_left
              · (intro w hSw; (try dsimp only at hSw); first | (go_simp; done) | (go_simp; with_reducible rfl))
              (try simp only [Act.put, List.setIfInBounds_toArray, List.set_cons_zero, List.set_cons_succ])
              refine takeH (i := 10) (v := ?_) (d := (some 67)) rfl (by kernel_rfl) (by kernel_rfl) (by kernel_rfl) rfl (fun _ _ _ h => h) (Or.inl ⟨by kernel_rfl, ?_⟩) (by assumption) ?_; rotate_left
              · (intro w hSw; (try dsimp only at hSw); first | (go_simp; done) | (go_simp; with_reducible rfl))
              (try simp only [Act.put, List.setIfInBounds_toArray, List.set_cons_zero, List.set_cons_succ])
              refine takeH (i := 11) (v := ?_) (d := (some 68)) rfl (by kernel_rfl) (by kernel_rfl) (by kernel_rfl) rfl (fun _ _ _ h => h) (Or.inl ⟨by kernel_rfl, ?_⟩) (by assumption) ?_; rotate_left
              · (intro w hSw; (try dsimp only at hSw); first | (go_simp; done) | (go_simp; with_reducible rfl))
              (try simp only [Act.put, List.setIfInBounds_toArray, List.set_cons_zero, List.set_cons_succ])
              have cc2 := C3.out x2 HV2.out
              refine wpAnyH_ready (rs := [12]) (by kernel_rfl) (by simp) (AllReadyH.cons rfl (fun K hK => ?_) AllReadyH.nil)
              (try rw [if_pos (by kernel_rfl)])
              go_simp
              refine cc2.mono ?_
              rintro ev x3 ⟨sa, sc, rfl, hb9⟩
              have HV3 : Hid (Up wr.heap.size wr x3) := HV2.out.stay hb9
              clear cc2 hb9 hHeld HV2 C3
              go_wp2_with fail
              refine hK.out _ _ HV3.out (fun hHeld => ?_)
              clear hK K
              (try dsimp only at hHeld)
              (try simp only [Act.put, List.setIfInBounds_toArray, List.set_cons_zero, List.set_cons_succ])
              refine takeH (i := 13) (v := ?_) (d := (some 70)) rfl (by kernel_rfl) (by kernel_rfl) (by kernel_rfl) rfl (fun _ _ _ h => h) (Or.inl ⟨by kernel_rfl, ?_⟩) (by assumption) ?_; rotate_left
              · (intro w hSw; (try dsimp only at hSw); first | (go_simp; done) | (go_simp; with_reducible rfl))
              (try simp only [Act.put, List.setIfInBounds_toArray, List.set_cons_zero, List.set_cons_succ])
              refine takeH (i := 14) (v := ?_) (d := (some 71)) rfl (by kernel_rfl) (by kernel_rfl) (by kernel_rfl) rfl (fun _ _ _ h => h) (Or.inl ⟨by kernel_rfl, ?_⟩) (by assumption) ?_; rotate_left
              · (intro w hSw; (try dsimp only at hSw); first | (go_simp; done) | (go_simp; with_reducible rfl))
              (try simp only [Act.put, List.setIfInBounds_toArray, List.set_cons_zero, List.set_cons_succ])
              refine takeH (i := 15) (v := ?_) (d := (some 72)) rfl (by kernel_rfl) (by kernel_rfl) (by kernel_rfl) rfl (fun _ _ _ h => h) (Or.inl ⟨by kernel_rfl, ?_⟩) (by assumption) ?_; rotate_left
              · (intro w hSw; (try dsimp only at hSw); first | (go_simp; done) | (go_simp; with_reducible rfl))
              (try simp only [Act.put, List.setIfInBounds_toArray, List.set_cons_zero, List.set_cons_succ])
              refine takeH (i := 16) (v := ?_) (d := (some 73)) rfl (by kernel_rfl) (by kernel_rfl) (by kernel_rfl) rfl (fun _ _ _ h => h) (Or.inl ⟨by kernel_rfl, ?_⟩) (by assumption) ?_; rotate_left
              · (intro w hSw; (try dsimp only at hSw); first | (go_simp; done) | (go_simp; with_reducible rfl))
              (try simp only [Act.put, List.setIfInBounds_toArray, List.set_cons_zero, List.set_cons_succ])
              refine takeH (i := 17) (v := ?_) (d := (some 74)) rfl (by kernel_rfl) (by kernel_rfl) (by kernel_rfl) rfl (fun _ _ _ h => h) (Or.inl ⟨by kernel_rfl, ?_⟩) (by assumption) ?_; rotate_left
              · (intro w hSw; (try dsimp only at hSw); first | (go_simp; done) | (go_simp; with_reducible rfl))
              (try simp only [Act.put, List.setIfInBounds_toArray, List.set_cons_zero, List.set_cons_succ])
              refine takeH (i := 18) (v := ?_) (d := (some 75)) rfl (by kernel_rfl) (by kernel_rfl) (by kernel_rfl) rfl (fun _ _ _ h => h) (Or.inl ⟨by kernel_rfl, ?_⟩) (by assumption) ?_; rotate_left
              · (intro w hSw; (try dsimp only at hSw); first | (go_simp; done) | (go_simp; with_reducible rfl))
              (try simp only [Act.put, List.setIfInBounds_toArray, List.set_cons_zero, List.set_cons_succ])
              refine takeH (i := 20) (v := ?_) (d := (some 77)) rfl (by kernel_rfl) (by kernel_rfl) (by kernel_rfl) rfl (fun _ _ _ h => h) (Or.inl ⟨by kernel_rfl, ?_⟩) (by assumption) ?_; rotate_left
              · (intro w hSw; (try dsimp only at hSw); have q0 := cell_stay HE8.out.1 hSw.1; have q1 := cell_stay HE8.out.2 hSw.1; first | (go_simp; done) | (go_simp; with_reducible rfl))
              (try simp only [Act.put, List.setIfInBounds_toArray, List.set_cons_zero, List.set_cons_succ])
              refine takeH (i := 21) (v := ?_) (d := (some 78)) rfl (by kernel_rfl) (by kernel_rfl) (by kernel_rfl) rfl (fun _ _ _ h => h) (Or.inl ⟨by kernel_rfl, ?_⟩) (by assumption) ?_; rotate_left
              · (intro w hSw; (try dsimp only at hSw); first | (go_simp; done) | (go_simp; with_reducible rfl))
              (try simp only [Act.put, List.setIfInBounds_toArray, List.set_cons_zero, List.set_cons_succ])
              have cc3 := C4.out x3 HV3.out
              refine wpAnyH_ready (rs := [19]) (by kernel_rfl) (by simp) (AllReadyH.cons rfl (fun K hK => ?_) AllReadyH.nil)
              (try rw [if_pos (by kernel_rfl)])
              go_simp
              refine cc3.mono ?_
              rintro ev x4 ⟨rfl, hb9⟩
              have HV4 : Hid (Up wr.heap.size wr x4) := HV3.out.stay hb9
              clear cc3 hb9 hHeld HV3 C4
              go_wp2_with fail
              refine hK.out _ _ HV4.out (fun hHeld => ?_)
              clear hK K
              (try dsimp only at hHeld)
              (try simp only [Act.put, List.setIfInBounds_toArray, List.set_cons_zero, List.set_cons_succ])
              have cc4 := C5.out x4 HV4.out
              refine wpAnyH_ready (rs := [22]) (by kernel_rfl) (by simp) (AllReadyH.cons rfl (fun K hK => ?_) AllReadyH.nil)
              (try rw [if_pos (by kernel_rfl)])
              go_simp
              refine cc4.mono ?_
              rintro ev x5 ⟨rfl, hb9⟩
              have HV5 : Hid (Up wr.heap.size wr x5) := HV4.out.stay hb9
              clear cc4 hb9 hHeld HV4 C5
              go_wp2_with fail
              refine hK.out _ _ HV5.out (fun hHeld => ?_)
              clear hK K
              (try dsimp only at hHeld)
              (try simp only [Act.put, List.setIfInBounds_toArray, List.set_cons_zero, List.set_cons_succ])
              refine takeH (i := 23) (v := ?_) (d := (some 80)) rfl (by kernel_rfl) (by kernel_rfl) (by kernel_rfl) rfl (fun _ _ _ h => h) (Or.inl ⟨by kernel_rfl, ?_⟩) (by assumption) ?_; rotate_left
              · (intro w hSw; (try dsimp only at hSw); first | (go_simp; done) | (go_simp; with_reducible rfl))
              (try simp only [Act.put, List.setIfInBounds_toArray, List.set_cons_zero, List.set_cons_succ])
              refine takeH (i := 24) (v := ?_) (d := (some 81)) rfl (by kernel_rfl) (by kernel_rfl) (by kernel_rfl) rfl (fun _ _ _ h => h) (Or.inl ⟨by kernel_rfl, ?_⟩) (by assumption) ?_; rotate_left
              · (intro w hSw; (try dsimp only at hSw); first | (go_simp; done) | (go_simp; with_reducible rfl))
              (try simp only [Act.put, List.setIfInBounds_toArray, List.set_cons_zero, List.set_cons_succ])
              refine takeH (i := 25) (v := ?_) (d := (some 82)) rfl (by kernel_rfl) (by kernel_rfl) (by kernel_rfl) rfl (fun _ _ _ h => h) (Or.inl ⟨by kernel_rfl, ?_⟩) (by assumption) ?_; rotate_left
              · (intro w hSw; (try dsimp only at hSw); first | (go_simp; done) | (go_simp; with_reducible rfl))
              (try simp only [Act.put, List.setIfInBounds_toArray, List.set_cons_zero, List.set_cons_succ])
              refine takeH (i := 26) (v := ?_) (d := (some 83)) rfl (by kernel_rfl) (by kernel_rfl) (by kernel_rfl) rfl (fun _ _ _ h => h) (Or.inl ⟨by kernel_rfl, ?_⟩) (by assumption) ?_; rotate_left
              · (intro w hSw; (try dsimp only at hSw); first | (go_simp; done) | (go_simp; with_reducible rfl))
              (try simp only [Act.put, List.setIfInBounds_toArray, List.set_cons_zero, List.set_cons_succ])
              have cc5 := C6.out x5 HV5.out
              refine wpAnyH_ready (rs := [27]) (by kernel_rfl) (by simp) (AllReadyH.cons rfl (fun K hK => ?_) AllReadyH.nil)
              (try rw [if_pos (by kernel_rfl)])
              go_simp
              refine cc5.mono ?_
              rintro ev x6 ⟨rfl, hb9⟩
              have HV6 : Hid (Up wr.heap.size wr x6) := HV5.out.stay hb9
              clear cc5 hb9 hHeld HV5 C6
              go_wp2_with fail
              refine hK.out _ _ HV6.out (fun hHeld => ?_)
              clear hK K
              (try dsimp only at hHeld)
              (try simp only [Act.put, List.setIfInBounds_toArray, List.set_cons_zero, List.set_cons_succ])
              refine takeH (i := 28) (v := ?_) (d := (some 85)) rfl (by kernel_rfl) (by kernel_rfl) (by kernel_rfl) rfl (fun _ _ _ h => h) (Or.inl ⟨by kernel_rfl, ?_⟩) (by assumption) ?_; rotate_left
              · (intro w hSw; (try dsimp only at hSw); first | (go_simp; done) | (go_simp; with_reducible rfl))
              (try simp only [Act.put, List.setIfInBounds_toArray, List.set_cons_zero, List.set_cons_succ])
              refine takeH (i := 29) (v := ?_) (d := (some 6)) rfl (by kernel_rfl) (by kernel_rfl) (by kernel_rfl) rfl (fun _ _ _ h => h) (Or.inl ⟨by kernel_rfl, ?_⟩) (by assumption) ?_; rotate_left
              · (intro w hSw; (try dsimp only at hSw); first | (go_simp; done) | (go_simp; with_reducible rfl))
              (try simp only [Act.put, List.setIfInBounds_toArray, List.set_cons_zero, List.set_cons_succ])
              refine wpAnyH_done (by kernel_rfl) ?_ _
              clear hHeld
              go_wp2
              go_ret
              exact ⟨by first | rfl | simp, HB8.out.trans (HV6.out.1.mono HB8.out.size)⟩
end Go.Proofs.YteeeekpeokgaeaaDoor
