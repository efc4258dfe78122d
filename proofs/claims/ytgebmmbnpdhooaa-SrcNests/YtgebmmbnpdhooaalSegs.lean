/- label: Segs. -/
import Derived.Test.YtgebmmbnpdhooaalSet
import Derived.Test.YtgebmmbnpdhooaalSegP
import Derived.Deep.AppendLies
import Derived.Deep.DeepCutAuto
namespace Go.Proofs.Ytgebmmbnpdhooaa
set_option linter.unusedVariables false
open Go.RowKit Go.ChangeShapes
theorem segs_nil (w : World) : Calls Try.prog 15 #[.pointer none] w fun e w' => e = .returned (.slice none 0 0) ∧ w' = w := by
  have c1 := all_nil w
  go_enter Try.func15, Try.ntmps15
  go_wp2_with fail
  refine c1.mono ?_
  rintro e w1 ⟨rfl, h1⟩
  subst w1
  clear c1
  go_wp2
  go_loopg [3, 11] 0 (fun q pv iv wr => q = 0 ∧ pv = .slice none 0 0 ∧ iv = .int .i64 0 ∧ wr = w)
  case atStart => exact ⟨rfl, rfl, rfl, rfl⟩
  case round =>
    obtain ⟨_, rfl, rfl, rfl⟩ := hrel
    go_wp2
    go_ret
    exact ⟨rfl, rfl⟩
set_option maxHeartbeats 1000000 in
set_option maxRecDepth 100000 in
theorem segs_any {w : World} {T g n : Nat} {L : Nat → Int} (h : Sh w T g n L) (hn : n ≤ 65536) : Calls Try.prog 15 #[.pointer (some ⟨T, 0, none⟩)] w fun e w' =>
    ∃ v, e = .returned v ∧ SR w' w.heap.size v (sg L n) ∧ Up w.heap.size w w' := by
  have c1 := all_any h
  have HL : Hid (LR w g n L) := h.row
  obtain ⟨i0, hi0, hz0, hz1, hz2⟩ := info_parts infoS
  clear h
  go_enter Try.func15, Try.ntmps15
  go_wp2_with fail
  refine c1.mono ?_
  rintro e w1 ⟨rfl, h1⟩
  subst w1
  clear c1
  go_wp2
  go_loopg [3, 11] n (fun q pv iv wr => ∃ i : Nat, i ≤ n ∧ q = n - i ∧ iv = .int .i64 i ∧ Hid (SR wr w.heap.size pv (sg L i)) ∧ Hid (Up w.heap.size w wr))
  case atStart => exact ⟨0, Nat.zero_le _, rfl, rfl, World.ownsRow_nil _ _ _ _, Up.refl w⟩
  case round =>
    obtain ⟨i, hi, hq, rfl, HS, HU⟩ := hrel
    obtain ⟨ad, c, rfl⟩ := HS.out.form
    by_cases hlt : i < n
    · have z1 : (i : Int) < (n : Int) := by omega
      have z2 : (0 : Int) ≤ (i : Int) := by omega
      have z3 : ¬ (i : Int) < 0 := by omega
      have hc := (HL.out.stay HU.out.1).cell hlt
      obtain ⟨b, eb⟩ : ∃ b, begB L i = b := ⟨_, rfl⟩
      have HB : Hid (begB L i = b) := eb
      clear eb
      obtain ⟨x, ex⟩ : ∃ x, L i = x := ⟨_, rfl⟩
      rw [ex] at hc
      have HX : Hid (L i = x) := ex
      clear ex
      obtain ⟨m, em⟩ : ∃ m, (sg L i).length = m := ⟨_, rfl⟩
      have HM : Hid ((sg L i).length = m) := em
      rw [em] at HS ⊢
      have hm : m ≤ 65536 := by have := sg_len L i; omega
      clear em
      go_upto_region 6 with fail
      go_cut [26] (fun bv wx => bv = .bool b ∧ wx = wr)
      case first =>
        rcases Nat.eq_zero_or_pos i with h0 | h0
        · subst h0
          have hb : b = true := HB.out.symm.trans (begB_zero L)
          subst hb
          go_wp2
          go_meet
          case rel => exact ⟨rfl, rfl⟩
        · obtain ⟨j, rfl⟩ : ∃ j, i = j + 1 := ⟨i - 1, by omega⟩
          have y1 : ¬ ((j : Int) + 1 = 0) := by omega
          have y2 : ((j : Int) + 1 == 0) = false := by simpa using y1
          have y3 : (j : Int) + 1 - 1 = (j : Int) := by omega
          have y4 : (j : Int) < (n : Int) := by omega
          have y5 : (0 : Int) ≤ (j : Int) := by omega
          have hc2 := (HL.out.stay HU.out.1).cell (i := j) (by omega)
          obtain ⟨y, ey⟩ : ∃ y, L j = y := ⟨_, rfl⟩
          rw [ey] at hc2
          have HY : Hid (L j = y) := ey
          clear ey
          by_cases hxy : x = y
          · have hb : b = false := HB.out.symm.trans (begB_no (by rw [HX.out, HY.out]; exact hxy))
            subst hb hxy
            go_wp2
            go_meet
            case rel => exact ⟨rfl, rfl⟩
          · have hb : b = true := HB.out.symm.trans (begB_yes (by rw [HX.out, HY.out]; exact hxy))
            have y6 : (x != y) = true := by simpa using hxy
            subst hb
            go_wp2
            go_meet
            case rel => exact ⟨rfl, rfl⟩
      case rest =>
        obtain ⟨rfl, rfl⟩ := hcut
        go_upto_if 26 with fail
        go_cut [3] (fun pv wx => ∃ (k : Nat) (gp cp : Nat) (q : Nat), pv = .slice (some ⟨gp, 0, none⟩) (k + 1) cp ∧ k ≤ 65536 ∧ q ≤ 65536 ∧ Hid (∃ p l a, p.length = k ∧ SR wx w.heap.size (.slice (some ⟨gp, 0, none⟩) (k + 1) cp) (p ++ [⟨l, a, q⟩]) ∧ sg L (i + 1) = p ++ [⟨l, a, q + 1⟩]) ∧ Hid (Up w.heap.size w wx))
        case first =>
          rcases sg_step L i with ⟨hb, hs⟩ | ⟨hb, p, l, a, q, h1, h2, h3⟩
          · have hb' : b = true := HB.out.symm.trans hb
            subst hb'
            have HSS : Hid (sg L (i + 1) = sg L i ++ [⟨L i, i, 0 + 1⟩]) := hs
            clear hb hs
            have HO : Hid (wc.ownsRow w.heap.size 50 3 (.slice ad m c) m (sgC (sg L i))) := by
              have := HS.out
              unfold SR at this
              rw [HM.out] at this
              exact this
            have hu := HU.out.2
            go_wp2_with (at_builtin; refine wpList_append_lies _ rfl _ _ 39 rfl w.heap.size 50 i0 _ 3 24 Try.underlying39 hi0 hz0 hz1 hz2 rfl (by decide) _ _ _ rfl (HO.out.alloc _) ⟨wc.heap.size, 0, none⟩ 1 1 [.int .u8 x, .int .i64 (i : Int), .int .i64 0] rfl rfl (World.news_of_block (heap_alloc_new _ _)) (sg_cells ⟨x, i, 0⟩) (by omega) (by unfold maxLen; omega) (by omega) (by simp; omega) (wc.heap.size + 1) (by simp) ?_)
            intro g1 cap1 w1 ho1 hg1 ha1 _
            have HE : Hid (∃ p l a, p.length = m ∧ SR w1 w.heap.size (.slice (some ⟨g1, 0, none⟩) (m + 1) cap1) (p ++ [⟨l, a, 0⟩]) ∧ sg L (i + 1) = p ++ [⟨l, a, 0 + 1⟩]) :=
              ⟨sg L i, x, i, HM.out, SR.snoc (by rw [HM.out]) ho1, by rw [HSS.out, HX.out]⟩
            have HV : Hid (Up w.heap.size w w1) := (HU.out.alloc _).grown hg1 (own_base HO.out)
            clear ho1 hg1 ha1
            go_wp2
            go_meet
            case rel => exact ⟨m, g1, cap1, 0, rfl, hm, by omega, HE, HV⟩
          · have hb' : b = false := HB.out.symm.trans hb
            subst hb'
            have hm2 := HM.out
            rw [h1, List.length_append] at hm2
            obtain rfl : m = p.length + 1 := hm2.symm
            have hs2 := HS.out
            rw [h1] at hs2
            obtain ⟨gp, rfl, -, -⟩ := own_at (n := p.length + 1) (by have := hs2; unfold SR at this; rw [List.length_append] at this; exact this) (by omega)
            have HE : Hid (∃ p' l a, p'.length = p.length ∧ SR wc w.heap.size (.slice (some ⟨gp, 0, none⟩) (p.length + 1) c) (p' ++ [⟨l, a, q⟩]) ∧ sg L (i + 1) = p' ++ [⟨l, a, q + 1⟩]) := ⟨p, l, a, rfl, hs2, h2⟩
            clear hb h1 h2 hm2 hs2
            go_wp2
            go_meet
            case rel => exact ⟨p.length, gp, c, q, rfl, by omega, by omega, HE, HU⟩
        case rest =>
          obtain ⟨k, gp, cp, q, rfl, hk, hq2, HE, HV⟩ := hcut
          obtain ⟨p, l, a, hp, hs, he⟩ := HE.out
          have hcl := (hs.cells (by rw [List.length_append, hp]; rfl) (i := k) (s := ⟨l, a, q⟩) (by rw [List.getElem?_append_right (by omega), hp, Nat.sub_self]; rfl)).2.2
          have hfr := own_frozen hs (k * 3 + 2)
          have HE2 : Hid (p.length = k ∧ SR wc w.heap.size (.slice (some ⟨gp, 0, none⟩) (k + 1) cp) (p ++ [⟨l, a, q⟩]) ∧ sg L (i + 1) = p ++ [⟨l, a, q + 1⟩]) := ⟨hp, hs, he⟩
          have y3 : (k : Int) + 1 - 1 = (k : Int) := by omega
          have y4 : (k : Int) < (k : Int) + 1 := by omega
          have y5 : (0 : Int) ≤ (k : Int) := by omega
          dsimp only at hcl
          clear hp hs he HE hc
          go_wp2
          go_roundg (n - (i + 1))
          case measure => omega
          case rel =>
            obtain ⟨hp, hs, he⟩ := HE2.out
            subst hp
            have hst := World.ownsRow.stored (j := p.length * 3 + 2) (u := .int .i64 ((q + 1 : Nat) : Int)) (show wc.ownsRow w.heap.size 50 3 (.slice (some ⟨gp, 0, none⟩) (p.length + 1) cp) (p.length + 1) (sgC (p ++ [⟨l, a, q⟩])) by unfold SR at hs; rw [List.length_append] at hs; exact hs)
            rw [sgC_long] at hst
            refine ⟨i + 1, by omega, rfl, by go_num, ?_, HV.out.grown hst.2 (fun k hk => own_base hs k hk)⟩
            show SR _ _ _ _
            rw [he]
            unfold SR
            rw [List.length_append]
            exact hst.1
    · obtain rfl : i = n := by omega
      have z1 : ¬ (i : Int) < (i : Int) := by omega
      go_wp2
      go_ret
      exact ⟨_, rfl, HS.out, HU.out⟩
end Go.Proofs.Ytgebmmbnpdhooaa
