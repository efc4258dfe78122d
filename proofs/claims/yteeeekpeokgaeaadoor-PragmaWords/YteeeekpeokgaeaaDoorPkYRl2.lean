/- Read. -/
import Derived.Test.YteeeekpeokgaeaaDooryAo
import Derived.Test.YteeeekpeokgaeaaDooryRlP
import Derived.Test.YteeeekpeokgaeaaDoorySp
import Derived.Test.YteeeekpeokgaeaaDoorPkYAwk2
import Derived.Test.YteeeekpeokgaeaaDoorPkYNiP2
import Derived.Test.YteeeekpeokgaeaaDooryKn
namespace Go.Proofs.YteeeekpeokgaeaaDoor
set_option linter.unusedVariables false
open Go.RowKit Go.ChangeShapes Tns
open Lns (nL nL_le line S)
set_option maxHeartbeats 8000000 in
set_option maxRecDepth 100000 in
theorem read_any (s : ByteArray) (v : Value) (w : World) (hs : s.size ≤ 8000) (hT : PT w) (h : Lns.BSl w v s) :
    Calls Tryd.prog 11 #[v] w fun e w' => ∃ r, e = .returned r ∧ RLd w' w.heap.size r (rdA s).r (rdA s).w ∧ Below w.heap.size w w' := by
  have hmm := @run_makeMap Tryd.prog
  obtain ⟨iS, hS, hS0, hSa, hSb⟩ := info_parts infoSp
  obtain ⟨D, hD⟩ : ∃ D, w.heap.size = D := ⟨_, rfl⟩
  obtain ⟨W0, hW0⟩ : ∃ W0, ((w.alloc (.map #[] 0)).alloc (.cells #[.slice none 0 0, .map (some D)] 49)).alloc (.cells #[.pointer (some ⟨D + 1, 0, none⟩), .bool false, .bool false] 51) = W0 := ⟨_, rfl⟩
  have hu : Up w.heap.size w W0 := by rw [← hW0]; exact (((Up.refl w).alloc _).alloc _).alloc _
  have z1 : ((w.alloc (.map #[] 0)).heap.size) = D + 1 := by rw [World.size_alloc, hD]
  have z2 : (((w.alloc (.map #[] 0)).alloc (.cells #[.slice none 0 0, .map (some D)] 49)).heap.size) = D + 1 + 1 := by rw [World.size_alloc, z1]
  have hF0 : W0.heap[D + 1 + 1]? = some (.cells #[.pointer (some ⟨D + 1, 0, none⟩), .bool false, .bool false] 51) := by
    rw [← hW0, ← z2]
    exact heap_alloc_new _ _
  have hR0 : W0.heap[D + 1]? = some (.cells #[.slice none 0 0, .map (some D)] 49) := by
    rw [← hW0, (below_alloc ((w.alloc (.map #[] 0)).alloc (.cells #[.slice none 0 0, .map (some D)] 49)) _).block (D + 1) (by omega), ← z1]
    exact heap_alloc_new _ _
  have hB0 : BgP W0 D 0 [] := by
    have h1 := BgP.made w
    rw [hD] at h1
    rw [← hW0]
    exact (h1.stay (below_alloc _ _)).stay (below_alloc _ _)
  have cl := Lns.spl_any s v W0 (by omega) (hT.stay hu.1).1 (h.stay hu.1)
  have HT : Hid (PT w ∧ Up w.heap.size w W0) := ⟨hT, hu⟩
  have HDe : Hid (w.heap.size = D) := hD
  have HW0 : Hid (((w.alloc (.map #[] 0)).alloc (.cells #[.slice none 0 0, .map (some D)] 49)).alloc (.cells #[.pointer (some ⟨D + 1, 0, none⟩), .bool false, .bool false] 51) = W0) := hW0
  clear hT h hu z1 z2 hW0
  go_enter Tryd.func11, Tryd.ntmps11
  go_upto_region 4 with fail
  (try rw [hD])
  rw [HW0.out]
  go_wp2_with fail
  refine cl.mono ?_
  rintro e w1 ⟨v1, rfl, hown, hb1⟩
  have HM : Hid (RdS w w1 w1 D (D + 1) (D + 1 + 1) 0 (.slice none 0 0) ⟨false, false, [], []⟩) := by
    have e1 := hb1.block (D + 1) (Array.getElem?_eq_some_iff.1 hR0).1
    have e2 := hb1.block (D + 1 + 1) (Array.getElem?_eq_some_iff.1 hF0).1
    have l2 := (Array.getElem?_eq_some_iff.1 hF0).1
    have l3 := hb1.size
    have l4 := HDe.out
    refine ⟨HT.out.2.stay hb1, Nat.le_refl _, fun k _ _ _ _ => rfl, by omega, by omega, ?_, by rw [e1]; exact hR0, hB0.stay hb1, World.ownsRow_nil _ _ _ _⟩
    show w1.heap[D + 1 + 1]? = _
    rw [e2]
    exact hF0
  have hnl : nL s ≤ 8000 := Nat.le_trans (nL_le s) hs
  have HLn : Hid (∀ j, j < nL s → ∃ g c, v1 = .slice (some ⟨g, 0, none⟩) (nL s) c ∧ (g < w1.heap.size ∧ g ≠ D ∧ g ≠ D + 1 ∧ g ≠ D + 1 + 1) ∧ w1.cell? ⟨g, j, none⟩ = some (.string (line s j))) := fun j hj => by
    have hc := @World.ownsRow.cells _ _ _ _ _ _ _ hown
    have hne := own_ne HM.out.rl hown (by decide)
    have hne2 := own_ne HM.out.rd hown (by decide)
    obtain ⟨hl, ⟨rfl, h0⟩ | ⟨g, c, cur, rfl, hg, hh, _⟩⟩ := hown
    · omega
    · refine ⟨g, c, rfl, ⟨lt_of_heap hh, HM.out.bg.ne hh, fun e => hne (by simp [Value.ownBlock, e]), fun e => hne2 (by simp [Value.ownBlock, e])⟩, ?_⟩
      have e2 := hc rfl j _ (Lns.tcells_at (line s) (nL s) j hj)
      rcases Nat.eq_zero_or_pos j with h9 | h9
      · subst h9; simpa [Addr.add] using e2
      · simpa [Addr.add, Nat.ne_of_gt h9] using e2
  obtain ⟨ga, gc, rfl⟩ : ∃ ga gc, v1 = .slice ga (nL s) gc := by
    obtain ⟨hl, ⟨rfl, h0⟩ | ⟨g, c, cur, rfl, _⟩⟩ := hown
    · exact ⟨none, 0, by rw [h0]⟩
    · exact ⟨_, _, rfl⟩
  obtain ⟨N, hN⟩ : ∃ N, nL s = N := ⟨_, rfl⟩
  have HNL : Hid (nL s = N ∧ N ≤ 8000 ∧ s.size ≤ 8000) := ⟨hN, by omega, hs⟩
  rw [hN] at HLn hnl ⊢
  clear cl hown hb1 hR0 hF0 hB0 HW0 hN hD hnl hs
  go_wp2
  go_loopg [5, 16] N (fun q fv iv wr => ∃ (j : Nat) (va : Value) (n : Nat), j ≤ N ∧ q = N - j ∧ iv = .int .i64 (j : Int) ∧ fv = .int .i64 ((S s j : Nat) : Int) ∧ Hid (RdS w w1 wr D (D + 1) (D + 1 + 1) n va (rdL s j)) ∧ Hid (n ≤ S s j * 8001))
  case atStart => exact ⟨0, _, 0, Nat.zero_le _, rfl, rfl, by rw [Lns.S_zero]; rfl, HM, by show _ ≤ _; exact Nat.zero_le _⟩
  case round =>
    clear HM
    obtain ⟨j, va, n, hj, hq, rfl, rfl, HR, HN⟩ := hrel
    have hN8 : N ≤ 8000 := HNL.out.2.1
    by_cases hlt : j < N
    · have z0 : (0 : Int) ≤ (j : Int) := by omega
      have z1 : (j : Int) < (N : Int) := by omega
      obtain ⟨g, c, eS, hgR, hcell⟩ := HLn.out j hlt
      injection eS with eA eB eC
      subst eA eC
      clear eB
      have a1 : wr.cell? ⟨g, j, none⟩ = some (.string (line s j)) := (World.cell?_of_block (HR.out.old g hgR.1 hgR.2.1 hgR.2.2.1 hgR.2.2.2)).trans hcell
      obtain ⟨hk1, hk2, hk3⟩ := rdL_ok s j (by rw [HNL.out.1]; omega)
      obtain ⟨X, hX⟩ : ∃ X, line s j = X := ⟨_, rfl⟩
      have hXs : X.size = S s (j + 1) - S s j := by rw [← hX]; exact Lns.line_size s j
      have hS1 : S s j ≤ S s (j + 1) := Lns.S_mono_le s (by omega)
      have hS2 : S s (j + 1) ≤ s.size := Lns.S_le s (j + 1)
      have hst : rdL s (j + 1) = stp X (S s j) (rdL s j) := by rw [← hX]; rfl
      obtain ⟨p0, hp0⟩ : ∃ p, rdL s j = p := ⟨_, rfl⟩
      obtain ⟨sj, hsj⟩ : ∃ z, S s j = z := ⟨_, rfl⟩
      obtain ⟨sj1, hsj1⟩ : ∃ z, S s (j + 1) = z := ⟨_, rfl⟩
      rw [hX] at a1
      rw [hsj, hp0] at hst
      rw [hsj, hsj1] at hXs hS1
      rw [hsj1] at hS2
      replace hXs : sj + X.size = sj1 := by omega
      rw [hsj] at HN ⊢
      rw [hp0] at HR hk1 hk2 hk3
      obtain ⟨Q, hQ⟩ : ∃ Q, scn X 0 ⟨p0.o, p0.o || p0.x, false, p0.w⟩ = Q := ⟨_, rfl⟩
      have HST : Hid (rdL s (j + 1) = ⟨Q.o, Q.x, bif Q.a then p0.r ++ [(sj, X.size)] else p0.r, Q.w⟩ ∧ S s (j + 1) = sj1) := by
        refine ⟨?_, hsj1⟩
        rw [hst]
        unfold stp
        rw [hQ]
      have HZ : Hid (sj + X.size = sj1 ∧ sj1 ≤ 8000 ∧ p0.r.length ≤ 8000) := ⟨hXs, by have := HNL.out; omega, by have := HNL.out; omega⟩
      have y1 : IntKind.i64.wrap ((sj : Int) + (X.size : Int)) = (sj1 : Int) := by rw [IntWalk.i64_in _ (by have := HZ.out; omega)]; omega
      have ca := alone_any (w0 := w) X (by have := HZ.out; omega) HT.out.1 HR.out.up HR.out.lo.1 HR.out.lo.2.2 HR.out.rd HR.out.rl HR.out.bg (by have := HZ.out; have := HN.out; omega)
      rw [hQ] at ca
      clear hX hst hQ hsj hsj1 hp0 hcell hgR hk1 hk2 hk3 hXs hS1 hS2
      go_wp2_with fail
      refine ca.mono ?_
      rintro e w2 ⟨n2, rfl, hc2, hb2, hn2, hk2⟩
      have HR2 : Hid (RdS w w1 w2 D (D + 1) (D + 1 + 1) n2 va ⟨Q.o, Q.x, p0.r, Q.w⟩) := HR.out.line hk2 hc2 hb2
      have HN2 : Hid (n2 ≤ sj1 * 8001) := by
        show _ ≤ _
        have h1 := HZ.out
        have h2 := HN.out
        omega
      clear ca hc2 hb2 hn2 hk2 HR HN
      cases hqa : Q.a
      · have HST2 : Hid (rdL s (j + 1) = ⟨Q.o, Q.x, p0.r, Q.w⟩ ∧ S s (j + 1) = sj1) := by
          have e1 := HST.out
          rw [hqa] at e1
          exact e1
        clear HST a1
        go_wp2
        go_roundg (N - (j + 1))
        case measure => omega
        case rel => exact ⟨j + 1, va, n2, by omega, rfl, by go_num, by rw [HST2.out.2], by rw [HST2.out.1]; exact HR2, by rw [HST2.out.2]; exact HN2⟩
      · have HST2 : Hid (rdL s (j + 1) = ⟨Q.o, Q.x, p0.r ++ [(sj, X.size)], Q.w⟩ ∧ S s (j + 1) = sj1) := by
          have e1 := HST.out
          rw [hqa] at e1
          exact e1
        have e3 := HR2.out.rl
        have k0 : w2.cell? ⟨D + 1, 0, none⟩ = some va := by simp [World.cell?, e3]
        have f0 : w2.frozen? ⟨D + 1, 0, none⟩ = false := by simp [World.frozen?, e3]
        have hso := HR2.out.sp
        clear HST a1 e3
        go_wp2_with (at_builtin; refine wpList_append_own _ rfl _ _ 30 rfl w1.heap.size 36 iS _ 2 16 Tryd.underlying30 hS hS0 hSa hSb rfl (by decide) _ _ _ rfl (World.ownsRow.alloc hso _) ⟨w2.heap.size, 0, none⟩ 1 1 [.int .i64 (sj : Int), .int .i64 (X.size : Int)] rfl rfl ?c1 ?c2 ?c3 ?c4 ?c5 ?_)
        case c1 => exact fun j u hu => Go.World.news_of_block (heap_alloc_new _ _) j u hu
        case c2 =>
          intro u hu
          simp only [List.mem_cons, List.not_mem_nil, or_false] at hu
          rcases hu with rfl | rfl <;> rfl
        case c3 => have := HZ.out; unfold maxLen; show p0.r.length + 1 ≤ _; omega
        case c4 => have := HZ.out; show (p0.r.length + 1) * 16 ≤ _; omega
        case c5 => have := HR2.out.size; rw [World.size_alloc]; omega
        intro v' w3 hown2 hgr hnil
        obtain ⟨v9a, v9m, v9c, rfl⟩ := own_frm3 hown2
        have HR4 := HR2.out.stay (below_alloc w2 (.cells #[.int .i64 (sj : Int), .int .i64 (X.size : Int)] 36))
        have hn' : SpR w3 w1.heap.size (.slice v9a v9m v9c) (p0.r ++ [(sj, X.size)]) := by
          unfold SpR
          rw [List.length_append, spC_app]
          exact hown2
        have HR5 : Hid (RdS w w1 (w3.setCell ⟨D + 1, 0, none⟩ (.slice v9a v9m v9c)) D (D + 1) (D + 1 + 1) n2 (.slice v9a v9m v9c) ⟨Q.o, Q.x, p0.r ++ [(sj, X.size)], Q.w⟩) := HR4.app hgr hn'
        have e4 : w3.heap[D + 1]? = some (.cells #[va, .map (some D)] 49) := by
          rw [hgr.block (D + 1) (Array.getElem?_eq_some_iff.1 HR4.rl).1 (own_ne HR4.rl HR4.sp (by decide))]
          exact HR4.rl
        have q1 : w3.cell? ⟨D + 1, 0, none⟩ = some va := by simp [World.cell?, e4]
        have q2 : w3.frozen? ⟨D + 1, 0, none⟩ = false := by simp [World.frozen?, e4]
        clear hown2 hgr hnil hn' e4 HR4 HR2 k0 f0 hso
        go_wp2
        go_roundg (N - (j + 1))
        case measure => omega
        case rel => exact ⟨j + 1, .slice v9a v9m v9c, n2, by omega, rfl, by go_num, by rw [HST2.out.2], by rw [HST2.out.1]; exact HR5, by rw [HST2.out.2]; exact HN2⟩
    · obtain rfl : j = N := by omega
      have z1 : ¬ (j : Int) < (j : Int) := by omega
      have HRR : Hid (rdA s = rdL s j) := by show rdL s (nL s) = _; rw [HNL.out.1]
      go_wp2
      go_ret
      obtain ⟨hk1, hk2, hk3⟩ := rdL_ok s j (by rw [HNL.out.1]; exact Nat.le_refl _)
      refine ⟨_, rfl, ⟨D + 1, D, n, va, rfl, HR.out.lo.2.1, HR.out.lo.1, HR.out.rl, ?_, ?_, by rw [HRR.out]; exact hk1, by rw [HRR.out]; omega, fun p hp => ?_⟩, HR.out.up.1⟩
      · rw [HRR.out]
        exact own_mono HR.out.sp (by have := HR.out.hi; have := HR.out.lo; omega)
      · rw [HRR.out]
        exact HR.out.bg
      · rw [HRR.out] at hp
        have h1 := hk2 p hp
        have h2 := Lns.S_le s j
        have h3 := HNL.out
        omega
end Go.Proofs.YteeeekpeokgaeaaDoor
/- pragma: what its functions answer. -/
namespace Go.Proofs.YteeeekpeokgaeaaDoor
set_option linter.unusedVariables false
open Go.RowKit Go.ChangeShapes
def RLx : RLt := RLd
theorem rld_keep : KeepOk RLx := fun w w' base r rows ws h hs hk => by
  obtain ⟨R, b, n, va, h1, h2, h3, h4, h5, h6, h7⟩ := h
  exact ⟨R, b, n, va, h1, h2, h3, by rw [hk R h2 (Array.getElem?_eq_some_iff.1 h4).1]; exact h4, own_blk h5 (fun g h1 h2 => hk g h1 h2), h6.block (hk b h3 h6.lt), h7⟩
theorem rld_read : ReadOk RLx := fun s v w hs hT h => read_any s v w hs hT h
theorem rld_off : OffOk RLx := fun w base r rows ws a h ha => by
  obtain ⟨R, b, n, va, rfl, h2, h3, h4, h5, h6, h7, h8, h9⟩ := h
  exact off_at h4 h5.any h7 (by omega) (fun p hp => Nat.le_trans (h9 p hp) (by decide))
theorem rld_knows : KnowsOk RLx := fun w base r rows ws t h ht hT => by
  obtain ⟨R, b, n, va, rfl, h2, h3, h4, h5, h6, h7⟩ := h
  exact knows_at t ht hT h4 h6
theorem rld_spans : SpansOk RLx := fun w base r rows ws h => by
  obtain ⟨R, b, n, va, rfl, h2, h3, h4, h5, h6, h7, h8, h9⟩ := h
  exact spans_at h4 h5 (by omega)
theorem po_ok : PragOk RLx := ⟨rld_keep, rld_read, rld_off, rld_knows, rld_spans⟩
theorem no_ok : NilOk := ⟨fun w a _ => off_nil w a, fun w t _ _ => knows_nil w t, fun w => spans_nil w⟩
theorem i64_wf {z : Int} (h : (Lit.int .i64 z).wf = true) : -9223372036854775808 ≤ z ∧ z ≤ 9223372036854775807 := by
  simp only [Lit.wf] at h
  have e1 : IntKind.i64.min = -9223372036854775808 := by decide
  have e2 : IntKind.i64.max = 9223372036854775807 := by decide
  revert h
  simp
  omega
end Go.Proofs.YteeeekpeokgaeaaDoor
